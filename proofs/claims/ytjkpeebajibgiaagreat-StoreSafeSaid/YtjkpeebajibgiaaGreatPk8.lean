/- Code: a book as parts. Books: which are open rightly. (By genB.py.) Books: which are right. (By genX.py.) Code: what of a right book fits; snapshots written. Stores: places, copies, the steps of a snapshot. Stores: the steps of a snapshot. Stores: the disks while a snapshot is laid. Code: the document's own writing. Disks: are two the same; is one right. Disks: the document's own answers. Disks: the document's own reading, flushing, crashing. Stores: the document's own steps of a snapshot. Stores: a snapshot laid. Stores: something done, all kept, a new one. Code: the document's own records. Printed by genOK.py. Code: the document's own reading. Code: the document's own reading of heads. Code: what is read is what was written (heads and records). Code: a snapshot, read. Code: the document's own bound of books. Books: what the program asks of a book's sessions and users. (By genY.py.) -/
import Derived.Test.YtjkpeebajibgiaaGreatPk7
namespace Go.Proofs.YtjkpeebajibgiaaGreat
open Go.RowKit
set_option linter.unusedSimpArgs false
set_option linter.unusedVariables false
set_option maxRecDepth 100000
namespace Bk
section
variable (Γ:Nat->Option (List Data))
def numI (k:Nat) (x:Int):Data:=.agg [.int .i64 k,.int .u64 x]
theorem one_fit {x:Int} (h:Fit 1 x):PC Tryz.prog Γ 122 [.int .i64 x] (numI 1 x):=by
 obtain ⟨n,rfl⟩:∃ n:Nat,x = n:=⟨x.toNat,by unfold Fit at h;omega⟩
 unfold Fit at h
 exact oneI_pc Γ n (by omega)
theorem four_fit {x:Int} (h:Fit 4 x):PC Tryz.prog Γ 121 [.int .i64 x] (numI 4 x):=by
 obtain ⟨n,rfl⟩:∃ n:Nat,x = n:=⟨x.toNat,by unfold Fit at h;omega⟩
 unfold Fit at h
 exact fourI_pc Γ n (by omega)
theorem fourU_fit {x:Int} (h:Fit 4 x):PC Tryz.prog Γ 123 [.int .u32 x] (numI 4 x):=by
 obtain ⟨n,rfl⟩:∃ n:Nat,x = n:=⟨x.toNat,by unfold Fit at h;omega⟩
 unfold Fit at h
 exact fourU_pc Γ n (by omega)
theorem eight_fit {x:Int} (h:Fit 8 x):PC Tryz.prog Γ 124 [.int .u64 x] (numI 8 x):=by
 obtain ⟨n,rfl⟩:∃ n:Nat,x = n:=⟨x.toNat,by unfold Fit at h;omega⟩
 exact eight_pc Γ n
theorem part_num {k:Nat} {x:Int} (h:Fit k x):Data.ifc 168 (.agg [.int .i64 k,.int .u64 x]) = partD (.num k x.toNat):=by
 show _ = Data.ifc 168 (.agg [.int .i64 k,.int .u64 ((x.toNat:Nat):Int)])
 rw [h.eq]
theorem part1 {x:Int} (h:Fit 1 x):Data.ifc 168 (.agg [.int .i64 1,.int .u64 x]) = partD (.num 1 x.toNat):=part_num h
theorem part4 {x:Int} (h:Fit 4 x):Data.ifc 168 (.agg [.int .i64 4,.int .u64 x]) = partD (.num 4 x.toNat):=part_num h
theorem part8 {x:Int} (h:Fit 8 x):Data.ifc 168 (.agg [.int .i64 8,.int .u64 x]) = partD (.num 8 x.toNat):=part_num h
def sessW (s:Sess):List Part:=[.num 4 s.id.toNat,.num 1 s.link.toNat,.num 4 s.addr.toNat,.nam s.user,.num 8 s.inn.toNat,.num 8 s.out.toNat]
def itemW (x:Item):List Part:=[.num 1 x.kind.toNat,.num 4 x.id.toNat,.num 8 x.inn.toNat,.num 8 x.out.toNat,.num 1 x.cause.toNat]
def lockW (x:Lock):List Part:=[.nam x.user,.num 1 x.n.toNat,.num 4 x.at_.toNat]
def frontW (b:Book):List Part:=[.num 4 b.next.toNat,.num 1 b.opn.length,.num 1 b.items.length,.num 1 b.locks.length]
def bookW (b:Book):List Part:=frontW b++b.opn.flatMap sessW++b.items.flatMap itemW++b.locks.flatMap lockW
structure BookFit (b:Book):Prop where
 next:Fit 4 b.next
 nopn:b.opn.length < 256
 nitems:b.items.length < 256
 nlocks:b.locks.length < 256
 opn:∀ s∈b.opn,SessFit s
 items:∀ x∈b.items,ItemFit x
 locks:∀ x∈b.locks,LockFit x
theorem sessW_length:∀ l:List Sess,(l.flatMap sessW).length = 6 * l.length
 | []=>rfl
 | x :: l=>by rw [List.flatMap_cons,List.length_append,sessW_length l];simp [sessW];omega
theorem itemW_length:∀ l:List Item,(l.flatMap itemW).length = 5 * l.length
 | []=>rfl
 | x :: l=>by rw [List.flatMap_cons,List.length_append,itemW_length l];simp [itemW];omega
theorem lockW_length:∀ l:List Lock,(l.flatMap lockW).length = 3 * l.length
 | []=>rfl
 | x :: l=>by rw [List.flatMap_cons,List.length_append,lockW_length l];simp [lockW];omega
theorem front_length (b:Book):(frontW b).length = 4:=rfl
set_option maxHeartbeats 8000000 in
theorem bookParts_pc (b:Book) (hf:BookFit b):PC Tryz.prog Γ 132 [book b] (.sl 1 (parts (bookW b))):=by
 refine pc_by mixed Tryz.func132 rfl (fun args w=>Tryz.call132 args w) ?_
 obtain ⟨q0,q1,q2,q3,q4,q5,q6⟩:=hf
 have c0:=four_fit Γ q0
 have c1:=one_fit Γ (x:=b.opn.length) ⟨by omega,by omega⟩
 have c2:=one_fit Γ (x:=b.items.length) ⟨by omega,by omega⟩
 have c3:=one_fit Γ (x:=b.locks.length) ⟨by omega,by omega⟩
 unfold book
 simp -implicitDefEqProofs (disch:=omega) [go_sem,numI]
 refine .inl (call_data c0 (by simp [go_sem,numI]) ?_)
 simp -implicitDefEqProofs (disch:=omega) [go_sem,numI]
 refine .inl (call_data c1 (by simp [go_sem,numI]) ?_)
 simp -implicitDefEqProofs (disch:=omega) [go_sem,numI]
 refine .inl (call_data c2 (by simp [go_sem,numI]) ?_)
 simp -implicitDefEqProofs (disch:=omega) [go_sem,numI]
 refine .inl (call_data c3 (by simp [go_sem,numI]) ?_)
 simp -implicitDefEqProofs (disch:=omega) [go_sem,numI]
 refine side (by kernel_rfl) ?_
 simp -implicitDefEqProofs (disch:=omega) [go_sem]
 have hw1:∀ i:Nat,(frontW b++(b.opn.take i).flatMap sessW).length≤6000:=fun i=>by
  have h4:=front_length b
  simp only [List.length_append,sessW_length,List.length_take] at h4 ⊢;omega
 refine loop_ren (σ:={ i:Nat // i≤b.opn.length }) (fun i=>⟨envL [(1,.ptr 0 0),(3,.ref 1 0 (frontW b++(b.opn.take i.1).flatMap sessW).length 1),(31,.data (.sl 6 (sesss b.opn))),(32,.data (.int .i64 b.opn.length)),(33,.data (.int .i64 i.1))],hpL [(0,.blk true [.data (.int .i64 b.next),.data (.sl 6 (sesss b.opn)),.data (.sl 5 (items b.items)),.data (.sl 3 (locks b.locks))]),(1,.blk true ((parts (frontW b++(b.opn.take i.1).flatMap sessW)).map D.data))],2,0,118⟩) (fun i=>b.opn.length - i.1) ⟨0,by omega⟩ [] (rhoL [(0,some 0),(1,some 21)]) ?_ ?_
 · apply ren_lists <;> simp -implicitDefEqProofs [go_sem]
   · rfl
   · rw [part4 q0]
     exact renCells_plain rfl (by simp [plainD])
 rintro ⟨i,hi⟩
 by_cases h:i < b.opn.length
 · have hwi:=hw1 i
   have hs:(b.opn.take (i + 1)).flatMap sessW = (b.opn.take i).flatMap sessW++sessW b.opn[i]:=by
    rw [List.take_succ_eq_append_getElem h,List.flatMap_append]
    simp
   have hs2:frontW b++(b.opn.take (i + 1)).flatMap sessW = (frontW b++(b.opn.take i).flatMap sessW)++sessW b.opn[i]:=by rw [hs,List.append_assoc]
   generalize hqw:frontW b++(b.opn.take i).flatMap sessW = pw at *
   obtain ⟨f1,f2,f3,f4,f5,f6⟩:=q4 _ (List.getElem_mem h)
   generalize hsi:b.opn[i] = s at *
   have d0:=four_fit Γ f1
   have d1:=one_fit Γ f2
   have d2:=fourU_fit Γ f3
   have d3:=eight_fit Γ f5
   have d4:=eight_fit Γ f6
   simp -implicitDefEqProofs (disch:=omega) [go_sem,hsi,sess]
   refine .inl (call_data d0 (by simp [go_sem,numI]) ?_)
   simp -implicitDefEqProofs (disch:=omega) [go_sem,numI]
   refine .inl (call_data d1 (by simp [go_sem,numI]) ?_)
   simp -implicitDefEqProofs (disch:=omega) [go_sem,numI]
   refine .inl (call_data d2 (by simp [go_sem,numI]) ?_)
   simp -implicitDefEqProofs (disch:=omega) [go_sem,numI]
   refine .inl (call_data d3 (by simp [go_sem,numI]) ?_)
   simp -implicitDefEqProofs (disch:=omega) [go_sem,numI]
   refine .inl (call_data d4 (by simp [go_sem,numI]) ?_)
   simp -implicitDefEqProofs (disch:=omega) [go_sem,numI]
   refine side (by kernel_rfl) ?_
   simp -implicitDefEqProofs (disch:=omega) [go_sem]
   refine next_ren ⟨i + 1,by omega⟩ (by simp only;omega) [] (rhoL [(0,some 0),(1,some 32)]) ?_
   rw [part4 f1,part1 f2,part4 f3,part8 f5,part8 f6]
   apply ren_lists <;> simp -implicitDefEqProofs [go_sem,hs2]
   · rfl
   · rw [show parts (pw++sessW s) = parts pw++parts (sessW s) by simp [parts],List.map_append]
     exact renCells_plain rfl (by simp [plainD])
 have:i = b.opn.length:=by omega
 subst this
 have hwi:=hw1 b.opn.length
 have hpl1:(frontW b++b.opn.flatMap sessW).length≤6000:=by rw [List.take_length] at hwi;exact hwi
 simp only [List.take_length] at hwi ⊢
 have hq1:(frontW b++b.opn.flatMap sessW).length≤4 + 6 * 256:=by
  have h4:=front_length b
  rw [List.length_append,sessW_length];omega
 unfold bookW
 generalize frontW b++b.opn.flatMap sessW = p1 at *
 simp -implicitDefEqProofs (disch:=omega) [go_sem]
 have hw2:∀ i:Nat,(p1++(b.items.take i).flatMap itemW).length≤6000:=fun i=>by
  have h4:=hq1
  simp only [List.length_append,itemW_length,List.length_take] at h4 ⊢;omega
 refine loop_ren (σ:={ i:Nat // i≤b.items.length }) (fun i=>⟨envL [(1,.ptr 0 0),(3,.ref 1 0 (p1++(b.items.take i.1).flatMap itemW).length 1),(65,.data (.sl 5 (items b.items))),(66,.data (.int .i64 b.items.length)),(67,.data (.int .i64 i.1))],hpL [(0,.blk true [.data (.int .i64 b.next),.data (.sl 6 (sesss b.opn)),.data (.sl 5 (items b.items)),.data (.sl 3 (locks b.locks))]),(1,.blk true ((parts (p1++(b.items.take i.1).flatMap itemW)).map D.data))],2,0,118⟩) (fun i=>b.items.length - i.1) ⟨0,by omega⟩ [] (rhoL [(0,some 0),(1,some 1)]) ?_ ?_
 · apply ren_lists <;> simp -implicitDefEqProofs [go_sem]
   all_goals exact renCells_plain rfl (by simp [plainD])
 rintro ⟨i,hi⟩
 by_cases h:i < b.items.length
 · have hwi:=hw2 i
   have hs:(b.items.take (i + 1)).flatMap itemW = (b.items.take i).flatMap itemW++itemW b.items[i]:=by
    rw [List.take_succ_eq_append_getElem h,List.flatMap_append]
    simp
   have hs2:p1++(b.items.take (i + 1)).flatMap itemW = (p1++(b.items.take i).flatMap itemW)++itemW b.items[i]:=by rw [hs,List.append_assoc]
   generalize hqw:p1++(b.items.take i).flatMap itemW = pw at *
   obtain ⟨f1,f2,f3,f4,f5⟩:=q5 _ (List.getElem_mem h)
   generalize hsi:b.items[i] = s at *
   have d0:=one_fit Γ f1
   have d1:=four_fit Γ f2
   have d2:=eight_fit Γ f3
   have d3:=eight_fit Γ f4
   have d4:=one_fit Γ f5
   simp -implicitDefEqProofs (disch:=omega) [go_sem,hsi,item]
   refine .inl (call_data d0 (by simp [go_sem,numI]) ?_)
   simp -implicitDefEqProofs (disch:=omega) [go_sem,numI]
   refine .inl (call_data d1 (by simp [go_sem,numI]) ?_)
   simp -implicitDefEqProofs (disch:=omega) [go_sem,numI]
   refine .inl (call_data d2 (by simp [go_sem,numI]) ?_)
   simp -implicitDefEqProofs (disch:=omega) [go_sem,numI]
   refine .inl (call_data d3 (by simp [go_sem,numI]) ?_)
   simp -implicitDefEqProofs (disch:=omega) [go_sem,numI]
   refine .inl (call_data d4 (by simp [go_sem,numI]) ?_)
   simp -implicitDefEqProofs (disch:=omega) [go_sem,numI]
   refine side (by kernel_rfl) ?_
   simp -implicitDefEqProofs (disch:=omega) [go_sem]
   refine next_ren ⟨i + 1,by omega⟩ (by simp only;omega) [] (rhoL [(0,some 0),(1,some 29)]) ?_
   rw [part1 f1,part4 f2,part8 f3,part8 f4,part1 f5]
   apply ren_lists <;> simp -implicitDefEqProofs [go_sem,hs2]
   · rfl
   · rw [show parts (pw++itemW s) = parts pw++parts (itemW s) by simp [parts],List.map_append]
     exact renCells_plain rfl (by simp [plainD])
 have:i = b.items.length:=by omega
 subst this
 have hwi:=hw2 b.items.length
 have hpl2:(p1++b.items.flatMap itemW).length≤6000:=by rw [List.take_length] at hwi;exact hwi
 simp only [List.take_length] at hwi ⊢
 have hq2:(p1++b.items.flatMap itemW).length≤4 + 11 * 256:=by
  rw [List.length_append,itemW_length];omega
 generalize p1++b.items.flatMap itemW = p2 at *
 simp -implicitDefEqProofs (disch:=omega) [go_sem]
 have hw3:∀ i:Nat,(p2++(b.locks.take i).flatMap lockW).length≤6000:=fun i=>by
  have h4:=hq2
  simp only [List.length_append,lockW_length,List.length_take] at h4 ⊢;omega
 refine loop_ren (σ:={ i:Nat // i≤b.locks.length }) (fun i=>⟨envL [(1,.ptr 0 0),(3,.ref 1 0 (p2++(b.locks.take i.1).flatMap lockW).length 1),(96,.data (.sl 3 (locks b.locks))),(97,.data (.int .i64 b.locks.length)),(98,.data (.int .i64 i.1))],hpL [(0,.blk true [.data (.int .i64 b.next),.data (.sl 6 (sesss b.opn)),.data (.sl 5 (items b.items)),.data (.sl 3 (locks b.locks))]),(1,.blk true ((parts (p2++(b.locks.take i.1).flatMap lockW)).map D.data))],2,0,118⟩) (fun i=>b.locks.length - i.1) ⟨0,by omega⟩ [] (rhoL [(0,some 0),(1,some 1)]) ?_ ?_
 · apply ren_lists <;> simp -implicitDefEqProofs [go_sem]
   all_goals exact renCells_plain rfl (by simp [plainD])
 rintro ⟨i,hi⟩
 by_cases h:i < b.locks.length
 · have hwi:=hw3 i
   have hs:(b.locks.take (i + 1)).flatMap lockW = (b.locks.take i).flatMap lockW++lockW b.locks[i]:=by
    rw [List.take_succ_eq_append_getElem h,List.flatMap_append]
    simp
   have hs2:p2++(b.locks.take (i + 1)).flatMap lockW = (p2++(b.locks.take i).flatMap lockW)++lockW b.locks[i]:=by rw [hs,List.append_assoc]
   generalize hqw:p2++(b.locks.take i).flatMap lockW = pw at *
   obtain ⟨f1,f2,f3⟩:=q6 _ (List.getElem_mem h)
   generalize hsi:b.locks[i] = s at *
   have d0:=one_fit Γ f2
   have d1:=four_fit Γ f3
   simp -implicitDefEqProofs (disch:=omega) [go_sem,hsi,lock]
   refine .inl (call_data d0 (by simp [go_sem,numI]) ?_)
   simp -implicitDefEqProofs (disch:=omega) [go_sem,numI]
   refine .inl (call_data d1 (by simp [go_sem,numI]) ?_)
   simp -implicitDefEqProofs (disch:=omega) [go_sem,numI]
   refine side (by kernel_rfl) ?_
   simp -implicitDefEqProofs (disch:=omega) [go_sem]
   refine next_ren ⟨i + 1,by omega⟩ (by simp only;omega) [] (rhoL [(0,some 0),(1,some 20)]) ?_
   rw [part1 f2,part4 f3]
   apply ren_lists <;> simp -implicitDefEqProofs [go_sem,hs2]
   · rfl
   · rw [show parts (pw++lockW s) = parts pw++parts (lockW s) by simp [parts],List.map_append]
     exact renCells_plain rfl (by simp [plainD])
 have:i = b.locks.length:=by omega
 subst this
 have hwi:=hw3 b.locks.length
 have hpl3:(p2++b.locks.flatMap lockW).length≤6000:=by rw [List.take_length] at hwi;exact hwi
 simp only [List.take_length] at hwi ⊢
 simp -implicitDefEqProofs (disch:=omega) [go_sem,Tryz.f132]
 exact ⟨_,⟨_,rfl,frz_parts (l:=p2++b.locks.flatMap lockW) rfl (by simp)⟩,rfl⟩
end
end Bk
namespace Bk
structure SessOk (b:Book) (i:Nat) (s:Sess):Prop where
 id0:0≤s.id
 id1:s.id < b.next
 up:0 < i->(b.opn.getD (i - 1) default).id < s.id
 l0:0≤s.link
 l1:s.link≤7
 user:nameOk s.user
 addr:poolOk s.addr
def SessAt (b:Book) (i:Nat) (h:i < b.opn.length):Prop:=SessOk b i b.opn[i]∧∀ (k:Nat) (hk:k < i),b.opn[k].link≠b.opn[i].link∧b.opn[k].addr≠b.opn[i].addr
def OpenOk (b:Book):Prop:=∀ (i:Nat) (h:i < b.opn.length),SessAt b i h
set_option maxHeartbeats 8000000 in
set_option maxRecDepth 100000 in
theorem open_pc (Γ:Nat->Option (List Data)) (b:Book) (hb:Fits b) {q:Bool} (hq:q = true ↔ OpenOk b):PC Tryz.prog Γ 135 [book b] (.bool q):=by
 refine pc_by mixed Tryz.func135 rfl (fun args w=>Tryz.call135 args w) ?_
 have ho:=hb.o
 have no:¬ OpenOk b->q = false:=fun h=>by
  cases q
  · rfl
  · exact absurd (hq.1 rfl) h
 simp -implicitDefEqProofs (disch:=omega) [go_sem,book]
 refine loop_ren (σ:={ i:Nat // i≤b.opn.length∧∀ (j:Nat) (h:j < b.opn.length),j < i->SessAt b j h }) (fun i=>⟨envL [(1,.ptr 0 0),(3,.data (.int .i64 i.1))],hpL [(0,.blk true [.data (.int .i64 b.next),.data (.sl 6 (sesss b.opn)),.data (.sl 5 (items b.items)),.data (.sl 3 (locks b.locks))])],1,0,95⟩) (fun i=>b.opn.length - i.1) ⟨0,by omega,by omega⟩ [] (rhoL []) ?_ ?_
 · apply ren_lists <;> simp -implicitDefEqProofs [go_sem]
 · rintro ⟨i,hi,hall⟩
   by_cases h:i < b.opn.length
   rotate_left
   · have hyes:q = true:=hq.2 fun i hi2=>hall i hi2 (by omega)
     simp -implicitDefEqProofs (disch:=omega) [go_sem,hyes,Tryz.results135]
   have hn:=name_pc Γ b.opn[i].user (by have:=hb.ou _ (List.getElem_mem h);omega)
   have hp:=pool_pc Γ b.opn[i].addr
   have hno:¬ SessOk b i b.opn[i]->q = false:=fun hk=>no fun ha=>hk (ha i h).1
   have hgd:0 < i->b.opn.getD (i - 1) default = b.opn[i - 1]:=fun h0=>by rw [List.getD_eq_getElem?_getD,List.getElem?_eq_getElem (by omega)];rfl
   have ei:((i:Int) - 1).toNat = i - 1:=by omega
   simp -implicitDefEqProofs (disch:=omega) [go_sem]
   refine .inl (call_data hn (by simp [go_sem]) ?_)
   simp -implicitDefEqProofs (disch:=omega) [go_sem]
   refine .inl (call_data hp (by simp [go_sem]) ?_)
   simp -implicitDefEqProofs (disch:=omega) [go_sem]
   refine ifW_ndec (fun g1=>?_) (fun g1=>?_)
   rotate_left
   · have hqf:q = false:=hno fun hk=>absurd hk.id0 (by omega)
     simp -implicitDefEqProofs (disch:=omega) [go_sem,hqf]
     refine side (by kernel_rfl) ?_
     simp -implicitDefEqProofs (disch:=omega) [go_sem,hqf,Tryz.results135]
   simp -implicitDefEqProofs (disch:=omega) [go_sem]
   refine ifW_ndec (fun g2=>?_) (fun g2=>?_)
   rotate_left
   · have hqf:q = false:=hno fun hk=>absurd hk.id1 (by omega)
     simp -implicitDefEqProofs (disch:=omega) [go_sem,hqf]
     refine side (by kernel_rfl) ?_
     simp -implicitDefEqProofs (disch:=omega) [go_sem,hqf,Tryz.results135]
   simp -implicitDefEqProofs (disch:=omega) [go_sem]
   refine ifW_dec (fun g0=>?_) (fun g0=>?_)
   · have g0':0 < i:=by omega
     have him:i - 1 < b.opn.length:=by omega
     simp -implicitDefEqProofs (disch:=omega) [go_sem,ei]
     refine ifW_ndec (fun g3=>?_) (fun g3=>?_)
     rotate_left
     · have hqf:q = false:=hno fun hk=>by have:=hk.up g0';rw [hgd g0'] at this;omega
       simp -implicitDefEqProofs (disch:=omega) [go_sem,hqf]
       refine side (by kernel_rfl) ?_
       simp -implicitDefEqProofs (disch:=omega) [go_sem,hqf,Tryz.results135]
     simp -implicitDefEqProofs (disch:=omega) [go_sem]
     refine ifW_ndec (fun g4=>?_) (fun g4=>?_)
     rotate_left
     · have hqf:q = false:=hno fun hk=>absurd hk.l0 (by omega)
       simp -implicitDefEqProofs (disch:=omega) [go_sem,hqf]
       refine side (by kernel_rfl) ?_
       simp -implicitDefEqProofs (disch:=omega) [go_sem,hqf,Tryz.results135]
     simp -implicitDefEqProofs (disch:=omega) [go_sem]
     refine ifW_ndec (fun g5=>?_) (fun g5=>?_)
     rotate_left
     · have hqf:q = false:=hno fun hk=>absurd hk.l1 (by omega)
       simp -implicitDefEqProofs (disch:=omega) [go_sem,hqf]
       refine side (by kernel_rfl) ?_
       simp -implicitDefEqProofs (disch:=omega) [go_sem,hqf,Tryz.results135]
     by_cases g6:nameOk b.opn[i].user
     rotate_left
     · have hqf:q = false:=hno fun hk=>g6 hk.user
       simp -implicitDefEqProofs (disch:=omega) [go_sem,hqf,g6]
       refine side (by kernel_rfl) ?_
       simp -implicitDefEqProofs (disch:=omega) [go_sem,hqf,g6,Tryz.results135]
     by_cases g7:poolOk b.opn[i].addr
     rotate_left
     · have hqf:q = false:=hno fun hk=>g7 hk.addr
       simp -implicitDefEqProofs (disch:=omega) [go_sem,hqf,g6,g7]
       refine side (by kernel_rfl) ?_
       simp -implicitDefEqProofs (disch:=omega) [go_sem,hqf,g6,g7,Tryz.results135]
     have hsok:SessOk b i b.opn[i]:=⟨by omega,by omega,fun h0=>by rw [hgd h0];omega,by omega,by omega,g6,g7⟩
     simp -implicitDefEqProofs (disch:=omega) [go_sem,g6,g7]
     refine side (by kernel_rfl) ?_
     simp -implicitDefEqProofs (disch:=omega) [go_sem]
     refine loop_ren (σ:={ k:Nat // k≤i∧∀ (j:Nat) (hj:j < k) (hk:k≤i),b.opn[j].link≠b.opn[i].link∧b.opn[j].addr≠b.opn[i].addr }) (fun k=>⟨envL [(1,.ptr 0 0),(3,.data (.int .i64 i)),(4,.ptr 1 0),(7,.data (.int .i64 k.1))],hpL [(0,.blk true [.data (.int .i64 b.next),.data (.sl 6 (sesss b.opn)),.data (.sl 5 (items b.items)),.data (.sl 3 (locks b.locks))]),(1,.blk true [.data (.int .i64 b.opn[i].id),.data (.int .i64 b.opn[i].link),.data (.int .u32 b.opn[i].addr),.data (.str b.opn[i].user),.data (.int .u64 b.opn[i].inn),.data (.int .u64 b.opn[i].out)])],2,0,95⟩) (fun k=>i - k.1) ⟨0,by omega,by omega⟩ [] (rhoL [(1,some 11)]) ?_ ?_
     · apply ren_lists <;> simp -implicitDefEqProofs [go_sem]
     rintro ⟨k,hk,hin⟩
     by_cases hki:k < i
     rotate_left
     · have hki2:k = i:=by omega
       subst hki2
       simp -implicitDefEqProofs (disch:=omega) [go_sem]
       refine next_ren ⟨k + 1,by omega,fun j hj hji=>?_⟩ (by simp only;omega) [] (rhoL []) ?_
       · by_cases e:j = k
         · subst e;exact ⟨hsok,fun m hm=>hin m hm (Nat.le_refl _)⟩
         · exact hall j hj (by omega)
       apply ren_lists <;> simp -implicitDefEqProofs [go_sem]
     have hkl:k < b.opn.length:=by omega
     simp -implicitDefEqProofs (disch:=omega) [go_sem]
     refine ifW_ndec (fun g8=>?_) (fun g8=>?_)
     rotate_left
     · have hqf:q = false:=no fun ha=>((ha i h).2 k hki).1 g8
       simp -implicitDefEqProofs (disch:=omega) [go_sem,hqf,g8]
       refine side (by kernel_rfl) ?_
       simp -implicitDefEqProofs (disch:=omega) [go_sem,hqf,g8,Tryz.results135]
     simp -implicitDefEqProofs (disch:=omega) [go_sem,g8]
     refine side (by kernel_rfl) ?_
     simp -implicitDefEqProofs (disch:=omega) [go_sem,g8]
     refine ifW_dec (fun g9=>?_) (fun g9=>?_)
     · have hqf:q = false:=no fun ha=>((ha i h).2 k hki).2 g9
       simp -implicitDefEqProofs (disch:=omega) [go_sem,hqf,Tryz.results135]
     simp -implicitDefEqProofs (disch:=omega) [go_sem]
     refine next_ren ⟨k + 1,by omega,fun j hj hk2=>?_⟩ (by simp only;omega) [] (rhoL []) ?_
     · by_cases e:j = k
       · subst e;exact ⟨g8,g9⟩
       · exact hin j (by omega) (by omega)
     apply ren_lists <;> simp -implicitDefEqProofs [go_sem]
   · simp -implicitDefEqProofs (disch:=omega) [go_sem]
     refine ifW_ndec (fun g4=>?_) (fun g4=>?_)
     rotate_left
     · have hqf:q = false:=hno fun hk=>absurd hk.l0 (by omega)
       simp -implicitDefEqProofs (disch:=omega) [go_sem,hqf]
       refine side (by kernel_rfl) ?_
       simp -implicitDefEqProofs (disch:=omega) [go_sem,hqf,Tryz.results135]
     simp -implicitDefEqProofs (disch:=omega) [go_sem]
     refine ifW_ndec (fun g5=>?_) (fun g5=>?_)
     rotate_left
     · have hqf:q = false:=hno fun hk=>absurd hk.l1 (by omega)
       simp -implicitDefEqProofs (disch:=omega) [go_sem,hqf]
       refine side (by kernel_rfl) ?_
       simp -implicitDefEqProofs (disch:=omega) [go_sem,hqf,Tryz.results135]
     by_cases g6:nameOk b.opn[i].user
     rotate_left
     · have hqf:q = false:=hno fun hk=>g6 hk.user
       simp -implicitDefEqProofs (disch:=omega) [go_sem,hqf,g6]
       refine side (by kernel_rfl) ?_
       simp -implicitDefEqProofs (disch:=omega) [go_sem,hqf,g6,Tryz.results135]
     by_cases g7:poolOk b.opn[i].addr
     rotate_left
     · have hqf:q = false:=hno fun hk=>g7 hk.addr
       simp -implicitDefEqProofs (disch:=omega) [go_sem,hqf,g6,g7]
       refine side (by kernel_rfl) ?_
       simp -implicitDefEqProofs (disch:=omega) [go_sem,hqf,g6,g7,Tryz.results135]
     have hsok:SessOk b i b.opn[i]:=⟨by omega,by omega,fun h0=>absurd h0 (by omega),by omega,by omega,g6,g7⟩
     simp -implicitDefEqProofs (disch:=omega) [go_sem,g6,g7]
     refine side (by kernel_rfl) ?_
     simp -implicitDefEqProofs (disch:=omega) [go_sem]
     refine loop_ren (σ:={ k:Nat // k≤i∧∀ (j:Nat) (hj:j < k) (hk:k≤i),b.opn[j].link≠b.opn[i].link∧b.opn[j].addr≠b.opn[i].addr }) (fun k=>⟨envL [(1,.ptr 0 0),(3,.data (.int .i64 i)),(4,.ptr 1 0),(7,.data (.int .i64 k.1))],hpL [(0,.blk true [.data (.int .i64 b.next),.data (.sl 6 (sesss b.opn)),.data (.sl 5 (items b.items)),.data (.sl 3 (locks b.locks))]),(1,.blk true [.data (.int .i64 b.opn[i].id),.data (.int .i64 b.opn[i].link),.data (.int .u32 b.opn[i].addr),.data (.str b.opn[i].user),.data (.int .u64 b.opn[i].inn),.data (.int .u64 b.opn[i].out)])],2,0,95⟩) (fun k=>i - k.1) ⟨0,by omega,by omega⟩ [] (rhoL [(1,some 11)]) ?_ ?_
     · apply ren_lists <;> simp -implicitDefEqProofs [go_sem]
     rintro ⟨k,hk,hin⟩
     by_cases hki:k < i
     rotate_left
     · have hki2:k = i:=by omega
       subst hki2
       simp -implicitDefEqProofs (disch:=omega) [go_sem]
       refine next_ren ⟨k + 1,by omega,fun j hj hji=>?_⟩ (by simp only;omega) [] (rhoL []) ?_
       · by_cases e:j = k
         · subst e;exact ⟨hsok,fun m hm=>hin m hm (Nat.le_refl _)⟩
         · exact hall j hj (by omega)
       apply ren_lists <;> simp -implicitDefEqProofs [go_sem]
     exact absurd hki (by omega)
end Bk
namespace Bk
structure ItemAt (b:Book) (i:Nat) (h:i < b.items.length):Prop where
 line:LineOk b i b.items[i]
 ends:last b.items b.items[i].id b.items.length = i->¬ (0≤ofId b b.items[i].id ↔ b.items[i].kind = 3)
structure SessEnd (b:Book) (s:Sess):Prop where
 k0:0≤last b.items s.id b.items.length
 inn:(b.items.getD (last b.items s.id b.items.length).toNat default).inn = s.inn
 out:(b.items.getD (last b.items s.id b.items.length).toNat default).out = s.out
structure LockAt (b:Book) (i:Nat) (h:i < b.locks.length):Prop where
 user:nameOk b.locks[i].user
 n0:1≤b.locks[i].n
 n1:b.locks[i].n≤255
 t0:0≤b.locks[i].at_
 t1:b.locks[i].at_≤1000000000
 f:failed b b.locks[i].user = i
structure RightP (b:Book):Prop where
 n0:0≤b.next
 n1:b.next≤1000000000
 len:b.items.length + b.opn.length≤60
 ll:b.locks.length≤8
 opens:OpenOk b
 items:∀ (i:Nat) (h:i < b.items.length),ItemAt b i h
 ends:∀ (i:Nat) (h:i < b.opn.length),SessEnd b b.opn[i]
 locks:∀ (i:Nat) (h:i < b.locks.length),LockAt b i h
set_option maxHeartbeats 8000000 in
set_option maxRecDepth 100000 in
theorem right_pc (Γ:Nat->Option (List Data)) (b:Book) (hb:Fits b) {q:Bool} (hq:q = true ↔ RightP b):PC Tryz.prog Γ 93 [book b] (.bool q):=by
 refine pc_by mixed Tryz.func93 rfl (fun args w=>Tryz.call93 args w) ?_
 have no:¬ RightP b->q = false:=fun h=>by
  cases q
  · rfl
  · exact absurd (hq.1 rfl) h
 have yes:RightP b->q = true:=hq.2
 clear hq
 have hb2:=hb
 obtain ⟨f1,f2,f3,f4,f5⟩:=hb2
 obtain ⟨vo,hvo⟩:∃ v:Bool,v = true ↔ OpenOk b:=by classical exact ⟨decide (OpenOk b),by simp⟩
 have co:=open_pc Γ b hb hvo
 by_cases n0:0≤b.next
 rotate_left
 · have hqf:q = false:=no fun r=>n0 r.n0
   simp -implicitDefEqProofs (disch:=omega) [go_sem,book,hqf,Tryz.results93]
 by_cases n1:b.next≤1000000000
 rotate_left
 · have hqf:q = false:=no fun r=>n1 r.n1
   simp -implicitDefEqProofs (disch:=omega) [go_sem,book,hqf,Tryz.results93]
 by_cases len:b.items.length + b.opn.length≤60
 rotate_left
 · have hqf:q = false:=no fun r=>len r.len
   simp -implicitDefEqProofs (disch:=omega) [go_sem,book,hqf,Tryz.results93]
 by_cases ll:b.locks.length≤8
 rotate_left
 · have hqf:q = false:=no fun r=>ll r.ll
   simp -implicitDefEqProofs (disch:=omega) [go_sem,book,hqf,Tryz.results93]
 simp -implicitDefEqProofs (disch:=omega) [go_sem,book]
 refine .inl (call_data co (by simp [go_sem,book]) ?_)
 cases vo with
 | false =>
   have hqf:q = false:=no fun r=>by have:=hvo.2 r.opens;cases this
   simp -implicitDefEqProofs (disch:=omega) [go_sem,hqf,Tryz.results93]
 | true =>
 have opens:=hvo.1 rfl
 clear hvo co
 simp -implicitDefEqProofs (disch:=omega) [go_sem]
 refine loop_ren (σ:={ i:Nat // i≤b.items.length∧∀ (j:Nat) (h:j < b.items.length),j < i->ItemAt b j h }) (fun i=>⟨envL [(1,.ptr 0 0),(4,.data (.int .i64 i.1))],hpL [(0,.blk true [.data (.int .i64 b.next),.data (.sl 6 (sesss b.opn)),.data (.sl 5 (items b.items)),.data (.sl 3 (locks b.locks))])],1,0,182⟩) (fun i=>b.items.length - i.1) ⟨0,by omega,fun j h hj=>absurd hj (by omega)⟩ [] (rhoL []) ?_ ?_
 · apply ren_lists <;> simp -implicitDefEqProofs [go_sem]
 rintro ⟨i,hi,hall⟩
 by_cases h:i < b.items.length
 · obtain ⟨vl,hvl⟩:∃ v:Bool,v = true ↔ LineOk b i b.items[i]:=by classical exact ⟨decide (LineOk b i b.items[i]),by simp⟩
   have cl:=line_pc Γ b hb i h hvl
   have ca:=last_pc Γ b hb b.items[i].id b.items.length (Nat.le_refl _)
   have cf:=of_pc Γ b hb b.items[i].id
   simp -implicitDefEqProofs (disch:=omega) [go_sem]
   refine .inl (call_data cl (by simp [go_sem,book]) ?_)
   cases vl with
   | false =>
     have hqf:q = false:=no fun r=>by have:=hvl.2 (r.items i h).line;cases this
     simp -implicitDefEqProofs (disch:=omega) [go_sem,hqf,Tryz.results93]
   | true =>
   have hline:=hvl.1 rfl
   clear hvl cl
   simp -implicitDefEqProofs (disch:=omega) [go_sem]
   refine .inl (call_data ca (by simp [go_sem,book]) ?_)
   by_cases ge:last b.items b.items[i].id b.items.length = i
   · simp -implicitDefEqProofs (disch:=omega) [go_sem]
     refine side (by kernel_rfl) ?_
     simp -implicitDefEqProofs (disch:=omega) [go_sem]
     refine .inl (call_data cf (by simp [go_sem,book]) ?_)
     by_cases gi:0≤ofId b b.items[i].id
     · by_cases gk:b.items[i].kind = 3
       · simp -implicitDefEqProofs (disch:=omega) [go_sem]
         refine side (by kernel_rfl) ?_
         have hqf:q = false:=no fun r=>(r.items i h).ends ge (by simp [gi,gk])
         simp -implicitDefEqProofs (disch:=omega) [go_sem,hqf,Tryz.results93]
       · simp -implicitDefEqProofs (disch:=omega) [go_sem]
         refine side (by kernel_rfl) ?_
         simp -implicitDefEqProofs (disch:=omega) [go_sem]
         refine next_ren ⟨i + 1,by omega,fun j hj hji=>?_⟩ (by simp only;omega) [] (rhoL []) ?_
         · by_cases e:j = i
           · subst e;exact ⟨hline,fun _=>by simp [gi,gk]⟩
           · exact hall j hj (by omega)
         apply ren_lists <;> simp -implicitDefEqProofs [go_sem]
     · by_cases gk:b.items[i].kind = 3
       · simp -implicitDefEqProofs (disch:=omega) [go_sem]
         refine side (by kernel_rfl) ?_
         simp -implicitDefEqProofs (disch:=omega) [go_sem]
         refine next_ren ⟨i + 1,by omega,fun j hj hji=>?_⟩ (by simp only;omega) [] (rhoL []) ?_
         · by_cases e:j = i
           · subst e;exact ⟨hline,fun _=>by simp [gi,gk]⟩
           · exact hall j hj (by omega)
         apply ren_lists <;> simp -implicitDefEqProofs [go_sem]
       · simp -implicitDefEqProofs (disch:=omega) [go_sem]
         refine side (by kernel_rfl) ?_
         have hqf:q = false:=no fun r=>(r.items i h).ends ge (by simp [gi,gk])
         simp -implicitDefEqProofs (disch:=omega) [go_sem,hqf,Tryz.results93]
   · simp -implicitDefEqProofs (disch:=omega) [go_sem]
     refine side (by kernel_rfl) ?_
     simp -implicitDefEqProofs (disch:=omega) [go_sem]
     refine .inl (call_data cf (by simp [go_sem,book]) ?_)
     by_cases gi:0≤ofId b b.items[i].id
     · simp -implicitDefEqProofs (disch:=omega) [go_sem]
       refine side (by kernel_rfl) ?_
       simp -implicitDefEqProofs (disch:=omega) [go_sem]
       refine next_ren ⟨i + 1,by omega,fun j hj hji=>?_⟩ (by simp only;omega) [] (rhoL []) ?_
       · by_cases e:j = i
         · subst e;exact ⟨hline,fun e=>absurd e ge⟩
         · exact hall j hj (by omega)
       apply ren_lists <;> simp -implicitDefEqProofs [go_sem]
     · simp -implicitDefEqProofs (disch:=omega) [go_sem]
       refine side (by kernel_rfl) ?_
       simp -implicitDefEqProofs (disch:=omega) [go_sem]
       refine next_ren ⟨i + 1,by omega,fun j hj hji=>?_⟩ (by simp only;omega) [] (rhoL []) ?_
       · by_cases e:j = i
         · subst e;exact ⟨hline,fun e=>absurd e ge⟩
         · exact hall j hj (by omega)
       apply ren_lists <;> simp -implicitDefEqProofs [go_sem]
 obtain rfl:i = b.items.length:=by omega
 have hitems:∀ (i:Nat) (h:i < b.items.length),ItemAt b i h:=fun i h=>hall i h h
 simp -implicitDefEqProofs (disch:=omega) [go_sem]
 try clear hall h hi
 refine loop_ren (σ:={ i:Nat // i≤b.opn.length∧∀ (j:Nat) (h:j < b.opn.length),j < i->SessEnd b b.opn[j] }) (fun i=>⟨envL [(1,.ptr 0 0),(8,.data (.int .i64 i.1))],hpL [(0,.blk true [.data (.int .i64 b.next),.data (.sl 6 (sesss b.opn)),.data (.sl 5 (items b.items)),.data (.sl 3 (locks b.locks))])],1,0,182⟩) (fun i=>b.opn.length - i.1) ⟨0,by omega,fun j h hj=>absurd hj (by omega)⟩ [] (rhoL []) ?_ ?_
 · apply ren_lists <;> simp -implicitDefEqProofs [go_sem]
 rintro ⟨i,hi,hall⟩
 by_cases h:i < b.opn.length
 · have ca:=last_pc Γ b hb b.opn[i].id b.items.length (Nat.le_refl _)
   have hlt:=last_lt b.items b.opn[i].id b.items.length
   obtain ⟨K,hK⟩:∃ K,last b.items b.opn[i].id b.items.length = K:=⟨_,rfl⟩
   rw [hK] at ca hlt
   obtain ⟨l1,l2⟩:=hlt
   simp -implicitDefEqProofs (disch:=omega) [go_sem]
   refine .inl (call_data ca (by simp [go_sem,book]) ?_)
   simp -implicitDefEqProofs (disch:=omega) [go_sem]
   refine side (by kernel_rfl) ?_
   by_cases g0:0≤K
   rotate_left
   · have hqf:q = false:=no fun r=>g0 (hK ▸ (r.ends i h).k0)
     simp -implicitDefEqProofs (disch:=omega) [go_sem,hqf]
     refine side (by kernel_rfl) ?_
     simp -implicitDefEqProofs (disch:=omega) [go_sem,hqf,Tryz.results93]
   have hk:K.toNat < b.items.length:=by omega
   have hgd:b.items.getD K.toNat default = b.items[K.toNat]:=by rw [List.getD_eq_getElem?_getD,List.getElem?_eq_getElem hk];rfl
   by_cases g1:b.items[K.toNat].inn = b.opn[i].inn
   rotate_left
   · have hqf:q = false:=no fun r=>g1 (by have:=(r.ends i h).inn;rw [hK,hgd] at this;exact this)
     simp -implicitDefEqProofs (disch:=omega) [go_sem,hqf,g1]
     refine side (by kernel_rfl) ?_
     simp -implicitDefEqProofs (disch:=omega) [go_sem,hqf,Tryz.results93]
   by_cases g2:b.items[K.toNat].out = b.opn[i].out
   rotate_left
   · have hqf:q = false:=no fun r=>g2 (by have:=(r.ends i h).out;rw [hK,hgd] at this;exact this)
     simp -implicitDefEqProofs (disch:=omega) [go_sem,hqf,g1,g2]
     refine side (by kernel_rfl) ?_
     simp -implicitDefEqProofs (disch:=omega) [go_sem,hqf,Tryz.results93]
   simp -implicitDefEqProofs (disch:=omega) [go_sem,g1,g2]
   refine side (by kernel_rfl) ?_
   simp -implicitDefEqProofs (disch:=omega) [go_sem]
   refine next_ren ⟨i + 1,by omega,fun j hj hji=>?_⟩ (by simp only;omega) [] (rhoL []) ?_
   · by_cases e:j = i
     · subst e;exact ⟨hK ▸ g0,by rw [hK,hgd];exact g1,by rw [hK,hgd];exact g2⟩
     · exact hall j hj (by omega)
   apply ren_lists <;> simp -implicitDefEqProofs [go_sem]
 obtain rfl:i = b.opn.length:=by omega
 have hends:∀ (i:Nat) (h:i < b.opn.length),SessEnd b b.opn[i]:=fun i h=>hall i h h
 simp -implicitDefEqProofs (disch:=omega) [go_sem]
 try clear hall h hi
 refine loop_ren (σ:={ i:Nat // i≤b.locks.length∧∀ (j:Nat) (h:j < b.locks.length),j < i->LockAt b j h }) (fun i=>⟨envL [(1,.ptr 0 0),(10,.data (.int .i64 i.1))],hpL [(0,.blk true [.data (.int .i64 b.next),.data (.sl 6 (sesss b.opn)),.data (.sl 5 (items b.items)),.data (.sl 3 (locks b.locks))])],1,0,182⟩) (fun i=>b.locks.length - i.1) ⟨0,by omega,fun j h hj=>absurd hj (by omega)⟩ [] (rhoL []) ?_ ?_
 · apply ren_lists <;> simp -implicitDefEqProofs [go_sem]
 rintro ⟨i,hi,hall⟩
 by_cases h:i < b.locks.length
 · have cn:=name_pc Γ b.locks[i].user (by have:=f5 _ (List.getElem_mem h);omega)
   have cf:=failed_pc Γ b hb b.locks[i].user
   simp -implicitDefEqProofs (disch:=omega) [go_sem]
   refine .inl (call_data cn (by simp [go_sem]) ?_)
   by_cases k_user:nameOk b.locks[i].user
   rotate_left
   · have hqf:q = false:=no fun r=>k_user (r.locks i h).user
     simp -implicitDefEqProofs (disch:=omega) [go_sem,hqf,k_user,Tryz.results93]
   by_cases k_n0:1≤b.locks[i].n
   rotate_left
   · have hqf:q = false:=no fun r=>k_n0 (r.locks i h).n0
     simp -implicitDefEqProofs (disch:=omega) [go_sem,hqf,k_user,Tryz.results93]
   by_cases k_n1:b.locks[i].n≤255
   rotate_left
   · have hqf:q = false:=no fun r=>k_n1 (r.locks i h).n1
     simp -implicitDefEqProofs (disch:=omega) [go_sem,hqf,k_user,Tryz.results93]
   by_cases k_t0:0≤b.locks[i].at_
   rotate_left
   · have hqf:q = false:=no fun r=>k_t0 (r.locks i h).t0
     simp -implicitDefEqProofs (disch:=omega) [go_sem,hqf,k_user,Tryz.results93]
   by_cases k_t1:b.locks[i].at_≤1000000000
   rotate_left
   · have hqf:q = false:=no fun r=>k_t1 (r.locks i h).t1
     simp -implicitDefEqProofs (disch:=omega) [go_sem,hqf,k_user,Tryz.results93]
   simp -implicitDefEqProofs (disch:=omega) [go_sem,k_user]
   refine .inl (call_data cf (by simp [go_sem,book]) ?_)
   by_cases k_f:failed b b.locks[i].user = i
   rotate_left
   · have hqf:q = false:=no fun r=>k_f (r.locks i h).f
     simp -implicitDefEqProofs (disch:=omega) [go_sem,hqf,Tryz.results93]
   simp -implicitDefEqProofs (disch:=omega) [go_sem]
   refine next_ren ⟨i + 1,by omega,fun j hj hji=>?_⟩ (by simp only;omega) [] (rhoL []) ?_
   · by_cases e:j = i
     · subst e;exact ⟨k_user,k_n0,k_n1,k_t0,k_t1,k_f⟩
     · exact hall j hj (by omega)
   apply ren_lists <;> simp -implicitDefEqProofs [go_sem]
 obtain rfl:i = b.locks.length:=by omega
 have hqt:q = true:=yes ⟨n0,n1,len,ll,opens,hitems,hends,fun i h=>hall i h h⟩
 simp -implicitDefEqProofs (disch:=omega) [go_sem,hqt,Tryz.results93]
end Bk
namespace Bk
theorem pigeon:∀ (n:Nat) (l:List Int),(∀ x∈l,0≤x∧x < n)->l.Nodup->l.length≤n
 | 0,l,h,_=>by
   cases l with
   | nil=>simp
   | cons x l=>have:=h x List.mem_cons_self;omega
 | n + 1,l,h,hd=>by
   have ih:=pigeon n (l.erase (n:Int)) (fun x hx=>by
    have h1:=(List.Nodup.mem_erase_iff hd).1 hx
    have h2:=h x h1.2
    have h3:=h1.1
    omega) (hd.erase _)
   rw [List.length_erase] at ih
   split at ih <;> omega
theorem RightP.opn8 {b:Book} (h:RightP b):b.opn.length≤8:=by
 have h1:=pigeon 8 (b.opn.map fun s=>s.link) (fun x hx=>by
  obtain ⟨s,hs,rfl⟩:=List.mem_map.1 hx
  obtain ⟨i,hi,rfl⟩:=List.getElem_of_mem hs
  have h2:=(h.opens i hi).1
  exact ⟨h2.l0,by have:=h2.l1;omega⟩) (by
  rw [List.nodup_iff_pairwise_ne,List.pairwise_iff_getElem]
  intro i j hi hj hij
  rw [List.length_map] at hi hj
  rw [List.getElem_map,List.getElem_map]
  exact ((h.opens j hj).2 i hij).1)
 rwa [List.length_map] at h1
theorem RightP.bfit {b:Book} (h:RightP b) (ht:b.Ty):BookFit b:=by
 have h8:=h.opn8
 have hn:=h.n1
 refine ⟨⟨h.n0,by omega⟩,by omega,by have:=h.len;omega,by have:=h.ll;omega,fun s hs=>?_,fun x hx=>?_,fun l hl=>?_⟩
 · have t:=ht.o s hs
   obtain ⟨i,hi,rfl⟩:=List.getElem_of_mem hs
   obtain ⟨f1,f2,f3,f4,f5,f6,f7⟩:=(h.opens i hi).1
   obtain ⟨t1,t2,t3,t4,t5,t6⟩:=t
   unfold U64 at t5 t6
   unfold poolOk at f7
   exact ⟨⟨f1,by omega⟩,⟨f4,by omega⟩,⟨by omega,by omega⟩,f6.2,⟨by omega,by omega⟩,⟨by omega,by omega⟩⟩
 · have t:=ht.i x hx
   obtain ⟨i,hi,rfl⟩:=List.getElem_of_mem hx
   have l1:=(h.items i hi).line
   obtain ⟨t1,t2,t3,t4,t5⟩:=t
   unfold U64 at t3 t4
   unfold LineOk LineAt at l1
   generalize last b.items b.items[i].id i = k at l1
   generalize b.items.getD k.toNat default = y at l1
   generalize b.items[i] = x at *
   obtain ⟨l1,l2,l3⟩:=l1
   refine ⟨⟨by omega,by omega⟩,⟨by omega,by omega⟩,⟨by omega,by omega⟩,⟨by omega,by omega⟩,⟨by omega,by omega⟩⟩
 · obtain ⟨i,hi,rfl⟩:=List.getElem_of_mem hl
   have k:=h.locks i hi
   obtain ⟨k1,k2,k3,k4,k5,k6⟩:=k
   exact ⟨k1.2,⟨by omega,by omega⟩,⟨by omega,by omega⟩⟩
section
variable (Γ:Nat->Option (List Data))
def bookB (b:Book):List Nat:=be 4 b.next.toNat++(be 1 b.opn.length++(be 1 b.items.length++(be 1 b.locks.length++(b.opn.flatMap sessB++(b.items.flatMap itemB++b.locks.flatMap lockB)))))
theorem flatMap_part {α:Type} {w:α->List Part} {e:α->List Nat} (h:∀ x,(w x).flatMap partB = e x):∀ l:List α,(l.flatMap w).flatMap partB = l.flatMap e
 | []=>rfl
 | x :: l=>by rw [List.flatMap_cons,List.flatMap_append,h x,flatMap_part h l,List.flatMap_cons]
theorem sessW_bytes (s:Sess):(sessW s).flatMap partB = sessB s:=by simp [sessW,sessB,partB]
theorem itemW_bytes (s:Item):(itemW s).flatMap partB = itemB s:=by simp [itemW,itemB,partB]
theorem lockW_bytes (s:Lock):(lockW s).flatMap partB = lockB s:=by simp [lockW,lockB,partB]
theorem bookW_bytes (b:Book):(bookW b).flatMap partB = bookB b:=by
 unfold bookW bookB
 rw [List.flatMap_append,List.flatMap_append,List.flatMap_append,flatMap_part sessW_bytes,flatMap_part itemW_bytes,flatMap_part lockW_bytes]
 simp [frontW,partB,List.append_assoc]
theorem flatMap_length {α:Type} {e:α->List Nat} {n:Nat}:∀ {l:List α},(∀ x∈l,(e x).length = n)->(l.flatMap e).length = n * l.length
 | [],_=>by simp
 | x :: l,h=>by
   rw [List.flatMap_cons,List.length_append,h x List.mem_cons_self,flatMap_length fun y hy=>h y (List.mem_cons_of_mem _ hy),List.length_cons,Nat.mul_add]
   omega
theorem sessB_length {s:Sess} (h:SessFit s):(sessB s).length = 42:=by simp [sessB,be_length,nameB_length h.user]
theorem itemB_length (s:Item):(itemB s).length = 22:=by simp [itemB,be_length]
theorem lockB_length {s:Lock} (h:LockFit s):(lockB s).length = 22:=by simp [lockB,be_length,nameB_length h.user]
theorem bookB_length {b:Book} (h:BookFit b):(bookB b).length = 7 + 42 * b.opn.length + 22 * b.items.length + 22 * b.locks.length:=by
 unfold bookB
 simp only [List.length_append,be_length]
 rw [flatMap_length fun s hs=>sessB_length (h.opn s hs),flatMap_length fun s _=>itemB_length s,flatMap_length fun s hs=>lockB_length (h.locks s hs)]
 omega
theorem bookW_ok {b:Book} (h:BookFit b):∀ p∈bookW b,PartOk p:=by
 obtain ⟨q0,q1,q2,q3,q4,q5,q6⟩:=h
 intro p hp
 simp only [bookW,frontW,List.mem_append,List.mem_flatMap] at hp
 rcases hp with ((hp | ⟨s,hs,hp⟩) | ⟨s,hs,hp⟩) | ⟨s,hs,hp⟩
 · unfold Fit at q0
   simp only [List.mem_cons,List.not_mem_nil,or_false] at hp
   rcases hp with rfl | rfl | rfl | rfl <;> simp only [PartOk] <;> omega
 · obtain ⟨f1,f2,f3,f4,f5,f6⟩:=q4 s hs
   simp only [Fit] at *
   simp only [sessW,List.mem_cons,List.not_mem_nil,or_false] at hp
   rcases hp with rfl | rfl | rfl | rfl | rfl | rfl <;> simp only [PartOk] <;> omega
 · obtain ⟨f1,f2,f3,f4,f5⟩:=q5 s hs
   simp only [Fit] at *
   simp only [itemW,List.mem_cons,List.not_mem_nil,or_false] at hp
   rcases hp with rfl | rfl | rfl | rfl | rfl <;> simp only [PartOk] <;> omega
 · obtain ⟨f1,f2,f3⟩:=q6 s hs
   simp only [Fit] at *
   simp only [lockW,List.mem_cons,List.not_mem_nil,or_false] at hp
   rcases hp with rfl | rfl | rfl <;> simp only [PartOk] <;> omega
set_option maxHeartbeats 4000000 in
theorem bookBytes_pc (b:Book) (ht:b.Ty) {q:Bool} (hq:q = true ↔ RightP b) (cr:PC Tryz.prog Γ 131 [book b] (.bool q)):PC Tryz.prog Γ 88 [book b] (if q = true then .tup [.sl 1 (bys (padB 2048 (bookB b))),.int .i64 0] else .tup [.sl 1 [],.int .i64 1]):=by
 refine pc_by mixed Tryz.func88 rfl (fun args w=>Tryz.call88 args w) ?_
 unfold book at cr ⊢
 simp -implicitDefEqProofs (disch:=omega) [go_sem]
 refine .inl (call_data cr (by simp [go_sem]) ?_)
 cases q with
 | true =>
   have hr:=hq.1 rfl
   have hf:=hr.bfit ht
   have h8:=hr.opn8
   have hl1:=hr.len
   have hl2:=hr.ll
   have hlen:=bookB_length hf
   have cb:=bookParts_pc Γ b hf
   unfold book at cb
   simp -implicitDefEqProofs (disch:=omega) [go_sem]
   refine .inl (call_data cb (by simp [go_sem]) ?_)
   simp -implicitDefEqProofs (disch:=omega) [go_sem]
   have hl:=laid_pc Γ 2048 (bookW b) (bookW_ok hf) (by rw [bookW_bytes];omega) (by omega) (by simp only [bookW,List.length_append,sessW_length,itemW_length,lockW_length,front_length];omega)
   rw [bookW_bytes] at hl
   refine .inl (call_data hl (by simp [go_sem]) ?_)
   simp -implicitDefEqProofs (disch:=omega) [go_sem,Tryz.f88]
 | false =>
   simp -implicitDefEqProofs (disch:=omega) [go_sem,Tryz.f88]
   exact ⟨_,⟨_,rfl,.emp ..⟩,rfl⟩
end
end Bk
namespace Bk
/-- A store. -/
structure Sto where
 x:Disk
 gen:Int
 seq:Int
 b:Book
 f:Book
def bookL (b:Book):List Data:=[.int .i64 b.next,.sl 6 (sesss b.opn),.sl 5 (items b.items),.sl 3 (locks b.locks)]
def sto (t:Sto):Data:=.agg ([.sl 1 (secs t.x.s),.sl 2 (wrs t.x.w),.int .i64 t.gen,.int .i64 t.seq]++bookL t.b++bookL t.f)
section
variable (Γ:Nat->Option (List Data))
theorem sideOf_pc (g:Int) (hg:0≤g∧g≤1000000001):PC Tryz.prog Γ 59 [.int .i64 g] (.int .i64 (g % 2)):=by
 refine pc_by mixed Tryz.func59 rfl (fun args w=>Tryz.call59 args w) ?_
 simp -implicitDefEqProofs (disch:=omega) [go_sem,Tryz.f59]
 try omega
theorem snapAt_pc (g:Int) (hg:0≤g∧g≤1):PC Tryz.prog Γ 91 [.int .i64 g] (.int .i64 (2 + g * 16)):=by
 refine pc_by mixed Tryz.func91 rfl (fun args w=>Tryz.call91 args w) ?_
 simp -implicitDefEqProofs (disch:=omega) [go_sem,Tryz.f91]
theorem recordAt_pc (g:Int) (hg:0≤g∧g≤1000):PC Tryz.prog Γ 42 [.int .i64 g] (.int .i64 (34 + g)):=by
 refine pc_by mixed Tryz.func42 rfl (fun args w=>Tryz.call42 args w) ?_
 simp -implicitDefEqProofs (disch:=omega) [go_sem,Tryz.f42]
theorem clSess_pc (l:List Sess) (h:l.length≤1000000):PC Tryz.prog Γ 77 [.sl 6 (sesss l)] (.sl 6 (sesss l)) :=
 pc_of_oc (cloneSess_oc Γ l h) (frz_ref (rw:=true) (cells:=(flat (sesss l)).map D.data) rfl (.inl rfl) (sesss_length l) (sesss_cells l) rfl)
theorem clItem_pc (l:List Item) (h:l.length≤1000000):PC Tryz.prog Γ 78 [.sl 5 (items l)] (.sl 5 (items l)) :=
 pc_of_oc (cloneItem_oc Γ l h) (frz_ref (rw:=true) (cells:=(flat (items l)).map D.data) rfl (.inl rfl) (items_length l) (items_cells l) rfl)
theorem clLock_pc (l:List Lock) (h:l.length≤1000000):PC Tryz.prog Γ 79 [.sl 3 (locks l)] (.sl 3 (locks l)) :=
 pc_of_oc (cloneLock_oc Γ l h) (frz_ref (rw:=true) (cells:=(flat (locks l)).map D.data) rfl (.inl rfl) (locks_length l) (locks_cells l) rfl)
theorem copiedBook_pc (b:Book) (hs:Short b):PC Tryz.prog Γ 43 [book b] (book b):=by
 refine pc_by mixed Tryz.func43 rfl (fun args w=>Tryz.call43 args w) ?_
 obtain ⟨s1,s2,s3⟩:=hs
 simp -implicitDefEqProofs (disch:=omega) [go_sem,book]
 refine .inl (call_data (clSess_pc Γ b.opn s1) (by simp [go_sem]) ?_)
 simp -implicitDefEqProofs (disch:=omega) [go_sem]
 refine .inl (call_data (clItem_pc Γ b.items s2) (by simp [go_sem]) ?_)
 simp -implicitDefEqProofs (disch:=omega) [go_sem]
 refine .inl (call_data (clLock_pc Γ b.locks s3) (by simp [go_sem]) ?_)
 simp -implicitDefEqProofs (disch:=omega) [go_sem]
 refine side (by kernel_rfl) ?_
 simp -implicitDefEqProofs (disch:=omega) [go_sem,Tryz.f43]
 rfl
theorem copied3_pc (t:Sto) (hd:Dok t.x.s t.x.w) (hb:Short t.b) (hf:Short t.f):PC Tryz.prog Γ 38 [sto t] (sto t):=by
 refine pc_by mixed Tryz.func38 rfl (fun args w=>Tryz.call38 args w) ?_
 have c1:=copiedDisk_pc Γ t.x.s t.x.w hd
 have c2:=copiedBook_pc Γ t.b hb
 have c3:=copiedBook_pc Γ t.f hf
 simp -implicitDefEqProofs (disch:=omega) [go_sem,sto,bookL]
 refine .inl (call_data c1 (by simp [go_sem,dk]) ?_)
 simp -implicitDefEqProofs (disch:=omega) [go_sem]
 refine .inl (call_data c2 (by simp [go_sem,book]) ?_)
 simp -implicitDefEqProofs (disch:=omega) [go_sem]
 refine .inl (call_data c3 (by simp [go_sem,book]) ?_)
 simp -implicitDefEqProofs (disch:=omega) [go_sem,dk,book]
 refine side (by kernel_rfl) ?_
 simp -implicitDefEqProofs (disch:=omega) [go_sem,Tryz.f38]
 rfl
end
end Bk
namespace Bk
def flushD:Data:=.fn 49 []
def chunk (l:List Nat) (i:Nat):List Nat:=(l.take ((i + 1) * 128)).drop (i * 128)
/-- The writes of a snapshot,those ahead of one. -/
def wrsteps (side:Int) (snap:List Nat):Nat->List Data
 | 0=>[]
 | i + 1=>wrsteps side snap i++[writingD (2 + side * 16 + i) (chunk snap i)]
theorem wrsteps_length (side:Int) (snap:List Nat):∀ i,(wrsteps side snap i).length = i
 | 0=>rfl
 | i + 1=>by rw [wrsteps,List.length_append,wrsteps_length side snap i];rfl
theorem wrsteps_cells (side:Int) (snap:List Nat):∀ i,∀ x∈wrsteps side snap i,x.cells = [x]
 | 0,x,hx=>by cases hx
 | i + 1,x,hx=>by
   rcases List.mem_append.1 hx with h | h
   · exact wrsteps_cells side snap i x h
   · rw [List.mem_singleton.1 h];rfl
theorem flat_single {l:List Data} (h:∀ x∈l,x.cells = [x]):flat l = l:=by
 induction l with
 | nil=>rfl
 | cons x l ih =>
   show x.cells++flat l = _
   rw [h x (by simp),ih fun y hy=>h y (by simp [hy])];rfl
def stepsD (side:Int) (snap head:List Nat):List Data:=wrsteps side snap 16++[flushD,writingD side head,flushD]
theorem stepsD_cells (side:Int) (snap head:List Nat):∀ x∈stepsD side snap head,x.cells = [x]:=fun x hx=>by
 rcases List.mem_append.1 hx with h | h
 · exact wrsteps_cells side snap 16 x h
 · simp at h
   rcases h with rfl | rfl | rfl <;> rfl
def ste (g:Int) (q:Bool) (snap:List Nat):Data :=
 if 1000000000≤g then .tup [.sl 1 [],.int .i64 4] else if q = true then .tup [.sl 1 (stepsD ((g + 1) % 2) snap (padB 128 (headB (g + 1).toNat))),.int .i64 0] else .tup [.sl 1 [],.int .i64 1]
section
variable (Γ:Nat->Option (List Data))
set_option maxHeartbeats 2000000 in
theorem stepsOf_pc (t:Sto) (h0:0≤t.gen) (h1:t.gen≤9223372036854775806) (q:Bool) (snap:List Nat) (hs:snap.length = 2048)
 (cb:PC Tryz.prog Γ 88 [book t.b] (if q = true then .tup [.sl 1 (bys snap),.int .i64 0] else .tup [.sl 1 [],.int .i64 1])):PC Tryz.prog Γ 47 [sto t] (ste t.gen q snap):=by
 refine pc_by mixed Tryz.func47 rfl (fun args w=>Tryz.call47 args w) ?_
 unfold ste
 by_cases hg:1000000000≤t.gen
 · rw [if_pos hg]
   simp -implicitDefEqProofs (disch:=omega) [go_sem,sto,bookL,Tryz.f47]
   exact ⟨_,⟨_,rfl,.emp ..⟩,rfl⟩
 rw [if_neg hg]
 cases q with
 | false =>
   rw [if_neg (by simp)] at cb ⊢
   simp -implicitDefEqProofs (disch:=omega) [go_sem,sto,bookL]
   refine .inl (call_data cb (by simp [go_sem,book]) ?_)
   simp -implicitDefEqProofs (disch:=omega) [go_sem,Tryz.f47]
   exact ⟨_,⟨_,rfl,.emp ..⟩,rfl⟩
 | true =>
   rw [if_pos rfl] at cb ⊢
   simp -implicitDefEqProofs (disch:=omega) [go_sem,sto,bookL]
   refine .inl (call_data cb (by simp [go_sem,book]) ?_)
   have ch:=headBytes_pc Γ (t.gen + 1)
   rw [if_pos (by omega)] at ch
   simp -implicitDefEqProofs (disch:=omega) [go_sem]
   refine .inl (call_data ch (by simp [go_sem]) ?_)
   have cs:=sideOf_pc Γ (t.gen + 1) (by omega)
   simp -implicitDefEqProofs (disch:=omega) [go_sem]
   refine .inl (call_data cs (by simp [go_sem]) ?_)
   obtain ⟨head,hhead⟩:∃ head,padB 128 (headB (t.gen + 1).toNat) = head:=⟨_,rfl⟩
   obtain ⟨sd,hside⟩:∃ sd,(t.gen + 1) % 2 = sd:=⟨_,rfl⟩
   have hs01:0≤sd∧sd≤1:=by omega
   rw [hhead,hside]
   simp -implicitDefEqProofs (disch:=omega) [go_sem]
   refine loop_ren (σ:={ i:Nat // i≤16 }) (fun i=>⟨envL [(4,.data (.sl 1 (bys snap))),(7,.data (.sl 1 (bys head))),(8,.data (.int .i64 sd)),(9,.ref 0 0 i.1 1),(36,.data (.int .i64 i.1))],hpL [(0,.blk true ((wrsteps sd snap i.1).map D.data))],1,0,61⟩) (fun i=>16 - i.1) ⟨0,by omega⟩ [] (rhoL [(0,none)]) ?_ ?_
   · apply ren_lists <;> simp -implicitDefEqProofs [go_sem,wrsteps]
   · rintro ⟨i,hi⟩
     by_cases hlt:i < 16
     · simp -implicitDefEqProofs (disch:=omega) [go_sem]
       refine .inl (call_data (snapAt_pc Γ sd hs01) (by simp [go_sem]) ?_)
       have e1:((i:Int) * 128).toNat = i * 128:=by omega
       have e2:(((i:Int) + 1) * 128).toNat = (i + 1) * 128:=by omega
       simp -implicitDefEqProofs (disch:=omega) [go_sem,hs,e1,e2]
       refine .inl (call_data (writing_pc Γ (2 + sd * 16 + i) (chunk snap i)) (by simp [go_sem,chunk]) ?_)
       have hwl:=wrsteps_length sd snap i
       simp -implicitDefEqProofs (disch:=omega) [go_sem,writingD,hwl]
       refine side (by kernel_rfl) ?_
       simp -implicitDefEqProofs (disch:=omega) [go_sem]
       refine next_ren ⟨i + 1,by omega⟩ (by simp only;omega) [] (rhoL [(0,some 18)]) ?_
       apply ren_lists <;> simp -implicitDefEqProofs [go_sem,wrsteps]
       exact renCells_plain (by simp [writingD]) (by rw [List.all_append,plain_map];rfl)
     · have:i = 16:=by omega
       subst this
       simp -implicitDefEqProofs (disch:=omega) [go_sem]
       refine .inl (call_data (writing_pc Γ sd head) (by simp [go_sem]) ?_)
       have hwl:=wrsteps_length sd snap 16
       generalize hrow:wrsteps sd snap 16 = row at *
       simp -implicitDefEqProofs (disch:=omega) [go_sem,writingD,hwl,Tryz.f47]
       have hc1:∀ x∈stepsD sd snap head,x.cells = [x]:=stepsD_cells sd snap head
       exact ⟨_,⟨_,rfl,frz_ref (rw:=true) (cells:=(stepsD sd snap head).map D.data) (by simp [go_sem,stepsD,hrow,flushD,writingD]) (.inl rfl) (by simp [stepsD,hrow,hwl]) (fun x hx=>by rw [hc1 x hx];rfl) (by rw [flat_single hc1])⟩,rfl⟩
end
end Bk
namespace Bk
def wroteTo (x:Disk) (a:Int) (b:List Nat):Disk:=⟨x.s,x.w++[(a,b)]⟩
def flushTo (x:Disk):Disk:=⟨flush x.s x.w,[]⟩
/-- A disk behind so many steps. -/
def laid (x:Disk) (side:Int) (snap head:List Nat):Nat->Disk
 | 0=>x
 | i + 1=>if i < 16 then wroteTo (laid x side snap head i) (2 + side * 16 + i) (chunk snap i) else if i = 17 then wroteTo (laid x side snap head i) side head else flushTo (laid x side snap head i)
def disksL (Y:Nat->Disk) (n:Nat):List Data:=(List.range n).map fun i=>(Y i).d
theorem disksL_length (Y:Nat->Disk) (n:Nat):(disksL Y n).length = n:=by simp [disksL]
theorem disksL_succ (Y:Nat->Disk) (n:Nat):disksL Y (n + 1) = disksL Y n++[(Y n).d]:=by simp [disksL,List.range_succ]
theorem disksL_cells (Y:Nat->Disk) (n:Nat):∀ x∈disksL Y n,x.cells.length = 2:=fun x hx=>by
 obtain ⟨i,_,rfl⟩:=List.mem_map.1 hx
 rfl
theorem disksL_get (Y:Nat->Disk) (n i:Nat) (h:i < n):(disksL Y n)[i]? = some (Y i).d:=by simp [disksL,h]
theorem wroteTo_ok {x:Disk} {n:Nat} {a:Int} {b:List Nat} (h:Dok x.s x.w) (hn:x.w.length≤n) (hn2:n < 200) (ha:0≤a∧a < 64) (hb:b.length = 128) (hl:∀ c∈b,c < 256):Dok (wroteTo x a b).s (wroteTo x a b).w where
 n:=h.n
 len:=h.len
 lt:=h.lt
 wlen:=fun p hp=>by
  rcases List.mem_append.1 hp with q | q
  · exact h.wlen p q
  · rw [List.mem_singleton.1 q];exact hb
 wat:=fun p hp=>by
  rcases List.mem_append.1 hp with q | q
  · exact h.wat p q
  · rw [List.mem_singleton.1 q];exact ha
 wlt:=fun p hp=>by
  rcases List.mem_append.1 hp with q | q
  · exact h.wlt p q
  · rw [List.mem_singleton.1 q];exact hl
 wn:=by simp [wroteTo];omega
theorem chunk_length {snap:List Nat} (hs:snap.length = 2048) {i:Nat} (hi:i < 16):(chunk snap i).length = 128:=by
 simp [chunk,hs];omega
theorem chunk_lt {snap:List Nat} (hl:∀ c∈snap,c < 256) (i:Nat):∀ c∈chunk snap i,c < 256:=fun c hc=>hl c (List.mem_of_mem_take (List.mem_of_mem_drop hc))
structure Snap (side:Int) (snap head:List Nat):Prop where
 side:0≤side∧side≤1
 len:snap.length = 2048
 lt:∀ c∈snap,c < 256
 hlen:head.length = 128
 hlt:∀ c∈head,c < 256
theorem laid_ok {x:Disk} {side:Int} {snap head:List Nat} (h:Dok x.s x.w) (hn:x.w.length≤100) (hs:Snap side snap head):∀ i,i≤19->Dok (laid x side snap head i).s (laid x side snap head i).w∧(laid x side snap head i).w.length≤100 + i
 | 0,_=>⟨h,hn⟩
 | i + 1,hi=>by
   obtain ⟨h1,h2⟩:=laid_ok h hn hs i (by omega)
   have hsd:=hs.side
   unfold laid
   by_cases c1:i < 16
   · rw [if_pos c1]
     exact ⟨wroteTo_ok h1 h2 (by omega) (by omega) (chunk_length hs.len c1) (chunk_lt hs.lt i),by simp [wroteTo];omega⟩
   · rw [if_neg c1]
     by_cases c2:i = 17
     · rw [if_pos c2]
       exact ⟨wroteTo_ok h1 h2 (by omega) (by omega) hs.hlen hs.hlt,by simp [wroteTo];omega⟩
     · rw [if_neg c2]
       exact ⟨flush_ok h1 fun p hp=>hp,by simp [flushTo]⟩
theorem wrsteps_get (side:Int) (snap:List Nat):∀ n i,i < n->(wrsteps side snap n)[i]? = some (writingD (2 + side * 16 + i) (chunk snap i))
 | 0,i,h=>absurd h (Nat.not_lt_zero _)
 | n + 1,i,h=>by
   unfold wrsteps
   by_cases hi:i < n
   · rw [List.getElem?_append_left (by rw [wrsteps_length];exact hi)]
     exact wrsteps_get side snap n i hi
   · have:i = n:=by omega
     subst this
     rw [List.getElem?_append_right (by rw [wrsteps_length];exact Nat.le_refl _),wrsteps_length]
     simp
theorem stepsD_length (side:Int) (snap head:List Nat):(stepsD side snap head).length = 19:=by simp [stepsD,wrsteps_length]
section
variable (Γ:Nat->Option (List Data))
theorem step_pc {x:Disk} {a:Int} {b:List Nat} (h:Dok x.s x.w) (ha:0≤a∧a < 64) (hb:b.length = 128):PC Tryz.prog Γ 134 (x.d :: [.pc [.int .i64 a],.pc [.sl 1 (bys b)]]) (wroteTo x a b).d:=by
 have:=write1_pc Γ x.s x.w h a b (by omega)
 unfold put1 at this
 rw [if_pos (by simp [wrOk,ha,hb])] at this
 exact this
theorem laid_it (x:Disk) (side:Int) (snap head:List Nat) (h:Dok x.s x.w) (hn:x.w.length≤100) (hs:Snap side snap head):IT Tryz.prog Γ 92 [.pc x.d.cells,.pc [.sl 1 (stepsD side snap head)]] (disksL (laid x side snap head) 20):=by
 have hsd:=hs.side
 refine laying_it Γ (laid x side snap head) (disksL (laid x side snap head) 20) (stepsD side snap head) (by rw [stepsD_length];omega) (by rw [stepsD_length,disksL_length]) (fun i hi=>?_) h (fun i f hget=>?_)
 · rw [stepsD_length] at hi
   rw [disksL_get _ _ _ (by omega)];rfl
 · have hi':i < 19:=by
    have:=(List.getElem?_eq_some_iff.1 hget).1
    rw [stepsD_length] at this;exact this
   obtain ⟨h1,h2⟩:=laid_ok h hn hs i (by omega)
   have hl:(laid x side snap head (i + 1)) = if i < 16 then wroteTo (laid x side snap head i) (2 + side * 16 + i) (chunk snap i) else if i = 17 then wroteTo (laid x side snap head i) side head else flushTo (laid x side snap head i):=rfl
   rw [hl]
   unfold stepsD at hget
   by_cases c1:i < 16
   · rw [if_pos c1]
     rw [List.getElem?_append_left (by rw [wrsteps_length];exact c1),wrsteps_get side snap 16 i c1] at hget
     cases hget
     have hcl:=chunk_length hs.len c1
     exact ⟨_,_,rfl,step_pc Γ h1 (by omega) hcl⟩
   · rw [if_neg c1]
     rw [List.getElem?_append_right (by rw [wrsteps_length];omega),wrsteps_length] at hget
     by_cases c2:i = 17
     · rw [if_pos c2]
       subst c2
       simp at hget
       subst hget
       exact ⟨_,_,rfl,step_pc Γ h1 (by omega) hs.hlen⟩
     · rw [if_neg c2]
       have hf:f = flushD:=by
        have:i = 16 ∨ i = 18:=by omega
        rcases this with rfl | rfl <;> (simp at hget;exact hget.symm)
       subst hf
       exact ⟨_,_,rfl,flushes_pc Γ _ _ h1⟩
set_option maxHeartbeats 2000000 in
theorem steps_pc (t:Sto) (hd:Dok t.x.s t.x.w) (hn:t.x.w.length≤100) (snap head:List Nat) (side:Int) (hs:Snap side snap head) (cs:PC Tryz.prog Γ 47 [sto t] (.tup [.sl 1 (stepsD side snap head),.int .i64 0])) :
 PC Tryz.prog Γ 20 [sto t] (.sl 2 (disksL (laid t.x side snap head) 20)):=by
 refine pc_rng mixed Tryz.func20 rfl (fun args w=>Tryz.call20 args w) ?_
 have hit:=laid_it Γ t.x side snap head hd hn hs
 have cl:=laying_pc Γ t.x.s t.x.w (stepsD side snap head)
 unfold sto bookL at cs ⊢
 simp -implicitDefEqProofs (disch:=omega) [go_sem]
 refine .inl (call_data cs (by simp [go_sem]) ?_)
 simp -implicitDefEqProofs (disch:=omega) [go_sem]
 refine .inl (call_data cl (by simp [go_sem,dk]) ?_)
 simp -implicitDefEqProofs (disch:=omega) [go_sem]
 obtain ⟨Y,hY⟩:∃ Y,laid t.x side snap head = Y:=⟨_,rfl⟩
 rw [hY] at hit ⊢
 refine rng_ren (fun k=>⟨envL [(5,.ptr 0 0)],hpL [(0,.blk true [.ref 1 0 k 2]),(1,.blk true ((flat (disksL Y k)).map D.data))],2,0,22⟩) hit (by simp [go_sem,layingD,Disk.d,dk]) (by simp) [] (rhoL [(0,some 9),(1,none)]) ?_ ?_ ?_ ?_
 · apply ren_lists <;> simp -implicitDefEqProofs [go_sem,disksL,flat]
 · intro k
   exact ⟨rfl,rfl,rfl⟩
 · intro k y hy
   have hk:k < 20:=by
    have:=(List.getElem?_eq_some_iff.1 hy).1
    rw [disksL_length] at this;exact this
   rw [disksL_get Y 20 k hk] at hy
   cases hy
   have hfl:(flat (disksL Y k)).length = k * 2:=by rw [flat_length (disksL_cells Y k),disksL_length]
   simp -implicitDefEqProofs (disch:=omega) [go_sem,Disk.d,dk,hfl]
   refine round_ren [] (rhoL [(0,some 0),(1,some 7)]) ?_
   apply ren_lists <;> simp -implicitDefEqProofs [go_sem,disksL_succ]
   exact renCells_plain (by simp [flat,Disk.d,dk,Data.cells]) (plain_map _)
 · simp -implicitDefEqProofs (disch:=omega) [go_sem,disksL_length,Tryz.f20]
   exact ⟨_,⟨_,rfl,frz_ref (rw:=true) (cells:=(flat (disksL Y 20)).map D.data) (by simp [go_sem]) (.inl rfl) (disksL_length Y 20) (disksL_cells Y 20) rfl⟩,rfl⟩
end
end Bk
namespace Bk
section
variable (Γ:Nat->Option (List Data))
theorem be_cons:∀ k n:Nat,be (k + 1) n = (n / 256 ^ k % 256) :: be k n
 | 0,n=>by simp [be]
 | k + 1,n=>by
   rw [be,be_cons k (n / 256),be]
   rw [Nat.div_div_eq_div_mul,Nat.pow_succ,Nat.mul_comm 256]
   rfl
set_option maxHeartbeats 4000000 in
theorem rput_dc (q:List Nat) (n k:Nat) (hq:q.length≤1000000) (hk:k≤8) (hn:n < 18446744073709551616):DC Tryz.prog Γ 85 [.ref 0 0 q.length 1,.data (.int .u64 n),.data (.int .i64 k)] (hpL [(0,.blk true ((bys q).map D.data))]) 1
 (fun d H' _=>∃ g m c,d = .ref g 0 m 1∧H' g = .blk true (c.map D.data)∧m = q.length + k∧c = bys (q++be k n)):=by
 refine dc_by mixed Tryz.func85 rfl (fun args w=>Tryz.call85 args w) ?_
 simp -implicitDefEqProofs (disch:=omega) [go_sem]
 refine loop_ren (σ:={ i:Nat // i≤k }) (fun i=>⟨envL [(0,.ref 0 0 q.length 1),(1,.data (.int .u64 (n / 256 ^ i.1:Nat))),(2,.data (.int .i64 k)),(7,.ref 1 0 i.1 1),(8,.data (.int .i64 i.1))],hpL [(0,.blk true ((bys q).map D.data)),(1,.blk true ((bys (be i.1 n)).map D.data))],2,1,25⟩) (fun i=>k - i.1) ⟨0,by omega⟩ [] (rhoL [(1,none)]) ?_ ?_
 · apply ren_lists <;> simp -implicitDefEqProofs [go_sem,be]
 rintro ⟨i,hi⟩
 have hbl:=be_length i n
 by_cases h:i < k
 · have hc:=be_cons i n
   have hd:n / 256 ^ (i + 1) = n / 256 ^ i / 256:=by rw [Nat.div_div_eq_div_mul,Nat.pow_succ]
   have hle:n / 256 ^ i≤n:=Nat.div_le_self _ _
   generalize n / 256 ^ i = y at *
   generalize be i n = p at *
   simp -implicitDefEqProofs (disch:=omega) [go_sem]
   refine next_ren ⟨i + 1,by omega⟩ (by simp only;omega) [] (rhoL [(1,some 10)]) ?_
   apply ren_lists <;> simp -implicitDefEqProofs [go_sem,hc,hd]
   · omega
   · rw [List.take_of_length_le (by omega)]
     exact renCells_plain rfl (by simp [plainD])
 have:i = k:=by omega
 subst this
 simp -implicitDefEqProofs (disch:=omega) [go_sem,Tryz.f85]
 rw [List.take_of_length_le (by omega)]
/-- Bytes at hand: a number is put behind them. -/
theorem put_given {q:List Nat} {n k:Nat} (hq:q.length≤1000000) (hk:k≤8) (hn:n < 18446744073709551616) {H:Nat->Blk} {nx g:Nat} {K:D->(Nat->Blk)->Nat->Prop} {m:Nat} (hm:m = q.length) (hg:H g = .blk true ((bys q).map D.data)) (hgn:g < nx)
 (h:K (.ref nx 0 (q.length + k) 1) (Hp.upd H [(g,.dead),(nx,.blk true ((bys (q++be k n)).map D.data))]) (nx + 1)):DC Tryz.prog Γ 85 [.ref g 0 m 1,.data (.int .u64 n),.data (.int .i64 k)] H nx K:=by
 subst hm
 exact dc_given (cells:=bys q) (K0:=fun m c=>m = q.length + k∧c = bys (q++be k n)) (rput_dc Γ q n k hq hk hn) hg hgn (by simp) (fun m c ⟨h3,h4⟩=>by subst h3;subst h4;exact h)
set_option maxHeartbeats 4000000 in
theorem rfilled_dc (q:List Nat) (n:Nat) (hq:q.length≤n) (hn:n≤1000000):DC Tryz.prog Γ 87 [.ref 0 0 q.length 1,.data (.int .i64 n)] (hpL [(0,.blk true ((bys q).map D.data))]) 1
 (fun d H' _=>∃ g m c,d = .ref g 0 m 1∧H' g = .blk true (c.map D.data)∧m = n∧c = bys (padB n q)):=by
 refine dc_by mixed Tryz.func87 rfl (fun args w=>Tryz.call87 args w) ?_
 simp -implicitDefEqProofs (disch:=omega) [go_sem,Tryz.f87]
 rfl
theorem str_bys (u:ByteArray):(u.toList.map fun b=>Data.int .u8 b.toNat) = bys (strB u):=by
 unfold bys strB
 rw [ByteArray.toList_eq,List.map_map]
 rfl
set_option maxHeartbeats 4000000 in
theorem rnamed_dc (q:List Nat) (u:ByteArray) (hq:q.length≤1000000) (hu:u.size≤16):DC Tryz.prog Γ 86 [.ref 0 0 q.length 1,.data (.str u)] (hpL [(0,.blk true ((bys q).map D.data))]) 1
 (fun d H' _=>∃ g m c,d = .ref g 0 m 1∧H' g = .blk true (c.map D.data)∧m = q.length + 17∧c = bys (q++nameB u)):=by
 refine dc_by mixed Tryz.func86 rfl (fun args w=>Tryz.call86 args w) ?_
 have e1:((u.size:Int) % 256) = u.size:=by omega
 have hl:=strB_length u
 simp -implicitDefEqProofs (disch:=omega) [go_sem,Tryz.f86,str_bys,hl,e1]
 refine ⟨18,⟨rfl,by omega⟩,?_⟩
 rw [if_pos rfl]
 show Blk.blk true ((bys q).map D.data++(bys (nameB u)).map D.data) = _
 simp [bys]
theorem filled_given {q:List Nat} {n:Nat} (hq:q.length≤n) (hn:n≤1000000) {H:Nat->Blk} {nx g:Nat} {K:D->(Nat->Blk)->Nat->Prop} {m:Nat} (hm:m = q.length) (hg:H g = .blk true ((bys q).map D.data)) (hgn:g < nx)
 (h:K (.ref nx 0 n 1) (Hp.upd H [(g,.dead),(nx,.blk true ((bys (padB n q)).map D.data))]) (nx + 1)):DC Tryz.prog Γ 87 [.ref g 0 m 1,.data (.int .i64 n)] H nx K:=by
 subst hm
 exact dc_given (cells:=bys q) (K0:=fun m c=>m = n∧c = bys (padB n q)) (rfilled_dc Γ q n hq hn) hg hgn (by simp) (fun m c ⟨h3,h4⟩=>by subst h3;subst h4;exact h)
theorem named_given {q:List Nat} {u:ByteArray} (hq:q.length≤1000000) (hu:u.size≤16) {H:Nat->Blk} {nx g:Nat} {K:D->(Nat->Blk)->Nat->Prop} {m:Nat} (hm:m = q.length) (hg:H g = .blk true ((bys q).map D.data)) (hgn:g < nx)
 (h:K (.ref nx 0 (q.length + 17) 1) (Hp.upd H [(g,.dead),(nx,.blk true ((bys (q++nameB u)).map D.data))]) (nx + 1)):DC Tryz.prog Γ 86 [.ref g 0 m 1,.data (.str u)] H nx K:=by
 subst hm
 exact dc_given (cells:=bys q) (K0:=fun m c=>m = q.length + 17∧c = bys (q++nameB u)) (rnamed_dc Γ q u hq hu) hg hgn (by simp) (fun m c ⟨h3,h4⟩=>by subst h3;subst h4;exact h)
set_option maxHeartbeats 4000000 in
theorem rheadBytes_pc (g:Int):PC Tryz.prog Γ 51 [.int .i64 g] (if 1≤g∧g≤1000000000 then .tup [.sl 1 (bys (padB 128 (headB g.toNat))),.int .i64 0] else .tup [.sl 1 [],.int .i64 1]):=by
 refine pc_by mixed Tryz.func51 rfl (fun args w=>Tryz.call51 args w) ?_
 by_cases h1:g < 1
 · rw [if_neg (by omega)]
   simp -implicitDefEqProofs (disch:=omega) [go_sem,h1,Tryz.f51]
   exact ⟨_,⟨_,rfl,.emp ..⟩,rfl⟩
 by_cases h2:1000000000 < g
 · rw [if_neg (by omega)]
   simp -implicitDefEqProofs (disch:=omega) [go_sem,h1,h2,Tryz.f51]
   exact ⟨_,⟨_,rfl,.emp ..⟩,rfl⟩
 rw [if_pos (by omega)]
 obtain ⟨n,rfl⟩:∃ n:Nat,g = n:=⟨g.toNat,by omega⟩
 have e1:((n:Int) % 18446744073709551616) = n:=by omega
 simp -implicitDefEqProofs (disch:=omega) [go_sem,h1,h2,e1]
 refine .inr (put_given Γ (q:=[72,68]) (k:=4) (by simp) (by omega) (by omega) rfl (by simp [go_sem,bys]) (by simp) ?_)
 simp -implicitDefEqProofs (disch:=omega) [go_sem]
 refine .inr (filled_given Γ (q:=[72,68]++be 4 n) (n:=128) (by simp [be_length]) (by omega) (by simp [be_length]) (by simp [go_sem]) (by simp) ?_)
 simp -implicitDefEqProofs (disch:=omega) [go_sem,Tryz.f51]
 exact ⟨_,⟨_,rfl,frz_bys (l:=padB 128 (headB n)) rfl (.inl rfl) (padB_length (by simp [headB,be_length]))⟩,rfl⟩
end
end Bk
theorem samePut_pc (Γ:Nat->Option (List Data)) (p q:Wr) (hp:∀ x∈p.2,x < 256) (hq:∀ x∈q.2,x < 256):PC Tryz.prog Γ 97 [wr p,wr q] (.bool (decide (p = q))):=by
 refine pc_by mixed Tryz.func97 rfl (fun args w=>Tryz.call97 args w) ?_
 have he:=equal_pc Γ p.2 q.2 hp hq
 obtain ⟨p1,p2⟩:=p
 obtain ⟨q1,q2⟩:=q
 by_cases h:p1 = q1
 · simp -implicitDefEqProofs (disch:=omega) [go_sem,wr,Tryz.f97]
   refine .inl (call_data he (by simp [go_sem]) ?_)
   simp -implicitDefEqProofs (disch:=omega) [go_sem,h,Tryz.f97]
 · simp -implicitDefEqProofs (disch:=omega) [go_sem,wr,h,Tryz.f97]
theorem eqf_end {α:Type} {a b:List α} (hl:a.length = b.length) (h:∀ j,j < a.length->a[j]? = b[j]?):a = b:=List.ext_getElem? fun j=>by
 by_cases hj:j < a.length
 · exact h j hj
 · rw [List.getElem?_eq_none (by omega),List.getElem?_eq_none (by omega)]
set_option maxRecDepth 100000 in
theorem eqfSecs_pc (Γ:Nat->Option (List Data)) (a b:List (List Nat)) (ha:∀ c∈a,∀ x∈c,x < 256) (hb:∀ c∈b,∀ x∈c,x < 256) (la:a.length≤1000000) (lb:b.length≤1000000) :
 PC Tryz.prog Γ 94 [.sl 1 (secs a),.sl 1 (secs b),.fn 95 []] (.bool (decide (a = b))):=by
 refine pc_by mixed Tryz.func94 rfl (fun args w=>Tryz.call94 args w) ?_
 by_cases hl:a.length = b.length
 · simp -implicitDefEqProofs (disch:=omega) [go_sem]
   refine loop_ren (σ:={ i:Nat // i≤a.length∧∀ j,j < i->a[j]? = b[j]? }) (fun i=>⟨envL [(1,.data (.sl 1 (secs b))),(2,.data (.fn 95 [])),(15,.data (.sl 1 (secs a))),(16,.data (.int .i64 a.length)),(17,.data (.int .i64 i.1))],hpL [],0,0,32⟩) (fun i=>a.length - i.1) ⟨0,by omega,by omega⟩ [] (rhoL []) ?_ ?_
   · apply ren_lists <;> simp -implicitDefEqProofs [go_sem]
   · rintro ⟨i,hi,heq⟩
     by_cases h:i < a.length
     · have he:=equal_pc Γ a[i] b[i] (ha _ (List.getElem_mem _)) (hb _ (List.getElem_mem _))
       simp -implicitDefEqProofs (disch:=omega) [go_sem,sec]
       refine .inl (call_data he (by simp [go_sem]) ?_)
       by_cases hab:a[i] = b[i]
       · simp -implicitDefEqProofs (disch:=omega) [go_sem,hab]
         refine next_ren ⟨i + 1,by omega,fun j hj=>?_⟩ (by simp only;omega) [] (rhoL []) ?_
         · by_cases e:j = i
           · subst e
             rw [List.getElem?_eq_getElem h,List.getElem?_eq_getElem (by omega),hab]
           · exact heq j (by omega)
         apply ren_lists <;> simp -implicitDefEqProofs [go_sem]
       · have hne:a≠b:=fun e=>hab (by subst e;rfl)
         simp -implicitDefEqProofs (disch:=omega) [go_sem,hab,hne,Tryz.f94]
     · have:i = a.length:=by omega
       subst this
       have hab:=eqf_end hl heq
       simp -implicitDefEqProofs (disch:=omega) [go_sem,hab,Tryz.f94]
 · have hne:a≠b:=fun e=>hl (by rw [e])
   simp -implicitDefEqProofs (disch:=omega) [go_sem,hne,Tryz.f94]
set_option maxRecDepth 100000 in
theorem eqfWrs_pc (Γ:Nat->Option (List Data)) (a b:List Wr) (ha:∀ c∈a,∀ x∈c.2,x < 256) (hb:∀ c∈b,∀ x∈c.2,x < 256) (la:a.length≤1000000) (lb:b.length≤1000000) :
 PC Tryz.prog Γ 96 [.sl 2 (wrs a),.sl 2 (wrs b),.fn 97 []] (.bool (decide (a = b))):=by
 refine pc_by mixed Tryz.func96 rfl (fun args w=>Tryz.call96 args w) ?_
 by_cases hl:a.length = b.length
 · simp -implicitDefEqProofs (disch:=omega) [go_sem]
   refine loop_ren (σ:={ i:Nat // i≤a.length∧∀ j,j < i->a[j]? = b[j]? }) (fun i=>⟨envL [(1,.data (.sl 2 (wrs b))),(2,.data (.fn 97 [])),(15,.data (.sl 2 (wrs a))),(16,.data (.int .i64 a.length)),(17,.data (.int .i64 i.1))],hpL [],0,0,32⟩) (fun i=>a.length - i.1) ⟨0,by omega,by omega⟩ [] (rhoL []) ?_ ?_
   · apply ren_lists <;> simp -implicitDefEqProofs [go_sem]
   · rintro ⟨i,hi,heq⟩
     by_cases h:i < a.length
     · have he:=samePut_pc Γ a[i] b[i] (ha _ (List.getElem_mem _)) (hb _ (List.getElem_mem _))
       simp -implicitDefEqProofs (disch:=omega) [go_sem]
       refine .inl (call_data he (by simp [go_sem,wr]) ?_)
       by_cases hab:a[i] = b[i]
       · simp -implicitDefEqProofs (disch:=omega) [go_sem,hab]
         refine next_ren ⟨i + 1,by omega,fun j hj=>?_⟩ (by simp only;omega) [] (rhoL []) ?_
         · by_cases e:j = i
           · subst e
             rw [List.getElem?_eq_getElem h,List.getElem?_eq_getElem (by omega),hab]
           · exact heq j (by omega)
         apply ren_lists <;> simp -implicitDefEqProofs [go_sem]
       · have hne:a≠b:=fun e=>hab (by subst e;rfl)
         simp -implicitDefEqProofs (disch:=omega) [go_sem,hab,hne,Tryz.f96]
     · have:i = a.length:=by omega
       subst this
       have hab:=eqf_end hl heq
       simp -implicitDefEqProofs (disch:=omega) [go_sem,hab,Tryz.f96]
 · have hne:a≠b:=fun e=>hl (by rw [e])
   simp -implicitDefEqProofs (disch:=omega) [go_sem,hne,Tryz.f96]
theorem same_pc (Γ:Nat->Option (List Data)) (s t:List (List Nat)) (w v:List Wr) (h:Dok s w) (k:Dok t v):PC Tryz.prog Γ 55 [dk s w,dk t v] (.bool (decide (s = t∧w = v))):=by
 refine pc_by mixed Tryz.func55 rfl (fun args w=>Tryz.call55 args w) ?_
 have hn:=h.n
 have kn:=k.n
 have hwn:=h.wn
 have kwn:=k.wn
 have h1:=eqfSecs_pc Γ s t h.lt k.lt (by omega) (by omega)
 have h2:=eqfWrs_pc Γ w v h.wlt k.wlt (by omega) (by omega)
 simp -implicitDefEqProofs (disch:=omega) [go_sem,dk]
 refine .inl (call_data h1 (by simp [go_sem]) ?_)
 by_cases e:s = t
 · simp -implicitDefEqProofs (disch:=omega) [go_sem,e]
   refine .inl (call_data h2 (by simp [go_sem]) ?_)
   simp -implicitDefEqProofs (disch:=omega) [go_sem,e,Tryz.f55]
 · simp -implicitDefEqProofs (disch:=omega) [go_sem,e,Tryz.f55]
def Sm (s:List (List Nat)) (w:List Wr):Prop:=s.length≤70∧w.length≤70∧(∀ b∈s,b.length≤200)∧∀ p∈w,p.2.length≤200
instance (s:List (List Nat)) (w:List Wr):Decidable (Sm s w):=by unfold Sm;infer_instance
def Rt (s:List (List Nat)) (w:List Wr):Prop:=s.length = 64∧(∀ b∈s,b.length = 128)∧∀ p∈w,0≤p.1∧p.1≤63∧p.2.length = 128
instance (s:List (List Nat)) (w:List Wr):Decidable (Rt s w):=by unfold Rt;infer_instance
set_option maxRecDepth 100000 in
theorem rsmall_pc (Γ:Nat->Option (List Data)) (s:List (List Nat)) (w:List Wr) (hs:s.length≤140737488351232) (hw:w.length≤140737488351232):PC Tryz.prog Γ 26 [dk s w] (.bool (decide (Sm s w))):=by
 refine pc_by mixed Tryz.func26 rfl (fun args w=>Tryz.call26 args w) ?_
 by_cases h1:s.length≤70
 · by_cases h2:w.length≤70
   · simp -implicitDefEqProofs (disch:=omega) [go_sem,dk]
     refine loop_ren (σ:={ i:Nat // i≤s.length∧∀ j (h:j < s.length),j < i->s[j].length≤200 }) (fun i=>⟨envL [(1,.ptr 0 0),(3,.data (.int .i64 i.1))],hpL [(0,.blk true [.data (.sl 1 (secs s)),.data (.sl 2 (wrs w))])],1,0,44⟩) (fun i=>s.length - i.1) ⟨0,by omega,by omega⟩ [] (rhoL []) ?_ ?_
     · apply ren_lists <;> simp -implicitDefEqProofs [go_sem]
     · rintro ⟨i,hi,hall⟩
       by_cases h:i < s.length
       · by_cases hl:s[i].length≤200
         · simp -implicitDefEqProofs (disch:=omega) [go_sem,sec]
           refine next_ren ⟨i + 1,by omega,fun j hj hji=>?_⟩ (by simp only;omega) [] (rhoL []) ?_
           · by_cases e:j = i
             · subst e;exact hl
             · exact hall j hj (by omega)
           apply ren_lists <;> simp -implicitDefEqProofs [go_sem]
         · have hno:¬ Sm s w:=fun hk=>hl (hk.2.2.1 _ (List.getElem_mem h))
           simp -implicitDefEqProofs (disch:=omega) [go_sem,sec,hno,Tryz.f26]
       · have hsl:∀ b∈s,b.length≤200:=fun b hb=>by
          obtain ⟨j,hj,rfl⟩:=List.getElem_of_mem hb
          exact hall j hj (by omega)
         simp -implicitDefEqProofs (disch:=omega) [go_sem]
         refine loop_ren (σ:={ i:Nat // i≤w.length∧∀ j (h:j < w.length),j < i->w[j].2.length≤200 }) (fun i=>⟨envL [(1,.ptr 0 0),(4,.data (.int .i64 i.1))],hpL [(0,.blk true [.data (.sl 1 (secs s)),.data (.sl 2 (wrs w))])],1,0,44⟩) (fun i=>w.length - i.1) ⟨0,by omega,by omega⟩ [] (rhoL []) ?_ ?_
         · apply ren_lists <;> simp -implicitDefEqProofs [go_sem]
         · rintro ⟨i,hi,hall⟩
           by_cases h:i < w.length
           · by_cases hl:w[i].2.length≤200
             · simp -implicitDefEqProofs (disch:=omega) [go_sem]
               refine next_ren ⟨i + 1,by omega,fun j hj hji=>?_⟩ (by simp only;omega) [] (rhoL []) ?_
               · by_cases e:j = i
                 · subst e;exact hl
                 · exact hall j hj (by omega)
               apply ren_lists <;> simp -implicitDefEqProofs [go_sem]
             · have hno:¬ Sm s w:=fun hk=>hl (hk.2.2.2 _ (List.getElem_mem h))
               simp -implicitDefEqProofs (disch:=omega) [go_sem,hno,Tryz.f26]
           · have hyes:Sm s w:=⟨h1,h2,hsl,fun p hp=>by
              obtain ⟨j,hj,rfl⟩:=List.getElem_of_mem hp
              exact hall j hj (by omega)⟩
             simp -implicitDefEqProofs (disch:=omega) [go_sem,hyes,Tryz.f26]
   · have hno:¬ Sm s w:=fun hk=>h2 hk.2.1
     simp -implicitDefEqProofs (disch:=omega) [go_sem,dk,hno,Tryz.f26]
 · have hno:¬ Sm s w:=fun hk=>h1 hk.1
   simp -implicitDefEqProofs (disch:=omega) [go_sem,dk,hno,Tryz.f26]
set_option maxRecDepth 100000 in
theorem rright_pc (Γ:Nat->Option (List Data)) (s:List (List Nat)) (w:List Wr) (hs:s.length≤140737488351232) (hw:w.length≤140737488351232):PC Tryz.prog Γ 27 [dk s w] (.bool (decide (Rt s w))):=by
 refine pc_by mixed Tryz.func27 rfl (fun args w=>Tryz.call27 args w) ?_
 by_cases h1:s.length = 64
 · simp -implicitDefEqProofs (disch:=omega) [go_sem,dk]
   refine loop_ren (σ:={ i:Nat // i≤s.length∧∀ j (h:j < s.length),j < i->s[j].length = 128 }) (fun i=>⟨envL [(1,.ptr 0 0),(3,.data (.int .i64 i.1))],hpL [(0,.blk true [.data (.sl 1 (secs s)),.data (.sl 2 (wrs w))])],1,0,53⟩) (fun i=>s.length - i.1) ⟨0,by omega,by omega⟩ [] (rhoL []) ?_ ?_
   · apply ren_lists <;> simp -implicitDefEqProofs [go_sem]
   · rintro ⟨i,hi,hall⟩
     by_cases h:i < s.length
     · by_cases hl:s[i].length = 128
       · simp -implicitDefEqProofs (disch:=omega) [go_sem,sec]
         refine next_ren ⟨i + 1,by omega,fun j hj hji=>?_⟩ (by simp only;omega) [] (rhoL []) ?_
         · by_cases e:j = i
           · subst e;exact hl
           · exact hall j hj (by omega)
         apply ren_lists <;> simp -implicitDefEqProofs [go_sem]
       · have hno:¬ Rt s w:=fun hk=>hl (hk.2.1 _ (List.getElem_mem h))
         simp -implicitDefEqProofs (disch:=omega) [go_sem,sec,hno,Tryz.f27]
     · have hsl:∀ b∈s,b.length = 128:=fun b hb=>by
        obtain ⟨j,hj,rfl⟩:=List.getElem_of_mem hb
        exact hall j hj (by omega)
       simp -implicitDefEqProofs (disch:=omega) [go_sem]
       refine loop_ren (σ:={ i:Nat // i≤w.length∧∀ j (h:j < w.length),j < i->0≤w[j].1∧w[j].1≤63∧w[j].2.length = 128 }) (fun i=>⟨envL [(1,.ptr 0 0),(4,.data (.int .i64 i.1))],hpL [(0,.blk true [.data (.sl 1 (secs s)),.data (.sl 2 (wrs w))])],1,0,53⟩) (fun i=>w.length - i.1) ⟨0,by omega,by omega⟩ [] (rhoL []) ?_ ?_
       · apply ren_lists <;> simp -implicitDefEqProofs [go_sem]
       · rintro ⟨i,hi,hall⟩
         by_cases h:i < w.length
         · by_cases hl:0≤w[i].1∧w[i].1≤63∧w[i].2.length = 128
           · obtain ⟨l1,l2,l3⟩:=hl
             simp -implicitDefEqProofs (disch:=omega) [go_sem]
             refine next_ren ⟨i + 1,by omega,fun j hj hji=>?_⟩ (by simp only;omega) [] (rhoL []) ?_
             · by_cases e:j = i
               · subst e;exact ⟨l1,l2,l3⟩
               · exact hall j hj (by omega)
             apply ren_lists <;> simp -implicitDefEqProofs [go_sem]
           · have hno:¬ Rt s w:=fun hk=>hl (hk.2.2 _ (List.getElem_mem h))
             by_cases l1:0≤w[i].1
             · by_cases l2:w[i].1≤63
               · have l3:¬ w[i].2.length = 128:=fun l3=>hl ⟨l1,l2,l3⟩
                 simp -implicitDefEqProofs (disch:=omega) [go_sem,hno,Tryz.f27]
               · simp -implicitDefEqProofs (disch:=omega) [go_sem,hno,Tryz.f27]
             · simp -implicitDefEqProofs (disch:=omega) [go_sem,hno,Tryz.f27]
         · have hyes:Rt s w:=⟨h1,hsl,fun p hp=>by
            obtain ⟨j,hj,rfl⟩:=List.getElem_of_mem hp
            exact hall j hj (by omega)⟩
           simp -implicitDefEqProofs (disch:=omega) [go_sem,hyes,Tryz.f27]
 · have hno:¬ Rt s w:=fun hk=>h1 hk.1
   simp -implicitDefEqProofs (disch:=omega) [go_sem,dk,hno,Tryz.f27]
set_option maxRecDepth 100000 in
theorem rwrite_pc (Γ:Nat->Option (List Data)) (s:List (List Nat)) (w:List Wr) (hw:w.length≤100000) (a:Int) (b:List Nat) (hbl:b.length≤140737488351232):PC Tryz.prog Γ 46 [dk s w,.int .i64 a,.sl 1 (bys b)] (wrote s w a b):=by
 refine pc_by mixed Tryz.func46 rfl (fun args w=>Tryz.call46 args w) ?_
 by_cases hf:wrOk (a,b) = true
 · have hb:(0≤a∧a < 64)∧b.length = 128:=by simpa [wrOk] using hf
   obtain ⟨⟨a1,a2⟩,b1⟩:=hb
   simp -implicitDefEqProofs (disch:=omega) [go_sem,dk]
   refine side (by kernel_rfl) ?_
   simp -implicitDefEqProofs (disch:=omega) [go_sem,Tryz.f46]
   refine ⟨_,⟨_,rfl,frz_aggL (frzL_c ((frz_data _ _ _ _).2 rfl) (frzL_c (fz_wrs (rw:=true) (l:=w++[(a,b)]) (by simp [go_sem,<- wrs_append,flat_wrs1]) (.inl rfl) (by simp)) frzL_n))⟩,?_⟩
   simp only [wrote,hf,if_true];rfl
 · have hf':wrOk (a,b) = false:=by simpa using hf
   by_cases a1:0≤a
   · by_cases a2:a≤63
     · have b1:¬ b.length = 128:=fun b1=>hf (by simp [wrOk];omega)
       simp -implicitDefEqProofs (disch:=omega) [go_sem,dk,Tryz.f46,wrote,hf']
     · simp -implicitDefEqProofs (disch:=omega) [go_sem,dk,Tryz.f46,wrote,hf']
   · simp -implicitDefEqProofs (disch:=omega) [go_sem,dk,Tryz.f46,wrote,hf']
set_option maxRecDepth 100000 in
theorem rread_pc (Γ:Nat->Option (List Data)) (s:List (List Nat)) (w:List Wr) (h:Dok s w) (a:Int):PC Tryz.prog Γ 63 [dk s w,.int .i64 a] (if 0≤a∧a < 64 then .tup [.sl 1 (bys (std a (s.getD a.toNat []) w)),.int .i64 0] else .tup [.sl 1 [],.int .i64 1]):=by
 refine pc_by mixed Tryz.func63 rfl (fun args w=>Tryz.call63 args w) ?_
 have hn:=h.n
 have hwn:=h.wn
 by_cases ha:0≤a∧a < 64
 · rw [if_pos ha]
   obtain ⟨a1,a2⟩:=ha
   have hlt:a.toNat < s.length:=by omega
   have hgd:s.getD a.toNat [] = s[a.toNat]:=by simp [List.getD_eq_getElem?_getD,hlt]
   rw [hgd]
   obtain ⟨R,hR⟩:∃ R,std a s[a.toNat] w = R:=⟨_,rfl⟩
   rw [hR]
   simp -implicitDefEqProofs (disch:=omega) [go_sem,dk]
   refine loop_ren (σ:={ j:Nat // j≤w.length∧R = std a s[a.toNat] (w.take j) }) (fun j=>⟨envL [(1,.data (.int .i64 a)),(2,.ptr 0 0),(6,.data (.int .i64 ((j.1:Int) - 1)))],hpL [(0,.blk true [.data (.sl 1 (secs s)),.data (.sl 2 (wrs w))])],1,0,47⟩) (fun j=>j.1) ⟨w.length,by omega,by rw [List.take_length,hR]⟩ [] (rhoL []) ?_ ?_
   · apply ren_lists <;> simp -implicitDefEqProofs [go_sem]
   · rintro ⟨j,hj,hst⟩
     by_cases hj0:0 < j
     · have e1:((j:Int) - 1).toNat = j - 1:=by omega
       have hlt2:j - 1 < w.length:=by omega
       have hss:=std_succ a s[a.toNat] w (j - 1) hlt2
       rw [show j - 1 + 1 = j by omega] at hss
       by_cases he:w[j - 1].1 = a
       · rw [if_pos he] at hss
         have hRw:=hst.trans hss
         simp -implicitDefEqProofs (disch:=omega) [go_sem,e1,he,hRw,Tryz.f63]
       · rw [if_neg he] at hss
         simp -implicitDefEqProofs (disch:=omega) [go_sem,e1]
         refine next_ren ⟨j - 1,by omega,by rw [hst,hss]⟩ (by simp only;omega) [] (rhoL []) ?_
         apply ren_lists <;> simp -implicitDefEqProofs [go_sem]
         all_goals omega
     · have:j = 0:=by omega
       subst this
       have hRw:R = s[a.toNat]:=hst
       simp -implicitDefEqProofs (disch:=omega) [go_sem,hRw,sec,Tryz.f63]
 · rw [if_neg ha]
   by_cases a1:0≤a
   · simp -implicitDefEqProofs (disch:=omega) [go_sem,dk,Tryz.f63]
     exact ⟨_,⟨_,rfl,.emp 1 1⟩,rfl⟩
   · simp -implicitDefEqProofs (disch:=omega) [go_sem,dk,Tryz.f63]
     exact ⟨_,⟨_,rfl,.emp 1 1⟩,rfl⟩
theorem fz_secs {ok:Bool} {H:Nat->Blk} {g n:Nat} {l:List (List Nat)} {rw:Bool} (hg:H g = .blk rw ((secs l).map D.data)) (hrw:ok = true ∨ rw = false) (hn:l.length = n):Frz ok H (.ref g 0 n 1) (.sl 1 (secs l)) :=
 frz_ref hg hrw (by rw [secs_length,hn]) (secs_cells l) (by rw [flat_secs])
set_option maxRecDepth 100000 in
theorem rflush_pc (Γ:Nat->Option (List Data)) (s:List (List Nat)) (w:List Wr) (h:Dok s w):PC Tryz.prog Γ 36 [dk s w] (dk (flush s w) []):=by
 refine pc_by mixed Tryz.func36 rfl (fun args w=>Tryz.call36 args w) ?_
 have hn:=h.n
 have hfl:=flush_length s w
 simp -implicitDefEqProofs (disch:=omega) [go_sem,dk]
 refine loop_ren (σ:={ i:Nat // i≤64 }) (fun i=>⟨envL [(1,.ptr 0 0),(2,.ptr 1 0),(3,.ptr 2 0),(4,.data (.int .i64 i.1))],hpL [(0,.blk true [.data (.sl 1 (secs s)),.data (.sl 2 (wrs w))]),(1,.blk true [.emp 0,.emp 0]),(2,.blk true [.ref 3 0 i.1 1,.emp 0]),(3,.blk true ((secs ((flush s w).take i.1)).map .data))],4,0,25⟩) (fun i=>64 - i.1) ⟨0,by omega⟩ [] (rhoL [(2,some 3),(3,none)]) ?_ ?_
 · apply ren_lists <;> simp -implicitDefEqProofs [go_sem]
   rfl
 · rintro ⟨i,hi⟩
   have htl:((flush s w).take i).length = i:=by rw [List.length_take];omega
   by_cases hi6:i < 64
   · have hrd:=rread_pc Γ s w h i
     rw [if_pos ⟨by omega,by omega⟩] at hrd
     have hlt:i < s.length:=by omega
     have hgd:s.getD (i:Int).toNat [] = s[i]:=by simp [List.getD_eq_getElem?_getD,hlt]
     rw [hgd] at hrd
     have hfa:=flush_at s w i hlt
     have hsec:(secs ((flush s w).take (i + 1))).map D.data = (secs ((flush s w).take i)).map D.data++[D.data (.sl 1 (bys (std (i:Int) s[i] w)))]:=by
      rw [List.take_add_one,List.getElem?_eq_getElem (by omega),Option.toList_some,hfa]
      simp [secs,sec]
     simp -implicitDefEqProofs (disch:=omega) [go_sem]
     refine .inl (call_data hrd (by simp [go_sem,dk]) ?_)
     simp -implicitDefEqProofs (disch:=omega) [go_sem]
     refine next_ren ⟨i + 1,by omega⟩ (by simp only;omega) [] (rhoL [(3,some 18)]) ?_
     apply ren_lists <;> simp -implicitDefEqProofs [go_sem]
     rw [hsec]
     exact renCells_plain rfl (by simp [plainD])
   · have:i = 64:=by omega
     subst this
     have ht:(flush s w).take 64 = flush s w:=List.take_of_length_le (by omega)
     simp -implicitDefEqProofs (disch:=omega) [go_sem,ht,Tryz.f36]
     exact ⟨_,⟨_,rfl,frz_aggL (frzL_c (fz_secs (rw:=true) (l:=flush s w) (by simp [go_sem]) (.inl rfl) (by omega)) (frzL_c (.emp 0 2) frzL_n))⟩,rfl⟩
theorem dok_kept {s:List (List Nat)} {w v:List Wr} (h:Dok s w) (hv:∀ p∈v,p∈w) (hl:v.length≤200):Dok s v:=⟨h.n,h.len,h.lt,fun p hp=>h.wlen p (hv p hp),fun p hp=>h.wat p (hv p hp),fun p hp=>h.wlt p (hv p hp),hl⟩
set_option maxRecDepth 100000 in
theorem rcrash_pc (Γ:Nat->Option (List Data)) (s:List (List Nat)) (w:List Wr) (h:Dok s w) (keep:List Bool) (hk:keep.length≤1000):PC Tryz.prog Γ 33 [dk s w,.sl 1 (bools keep)] (dk (flush s (kept keep 0 w)) []):=by
 refine pc_by mixed Tryz.func33 rfl (fun args w=>Tryz.call33 args w) ?_
 have hwn:=h.wn
 have hkl:=kept_le keep w 0
 have hfl:=rflush_pc Γ s (kept keep 0 w) (dok_kept h (kept_sub keep w 0) (by omega))
 simp -implicitDefEqProofs (disch:=omega) [go_sem,dk]
 refine loop_ren (σ:={ i:Nat // i≤w.length }) (fun i=>⟨envL [(1,.data (.sl 1 (bools keep))),(2,.ptr 0 0),(4,.ptr 1 0),(5,.ptr 2 0),(6,.data (.int .i64 i.1))],hpL [(0,.blk true [.data (.sl 1 (secs s)),.data (.sl 2 (wrs w))]),(1,.blk true [.emp 0,.emp 0]),(2,.blk true [.data (.sl 1 (secs s)),.ref 3 0 (kept keep 0 (w.take i.1)).length 2]),(3,.blk true ((flat (wrs (kept keep 0 (w.take i.1)))).map .data))],4,0,39⟩) (fun i=>w.length - i.1) ⟨0,by omega⟩ [] (rhoL [(2,some 5),(3,none)]) ?_ ?_
 · apply ren_lists <;> simp -implicitDefEqProofs [go_sem,kept]
   rfl
 · rintro ⟨i,hi⟩
   by_cases hw:i < w.length
   · have hks:=kept_succ keep w i hw
     have hkl2:=kept_le keep (w.take i) 0
     rw [List.length_take] at hkl2
     by_cases hik:i < keep.length
     · have hka:keepAt keep i = keep[i]:=by simp [keepAt,List.getD_eq_getElem?_getD,hik]
       cases hkv:keep[i] with
       | true =>
         rw [hka,hkv] at hks
         simp only [if_true] at hks
         have hfl:(flat (wrs (kept keep 0 (w.take (i + 1))))).map D.data = (flat (wrs (kept keep 0 (w.take i)))).map D.data++[D.data (.int .i64 w[i].1),.data (.sl 1 (bys w[i].2))]:=by
          rw [hks,<- wrs_append,flat_wrs1];simp
         simp -implicitDefEqProofs (disch:=omega) [go_sem,hkv]
         refine side (by kernel_rfl) ?_
         simp -implicitDefEqProofs (disch:=omega) [go_sem]
         refine next_ren ⟨i + 1,by omega⟩ (by simp only;omega) [] (rhoL [(3,some 27)]) ?_
         apply ren_lists <;> simp -implicitDefEqProofs [go_sem,hks]
         rw [<- hks,hfl]
         exact renCells_plain rfl (by simp [plainD])
       | false =>
         rw [hka,hkv] at hks
         simp at hks
         simp -implicitDefEqProofs (disch:=omega) [go_sem,hkv]
         refine next_ren ⟨i + 1,by omega⟩ (by simp only;omega) [] (rhoL []) ?_
         apply ren_lists <;> simp -implicitDefEqProofs [go_sem,hks]
     · have hka:keepAt keep i = false:=by simp [keepAt,List.getD_eq_getElem?_getD,hik]
       rw [hka] at hks
       simp at hks
       simp -implicitDefEqProofs (disch:=omega) [go_sem]
       refine next_ren ⟨i + 1,by omega⟩ (by simp only;omega) [] (rhoL []) ?_
       apply ren_lists <;> simp -implicitDefEqProofs [go_sem,hks]
   · have:i = w.length:=by omega
     subst this
     simp -implicitDefEqProofs (disch:=omega) [go_sem]
     refine .inl (call_keep 3 (rw:=true) (cells:=(flat (wrs (kept keep 0 w))).map D.data) hfl (by simp [go_sem]) (fun H' hH'=>frzL_c (frz_aggL (frzL_c ((frz_data _ _ _ _).2 rfl) (frzL_c (fz_wrs (rw:=false) hH' (.inr rfl) rfl) frzL_n))) frzL_n) ?_)
     simp -implicitDefEqProofs (disch:=omega) [go_sem,dk,Tryz.f33]
set_option maxRecDepth 100000 in
theorem rsame_pc (Γ:Nat->Option (List Data)) (s t:List (List Nat)) (w v:List Wr) (h:Dok s w) (k:Dok t v):PC Tryz.prog Γ 22 [dk s w,dk t v] (.bool (decide (s = t∧w = v))):=by
 refine pc_by mixed Tryz.func22 rfl (fun args w=>Tryz.call22 args w) ?_
 have hn:=h.n
 have kn:=k.n
 have hwn:=h.wn
 have kwn:=k.wn
 by_cases hl:w.length = v.length
 · simp -implicitDefEqProofs (disch:=omega) [go_sem,dk]
   refine loop_ren (σ:={ i:Nat // i≤s.length∧∀ j,j < i->s[j]? = t[j]? }) (fun i=>⟨envL [(2,.ptr 0 0),(3,.ptr 1 0),(5,.data (.int .i64 i.1))],hpL [(0,.blk true [.data (.sl 1 (secs s)),.data (.sl 2 (wrs w))]),(1,.blk true [.data (.sl 1 (secs t)),.data (.sl 2 (wrs v))])],2,0,82⟩) (fun i=>s.length - i.1) ⟨0,by omega,by omega⟩ [] (rhoL []) ?_ ?_
   · apply ren_lists <;> simp -implicitDefEqProofs [go_sem]
   · rintro ⟨i,hi,heq⟩
     by_cases hs:i < s.length
     · have l1:=h.len _ (List.getElem_mem hs)
       have l2:=k.len _ (List.getElem_mem (show i < t.length by omega))
       have hr:=row_pc Γ s[i] t[i] (by omega) (by omega)
       simp -implicitDefEqProofs (disch:=omega) [go_sem,sec]
       refine .inl (call_data hr (by simp [go_sem]) ?_)
       simp -implicitDefEqProofs (disch:=omega) [go_sem]
       refine side (by kernel_rfl) ?_
       by_cases hab:s[i] = t[i]
       · simp -implicitDefEqProofs (disch:=omega) [go_sem,hab]
         refine next_ren ⟨i + 1,by omega,fun j hj=>?_⟩ (by simp only;omega) [] (rhoL []) ?_
         · by_cases e:j = i
           · subst e
             rw [List.getElem?_eq_getElem hs,List.getElem?_eq_getElem (by omega),hab]
           · exact heq j (by omega)
         apply ren_lists <;> simp -implicitDefEqProofs [go_sem]
       · have hne:¬ (s = t∧w = v):=fun e=>hab (by have:=e.1;subst this;rfl)
         rw [decide_eq_false hne]
         simp -implicitDefEqProofs (disch:=omega) [go_sem,hab,Tryz.f22]
     · have hst:s = t:=eqf_end (by omega) (fun j hj=>heq j (by omega))
       simp -implicitDefEqProofs (disch:=omega) [go_sem]
       refine loop_ren (σ:={ i:Nat // i≤w.length∧∀ j,j < i->w[j]? = v[j]? }) (fun i=>⟨envL [(2,.ptr 0 0),(3,.ptr 1 0),(7,.data (.int .i64 i.1))],hpL [(0,.blk true [.data (.sl 1 (secs s)),.data (.sl 2 (wrs w))]),(1,.blk true [.data (.sl 1 (secs t)),.data (.sl 2 (wrs v))])],2,0,82⟩) (fun i=>w.length - i.1) ⟨0,by omega,by omega⟩ [] (rhoL []) ?_ ?_
       · apply ren_lists <;> simp -implicitDefEqProofs [go_sem]
       · rintro ⟨i,hi,heq⟩
         by_cases hw:i < w.length
         · have l1:=h.wlen _ (List.getElem_mem hw)
           have l2:=k.wlen _ (List.getElem_mem (show i < v.length by omega))
           have hr:=row_pc Γ w[i].2 v[i].2 (by omega) (by omega)
           simp -implicitDefEqProofs (disch:=omega) [go_sem]
           refine .inl (call_data hr (by simp [go_sem]) ?_)
           simp -implicitDefEqProofs (disch:=omega) [go_sem]
           refine side (by kernel_rfl) ?_
           by_cases hab:w[i].2 = v[i].2
           · by_cases ha:w[i].1 = v[i].1
             · simp -implicitDefEqProofs (disch:=omega) [go_sem,hab,ha]
               refine side (by kernel_rfl) ?_
               simp -implicitDefEqProofs (disch:=omega) [go_sem]
               refine next_ren ⟨i + 1,by omega,fun j hj=>?_⟩ (by simp only;omega) [] (rhoL []) ?_
               · by_cases e:j = i
                 · subst e
                   rw [List.getElem?_eq_getElem hw,List.getElem?_eq_getElem (by omega)]
                   exact congrArg some (Prod.ext ha hab)
                 · exact heq j (by omega)
               apply ren_lists <;> simp -implicitDefEqProofs [go_sem]
             · have hne:¬ (s = t∧w = v):=fun e=>ha (by have:=e.2;subst this;rfl)
               rw [decide_eq_false hne]
               simp -implicitDefEqProofs (disch:=omega) [go_sem,hab,ha]
               refine side (by kernel_rfl) ?_
               simp -implicitDefEqProofs (disch:=omega) [go_sem,Tryz.f22]
           · have hne:¬ (s = t∧w = v):=fun e=>hab (by have:=e.2;subst this;rfl)
             rw [decide_eq_false hne]
             simp -implicitDefEqProofs (disch:=omega) [go_sem,hab]
             refine side (by kernel_rfl) ?_
             simp -implicitDefEqProofs (disch:=omega) [go_sem,Tryz.f22]
         · have hwv:w = v:=eqf_end hl (fun j hj=>heq j (by omega))
           rw [decide_eq_true (show s = t∧w = v from ⟨hst,hwv⟩)]
           simp -implicitDefEqProofs (disch:=omega) [go_sem,Tryz.f22]
 · have hne:¬ (s = t∧w = v):=fun e=>hl (by rw [e.2])
   rw [decide_eq_false hne]
   simp -implicitDefEqProofs (disch:=omega) [go_sem,dk,Tryz.f22]
namespace Bk
section
variable (Γ:Nat->Option (List Data))
theorem rput_pc (x:Disk) (h:Dok x.s x.w) (a:Int) (ha:0≤a∧a < 64) (b:List Nat) (hb:b.length = 128):PC Tryz.prog Γ 46 [.agg [.sl 1 (secs x.s),.sl 2 (wrs x.w)],.int .i64 a,.sl 1 (bys b)] (.tup [.agg [.sl 1 (secs (wroteTo x a b).s),.sl 2 (wrs (wroteTo x a b).w)],.int .i64 0]):=by
 have:=rwrite_pc Γ x.s x.w (by have:=h.wn;omega) a b (by omega)
 unfold wrote at this
 rw [if_pos (by simp [wrOk,ha,hb])] at this
 exact this
theorem rflu_pc (x:Disk) (h:Dok x.s x.w):PC Tryz.prog Γ 36 [.agg [.sl 1 (secs x.s),.sl 2 (wrs x.w)]] (.agg [.sl 1 (secs (flushTo x).s),.sl 2 (wrs (flushTo x).w)]):=rflush_pc Γ x.s x.w h
set_option maxHeartbeats 4000000 in
theorem rsteps_pc (t:Sto) (h0:0≤t.gen) (h1:t.gen < 1000000000) (hd:Dok t.x.s t.x.w) (hn:t.x.w.length≤100) (snap head:List Nat) (sd:Int) (hsd:sd = (t.gen + 1) % 2) (hs:Snap sd snap head)
 (cb:PC Tryz.prog Γ 50 [book t.b] (.tup [.sl 1 (bys snap),.int .i64 0])) (ch:PC Tryz.prog Γ 51 [.int .i64 (t.gen + 1)] (.tup [.sl 1 (bys head),.int .i64 0])) :
 PC Tryz.prog Γ 21 [sto t] (.sl 2 (disksL (laid t.x sd snap head) 20)):=by
 refine pc_by mixed Tryz.func21 rfl (fun args w=>Tryz.call21 args w) ?_
 have hok:=laid_ok hd hn hs
 have hY0:laid t.x sd snap head 0 = t.x:=rfl
 have hYs:∀ i,i < 16->laid t.x sd snap head (i + 1) = wroteTo (laid t.x sd snap head i) (2 + sd * 16 + i) (chunk snap i):=fun i hi=>by rw [laid,if_pos hi]
 have hY17:laid t.x sd snap head 17 = flushTo (laid t.x sd snap head 16):=by rw [laid,if_neg (by omega),if_neg (by omega)]
 have hY18:laid t.x sd snap head 18 = wroteTo (laid t.x sd snap head 17) sd head:=by rw [laid,if_neg (by omega),if_pos rfl]
 have hY19:laid t.x sd snap head 19 = flushTo (laid t.x sd snap head 18):=by rw [laid,if_neg (by omega),if_neg (by omega)]
 generalize laid t.x sd snap head = Y at *
 have hr:=hs.side
 have hm:(t.gen + 1) % 2 = sd:=hsd.symm
 unfold book at cb
 unfold sto bookL
 simp -implicitDefEqProofs (disch:=omega) [go_sem]
 refine .inl (call_data cb (by simp [go_sem]) ?_)
 simp -implicitDefEqProofs (disch:=omega) [go_sem]
 refine loop_ren (σ:={ i:Nat // i≤16 }) (fun i=>⟨envL [(3,.ref 1 0 (i.1 + 1) 2),(4,.ptr 0 0),(5,.data (.int .i64 (t.gen + 1))),(6,.data (.sl 1 (bys snap))),(8,.data (.int .i64 i.1))],hpL [(0,.blk true [.data (.sl 1 (secs (Y i.1).s)),.data (.sl 2 (wrs (Y i.1).w))]),(1,.blk true ((flat (disksL Y (i.1 + 1))).map D.data))],2,0,85⟩) (fun i=>16 - i.1) ⟨0,by omega⟩ [] (rhoL [(0,some 11),(1,some 4)]) ?_ ?_
 · apply ren_lists <;> simp -implicitDefEqProofs [go_sem,hY0]
   exact renCells_plain (by simp [disksL,List.range_succ,flat,Disk.d,dk,Data.cells,hY0]) (plain_map _)
 · rintro ⟨i,hi⟩
   have hfl:(flat (disksL Y (i + 1))).length = (i + 1) * 2:=by rw [flat_length (disksL_cells Y _),disksL_length]
   by_cases hlt:i < 16
   · have e1:(128 * (i:Int)).toNat = i * 128:=by omega
     have e2:(128 * (i:Int) + 128).toNat = (i + 1) * 128:=by omega
     have cw:=rput_pc Γ (Y i) (hok i (by omega)).1 (2 + sd * 16 + i) (by omega) (chunk snap i) (chunk_length hs.len hlt)
     rw [<- hYs i hlt] at cw
     have hlen:=hs.len
     simp -implicitDefEqProofs (disch:=omega) [go_sem,hm,e1,e2,hlen]
     refine .inl (call_data cw (by simp [go_sem,chunk]) ?_)
     simp -implicitDefEqProofs (disch:=omega) [go_sem]
     refine side (by kernel_rfl) ?_
     simp -implicitDefEqProofs (disch:=omega) [go_sem,hfl]
     refine next_ren ⟨i + 1,by omega⟩ (by simp only;omega) [] (rhoL [(0,some 0),(1,some 30)]) ?_
     have hds:=disksL_succ Y (i + 1)
     apply ren_lists <;> simp -implicitDefEqProofs [go_sem,hds]
     exact renCells_plain (by simp [flat,Disk.d,dk,Data.cells]) (plain_map _)
   · have:i = 16:=by omega
     subst this
     have cf:=rflu_pc Γ (Y 16) (hok 16 (by omega)).1
     rw [<- hY17] at cf
     have cw:=rput_pc Γ (Y 17) (hok 17 (by omega)).1 sd (by omega) head hs.hlen
     rw [<- hY18] at cw
     have cg:=rflu_pc Γ (Y 18) (hok 18 (by omega)).1
     rw [<- hY19] at cg
     simp -implicitDefEqProofs (disch:=omega) [go_sem]
     refine .inl (call_data cf (by simp [go_sem]) ?_)
     simp -implicitDefEqProofs (disch:=omega) [go_sem,hfl]
     refine .inl (call_data ch (by simp [go_sem]) ?_)
     simp -implicitDefEqProofs (disch:=omega) [go_sem,hm]
     refine .inl (call_data cw (by simp [go_sem]) ?_)
     simp -implicitDefEqProofs (disch:=omega) [go_sem]
     refine .inl (call_data cg (by simp [go_sem]) ?_)
     simp -implicitDefEqProofs (disch:=omega) [go_sem,hfl]
     refine side (by kernel_rfl) ?_
     have h20:disksL Y 20 = disksL Y (16 + 1)++[(Y 17).d,(Y 18).d,(Y 19).d]:=by
      rw [disksL_succ Y 19,disksL_succ Y 18,disksL_succ Y 17]
      simp
     simp -implicitDefEqProofs (disch:=omega) [go_sem,hfl,Tryz.f21]
     refine ⟨_,⟨_,rfl,frz_ref (rw:=true) (cells:=(flat (disksL Y 20)).map D.data) ?_ (.inl rfl) (disksL_length Y 20) (disksL_cells Y 20) rfl⟩,rfl⟩
     rw [h20]
     simp [go_sem,flat,Disk.d,dk,Data.cells]
end
end Bk
namespace Bk
section
variable (Γ:Nat->Option (List Data))
theorem checkNo_pc (t:Sto) (hd:Dok t.x.s t.x.w) (hb:Short t.b) (hf:Short t.f) (e:Int) (he:e≠0) (cs:PC Tryz.prog Γ 47 [sto t] (.tup [.sl 1 [],.int .i64 e])) :
 PC Tryz.prog Γ 15 [sto t] (.tup [sto t,.int .i64 e]):=by
 refine pc_rng mixed Tryz.func15 rfl (fun args w=>Tryz.call15 args w) ?_
 have cc:=copied3_pc Γ t hd hb hf
 unfold sto bookL at cs cc ⊢
 simp -implicitDefEqProofs (disch:=omega) [go_sem]
 refine .inl (call_data cs (by simp [go_sem]) ?_)
 simp -implicitDefEqProofs (disch:=omega) [go_sem,he]
 refine .inl (call_data cc (by simp [go_sem]) ?_)
 simp -implicitDefEqProofs (disch:=omega) [go_sem,he,Tryz.f15]
/-- A disk behind so many of the disks that come. -/
def lastOf (Y:Nat->Disk):Nat->Disk
 | 0=>⟨[],[]⟩
 | k + 1=>Y k
set_option maxHeartbeats 4000000 in
theorem check_pc (t:Sto) (h0:0≤t.gen) (h1:t.gen < 1000000000) (hb:Short t.b) (hd:Dok t.x.s t.x.w) (hn:t.x.w.length≤100) (snap head:List Nat) (sd:Int) (hs:Snap sd snap head) (cs:PC Tryz.prog Γ 47 [sto t] (.tup [.sl 1 (stepsD sd snap head),.int .i64 0])) :
 PC Tryz.prog Γ 15 [sto t] (.tup [sto ⟨laid t.x sd snap head 19,t.gen + 1,0,t.b,t.b⟩,.int .i64 0]):=by
 refine pc_rng mixed Tryz.func15 rfl (fun args w=>Tryz.call15 args w) ?_
 have hit:=laid_it Γ t.x sd snap head hd hn hs
 have cl:=laying_pc Γ t.x.s t.x.w (stepsD sd snap head)
 have cb:=copiedBook_pc Γ t.b hb
 unfold sto bookL at cs ⊢
 simp -implicitDefEqProofs (disch:=omega) [go_sem]
 refine .inl (call_data cs (by simp [go_sem]) ?_)
 simp -implicitDefEqProofs (disch:=omega) [go_sem]
 refine .inl (call_data cb (by simp [go_sem,book]) ?_)
 simp -implicitDefEqProofs (disch:=omega) [go_sem,book]
 refine .inl (call_data cb (by simp [go_sem,book]) ?_)
 simp -implicitDefEqProofs (disch:=omega) [go_sem,book]
 refine side (by kernel_rfl) ?_
 simp -implicitDefEqProofs (disch:=omega) [go_sem]
 refine .inl (call_data cl (by simp [go_sem,dk]) ?_)
 simp -implicitDefEqProofs (disch:=omega) [go_sem]
 obtain ⟨Y,hY⟩:∃ Y,laid t.x sd snap head = Y:=⟨_,rfl⟩
 rw [hY] at hit ⊢
 refine rng_ren (fun k=>⟨envL [(2,.ptr 1 0),(6,.ptr 0 0)],hpL [(0,.blk true ([.sl 1 (secs (lastOf Y k).s),.sl 2 (wrs (lastOf Y k).w),.int .i64 (t.gen + 1),.int .i64 0,.int .i64 t.b.next,.sl 6 (sesss t.b.opn),.sl 5 (items t.b.items),.sl 3 (locks t.b.locks),.int .i64 t.b.next,.sl 6 (sesss t.b.opn),.sl 5 (items t.b.items),.sl 3 (locks t.b.locks)].map D.data)),
  (1,.blk true [.emp 0,.emp 0,.data (.int .i64 0),.data (.int .i64 0),.data (.int .i64 0),.emp 0,.emp 0,.emp 0,.data (.int .i64 0),.emp 0,.emp 0,.emp 0])],2,0,36⟩) hit (by simp [go_sem,layingD,Disk.d,dk]) (by simp) [] (rhoL [(0,some 22),(1,some 1)]) ?_ ?_ ?_ ?_
 · apply ren_lists <;> simp -implicitDefEqProofs [go_sem,lastOf,secs,wrs]
 · intro k
   exact ⟨rfl,rfl,rfl⟩
 · intro k y hy
   have hk:k < 20:=by
    have:=(List.getElem?_eq_some_iff.1 hy).1
    rw [disksL_length] at this;exact this
   rw [disksL_get Y 20 k hk] at hy
   cases hy
   simp -implicitDefEqProofs (disch:=omega) [go_sem,Disk.d,dk]
   refine round_ren [] (rhoL [(0,some 0),(1,some 1)]) ?_
   apply ren_lists <;> simp -implicitDefEqProofs [go_sem,lastOf]
 · simp -implicitDefEqProofs (disch:=omega) [go_sem,disksL_length,lastOf,Tryz.f15]
end
end Bk
namespace Bk
section
variable (Γ:Nat->Option (List Data))
theorem sync_pc (t:Sto) (hd:Dok t.x.s t.x.w) (hb:Short t.b):PC Tryz.prog Γ 18 [sto t] (sto ⟨flushTo t.x,t.gen,t.seq,t.b,t.b⟩):=by
 refine pc_by mixed Tryz.func18 rfl (fun args w=>Tryz.call18 args w) ?_
 have cf:=flushes_pc Γ t.x.s t.x.w hd
 have cb:=copiedBook_pc Γ t.b hb
 unfold sto bookL
 unfold dk at cf
 unfold book at cb
 simp -implicitDefEqProofs (disch:=omega) [go_sem]
 refine .inl (call_data cf (by simp [go_sem,dk]) ?_)
 simp -implicitDefEqProofs (disch:=omega) [go_sem,dk]
 refine .inl (call_data cb (by simp [go_sem,book]) ?_)
 simp -implicitDefEqProofs (disch:=omega) [go_sem,book]
 refine .inl (call_data cb (by simp [go_sem,book]) ?_)
 simp -implicitDefEqProofs (disch:=omega) [go_sem,book]
 refine side (by kernel_rfl) ?_
 simp -implicitDefEqProofs (disch:=omega) [go_sem,Tryz.f18,flushTo]
theorem doFull_pc (t:Sto) (o:Op) (hd:Dok t.x.s t.x.w) (hb:Short t.b) (hf:Short t.f) (h:30≤t.seq):PC Tryz.prog Γ 13 [sto t,op o] (.tup [sto t,.int .i64 4]):=by
 refine pc_by mixed Tryz.func13 rfl (fun args w=>Tryz.call13 args w) ?_
 have cc:=copied3_pc Γ t hd hb hf
 unfold sto bookL op at *
 simp -implicitDefEqProofs (disch:=omega) [go_sem]
 refine .inl (call_data cc (by simp [go_sem]) ?_)
 simp -implicitDefEqProofs (disch:=omega) [go_sem,Tryz.f13]
theorem doNo_pc (t:Sto) (o:Op) (hd:Dok t.x.s t.x.w) (hb:Short t.b) (hf:Short t.f) (h:t.seq < 30) (b2:Book) (e:Int) (he:e≠0) (ca:PC Tryz.prog Γ 39 [book t.b,op o] (.tup [book b2,.int .i64 e])):PC Tryz.prog Γ 13 [sto t,op o] (.tup [sto t,.int .i64 e]):=by
 refine pc_by mixed Tryz.func13 rfl (fun args w=>Tryz.call13 args w) ?_
 have cc:=copied3_pc Γ t hd hb hf
 unfold sto bookL op book at *
 simp -implicitDefEqProofs (disch:=omega) [go_sem]
 refine .inl (call_data ca (by simp [go_sem]) ?_)
 simp -implicitDefEqProofs (disch:=omega) [go_sem,he]
 refine .inl (call_data cc (by simp [go_sem]) ?_)
 simp -implicitDefEqProofs (disch:=omega) [go_sem,he,Tryz.f13]
set_option maxHeartbeats 1000000 in
theorem do_pc (t:Sto) (o:Op) (hd:Dok t.x.s t.x.w) (hf:Short t.f) (h0:0≤t.seq) (h:t.seq < 30) (b2:Book) (ca:PC Tryz.prog Γ 39 [book t.b,op o] (.tup [book b2,.int .i64 0])) (r:List Nat) (hr:r.length = 128)
 (co:PC Tryz.prog Γ 40 [.int .i64 t.gen,.int .i64 t.seq,op o] (.tup [.sl 1 (bys r),.int .i64 0])):PC Tryz.prog Γ 13 [sto t,op o] (.tup [sto ⟨wroteTo t.x (34 + t.seq) r,t.gen,t.seq + 1,b2,t.f⟩,.int .i64 0]):=by
 refine pc_by mixed Tryz.func13 rfl (fun args w=>Tryz.call13 args w) ?_
 have cb:=copiedBook_pc Γ t.f hf
 have cr:=recordAt_pc Γ t.seq (by omega)
 have cw:=write_pc Γ t.x.s t.x.w hd (34 + t.seq) r (by omega)
 unfold wrote at cw
 rw [if_pos (by simp [wrOk,hr];omega)] at cw
 unfold sto bookL op book at *
 simp -implicitDefEqProofs (disch:=omega) [go_sem]
 refine .inl (call_data ca (by simp [go_sem]) ?_)
 simp -implicitDefEqProofs (disch:=omega) [go_sem]
 refine .inl (call_data co (by simp [go_sem]) ?_)
 simp -implicitDefEqProofs (disch:=omega) [go_sem]
 refine .inl (call_data cr (by simp [go_sem]) ?_)
 simp -implicitDefEqProofs (disch:=omega) [go_sem]
 refine .inl (call_data cw (by simp [go_sem,dk]) ?_)
 simp -implicitDefEqProofs (disch:=omega) [go_sem,dk]
 refine side (by kernel_rfl) ?_
 simp -implicitDefEqProofs (disch:=omega) [go_sem]
 refine .inl (call_data cb (by simp [go_sem]) ?_)
 simp -implicitDefEqProofs (disch:=omega) [go_sem]
 refine side (by kernel_rfl) ?_
 simp -implicitDefEqProofs (disch:=omega) [go_sem,Tryz.f13,wroteTo]
def nilBook:Book:=⟨0,[],[],[]⟩
theorem format_pc (u:Sto) (cc:PC Tryz.prog Γ 15 [sto ⟨⟨zeroS,[]⟩,0,0,nilBook,nilBook⟩] (.tup [sto u,.int .i64 0])):PC Tryz.prog Γ 23 [] (sto u):=by
 refine pc_by mixed Tryz.func23 rfl (fun args w=>Tryz.call23 args w) ?_
 have cn:=new_pc Γ
 have cc2:PC Tryz.prog Γ 15 [.agg [.sl 1 (secs zeroS),.sl 2 (wrs []),.int .i64 0,.int .i64 0,.int .i64 0,.sl 6 [],.sl 5 [],.sl 3 [],.int .i64 0,.sl 6 [],.sl 5 [],.sl 3 []]] (.tup [sto u,.int .i64 0]):=cc
 unfold sto bookL at *
 unfold dk at cn
 simp -implicitDefEqProofs (disch:=omega) [go_sem]
 refine .inl (call_data cn (by simp [go_sem]) ?_)
 simp -implicitDefEqProofs (disch:=omega) [go_sem]
 refine .inl (call_frz [] [] (by simp) cc2 (fun H' _=>frzL_c (frz_aggL (frzL_c ((frz_data _ _ _ _).2 rfl) (frzL_c ((frz_data _ _ _ _).2 rfl) (frzL_c ((frz_data _ _ _ _).2 rfl) (frzL_c ((frz_data _ _ _ _).2 rfl) (frzL_c ((frz_data _ _ _ _).2 rfl) (frzL_c (.emp 0 6) (frzL_c (.emp 0 5) (frzL_c (.emp 0 3) (frzL_c ((frz_data _ _ _ _).2 rfl) (frzL_c (.emp 0 6) (frzL_c (.emp 0 5) (frzL_c (.emp 0 3) frzL_n))))))))))))) frzL_n) ?_)
 simp -implicitDefEqProofs (disch:=omega) [go_sem,Tryz.f23]
end
end Bk
/-- The same in a drawn region,where what comes back is known. -/
theorem eff_given {P:Program} {Γ:Nat->Option (List Data)} {f:FuncId} {xs:List D} {cells:List Data} {len es n:Nat} {c:List Data}
 (hc:DC P Γ f (.ref 0 0 len es :: xs) (hpL [(0,.blk true (cells.map D.data))]) 1 fun d H' _=>∃ k n' c',d = .ref k 0 n' es∧H' k = .blk true (c'.map D.data)∧n' = n∧c' = c)
 {H:Nat->Blk} {fr g:Nat} {K:D->List Nat->List (Nat × Blk)->Nat->Prop} (hg:H g = .blk true (cells.map D.data)) (hn:g≠fr) (hxs:∀ x∈xs,(∃ y,x = .data y) ∨ ∃ c,x = .cptr c)
 (hk:K (.ref fr 0 n es) [] [(g,.dead),(fr,.blk true (c.map D.data))] 1):effC P Γ f (.ref g 0 len es :: xs) H fr K:=by
 refine ⟨_,_,_,1,Nat.one_pos,fun H2 _ hu=>⟨hc.1,fun L0 w0 m w vs hwr hres hbey hl hv=>?_⟩,hk⟩
 have hg2:H2 g = .blk true (cells.map D.data):=(hu g (by simp)).trans hg
 have hmf:m fr = .res:=hres 0 Nat.one_pos
 obtain ⟨h1,hlive⟩:=lend hwr hg2
 refine (hc.2 _ _ _ w vs h1 (fun q hq=>if_neg (by omega)) (fun q hq=>by simp [hpL,show q≠0 by omega]) (by simpa using hl) (lent_args (fun b hb=>(hlive b).1 hb) (fun v hvv=>?_) hxs hv)).mono fun e w' ⟨v,d,H',nx',m',he,k1,hvv,k2,k3,k4,k5,k,n',c',hd,h0,e1,e2⟩=>?_
 · cases hvv with
   | ref _ _ _ _ b sz cap o hm j2 j3 j4 j5=>exact .ref 0 0 len es b sz cap o (by simpa using hm) j2 j3 j4 j5
   | ref0 _ _ a hm=>exact .ref0 0 es a (by simpa using hm)
 subst hd
 subst e1
 subst e2
 have hm0:m' 0 = m g:=(k3 0 (by omega)).trans (if_pos rfl)
 have k2':Grow (Live L0 m H2) w (Live (lentL L0 m H2 g) m' H') w':=⟨k2.size,fun b hb hL=>k2.keep b hb fun h=>hL ((hlive b).1 h)⟩
 obtain ⟨a,b,s,hM⟩:=lent_back hwr hg2 k1 k2' hm0 (k:=k) (t:=fr) (c:=c') h0 (.inr ⟨by omega,hmf⟩)
 have same:lentH H2 g fr c' = Hp.upd H2 [(g,.dead),(fr,.blk true (c'.map D.data))]:=by
  funext q
  unfold lentH
  by_cases e:q = fr
  · subst e;simp [Hp.upd,Hp.set,hn]
  · by_cases e2:q = g
    · subst e2;simp [Hp.upd,Hp.set,e]
    · simp [Hp.upd,Hp.set,e,e2,Ne.symm e,Ne.symm e2]
 rw [same] at a b s
 refine ⟨v,he,lentM m m' fr k,a,?_,b,fun q hq=>if_neg (by omega)⟩
 have hMt:lentM m m' fr k fr = m' k:=if_pos rfl
 cases hvv with
 | ref _ _ _ _ b2 sz cap o hm j2 j3 j4 j5=>exact .ref fr 0 n' es b2 sz cap o (by rw [hMt];exact hm) j2 j3 j4 j5
 | ref0 _ _ a2 hm=>exact .ref0 fr es a2 (by rw [hMt];exact hm)
namespace Bk
section
variable (Γ:Nat->Option (List Data))
theorem put_eff {q:List Nat} {n k:Nat} (hq:q.length≤1000000) (hk:k≤8) (hn:n < 18446744073709551616) {H:Nat->Blk} {fr g:Nat} {K:D->List Nat->List (Nat × Blk)->Nat->Prop} {m:Nat} (hm:m = q.length) (hg:H g = .blk true ((bys q).map D.data)) (hgn:g≠fr)
 (h:K (.ref fr 0 (q.length + k) 1) [] [(g,.dead),(fr,.blk true ((bys (q++be k n)).map D.data))] 1):effC Tryz.prog Γ 85 [.ref g 0 m 1,.data (.int .u64 n),.data (.int .i64 k)] H fr K:=by
 subst hm
 exact eff_given (cells:=bys q) (rput_dc Γ q n k hq hk hn) hg hgn (by simp) h
set_option maxHeartbeats 8000000 in
theorem ropYes_pc (g s k i l a n t c z:Nat) (u:ByteArray) (hP:RecP g s ⟨k,i,l,a,u,n,t,c,z⟩) (h6:a < 4294967296) (h7:n < 18446744073709551616) (h8:t < 18446744073709551616):PC Tryz.prog Γ 45 [.int .i64 g,.int .i64 s,op ⟨k,i,l,a,u,n,t,c,z⟩] (.tup [.sl 1 (bys (padB 128 (recB g s ⟨k,i,l,a,u,n,t,c,z⟩))),.int .i64 0]):=by
 have hf:=hP.fit ⟨by simp only;omega,by simp only;omega,by simp only;omega⟩
 have hlen:=recB_length hf
 obtain ⟨p1,p2,p3⟩:=hP
 have cm:=may_pc Γ ⟨k,i,l,a,u,n,t,c,z⟩ (Nat.le_trans hf.op.user (by decide))
 rw [decide_eq_true p3] at cm
 unfold MayP at p3
 simp only at p3
 obtain ⟨m1,m2,m3,m4,m5,m6,m7,m8,m9,m10,m11,m12⟩:=p3
 refine pc_by mixed Tryz.func45 rfl (fun args w=>Tryz.call45 args w) ?_
 have e0:((g:Int) % 18446744073709551616) = g:=by omega
 have e1:((s:Int) % 18446744073709551616) = s:=by omega
 have e2:((k:Int) % 18446744073709551616) = k:=by omega
 have e3:((i:Int) % 18446744073709551616) = i:=by omega
 have e4:((l:Int) % 18446744073709551616) = l:=by omega
 have e5:((a:Int) % 18446744073709551616) = a:=by omega
 have e6:((n:Int) % 18446744073709551616) = n:=by omega
 have e7:((t:Int) % 18446744073709551616) = t:=by omega
 have e8:((c:Int) % 18446744073709551616) = c:=by omega
 have e9:((z:Int) % 18446744073709551616) = z:=by omega
 unfold op at cm ⊢
 simp only at cm
 simp -implicitDefEqProofs (disch:=omega) [go_sem,e0,e1,e2,e3,e4,e5,e6,e7,e8,e9]
 refine .inl (call_data cm (by simp [go_sem]) ?_)
 simp -implicitDefEqProofs (disch:=omega) [go_sem,e0,e1,e2,e3,e4,e5,e6,e7,e8,e9]
 refine .inr (put_given Γ (q:=[82,69]) (k:=4) (by simp [be_length,nameB_length m8]) (by omega) (by omega) (by simp [be_length,nameB_length m8]) (by simp [go_sem,bys]) (by simp) ?_)
 simp -implicitDefEqProofs (disch:=omega) [go_sem,e0,e1,e2,e3,e4,e5,e6,e7,e8,e9]
 refine .inr (put_eff Γ (q:=[82,69]++be 4 g) (k:=1) (by simp [be_length,nameB_length m8]) (by omega) (by omega) (by simp [be_length,nameB_length m8]) (by simp [go_sem,bys]) (by simp) ?_)
 simp -implicitDefEqProofs (disch:=omega) [go_sem,e0,e1,e2,e3,e4,e5,e6,e7,e8,e9]
 refine .inr (put_eff Γ (q:=[82,69]++be 4 g++be 1 s) (k:=1) (by simp [be_length,nameB_length m8]) (by omega) (by omega) (by simp [be_length,nameB_length m8]) (by simp [go_sem,bys]) (by simp) ?_)
 simp -implicitDefEqProofs (disch:=omega) [go_sem,e0,e1,e2,e3,e4,e5,e6,e7,e8,e9]
 refine .inr (put_eff Γ (q:=[82,69]++be 4 g++be 1 s++be 1 k) (k:=4) (by simp [be_length,nameB_length m8]) (by omega) (by omega) (by simp [be_length,nameB_length m8]) (by simp [go_sem,bys]) (by simp) ?_)
 simp -implicitDefEqProofs (disch:=omega) [go_sem,e0,e1,e2,e3,e4,e5,e6,e7,e8,e9]
 refine side (by kernel_rfl) ?_
 simp -implicitDefEqProofs (disch:=omega) [go_sem,e0,e1,e2,e3,e4,e5,e6,e7,e8,e9]
 refine .inr (put_eff Γ (q:=[82,69]++be 4 g++be 1 s++be 1 k++be 4 i) (k:=1) (by simp [be_length,nameB_length m8]) (by omega) (by omega) (by simp [be_length,nameB_length m8]) (by simp [go_sem,bys]) (by simp) ?_)
 simp -implicitDefEqProofs (disch:=omega) [go_sem,e0,e1,e2,e3,e4,e5,e6,e7,e8,e9]
 refine .inr (put_eff Γ (q:=[82,69]++be 4 g++be 1 s++be 1 k++be 4 i++be 1 l) (k:=4) (by simp [be_length,nameB_length m8]) (by omega) (by omega) (by simp [be_length,nameB_length m8]) (by simp [go_sem,bys]) (by simp) ?_)
 simp -implicitDefEqProofs (disch:=omega) [go_sem,e0,e1,e2,e3,e4,e5,e6,e7,e8,e9]
 refine side (by kernel_rfl) ?_
 simp -implicitDefEqProofs (disch:=omega) [go_sem,e0,e1,e2,e3,e4,e5,e6,e7,e8,e9]
 refine .inr (named_given Γ (q:=[82,69]++be 4 g++be 1 s++be 1 k++be 4 i++be 1 l++be 4 a) (u:=u) (by simp [be_length]) m8 (by simp [be_length]) (by simp [go_sem,bys]) (by simp) ?_)
 simp -implicitDefEqProofs (disch:=omega) [go_sem,e0,e1,e2,e3,e4,e5,e6,e7,e8,e9]
 refine .inr (put_eff Γ (q:=[82,69]++be 4 g++be 1 s++be 1 k++be 4 i++be 1 l++be 4 a++nameB u) (k:=8) (by simp [be_length,nameB_length m8]) (by omega) (by omega) (by simp [be_length,nameB_length m8]) (by simp [go_sem,bys]) (by simp) ?_)
 simp -implicitDefEqProofs (disch:=omega) [go_sem,e0,e1,e2,e3,e4,e5,e6,e7,e8,e9]
 refine .inr (put_eff Γ (q:=[82,69]++be 4 g++be 1 s++be 1 k++be 4 i++be 1 l++be 4 a++nameB u++be 8 n) (k:=8) (by simp [be_length,nameB_length m8]) (by omega) (by omega) (by simp [be_length,nameB_length m8]) (by simp [go_sem,bys]) (by simp) ?_)
 simp -implicitDefEqProofs (disch:=omega) [go_sem,e0,e1,e2,e3,e4,e5,e6,e7,e8,e9]
 refine side (by kernel_rfl) ?_
 simp -implicitDefEqProofs (disch:=omega) [go_sem,e0,e1,e2,e3,e4,e5,e6,e7,e8,e9]
 refine .inr (put_eff Γ (q:=[82,69]++be 4 g++be 1 s++be 1 k++be 4 i++be 1 l++be 4 a++nameB u++be 8 n++be 8 t) (k:=1) (by simp [be_length,nameB_length m8]) (by omega) (by omega) (by simp [be_length,nameB_length m8]) (by simp [go_sem,bys]) (by simp) ?_)
 simp -implicitDefEqProofs (disch:=omega) [go_sem,e0,e1,e2,e3,e4,e5,e6,e7,e8,e9]
 refine .inr (put_eff Γ (q:=[82,69]++be 4 g++be 1 s++be 1 k++be 4 i++be 1 l++be 4 a++nameB u++be 8 n++be 8 t++be 1 c) (k:=4) (by simp [be_length,nameB_length m8]) (by omega) (by omega) (by simp [be_length,nameB_length m8]) (by simp [go_sem,bys]) (by simp) ?_)
 simp -implicitDefEqProofs (disch:=omega) [go_sem,e0,e1,e2,e3,e4,e5,e6,e7,e8,e9]
 refine side (by kernel_rfl) ?_
 simp -implicitDefEqProofs (disch:=omega) [go_sem,e0,e1,e2,e3,e4,e5,e6,e7,e8,e9]
 refine .inr (filled_given Γ (q:=[82,69]++be 4 g++be 1 s++be 1 k++be 4 i++be 1 l++be 4 a++nameB u++be 8 n++be 8 t++be 1 c++be 4 z) (n:=128) (by simp [be_length,nameB_length m8]) (by omega) (by simp [be_length,nameB_length m8]) (by simp [go_sem,bys]) (by simp) ?_)
 simp -implicitDefEqProofs (disch:=omega) [go_sem,Tryz.f45]
 exact ⟨_,⟨_,rfl,frz_bys (l:=padB 128 (recB g s ⟨k,i,l,a,u,n,t,c,z⟩)) rfl (.inl rfl) (padB_length (by omega))⟩,rfl⟩
set_option maxHeartbeats 4000000 in
theorem ropNo_pc (g s:Int) (o:Op) (hu:o.user.size≤9223372036854775807) (hP:¬ RecP g s o):PC Tryz.prog Γ 45 [.int .i64 g,.int .i64 s,op o] (.tup [.sl 1 [],.int .i64 1]):=by
 have cm:=may_pc Γ o hu
 refine pc_by mixed Tryz.func45 rfl (fun args w=>Tryz.call45 args w) ?_
 unfold op at cm ⊢
 by_cases h1:g < 1
 · simp -implicitDefEqProofs (disch:=omega) [go_sem]
   refine .inl (call_data cm (by simp [go_sem]) ?_)
   simp -implicitDefEqProofs (disch:=omega) [go_sem,h1,Tryz.f45]
   exact ⟨_,⟨_,rfl,.emp ..⟩,rfl⟩
 by_cases h2:1000000000 < g
 · simp -implicitDefEqProofs (disch:=omega) [go_sem]
   refine .inl (call_data cm (by simp [go_sem]) ?_)
   simp -implicitDefEqProofs (disch:=omega) [go_sem,h1,h2,Tryz.f45]
   exact ⟨_,⟨_,rfl,.emp ..⟩,rfl⟩
 by_cases h3:s < 0
 · simp -implicitDefEqProofs (disch:=omega) [go_sem]
   refine .inl (call_data cm (by simp [go_sem]) ?_)
   simp -implicitDefEqProofs (disch:=omega) [go_sem,h1,h2,h3,Tryz.f45]
   exact ⟨_,⟨_,rfl,.emp ..⟩,rfl⟩
 by_cases h4:29 < s
 · simp -implicitDefEqProofs (disch:=omega) [go_sem]
   refine .inl (call_data cm (by simp [go_sem]) ?_)
   simp -implicitDefEqProofs (disch:=omega) [go_sem,h1,h2,h3,h4,Tryz.f45]
   exact ⟨_,⟨_,rfl,.emp ..⟩,rfl⟩
 have hno:¬ MayP o:=fun h=>hP ⟨by omega,by omega,h⟩
 rw [decide_eq_false hno] at cm
 simp -implicitDefEqProofs (disch:=omega) [go_sem]
 refine .inl (call_data cm (by simp [go_sem]) ?_)
 simp -implicitDefEqProofs (disch:=omega) [go_sem,h1,h2,h3,h4,Tryz.f45]
 exact ⟨_,⟨_,rfl,.emp ..⟩,rfl⟩
theorem ropBytes_pc (g s:Int) (o:Op) (hr:OpRange o) (hu:o.user.size≤9223372036854775807):PC Tryz.prog Γ 45 [.int .i64 g,.int .i64 s,op o] (if RecP g s o then .tup [.sl 1 (bys (padB 128 (recB g s o))),.int .i64 0] else .tup [.sl 1 [],.int .i64 1]):=by
 by_cases h:RecP g s o
 · rw [if_pos h]
   have hP:=h
   obtain ⟨p1,p2,p3⟩:=h
   unfold MayP at p3
   obtain ⟨k,i,l,a,u,n,t,c,z⟩:=o
   obtain ⟨r1,r2,r3⟩:=hr
   simp only at p3 r1 r2 r3
   obtain ⟨g,rfl⟩:∃ x:Nat,g = x:=⟨g.toNat,by omega⟩
   obtain ⟨s,rfl⟩:∃ x:Nat,s = x:=⟨s.toNat,by omega⟩
   obtain ⟨k,rfl⟩:∃ x:Nat,k = x:=⟨k.toNat,by omega⟩
   obtain ⟨i,rfl⟩:∃ x:Nat,i = x:=⟨i.toNat,by omega⟩
   obtain ⟨l,rfl⟩:∃ x:Nat,l = x:=⟨l.toNat,by omega⟩
   obtain ⟨a,rfl⟩:∃ x:Nat,a = x:=⟨a.toNat,by omega⟩
   obtain ⟨n,rfl⟩:∃ x:Nat,n = x:=⟨n.toNat,by omega⟩
   obtain ⟨t,rfl⟩:∃ x:Nat,t = x:=⟨t.toNat,by omega⟩
   obtain ⟨c,rfl⟩:∃ x:Nat,c = x:=⟨c.toNat,by omega⟩
   obtain ⟨z,rfl⟩:∃ x:Nat,z = x:=⟨z.toNat,by omega⟩
   exact ropYes_pc Γ g s k i l a n t c z u hP (by omega) (by omega) (by omega)
 · rw [if_neg h]
   exact ropNo_pc Γ g s o hu h
end
end Bk
namespace Bk
def getR (l:List Nat) (a:Nat):Nat->Nat
 | 0=>0
 | i + 1=>getR l a i * 256 + l.getD (a + i) 0
theorem getD_byte {l:List Nat} (hl:Bytes l) (i:Nat):l.getD i 0 < 256:=by
 by_cases h:i < l.length
 · rw [List.getD_eq_getElem?_getD,List.getElem?_eq_getElem h]
   exact hl _ (List.getElem_mem h)
 · rw [List.getD_eq_getElem?_getD,List.getElem?_eq_none (by omega)]
   exact Nat.zero_lt_succ _
theorem getR_lt {l:List Nat} (hl:Bytes l) (a:Nat):∀ k,getR l a k < 256 ^ k
 | 0=>by simp [getR]
 | k + 1=>by
   have h1:=getR_lt hl a k
   have h2:=getD_byte hl (a + k)
   rw [getR,Nat.pow_succ]
   have:getR l a k + 1≤256 ^ k:=h1
   have:=Nat.mul_le_mul_right 256 this
   omega
section
variable (Γ:Nat->Option (List Data))
set_option maxHeartbeats 4000000 in
theorem rget_pc (l:List Nat) (hl:l.length≤1000000) (hb:Bytes l) (a k:Nat) (ha:a≤1000000) (hk:k≤8):PC Tryz.prog Γ 107 [.sl 1 (bys l),.int .i64 a,.int .i64 k] (.int .u64 (getR l a k)):=by
 refine pc_by mixed Tryz.func107 rfl (fun args w=>Tryz.call107 args w) ?_
 simp -implicitDefEqProofs (disch:=omega) [go_sem]
 refine loop_ren (σ:={ i:Nat // i≤k }) (fun i=>⟨envL [(0,.data (.sl 1 (bys l))),(1,.data (.int .i64 a)),(2,.data (.int .i64 k)),(7,.data (.int .u64 (getR l a i.1))),(8,.data (.int .i64 i.1))],hpL [],0,0,32⟩) (fun i=>k - i.1) ⟨0,by omega⟩ [] (rhoL []) ?_ ?_
 · apply ren_lists <;> simp -implicitDefEqProofs [go_sem,getR]
 rintro ⟨i,hi⟩
 by_cases h:i < k
 · have hs:getR l a (i + 1) = getR l a i * 256 + l.getD (a + i) 0:=rfl
   have hy:=getR_lt hb a i
   have hp:256 ^ i≤256 ^ 7:=Nat.pow_le_pow_right (by omega) (by omega)
   have h7:256 ^ 7 = 72057594037927936:=by decide
   have hx:=getD_byte hb (a + i)
   rw [h7] at hp
   have hy2:getR l a i < 72057594037927936:=by omega
   clear hy hp h7
   generalize getR l a i = y at *
   have e1:((y:Int) * 256 % 18446744073709551616) = ((y * 256:Nat):Int):=by omega
   by_cases hai:a + i < l.length
   · have e2:l[a + i]? = some l[a + i]:=List.getElem?_eq_getElem hai
     rw [List.getD_eq_getElem?_getD,e2,Option.getD_some] at hs hx
     generalize l[a + i] = x at *
     have e0:((a:Int) + (i:Int)).toNat = a + i:=by omega
     have e3:((x:Int) % 18446744073709551616) = x:=by omega
     have e4:(((y * 256:Nat):Int) + x) % 18446744073709551616 = ((y * 256 + x:Nat):Int):=by omega
     simp -implicitDefEqProofs (disch:=omega) [go_sem,-getElem?_pos,e0,e1,e2,e3,e4]
     refine next_ren ⟨i + 1,by omega⟩ (by simp only;omega) [] (rhoL []) ?_
     apply ren_lists <;> simp -implicitDefEqProofs [go_sem,hs]
     all_goals omega
   · rw [List.getD_eq_getElem?_getD,List.getElem?_eq_none (by omega),Option.getD_none] at hs
     simp -implicitDefEqProofs (disch:=omega) [go_sem,e1]
     refine next_ren ⟨i + 1,by omega⟩ (by simp only;omega) [] (rhoL []) ?_
     apply ren_lists <;> simp -implicitDefEqProofs [go_sem,hs]
 have:i = k:=by omega
 subst this
 simp -implicitDefEqProofs (disch:=omega) [go_sem,Tryz.f107]
end
end Bk
namespace Bk
def HeadIs (l:List Nat):Prop:=(1≤((getR l 2 4:Nat):Int)∧((getR l 2 4:Nat):Int)≤1000000000)∧l = padB 128 (headB (getR l 2 4))
instance (l:List Nat):Decidable (HeadIs l):=by unfold HeadIs;infer_instance
section
variable (Γ:Nat->Option (List Data))
set_option maxHeartbeats 4000000 in
theorem rreadHead_pc (l:List Nat) (hl:l.length≤1000000) (hb:Bytes l):PC Tryz.prog Γ 106 [.sl 1 (bys l)] (if HeadIs l then .tup [.int .i64 (getR l 2 4),.int .i64 0] else .tup [.int .i64 0,.int .i64 2]):=by
 refine pc_by mixed Tryz.func106 rfl (fun args w=>Tryz.call106 args w) ?_
 have cg:=rget_pc Γ l hl hb 2 4 (by omega) (by omega)
 have hlt:=getR_lt hb 2 4
 have h4:256 ^ 4 = 4294967296:=by decide
 have ch:=rheadBytes_pc Γ (getR l 2 4:Nat)
 rw [h4] at hlt
 clear h4
 have e1:IntKind.i64.wrap ((getR l 2 4:Nat):Int) = ((getR l 2 4:Nat):Int):=by rw [IntKind.wrap_i64];omega
 simp -implicitDefEqProofs (disch:=omega) [go_sem]
 refine .inl (call_data cg (by simp [go_sem]) ?_)
 simp -implicitDefEqProofs (disch:=omega) [go_sem,e1]
 by_cases h:1≤((getR l 2 4:Nat):Int)∧((getR l 2 4:Nat):Int)≤1000000000
 · rw [if_pos h] at ch
   have hpl:(padB 128 (headB (getR l 2 4))).length = 128:=padB_length (by simp [headB,be_length])
   have cr:=row_pc Γ l (padB 128 (headB (getR l 2 4))) (by omega) (by omega)
   refine .inl (call_data ch (by simp [go_sem]) ?_)
   simp -implicitDefEqProofs (disch:=omega) [go_sem]
   refine .inl (call_data cr (by simp [go_sem]) ?_)
   by_cases h2:l = padB 128 (headB (getR l 2 4))
   · rw [decide_eq_true h2,if_pos (show HeadIs l from ⟨h,h2⟩)]
     simp -implicitDefEqProofs (disch:=omega) [go_sem,Tryz.f106]
   · rw [decide_eq_false h2,if_neg fun e:HeadIs l=>h2 e.2]
     simp -implicitDefEqProofs (disch:=omega) [go_sem,Tryz.f106]
 · rw [if_neg h] at ch
   rw [if_neg fun e:HeadIs l=>h e.1]
   refine .inl (call_data ch (by simp [go_sem]) ?_)
   simp -implicitDefEqProofs (disch:=omega) [go_sem]
   have cr:=row_pc Γ l [] (by omega) (by simp)
   refine .inl (call_data cr (by simp [go_sem]) ?_)
   simp -implicitDefEqProofs (disch:=omega) [go_sem,Tryz.f106]
end
end Bk
namespace Bk
theorem letP_iff {u:ByteArray} {l l':List Nat} {r:Data} (hl:Bytes l):letP u l = some (r,l') ↔ r = .tup []∧l = strB u++l':=by
 constructor
 · intro h
   obtain ⟨h1,h2,h3,h4⟩:=letP_rest h
   refine ⟨h1,?_⟩
   rw [h2,<- h4,strB_toStr fun x hx=>hl x (List.mem_of_mem_take hx),h4,List.take_append_drop]
 · rintro ⟨rfl,rfl⟩
   have e1:(strB u++l').take u.size = strB u:=by rw [<- strB_length u,List.take_left]
   have e2:(strB u++l').drop u.size = l':=by rw [<- strB_length u,List.drop_left]
   unfold letP
   rw [e1,e2,if_pos ⟨by rw [List.length_append,strB_length];omega,toStr_strB u⟩]
theorem zeros_eq {l:List Nat}:(∀ x∈l,x = 0) ↔ l = List.replicate l.length 0:=by
 rw [List.eq_replicate_iff]
 simp
theorem be_bytes (k n:Nat):Bytes (be k n):=be_lt k n
theorem headP_iff {l:List Nat} (hl:Bytes l) (n:Nat) (r:List Nat):headP l = some (n,r) ↔ (1≤(n:Int)∧(n:Int)≤1000000000)∧l = padB 128 (headB n)∧r = List.replicate 122 0:=by
 unfold headP
 constructor
 · intro h
   split at h
   rotate_left
   · cases h
   rename_i hlen
   simp only [bnd_some] at h
   obtain ⟨x,l1,h1,n',l2,h2,h3⟩:=h
   obtain ⟨rfl,e1⟩:=(letP_iff hl).1 h1
   subst e1
   have hb1:Bytes l1:=(bytes_app.1 hl).2
   obtain ⟨e2,hn⟩:=(numP_iff hb1 _ _).1 h2
   subst e2
   split at h3
   rotate_left
   · cases h3
   rename_i hc
   simp only [Option.some.injEq,Prod.mk.injEq] at h3
   obtain ⟨rfl,rfl⟩:=h3
   obtain ⟨hg,hz⟩:=hc
   have hl2:l2.length = 122:=by
    simp [strB_length,be_length,uHD_size] at hlen;omega
   rw [zeros_eq,hl2] at hz
   refine ⟨hg,?_,hz⟩
   rw [hz]
   simp only [padB,headB,List.append_assoc]
   rfl
 · rintro ⟨hg,rfl,rfl⟩
   have e:padB 128 (headB n) = strB uHD++(be 4 n++List.replicate 122 0):=by
    unfold padB
    have:(headB n).length = 6:=by simp [headB,be_length]
    rw [this]
    simp only [headB,List.append_assoc]
    rfl
   have hlen:(padB 128 (headB n)).length = 128:=padB_length (by simp [headB,be_length])
   rw [if_pos hlen]
   rw [e] at hl ⊢
   have hb1:=(bytes_app.1 hl).2
   rw [(letP_iff hl).2 ⟨rfl,rfl⟩]
   simp only [bnd]
   rw [(numP_iff hb1 n _).2 ⟨rfl,by have:256 ^ 4 = 4294967296:=by decide
                                    omega⟩]
   simp only
   rw [if_pos ⟨hg,by simp⟩]
theorem getR_take {l:List Nat} {a:Nat} (p:List Nat) (h:∀ (i:Nat) (hi:i < p.length),l.getD (a + i) 0 = p[i]):∀ i,i≤p.length->getR l a i = ofBe (p.take i)
 | 0,_=>rfl
 | i + 1,hi=>by
   rw [getR,getR_take p h i (by omega),h i (by omega),ofBe_take p i (by omega)]
/-- A number told in bytes is found there. -/
theorem getR_at {x y:List Nat} {k n:Nat} (hn:n < 256 ^ k):getR (x++(be k n++y)) x.length k = n:=by
 have hbl:=be_length k n
 have h:=getR_take (l:=x++(be k n++y)) (a:=x.length) (be k n) (fun i hi=>by
  rw [List.getD_eq_getElem?_getD,List.getElem?_append_right (by omega),show x.length + i - x.length = i by omega,List.getElem?_append_left hi,List.getElem?_eq_getElem hi,Option.getD_some]) k (by omega)
 rw [h,List.take_of_length_le (by omega),ofBe_be k n hn]
theorem headIs_iff {l:List Nat} (hl:Bytes l):HeadIs l ↔ ∃ n r,headP l = some (n,r):=by
 constructor
 · rintro ⟨h1,h2⟩
   exact ⟨_,_,(headP_iff hl _ _).2 ⟨h1,h2,rfl⟩⟩
 · rintro ⟨n,r,h⟩
   obtain ⟨h1,h2,_⟩:=(headP_iff hl _ _).1 h
   have e:getR l 2 4 = n:=by
    rw [h2]
    exact getR_at (x:=[72,68]) (k:=4) (n:=n) (y:=List.replicate (128 - (headB n).length) 0) (by have:256 ^ 4 = 4294967296:=by decide
                                                                                                omega)
   unfold HeadIs
   rw [e]
   exact ⟨h1,h2⟩
theorem head_same {l:List Nat} (hl:Bytes l):(if HeadIs l then (((getR l 2 4:Nat):Int),(0:Int)) else (0,2)) = (gotN (headP l),gotE (headP l)):=by
 cases hp:headP l with
 | none =>
   rw [if_neg fun h=>by obtain ⟨n,r,h⟩:=(headIs_iff hl).1 h;rw [hp] at h;cases h]
   rfl
 | some x =>
   obtain ⟨n,r⟩:=x
   rw [if_pos ((headIs_iff hl).2 ⟨n,r,hp⟩)]
   obtain ⟨h1,h2,_⟩:=(headP_iff hl _ _).1 hp
   have e:getR l 2 4 = n:=by
    rw [h2]
    exact getR_at (x:=[72,68]) (k:=4) (n:=n) (y:=List.replicate (128 - (headB n).length) 0) (by have:256 ^ 4 = 4294967296:=by decide
                                                                                                omega)
   rw [e]
   rfl
theorem recB_split (g s:Nat) (o:Op) (y:List Nat):recB g s o++y = strB uRE++(be 4 g++(be 1 s++(opB o++y))):=by
 simp only [recB,List.append_assoc]
 rfl
theorem recordP_iff {l:List Nat} (hl:Bytes l) (g s:Nat) (o:Op) (r:List Nat):recordP l = some ((g,s,o),r) ↔ RecP g s o∧RecFit g s o∧l = padB 128 (recB g s o)∧r = List.replicate 73 0:=by
 unfold recordP
 constructor
 · intro h
   split at h
   rotate_left
   · cases h
   rename_i hlen
   simp only [bnd_some] at h
   obtain ⟨x,l1,h1,g',l2,h2,s',l3,h3,o',l4,h4,h5⟩:=h
   obtain ⟨rfl,e1⟩:=(letP_iff hl).1 h1
   subst e1
   have hb1:Bytes l1:=(bytes_app.1 hl).2
   obtain ⟨e2,hg4⟩:=(numP_iff hb1 _ _).1 h2
   subst e2
   have hb2:Bytes l2:=(bytes_app.1 hb1).2
   obtain ⟨e3,hs1⟩:=(numP_iff hb2 _ _).1 h3
   subst e3
   have hb3:Bytes l3:=(bytes_app.1 hb2).2
   obtain ⟨e4,ho⟩:=(opP_iff hb3 _ _).1 h4
   subst e4
   split at h5
   rotate_left
   · cases h5
   rename_i hc
   simp only [Option.some.injEq,Prod.mk.injEq] at h5
   obtain ⟨⟨rfl,rfl,rfl⟩,rfl⟩:=h5
   obtain ⟨hP,hz⟩:=hc
   have hf:RecFit g' s' o':=⟨fit_nat hg4,fit_nat hs1,ho⟩
   rw [<- recB_split] at hlen ⊢
   rw [List.length_append,recB_length hf] at hlen
   have hl4:l4.length = 73:=by omega
   rw [zeros_eq,hl4] at hz
   refine ⟨hP,hf,?_,hz⟩
   rw [hz]
   unfold padB
   rw [recB_length hf]
 · rintro ⟨hP,hf,rfl,rfl⟩
   have hlen:(padB 128 (recB g s o)).length = 128:=padB_length (by rw [recB_length hf];omega)
   rw [if_pos hlen]
   have e:padB 128 (recB g s o) = strB uRE++(be 4 g++(be 1 s++(opB o++List.replicate 73 0))):=by
    rw [<- recB_split]
    unfold padB
    rw [recB_length hf]
   rw [e] at hl ⊢
   have hb1:=(bytes_app.1 hl).2
   have hb2:=(bytes_app.1 hb1).2
   have hb3:=(bytes_app.1 hb2).2
   have hg:=hf.gen
   have hs:=hf.seq
   unfold Fit at hg hs
   rw [(letP_iff hl).2 ⟨rfl,rfl⟩]
   simp only [bnd]
   rw [(numP_iff hb1 g _).2 ⟨rfl,by omega⟩]
   simp only
   rw [(numP_iff hb2 s _).2 ⟨rfl,by omega⟩]
   simp only
   rw [(opP_iff hb3 o _).2 ⟨rfl,hf.op⟩]
   simp only
   rw [if_pos ⟨hP,by simp⟩]
/-- A record that is written is bytes. -/
theorem nameB_bytes {u:ByteArray} (h:u.size≤16):Bytes (nameB u):=by
 intro x hx
 unfold nameB at hx
 rcases List.mem_cons.1 hx with rfl | hx
 · omega
 rcases List.mem_append.1 hx with hx | hx
 · exact strB_lt u x hx
 · rw [(List.mem_replicate.1 hx).2];omega
theorem padB_bytes {n:Nat} {l:List Nat} (h:Bytes l):Bytes (padB n l):=by
 intro x hx
 rcases List.mem_append.1 hx with hx | hx
 · exact h x hx
 · rw [(List.mem_replicate.1 hx).2];omega
theorem opB_bytes {o:Op} (h:o.user.size≤16):Bytes (opB o):=by
 unfold opB
 simp only [bytes_app]
 exact ⟨be_bytes _ _,be_bytes _ _,be_bytes _ _,be_bytes _ _,nameB_bytes h,be_bytes _ _,be_bytes _ _,be_bytes _ _,be_bytes _ _⟩
theorem recB_bytes {g s:Int} {o:Op} (h:o.user.size≤16):Bytes (recB g s o):=by
 unfold recB
 simp only [bytes_app]
 exact ⟨be_bytes _ _,be_bytes _ _,be_bytes _ _,be_bytes _ _,opB_bytes h⟩
/-- What is written as a record is read as that record. -/
theorem record_back {g s:Int} {o:Op} (h:RecP g s o) (hr:OpRange o):recordP (padB 128 (recB g s o)) = some ((g.toNat,s.toNat,o),List.replicate 73 0):=by
 have hf:=h.fit hr
 have eg:=hf.gen.eq
 have es:=hf.seq.eq
 have:=(recordP_iff (l:=padB 128 (recB g s o)) (padB_bytes (recB_bytes hf.op.user)) g.toNat s.toNat o (List.replicate 73 0)).2 (by
  rw [eg,es]
  exact ⟨h,hf,rfl,rfl⟩)
 exact this
end Bk
namespace Bk
/-- What a snapshot's bytes tell,whether right or not. -/
def bookQ (l:List Nat):Option (Book × List Nat):=if l.length = 2048 then bnd (numP 4 l) fun next l=>bnd (numP 1 l) fun no l=>bnd (numP 1 l) fun ni l=>bnd (numP 1 l) fun nl l =>
 bnd (manyP sessP no l) fun os l=>bnd (manyP itemP ni l) fun is l=>bnd (manyP lockP nl l) fun ls l=>some (⟨next,os,is,ls⟩,l) else none
theorem bookB_split (b:Book) (y:List Nat):bookB b++y = be 4 b.next.toNat++(be 1 b.opn.length++(be 1 b.items.length++(be 1 b.locks.length++(b.opn.flatMap sessB++(b.items.flatMap itemB++(b.locks.flatMap lockB++y)))))):=by
 simp only [bookB,List.append_assoc]
theorem bookQ_iff {l:List Nat} (hl:Bytes l) (b:Book) (r:List Nat):bookQ l = some (b,r) ↔ l.length = 2048∧l = bookB b++r∧BookFit b:=by
 unfold bookQ
 constructor
 · intro h
   split at h
   rotate_left
   · cases h
   rename_i hlen
   simp only [bnd_some,Option.some.injEq,Prod.mk.injEq] at h
   obtain ⟨next,l1,h1,no,l2,h2,ni,l3,h3,nl,l4,h4,os,l5,h5,is,l6,h6,ls,l7,h7,rfl,rfl⟩:=h
   obtain ⟨e1,q1⟩:=(numP_iff hl _ _).1 h1
   subst e1
   have b1:=(bytes_app.1 hl).2
   obtain ⟨e2,q2⟩:=(numP_iff b1 _ _).1 h2
   subst e2
   have b2:=(bytes_app.1 b1).2
   obtain ⟨e3,q3⟩:=(numP_iff b2 _ _).1 h3
   subst e3
   have b3:=(bytes_app.1 b2).2
   obtain ⟨e4,q4⟩:=(numP_iff b3 _ _).1 h4
   subst e4
   have b4:=(bytes_app.1 b3).2
   obtain ⟨e5,q5,q5'⟩:=(manyP_iff (enc:=sessB) (ok:=SessFit) (fun h x r=>sessP_iff h x r) no b4 _ _).1 h5
   subst e5
   have b5:=(bytes_app.1 b4).2
   obtain ⟨e6,q6,q6'⟩:=(manyP_iff (enc:=itemB) (ok:=ItemFit) (fun h x r=>itemP_iff h x r) ni b5 _ _).1 h6
   subst e6
   have b6:=(bytes_app.1 b5).2
   obtain ⟨e7,q7,q7'⟩:=(manyP_iff (enc:=lockB) (ok:=LockFit) (fun h x r=>lockP_iff h x r) nl b6 _ _).1 h7
   subst e7
   subst q5
   subst q6
   subst q7
   refine ⟨hlen,?_,fit_nat q1,by omega,by omega,by omega,q5',q6',q7'⟩
   rw [bookB_split]
   rfl
 · rintro ⟨hlen,rfl,hf⟩
   rw [if_pos hlen]
   rw [bookB_split] at hl ⊢
   obtain ⟨f1,f2,f3,f4,f5,f6,f7⟩:=hf
   have b1:=(bytes_app.1 hl).2
   have b2:=(bytes_app.1 b1).2
   have b3:=(bytes_app.1 b2).2
   have b4:=(bytes_app.1 b3).2
   have b5:=(bytes_app.1 b4).2
   have b6:=(bytes_app.1 b5).2
   have e1:=f1.eq
   rw [(numP_iff hl _ _).2 ⟨rfl,f1.lt⟩]
   simp only [bnd]
   rw [(numP_iff b1 _ _).2 ⟨rfl,by omega⟩]
   simp only
   rw [(numP_iff b2 _ _).2 ⟨rfl,by omega⟩]
   simp only
   rw [(numP_iff b3 _ _).2 ⟨rfl,by omega⟩]
   simp only
   rw [(manyP_iff (enc:=sessB) (ok:=SessFit) (fun h x r=>sessP_iff h x r) _ b4 _ _).2 ⟨rfl,rfl,f5⟩]
   simp only
   rw [(manyP_iff (enc:=itemB) (ok:=ItemFit) (fun h x r=>itemP_iff h x r) _ b5 _ _).2 ⟨rfl,rfl,f6⟩]
   simp only
   rw [(manyP_iff (enc:=lockB) (ok:=LockFit) (fun h x r=>lockP_iff h x r) _ b6 _ _).2 ⟨rfl,rfl,f7⟩]
   simp only
   rw [e1]
/-- A snapshot is bytes. -/
theorem sessB_bytes {s:Sess} (h:s.user.size≤16):Bytes (sessB s):=by
 unfold sessB
 simp only [bytes_app]
 exact ⟨be_bytes _ _,be_bytes _ _,be_bytes _ _,nameB_bytes h,be_bytes _ _,be_bytes _ _⟩
theorem itemB_bytes (s:Item):Bytes (itemB s):=by
 unfold itemB
 simp only [bytes_app]
 exact ⟨be_bytes _ _,be_bytes _ _,be_bytes _ _,be_bytes _ _,be_bytes _ _⟩
theorem lockB_bytes {s:Lock} (h:s.user.size≤16):Bytes (lockB s):=by
 unfold lockB
 simp only [bytes_app]
 exact ⟨nameB_bytes h,be_bytes _ _,be_bytes _ _⟩
theorem bookB_bytes {b:Book} (h:BookFit b):Bytes (bookB b):=by
 unfold bookB
 simp only [bytes_app]
 refine ⟨be_bytes _ _,be_bytes _ _,be_bytes _ _,be_bytes _ _,fun x hx=>?_,fun x hx=>?_,fun x hx=>?_⟩
 · obtain ⟨s,hs,hx⟩:=List.mem_flatMap.1 hx
   exact sessB_bytes (h.opn s hs).user x hx
 · obtain ⟨s,hs,hx⟩:=List.mem_flatMap.1 hx
   exact itemB_bytes s x hx
 · obtain ⟨s,hs,hx⟩:=List.mem_flatMap.1 hx
   exact lockB_bytes (h.locks s hs).user x hx
/-- What is written as a snapshot is read as that book. -/
theorem book_back {b:Book} (h:BookFit b) (h2:(bookB b).length≤2048):bookQ (padB 2048 (bookB b)) = some (b,List.replicate (2048 - (bookB b).length) 0) :=
 (bookQ_iff (padB_bytes (bookB_bytes h)) _ _).2 ⟨padB_length h2,rfl,h⟩
/-- What a snapshot's bytes tell,with noughts behind it,has these bytes. -/
theorem book_forth {l:List Nat} (hl:Bytes l) {b:Book} {r:List Nat} (h:bookQ l = some (b,r)) (hz:∀ x∈r,x = 0):l = padB 2048 (bookB b):=by
 obtain ⟨h1,h2,h3⟩:=(bookQ_iff hl _ _).1 h
 rw [zeros_eq] at hz
 rw [h2,List.length_append] at h1
 rw [h2]
 unfold padB
 rw [hz,show 2048 - (bookB b).length = r.length by omega]
end Bk
namespace Bk
end Bk
namespace Bk
variable (Γ:Nat->Option (List Data))
theorem first_lt0 {α:Type} {p:α->Bool} {l:List α}:first p 0 l < 0->∀ a∈l,p a = false:=by
 intro h
 by_cases hx:∀ a∈l,p a = false
 · exact hx
 exfalso
 have:∀ (l:List α) (n:Nat),(¬ ∀ a∈l,p a = false)->(n:Int)≤first p n l:=by
  intro l
  induction l with
  | nil=>intro n h;exact absurd (fun a ha=>by cases ha) h
  | cons a t ih =>
    intro n h
    unfold first
    by_cases e:p a = true
    · rw [if_pos e];omega
    · rw [if_neg e]
      have:=ih (n + 1) (fun ht=>h fun x hx=>by
       rcases List.mem_cons.1 hx with rfl | hx
       · simpa using e
       · exact ht x hx)
      omega
 have:=this l 0 hx
 omega
theorem first_pos {α:Type} {p:α->Bool} {l:List α} (h:0≤first p 0 l):∃ a∈l,p a = true:=by
 by_cases hx:∀ a∈l,p a = false
 · rw [first_none hx] at h;omega
 · simpa using hx
def leastAt (b:Book) (i:Nat):Int:=if i = 0 then 0 else (b.opn.getD (i - 1) default).id + 1
set_option maxHeartbeats 8000000 in
set_option maxRecDepth 100000 in
theorem rightOpen_pc (b:Book) (ho:b.opn.length≤140737488351232) (n0:0≤b.next) (n1:b.next≤1000000000) {q:Bool} (hq:q = true ↔ OpenOk b):PC Tryz.prog Γ 154 [.sl 6 (sesss b.opn),.int .i64 b.next] (.bool q):=by
 refine pc_by mixed Tryz.func154 rfl (fun args w=>Tryz.call154 args w) ?_
 have no:¬ OpenOk b->q = false:=fun h=>by
  cases q
  · rfl
  · exact absurd (hq.1 rfl) h
 have yes:OpenOk b->q = true:=hq.2
 clear hq
 simp -implicitDefEqProofs (disch:=omega) [go_sem]
 refine loop_ren (σ:={ i:Nat // i≤b.opn.length∧∀ (j:Nat) (h:j < b.opn.length),j < i->SessAt b j h }) (fun i=>⟨envL [(0,.data (.sl 6 (sesss b.opn))),(1,.data (.int .i64 b.next)),(5,.data (.int .i64 (leastAt b i.1))),(8,.data (.sl 6 (sesss b.opn))),(9,.data (.int .i64 b.opn.length)),(10,.data (.int .i64 i.1))],hpL [],0,0,58⟩) (fun i=>b.opn.length - i.1) ⟨0,by omega,fun j h hj=>absurd hj (by omega)⟩ [] (rhoL []) ?_ ?_
 · apply ren_lists <;> simp -implicitDefEqProofs [go_sem,leastAt]
 rintro ⟨i,hi,hall⟩
 by_cases h:i < b.opn.length
 rotate_left
 · obtain rfl:i = b.opn.length:=by omega
   have hqt:q = true:=yes fun i h=>hall i h h
   simp -implicitDefEqProofs (disch:=omega) [go_sem,hqt,Tryz.results154]
 have c1:=isFrom_pc Γ b.opn[i].id (leastAt b i) (b.next - 1)
 have c2:=isLink_pc Γ b.opn[i].link
 have c3:=isOfPool_pc Γ b.opn[i].addr
 have c4:=isUser_pc Γ b.opn[i].user
 have c5:=hasLink_pc Γ (b.opn.take i) (by rw [List.length_take];omega) b.opn[i].link
 have c6:=hasAddr_pc Γ (b.opn.take i) (by rw [List.length_take];omega) b.opn[i].addr
 have hl0:0≤leastAt b i∧((0 < i->(b.opn.getD (i - 1) default).id < b.opn[i].id)∧0≤b.opn[i].id ↔ leastAt b i≤b.opn[i].id):=by
  unfold leastAt
  by_cases e:i = 0
  · rw [if_pos e];exact ⟨Int.le_refl _,⟨fun h=>h.2,fun h=>⟨fun h0=>absurd e (by omega),h⟩⟩⟩
  · rw [if_neg e]
    have hp:=(hall (i - 1) (by omega) (by omega)).1.id0
    have hg:b.opn.getD (i - 1) default = b.opn[i - 1]'(by omega):=by rw [List.getD_eq_getElem?_getD,List.getElem?_eq_getElem (by omega)];rfl
    rw [hg]
    exact ⟨by omega,⟨fun h=>by have:=h.1 (by omega);omega,fun h=>⟨fun _=>by omega,by omega⟩⟩⟩
 obtain ⟨l0,hleast⟩:=hl0
 have hsucc:leastAt b (i + 1) = b.opn[i].id + 1:=by
  have hg:b.opn.getD i default = b.opn[i]:=by rw [List.getD_eq_getElem?_getD,List.getElem?_eq_getElem h];rfl
  unfold leastAt;rw [if_neg (by omega),Nat.add_sub_cancel,hg]
 have hno:¬ SessOk b i b.opn[i]->q = false:=fun hk=>no fun ha=>hk (ha i h).1
 simp -implicitDefEqProofs (disch:=omega) [go_sem]
 refine .inl (call_data c1 (by simp [go_sem]) ?_)
 by_cases g1:leastAt b i≤b.opn[i].id∧b.opn[i].id≤b.next - 1
 rotate_left
 · have hqf:q = false:=hno (fun r=>absurd (hleast.1 ⟨r.up,r.id0⟩) (fun h2=>g1 ⟨h2,by have:=r.id1;omega⟩))
   rw [decide_eq_false g1]
   simp -implicitDefEqProofs (disch:=omega) [go_sem,hqf,Tryz.results154]
 rw [decide_eq_true g1]
 simp -implicitDefEqProofs (disch:=omega) [go_sem]
 refine .inl (call_data c2 (by simp [go_sem]) ?_)
 by_cases g2:0≤b.opn[i].link∧b.opn[i].link≤7
 rotate_left
 · have hqf:q = false:=hno (fun r=>g2 ((fun r=>⟨r.l0,r.l1⟩) r))
   rw [decide_eq_false g2]
   simp -implicitDefEqProofs (disch:=omega) [go_sem,hqf,Tryz.results154]
 rw [decide_eq_true g2]
 simp -implicitDefEqProofs (disch:=omega) [go_sem]
 refine .inl (call_data c3 (by simp [go_sem]) ?_)
 by_cases g3:poolOk b.opn[i].addr
 rotate_left
 · have hqf:q = false:=hno (fun r=>g3 ((fun r=>r.addr) r))
   rw [decide_eq_false g3]
   simp -implicitDefEqProofs (disch:=omega) [go_sem,hqf,Tryz.results154]
 rw [decide_eq_true g3]
 simp -implicitDefEqProofs (disch:=omega) [go_sem]
 refine .inl (call_data c4 (by simp [go_sem]) ?_)
 by_cases g4:nameOk b.opn[i].user
 rotate_left
 · have hqf:q = false:=hno (fun r=>g4 ((fun r=>r.user) r))
   rw [decide_eq_false g4]
   simp -implicitDefEqProofs (disch:=omega) [go_sem,hqf,Tryz.results154]
 rw [decide_eq_true g4]
 simp -implicitDefEqProofs (disch:=omega) [go_sem]
 have hsok:SessOk b i b.opn[i]:=⟨(hleast.2 g1.1).2,by omega,(hleast.2 g1.1).1,g2.1,g2.2,g4,g3⟩
 refine .inl (call_data c5 (by simp [go_sem]) ?_)
 by_cases g5:0≤first (fun s:Sess=>decide (s.link = b.opn[i].link)) 0 (b.opn.take i)
 · have hqf:q = false:=by
    obtain ⟨s,hs,e⟩:=first_pos g5
    obtain ⟨j,hj,rfl⟩:=List.getElem_of_mem hs
    rw [List.length_take] at hj
    rw [List.getElem_take] at e
    exact no fun ha=>((ha i h).2 j (by omega)).1 (by simpa using e)
   rw [decide_eq_true g5]
   simp -implicitDefEqProofs (disch:=omega) [go_sem,hqf]
   refine side (by kernel_rfl) ?_
   simp -implicitDefEqProofs (disch:=omega) [go_sem,hqf,Tryz.results154]
 rw [decide_eq_false g5]
 simp -implicitDefEqProofs (disch:=omega) [go_sem]
 refine .inl (call_data c6 (by simp [go_sem]) ?_)
 by_cases g6:0≤first (fun s:Sess=>decide (s.addr = b.opn[i].addr)) 0 (b.opn.take i)
 · have hqf:q = false:=by
    obtain ⟨s,hs,e⟩:=first_pos g6
    obtain ⟨j,hj,rfl⟩:=List.getElem_of_mem hs
    rw [List.length_take] at hj
    rw [List.getElem_take] at e
    exact no fun ha=>((ha i h).2 j (by omega)).2 (by simpa using e)
   rw [decide_eq_true g6]
   simp -implicitDefEqProofs (disch:=omega) [go_sem,hqf]
   refine side (by kernel_rfl) ?_
   simp -implicitDefEqProofs (disch:=omega) [go_sem,hqf,Tryz.results154]
 rw [decide_eq_false g6]
 simp -implicitDefEqProofs (disch:=omega) [go_sem]
 refine side (by kernel_rfl) ?_
 simp -implicitDefEqProofs (disch:=omega) [go_sem]
 have hin:SessAt b i h:=⟨hsok,fun k hk=>by
  have hm:b.opn[k]∈b.opn.take i:=by
   rw [show b.opn[k] = (b.opn.take i)[k]'(by rw [List.length_take];omega) from (List.getElem_take).symm]
   exact List.getElem_mem _
  exact ⟨by simpa using first_lt0 (Int.not_le.1 g5) _ hm,by simpa using first_lt0 (Int.not_le.1 g6) _ hm⟩⟩
 refine next_ren ⟨i + 1,by omega,fun j hj hji=>?_⟩ (by simp only;omega) [] (rhoL []) ?_
 · by_cases e:j = i
   · subst e;exact hin
   · exact hall j hj (by omega)
 apply ren_lists <;> simp -implicitDefEqProofs [go_sem,hsucc]
theorem first_le {α:Type} {p:α->Bool}:∀ {l:List α} {n j:Nat} (hj:j < l.length),p l[j] = true->first p n l≤((n + j:Nat):Int)
 | a :: t,n,0,hj,h=>by
   unfold first
   rw [if_pos (by simpa using h)];simp
 | a :: t,n,j + 1,hj,h=>by
   unfold first
   by_cases e:p a = true
   · rw [if_pos e];omega
   · rw [if_neg e]
     have:=first_le (p:=p) (l:=t) (n:=n + 1) (j:=j) (by simpa using hj) (by simpa using h)
     omega
set_option maxHeartbeats 8000000 in
set_option maxRecDepth 100000 in
theorem rightLocks_pc (b:Book) (ho:b.locks.length≤140737488351232) {q:Bool} (hq:q = true ↔ ∀ (i:Nat) (h:i < b.locks.length),LockAt b i h):PC Tryz.prog Γ 156 [.sl 3 (locks b.locks)] (.bool q):=by
 refine pc_by mixed Tryz.func156 rfl (fun args w=>Tryz.call156 args w) ?_
 have no:∀ (i:Nat) (h:i < b.locks.length),¬ LockAt b i h->q = false:=fun i h hn=>by
  cases q
  · rfl
  · exact absurd (hq.1 rfl i h) hn
 have yes:(∀ (i:Nat) (h:i < b.locks.length),LockAt b i h)->q = true:=hq.2
 clear hq
 simp -implicitDefEqProofs (disch:=omega) [go_sem]
 refine loop_ren (σ:={ i:Nat // i≤b.locks.length∧∀ (j:Nat) (h:j < b.locks.length),j < i->LockAt b j h }) (fun i=>⟨envL [(0,.data (.sl 3 (locks b.locks))),(5,.data (.sl 3 (locks b.locks))),(6,.data (.int .i64 b.locks.length)),(7,.data (.int .i64 i.1))],hpL [],0,0,36⟩) (fun i=>b.locks.length - i.1) ⟨0,by omega,fun j h hj=>absurd hj (by omega)⟩ [] (rhoL []) ?_ ?_
 · apply ren_lists <;> simp -implicitDefEqProofs [go_sem]
 rintro ⟨i,hi,hall⟩
 by_cases h:i < b.locks.length
 rotate_left
 · obtain rfl:i = b.locks.length:=by omega
   have hqt:q = true:=yes fun i h=>hall i h h
   simp -implicitDefEqProofs (disch:=omega) [go_sem,hqt,Tryz.results156]
 have c1:=isUser_pc Γ b.locks[i].user
 have c2:=isFrom_pc Γ b.locks[i].n 1 255
 have c3:=isFrom_pc Γ b.locks[i].at_ 0 1000000000
 have c4:=placeOfUser_pc Γ (b.locks.take i) (by rw [List.length_take];omega) b.locks[i].user
 simp -implicitDefEqProofs (disch:=omega) [go_sem]
 refine .inl (call_data c1 (by simp [go_sem]) ?_)
 by_cases g1:nameOk b.locks[i].user
 rotate_left
 · have hqf:q = false:=no i h fun r=>g1 r.user
   rw [decide_eq_false g1]
   simp -implicitDefEqProofs (disch:=omega) [go_sem,hqf,Tryz.results156]
 rw [decide_eq_true g1]
 simp -implicitDefEqProofs (disch:=omega) [go_sem]
 refine .inl (call_data c2 (by simp [go_sem]) ?_)
 by_cases g2:1≤b.locks[i].n∧b.locks[i].n≤255
 rotate_left
 · have hqf:q = false:=no i h fun r=>g2 ⟨r.n0,r.n1⟩
   rw [decide_eq_false g2]
   simp -implicitDefEqProofs (disch:=omega) [go_sem,hqf,Tryz.results156]
 rw [decide_eq_true g2]
 simp -implicitDefEqProofs (disch:=omega) [go_sem]
 refine .inl (call_data c3 (by simp [go_sem]) ?_)
 by_cases g3:0≤b.locks[i].at_∧b.locks[i].at_≤1000000000
 rotate_left
 · have hqf:q = false:=no i h fun r=>g3 ⟨r.t0,r.t1⟩
   rw [decide_eq_false g3]
   simp -implicitDefEqProofs (disch:=omega) [go_sem,hqf,Tryz.results156]
 rw [decide_eq_true g3]
 simp -implicitDefEqProofs (disch:=omega) [go_sem]
 refine .inl (call_data c4 (by simp [go_sem]) ?_)
 by_cases g5:0≤first (fun s:Lock=>decide (s.user = b.locks[i].user)) 0 (b.locks.take i)
 · have hqf:q = false:=by
    obtain ⟨s,hs,e⟩:=first_pos g5
    obtain ⟨j,hj,rfl⟩:=List.getElem_of_mem hs
    rw [List.length_take] at hj
    rw [List.getElem_take] at e
    refine no i h fun r=>?_
    have:=first_le (p:=fun l:Lock=>decide (l.user = b.locks[i].user)) (l:=b.locks) (n:=0) (j:=j) (by omega) e
    have hf:=r.f
    unfold failed at hf
    omega
   simp -implicitDefEqProofs (disch:=omega) [go_sem,hqf]
   refine side (by kernel_rfl) ?_
   simp -implicitDefEqProofs (disch:=omega) [go_sem,hqf,Tryz.results156]
 simp -implicitDefEqProofs (disch:=omega) [go_sem]
 refine side (by kernel_rfl) ?_
 simp -implicitDefEqProofs (disch:=omega) [go_sem]
 have hin:LockAt b i h:=⟨g1,g2.1,g2.2,g3.1,g3.2,by
  have:=first_at (p:=fun l:Lock=>decide (l.user = b.locks[i].user)) (n:=0) h (by simp) (fun k hk=>by
   have hm:b.locks[k]'(by omega)∈b.locks.take i:=by
    rw [show b.locks[k]'(by omega) = (b.locks.take i)[k]'(by rw [List.length_take];omega) from (List.getElem_take).symm]
    exact List.getElem_mem _
   exact first_lt0 (Int.not_le.1 g5) _ hm)
  simpa [failed] using this⟩
 refine next_ren ⟨i + 1,by omega,fun j hj hji=>?_⟩ (by simp only;omega) [] (rhoL []) ?_
 · by_cases e:j = i
   · subst e;exact hin
   · exact hall j hj (by omega)
 apply ren_lists <;> simp -implicitDefEqProofs [go_sem]
/-- May a line be a session's first? -/
def FirstOk (x:Item):Prop:=x.kind = 1∧x.inn = 0∧x.out = 0∧x.cause = 0
instance (x:Item):Decidable (FirstOk x):=by unfold FirstOk;exact inferInstance
/-- May a line follow that one? -/
def NextOk (y x:Item):Prop:=y.kind≠3∧y.inn≤x.inn∧y.out≤x.out∧(x.kind = 2∧x.cause = 0 ∨ x.kind = 3∧0≤x.cause∧x.cause≤255)
instance (y x:Item):Decidable (NextOk y x):=by unfold NextOk;exact inferInstance
set_option maxHeartbeats 4000000 in
set_option maxRecDepth 100000 in
theorem mayBegin_pc (x:Item) (hx:x.Ty):PC Tryz.prog Γ 186 [item x] (.bool (decide (FirstOk x))):=by
 refine pc_by mixed Tryz.func186 rfl (fun args w=>Tryz.call186 args w) ?_
 have hc:Item.Ty ⟨1,x.id,0,0,0⟩:=by
  obtain ⟨h1,h2,h3,h4,h5⟩:=hx
  constructor <;> first | assumption | (unfold R64;omega) | (unfold U64;omega) | (simp [R64,U64])
 have he:decide (FirstOk x) = decide (x = ⟨1,x.id,0,0,0⟩):=by
  refine decide_eq_decide.2 ?_
  cases x
  simp [FirstOk]
 rw [he]
 simp -implicitDefEqProofs (disch:=omega) [go_sem,item]
 refine eqK_item hx hc ?_
 by_cases e:x = ⟨1,x.id,0,0,0⟩
 · simp -implicitDefEqProofs (disch:=omega) [go_sem,decide_eq_true e,Tryz.results186]
 · simp -implicitDefEqProofs (disch:=omega) [go_sem,decide_eq_false e,Tryz.results186]
set_option maxHeartbeats 4000000 in
set_option maxRecDepth 100000 in
theorem mayFollow_pc (y x:Item):PC Tryz.prog Γ 187 [item y,item x] (.bool (decide (NextOk y x))):=by
 refine pc_by mixed Tryz.func187 rfl (fun args w=>Tryz.call187 args w) ?_
 have c1:=isFrom_pc Γ x.cause 0 255
 obtain ⟨v,hv⟩:∃ v,decide (NextOk y x) = v:=⟨_,rfl⟩
 rw [hv]
 have no:¬ NextOk y x->v = false:=fun h=>by rw [<- hv];exact decide_eq_false h
 have yes:NextOk y x->v = true:=fun h=>by rw [<- hv];exact decide_eq_true h
 clear hv
 by_cases g1:y.kind≠3
 rotate_left
 · have hvf:v = false:=no fun r=>g1 r.1
   have g1:y.kind = 3:=by omega
   simp -implicitDefEqProofs (disch:=omega) [go_sem,item,hvf,Tryz.results187]
 by_cases g2:y.inn≤x.inn
 rotate_left
 · have hvf:v = false:=no fun r=>g2 r.2.1
   simp -implicitDefEqProofs (disch:=omega) [go_sem,item,hvf,Tryz.results187]
 by_cases g3:y.out≤x.out
 rotate_left
 · have hvf:v = false:=no fun r=>g3 r.2.2.1
   simp -implicitDefEqProofs (disch:=omega) [go_sem,item,hvf,Tryz.results187]
 by_cases k2:x.kind = 2
 · by_cases z:x.cause = 0
   · have hvt:v = true:=yes ⟨g1,g2,g3,.inl ⟨k2,z⟩⟩
     simp -implicitDefEqProofs (disch:=omega) [go_sem,item,hvt,Tryz.results187]
   · have hvf:v = false:=no fun r=>by have:=r.2.2.2;omega
     simp -implicitDefEqProofs (disch:=omega) [go_sem,item,hvf,Tryz.results187]
 by_cases k3:x.kind = 3
 · simp -implicitDefEqProofs (disch:=omega) [go_sem,item]
   refine .inl (call_data c1 (by simp [go_sem]) ?_)
   by_cases z:0≤x.cause∧x.cause≤255
   · have hvt:v = true:=yes ⟨g1,g2,g3,.inr ⟨k3,z⟩⟩
     rw [decide_eq_true z]
     simp -implicitDefEqProofs (disch:=omega) [go_sem,hvt,Tryz.results187]
   · have hvf:v = false:=no fun r=>by have:=r.2.2.2;omega
     rw [decide_eq_false z]
     simp -implicitDefEqProofs (disch:=omega) [go_sem,hvf,Tryz.results187]
 have hvf:v = false:=no fun r=>by have:=r.2.2.2;omega
 simp -implicitDefEqProofs (disch:=omega) [go_sem,item,hvf,Tryz.results187]
end Bk
end Go.Proofs.YtjkpeebajibgiaaGreat
