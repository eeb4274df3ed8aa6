/- Books: the last lines of all sessions, as a map has them; the ledger of a right book. Books: what the program says of any book, right or not. Code: many things read; snapshots read. (By genQB.py.) Code: snapshots read. (By genQC.py.) Books: an element taken out of a row. Books: the ledger trimmed. Books: what is done, by the ops' kinds; Apply. Stores: what is found on a disk. Stores: what is found on a disk, records. Stores: what is found on a disk, what stands behind its snapshot. Stores: found, and begun anew. Stores: the document's own functions. Stores: where the document finds nothing on a disk. Stores: what the document finds on a disk. -/
import Derived.Test.YtjkpeebajibgiaaGreatPk8
namespace Go.Proofs.YtjkpeebajibgiaaGreat
open Go.RowKit
set_option linter.unusedSimpArgs false
set_option linter.unusedVariables false
set_option maxRecDepth 100000
namespace Bk
variable (Γ:Nat->Option (List Data))
def ids (m:List Item):List Data:=m.map fun y=>.int .i64 y.id
def itsD (m:List Item):List D:=m.map fun y=>.data (item y)
def slot (m:List Item) (id:Int):Int:=first (fun y:Item=>decide (y.id = id)) 0 m
theorem findD_ids (id:Int):∀ (m:List Item) (n:Nat),findD (.int .i64 id) (ids m) n = some (if first (fun y:Item=>decide (y.id = id)) n m < 0 then none else some (first (fun y:Item=>decide (y.id = id)) n m).toNat)
 | [],n=>by simp [ids,findD,first]
 | y :: t,n=>by
   have ih:=findD_ids id t (n + 1)
   have e0:ids (y :: t) = .int .i64 y.id :: ids t:=rfl
   rw [e0]
   unfold findD first
   by_cases e:y.id = id
   · subst e
     simp [keyEq]
   · simp only [keyEq,if_pos,decide_eq_true_eq,if_neg e]
     have:(id == y.id) = false:=by simpa using fun h=>e h.symm
     rw [this]
     simp only [ih]
theorem findD_slot (m:List Item) (id:Int):findD (.int .i64 id) (ids m) 0 = some (if slot m id < 0 then none else some (slot m id).toNat):=findD_ids id m 0
def putI (m:List Item) (x:Item):List Item:=if slot m x.id < 0 then m++[x] else m.set (slot m x.id).toNat x
def linesM (l:List Item):List Item:=l.foldl putI []
theorem linesM_snoc (l:List Item) (x:Item):linesM (l++[x]) = putI (linesM l) x:=by simp [linesM]
theorem first_spec {α:Type} {p:α->Bool}:∀ (l:List α) (n:Nat),(first p n l = -1∧∀ a∈l,p a = false) ∨ ∃ (j:Nat) (hj:j < l.length),first p n l = ((n + j:Nat):Int)∧p l[j] = true∧∀ (k:Nat) (hk:k < j),p (l[k]'(by omega)) = false
 | [],n=>.inl ⟨rfl,fun a ha=>by cases ha⟩
 | a :: t,n=>by
   unfold first
   by_cases e:p a = true
   · exact .inr ⟨0,by simp,by rw [if_pos e];simp,by simpa using e,fun k hk=>absurd hk (by omega)⟩
   · rw [if_neg e]
     rcases first_spec (p:=p) t (n + 1) with ⟨h1,h2⟩ | ⟨j,hj,h1,h2,h3⟩
     · exact .inl ⟨h1,fun x hx=>by
        rcases List.mem_cons.1 hx with rfl | hx
        · simpa using e
        · exact h2 x hx⟩
     · refine .inr ⟨j + 1,by simp;omega,by rw [h1];omega,by simpa using h2,fun k hk=>?_⟩
       cases k with
       | zero=>simpa using e
       | succ k=>simpa using h3 k (by omega)
/-- Either a number has no line,or one place. -/
theorem slot_spec (m:List Item) (id:Int):(slot m id = -1∧∀ y∈m,y.id≠id) ∨ ∃ (j:Nat) (hj:j < m.length),slot m id = (j:Int)∧m[j].id = id:=by
 rcases first_spec (p:=fun y:Item=>decide (y.id = id)) m 0 with ⟨h1,h2⟩ | ⟨j,hj,h1,h2,_⟩
 · exact .inl ⟨h1,fun y hy=>by simpa using h2 y hy⟩
 · exact .inr ⟨j,hj,by unfold slot;rw [h1];simp,by simpa using h2⟩
/-- What the map has for a number is its last line. -/
def HasLast (l m:List Item) (n:Nat):Prop:=∀ id,(last l id n < 0∧slot m id < 0) ∨ ∃ (k j:Nat) (hk:k < l.length) (hj:j < m.length),last l id n = (k:Int)∧slot m id = (j:Int)∧m[j] = l[k]
theorem hasLast_zero (l:List Item):HasLast l [] 0:=fun id=>.inl ⟨by simp [last],by simp [slot,first]⟩
theorem slot_ne {m:List Item} {x:Item} {id:Int} (h:x.id≠id):slot (m++[x]) id = slot m id:=by
 unfold slot
 have:∀ (m:List Item) (n:Nat),first (fun y:Item=>decide (y.id = id)) n (m++[x]) = first (fun y:Item=>decide (y.id = id)) n m:=by
  intro m
  induction m with
  | nil=>intro n;simp [first,h]
  | cons a t ih=>intro n;simp only [List.cons_append];unfold first;rw [ih]
 exact this m 0
theorem slot_new {m:List Item} {x:Item} (h:∀ y∈m,y.id≠x.id):slot (m++[x]) x.id = (m.length:Int):=by
 have:=first_at (p:=fun y:Item=>decide (y.id = x.id)) (l:=m++[x]) (n:=0) (i:=m.length) (by simp) (by simp) (fun k hk=>by
  rw [List.getElem_append_left hk]
  simpa using h _ (List.getElem_mem hk))
 simpa [slot] using this
theorem slot_set {m:List Item} {x:Item} {j:Nat} (hj:j < m.length) (he:m[j].id = x.id) (id:Int):slot (m.set j x) id = slot m id:=by
 unfold slot
 have:∀ (m:List Item) (n j:Nat) (hj:j < m.length),m[j].id = x.id->first (fun y:Item=>decide (y.id = id)) n (m.set j x) = first (fun y:Item=>decide (y.id = id)) n m:=by
  intro m
  induction m with
  | nil=>intro n j hj;exact absurd hj (by simp)
  | cons a t ih =>
    intro n j hj he
    cases j with
    | zero=>simp only [List.set_cons_zero];unfold first;simp only [List.getElem_cons_zero] at he;rw [he]
    | succ j=>simp only [List.set_cons_succ];unfold first;rw [ih (n + 1) j (by simpa using hj) (by simpa using he)]
 exact this m 0 j hj he
theorem last_succ (l:List Item) (id:Int) (i:Nat) (h:i < l.length):last l id (i + 1) = if l[i].id = id then (i:Int) else last l id i:=by
 have hg:l.getD i ⟨0,0,0,0,0⟩ = l[i]:=by simp [List.getD_eq_getElem?_getD,h]
 simp only [last,hg]
theorem hasLast_succ {l m:List Item} {i:Nat} (h:i < l.length) (hm:HasLast l m i):HasLast l (putI m l[i]) (i + 1):=by
 intro id
 rw [last_succ l id i h]
 rcases slot_spec m l[i].id with ⟨s1,s2⟩ | ⟨j,hj,s1,s2⟩
 · have hp:putI m l[i] = m++[l[i]]:=by unfold putI;rw [if_pos (by omega)]
   rw [hp]
   by_cases e:l[i].id = id
   · subst e
     rw [if_pos rfl,slot_new s2]
     exact .inr ⟨i,m.length,h,by simp,rfl,rfl,by simp⟩
   · rw [if_neg e,slot_ne e]
     rcases hm id with ⟨h1,h2⟩ | ⟨k,j,hk,hj,h1,h2,h3⟩
     · exact .inl ⟨h1,h2⟩
     · exact .inr ⟨k,j,hk,by simp;omega,h1,h2,by rw [List.getElem_append_left hj];exact h3⟩
 · have ej:(slot m l[i].id).toNat = j:=by omega
   have hp:putI m l[i] = m.set j l[i]:=by unfold putI;rw [if_neg (by omega),ej]
   rw [hp,slot_set hj s2]
   by_cases e:l[i].id = id
   · subst e
     rw [if_pos rfl]
     exact .inr ⟨i,j,h,by simp;omega,rfl,s1,by simp⟩
   · rw [if_neg e]
     rcases hm id with ⟨h1,h2⟩ | ⟨k,j2,hk,hj2,h1,h2,h3⟩
     · exact .inl ⟨h1,h2⟩
     · have hne:j≠j2:=by
        rintro rfl
        rcases slot_spec m id with ⟨t1,_⟩ | ⟨j3,hj3,t1,t2⟩
        · omega
        · have:j3 = j:=by omega
          subst this
          exact e (s2.symm.trans t2)
       exact .inr ⟨k,j2,hk,by simp;omega,h1,h2,by rw [List.getElem_set_ne hne];exact h3⟩
theorem ids_app (m:List Item) (x:Item):ids (m++[x]) = ids m++[.int .i64 x.id]:=by simp [ids]
theorem itsD_app (m:List Item) (x:Item):itsD (m++[x]) = itsD m++[.data (item x)]:=by simp [itsD]
theorem itsD_set (m:List Item) (x:Item) (j:Nat):itsD (m.set j x) = (itsD m).set j (.data (item x)):=by simp [itsD,List.map_set]
theorem ids_set {m:List Item} {x:Item} {j:Nat} (hj:j < m.length) (he:m[j].id = x.id):ids (m.set j x) = ids m:=by
 unfold ids
 rw [List.map_set]
 apply List.ext_getElem
 · simp
 intro k h1 h2
 by_cases e:j = k
 · subst e;simp [he]
 · rw [List.getElem_set_ne e]
theorem itsD_get {m:List Item} {j:Nat} (hj:j < m.length):(itsD m)[j]? = some (.data (item m[j])):=by simp [itsD,hj]
set_option maxHeartbeats 8000000 in
set_option maxRecDepth 100000 in
theorem lastLines_pc (b:Book) (hi:b.items.length≤140737488351232) (ht:∀ x∈b.items,x.Ty) (n0:0≤b.next) (n1:b.next≤1000000000) (hall:∀ (i:Nat) (h:i < b.items.length),LineOk b i b.items[i]):PC Tryz.prog Γ 179 [.sl 5 (items b.items),.int .i64 b.next] (.tup [.mp (ids (linesM b.items)) (items (linesM b.items)),.bool true]):=by
 refine pc_by mixed Tryz.func179 rfl (fun args w=>Tryz.call179 args w) ?_
 simp -implicitDefEqProofs (disch:=omega) [go_sem]
 refine loop_ren (σ:={ i:Nat // i≤b.items.length∧HasLast b.items (linesM (b.items.take i)) i }) (fun i=>⟨envL [(1,.data (.int .i64 b.next)),(6,.mref 0),(12,.data (.sl 5 (items b.items))),(13,.data (.int .i64 b.items.length)),(14,.data (.int .i64 i.1))],hpL [(0,.obj (.mp (ids (linesM (b.items.take i.1))) (itsD (linesM (b.items.take i.1)))))],1,0,55⟩) (fun i=>b.items.length - i.1) ⟨0,by omega,hasLast_zero _⟩ [] (rhoL [(0,some 2)]) ?_ ?_
 · apply ren_lists <;> simp -implicitDefEqProofs [go_sem,linesM,ids,itsD]
 rintro ⟨i,hi2,hm⟩
 by_cases h:i < b.items.length
 rotate_left
 · obtain rfl:i = b.items.length:=by omega
   simp -implicitDefEqProofs (disch:=omega) [go_sem,List.take_length,Tryz.results179]
   refine ⟨_,⟨_,rfl,.mref _ (ids (linesM b.items)) (items (linesM b.items)) (itsD (linesM b.items)) rfl rfl (by simp [itsD,items]) ?_⟩,?_⟩
   · intro j d x hd hx
     simp [itsD] at hd
     simp [items] at hx
     obtain ⟨y,hy,rfl⟩:=hd
     rw [hy] at hx
     obtain rfl:item y = x:=by simpa using hx
     exact .data _
   rfl
 have hline:=hall i h
 have hty:=ht _ (List.getElem_mem h)
 have c1:=isFrom_pc Γ b.items[i].id 0 (b.next - 1)
 have e1:decide (0≤b.items[i].id∧b.items[i].id≤b.next - 1) = true:=decide_eq_true (by unfold LineOk LineAt at hline;omega)
 rw [e1] at c1
 have c2:=mayBegin_pc Γ b.items[i] hty
 have htk:linesM (b.items.take (i + 1)) = putI (linesM (b.items.take i)) b.items[i]:=by rw [<- linesM_snoc,List.take_append_getElem]
 have hm2:=hasLast_succ h hm
 rw [<- htk] at hm2
 have hfd:=findD_slot (linesM (b.items.take i)) b.items[i].id
 have hcase:=hm b.items[i].id
 obtain ⟨m,em⟩:∃ m,linesM (b.items.take i) = m:=⟨_,rfl⟩
 obtain ⟨m2,em2⟩:∃ m,linesM (b.items.take (i + 1)) = m:=⟨_,rfl⟩
 rw [em] at hfd hcase
 rw [em,em2] at htk
 rcases hcase with ⟨h1,h2⟩ | ⟨k,j,hk,hj,h1,h2,h3⟩
 · rw [if_pos h2] at hfd
   have hf:FirstOk b.items[i]:=by unfold LineOk LineAt at hline;unfold FirstOk;omega
   rw [decide_eq_true hf] at c2
   have hp:m2 = m++[b.items[i]]:=by rw [htk];unfold putI;rw [if_pos h2]
   have hi1:ids m++[.int .i64 b.items[i].id] = ids m2:=by rw [hp,ids_app]
   have hi2:itsD m++[.data (item b.items[i])] = itsD m2:=by rw [hp,itsD_app]
   unfold item at hi2 c2
   simp -implicitDefEqProofs (disch:=omega) [go_sem,em,hfd]
   refine .inl (call_data c1 (by simp [go_sem]) ?_)
   simp -implicitDefEqProofs (disch:=omega) [go_sem]
   refine .inl (call_data c2 (by simp [go_sem]) ?_)
   simp -implicitDefEqProofs (disch:=omega) [go_sem,em,hfd]
   refine next_ren ⟨i + 1,by omega,hm2⟩ (by simp only;omega) [] (rhoL [(0,some 0)]) ?_
   apply ren_lists <;> simp -implicitDefEqProofs [go_sem,em2,<- hi1,<- hi2]
   rw [hi2]
   exact renCells_plain rfl (by simp [itsD,plainD])
 · have ej:(slot m b.items[i].id).toNat = j:=by omega
   rw [if_neg (by omega),ej] at hfd
   have hg:=itsD_get hj
   have hmid:m[j].id = b.items[i].id:=by
    rcases slot_spec m b.items[i].id with ⟨t1,_⟩ | ⟨j2,hj2,t1,t2⟩
    · omega
    · obtain rfl:j2 = j:=by omega
      exact t2
   have hnx:NextOk m[j] b.items[i]:=by
    have hgd:b.items.getD k default = b.items[k]:=by rw [List.getD_eq_getElem?_getD,List.getElem?_eq_getElem hk];rfl
    unfold LineOk at hline
    rw [h1] at hline
    unfold LineAt at hline
    rw [Int.toNat_natCast,hgd,<- h3] at hline
    unfold NextOk
    omega
   have c3:=mayFollow_pc Γ m[j] b.items[i]
   rw [decide_eq_true hnx] at c3
   have hp:m2 = m.set j b.items[i]:=by rw [htk];unfold putI;rw [if_neg (by omega),ej]
   have hi1:ids m = ids m2:=by rw [hp,ids_set hj hmid]
   have hi2:(itsD m).set j (.data (item b.items[i])) = itsD m2:=by rw [hp,itsD_set]
   unfold item at hi2 c3 hg
   simp -implicitDefEqProofs (disch:=omega) [go_sem,em,hfd,hg]
   refine .inl (call_data c1 (by simp [go_sem]) ?_)
   simp -implicitDefEqProofs (disch:=omega) [go_sem]
   refine .inl (call_data c3 (by simp [go_sem]) ?_)
   simp -implicitDefEqProofs (disch:=omega) [go_sem,em,hfd,hg]
   refine next_ren ⟨i + 1,by omega,hm2⟩ (by simp only;omega) [] (rhoL [(0,some 0)]) ?_
   apply ren_lists <;> simp -implicitDefEqProofs [go_sem,em2,<- hi1,<- hi2]
   rw [hi2]
   exact renCells_plain rfl (by simp [itsD,plainD])
/-- Each number once. -/
def Uniq (m:List Item):Prop:=∀ (i:Nat) (h:i < m.length),slot m m[i].id = i
theorem uniq_put {m:List Item} (x:Item) (hm:Uniq m):Uniq (putI m x):=by
 rcases slot_spec m x.id with ⟨s1,s2⟩ | ⟨j,hj,s1,s2⟩
 · have hp:putI m x = m++[x]:=by unfold putI;rw [if_pos (by omega)]
   rw [hp]
   intro i h
   by_cases e:i < m.length
   · rw [List.getElem_append_left e,slot_ne (fun h=>s2 _ (List.getElem_mem e) h.symm)]
     exact hm i e
   · have:i = m.length:=by simp at h;omega
     subst this
     simp only [List.getElem_concat_length]
     exact slot_new s2
 · have ej:(slot m x.id).toNat = j:=by omega
   have hp:putI m x = m.set j x:=by unfold putI;rw [if_neg (by omega),ej]
   rw [hp]
   intro i h
   rw [slot_set hj s2]
   have hi:i < m.length:=by simpa using h
   by_cases e:j = i
   · subst e;simp only [List.getElem_set_self];exact s1
   · rw [List.getElem_set_ne e];exact hm i hi
theorem uniq_lines (l:List Item):Uniq (linesM l):=by
 have:∀ (l m:List Item),Uniq m->Uniq (l.foldl putI m):=by
  intro l
  induction l with
  | nil=>intro m h;exact h
  | cons x t ih=>intro m h;exact ih _ (uniq_put x h)
 exact this l [] (fun i h=>absurd h (by simp))
theorem hasLast_all (l:List Item):HasLast l (linesM l) l.length:=by
 have:∀ i,i≤l.length->HasLast l (linesM (l.take i)) i:=by
  intro i
  induction i with
  | zero=>intro _;exact hasLast_zero l
  | succ i ih =>
    intro h
    have:=hasLast_succ (by omega:i < l.length) (ih (by omega))
    rw [<- linesM_snoc,List.take_append_getElem] at this
    exact this
 have:=this l.length (Nat.le_refl _)
 rwa [List.take_length] at this
theorem last_id (l:List Item) (id:Int):∀ (n:Nat),n≤l.length->∀ (k:Nat),last l id n = (k:Int)->∀ (hk:k < l.length),l[k].id = id
 | 0,_,k,h,_=>by simp only [last] at h;omega
 | n + 1,hn,k,h,hk=>by
   rw [last_succ l id n (by omega)] at h
   by_cases e:l[n].id = id
   · rw [if_pos e] at h
     obtain rfl:n = k:=by omega
     exact e
   · rw [if_neg e] at h
     exact last_id l id n (by omega) k h hk
theorem itms_get {m:List Item} {j:Nat} (hj:j < m.length):((items m).map D.data)[j]? = some (.data (item m[j])):=by simp [items,hj]
end Bk
namespace Bk
section
variable (Γ:Nat->Option (List Data))
set_option maxHeartbeats 8000000 in
theorem lastLinesNo_pc (b:Book) (hi:b.items.length≤140737488351232) (ht:∀ x∈b.items,x.Ty) (n0:0≤b.next) (n1:b.next≤1000000000) (hno:¬ ∀ (i:Nat) (h:i < b.items.length),LineOk b i b.items[i]):PC Tryz.prog Γ 179 [.sl 5 (items b.items),.int .i64 b.next] (.tup [.nilm,.bool false]):=by
 refine pc_by mixed Tryz.func179 rfl (fun args w=>Tryz.call179 args w) ?_
 simp -implicitDefEqProofs (disch:=omega) [go_sem]
 refine loop_ren (σ:={ i:Nat // (i≤b.items.length∧∀ (j:Nat) (h:j < b.items.length),j < i->LineOk b j b.items[j])∧HasLast b.items (linesM (b.items.take i)) i }) (fun i=>⟨envL [(1,.data (.int .i64 b.next)),(6,.mref 0),(12,.data (.sl 5 (items b.items))),(13,.data (.int .i64 b.items.length)),(14,.data (.int .i64 i.1))],hpL [(0,.obj (.mp (ids (linesM (b.items.take i.1))) (itsD (linesM (b.items.take i.1)))))],1,0,55⟩) (fun i=>b.items.length - i.1) ⟨0,⟨by omega,fun j h hj=>absurd hj (by omega)⟩,hasLast_zero _⟩ [] (rhoL [(0,some 2)]) ?_ ?_
 · apply ren_lists <;> simp -implicitDefEqProofs [go_sem,linesM,ids,itsD]
 rintro ⟨i,⟨hi2,hall⟩,hm⟩
 by_cases h:i < b.items.length
 rotate_left
 · exact absurd (fun j hj=>hall j hj (by omega)) hno
 have hty:=ht _ (List.getElem_mem h)
 have c1:=isFrom_pc Γ b.items[i].id 0 (b.next - 1)
 have c2:=mayBegin_pc Γ b.items[i] hty
 have htk:linesM (b.items.take (i + 1)) = putI (linesM (b.items.take i)) b.items[i]:=by rw [<- linesM_snoc,List.take_append_getElem]
 have hm2:=hasLast_succ h hm
 rw [<- htk] at hm2
 have hfd:=findD_slot (linesM (b.items.take i)) b.items[i].id
 have hcase:=hm b.items[i].id
 have hall2:LineOk b i b.items[i]->∀ (j:Nat) (h:j < b.items.length),j < i + 1->LineOk b j b.items[j]:=fun hl j hj hji=>if e:j = i then by subst e;exact hl else hall j hj (by omega)
 obtain ⟨m,em⟩:∃ m,linesM (b.items.take i) = m:=⟨_,rfl⟩
 obtain ⟨m2,em2⟩:∃ m,linesM (b.items.take (i + 1)) = m:=⟨_,rfl⟩
 rw [em] at hfd hcase
 rw [em,em2] at htk
 rcases hcase with ⟨h1,h2⟩ | ⟨k,j,hk,hj,h1,h2,h3⟩
 · rw [if_pos h2] at hfd
   by_cases g1:0≤b.items[i].id∧b.items[i].id≤b.next - 1
   rotate_left
   · rw [decide_eq_false g1] at c1
     simp -implicitDefEqProofs (disch:=omega) [go_sem,em,hfd]
     refine .inl (call_data c1 (by simp [go_sem]) ?_)
     simp -implicitDefEqProofs (disch:=omega) [go_sem,Tryz.results179]
   rw [decide_eq_true g1] at c1
   by_cases hf:FirstOk b.items[i]
   rotate_left
   · rw [decide_eq_false hf] at c2
     unfold item at c2
     simp -implicitDefEqProofs (disch:=omega) [go_sem,em,hfd]
     refine .inl (call_data c1 (by simp [go_sem]) ?_)
     simp -implicitDefEqProofs (disch:=omega) [go_sem]
     refine .inl (call_data c2 (by simp [go_sem]) ?_)
     simp -implicitDefEqProofs (disch:=omega) [go_sem,Tryz.results179]
   have hline:LineOk b i b.items[i]:=by unfold FirstOk at hf;unfold LineOk LineAt;omega
   have hallN:=hall2 hline
   rw [decide_eq_true hf] at c2
   have hp:m2 = m++[b.items[i]]:=by rw [htk];unfold putI;rw [if_pos h2]
   have hi1:ids m++[.int .i64 b.items[i].id] = ids m2:=by rw [hp,ids_app]
   have hi2:itsD m++[.data (item b.items[i])] = itsD m2:=by rw [hp,itsD_app]
   clear hall2 hline hf
   unfold item at hi2 c2
   simp -implicitDefEqProofs (disch:=omega) [go_sem,em,hfd]
   refine .inl (call_data c1 (by simp [go_sem]) ?_)
   simp -implicitDefEqProofs (disch:=omega) [go_sem]
   refine .inl (call_data c2 (by simp [go_sem]) ?_)
   simp -implicitDefEqProofs (disch:=omega) [go_sem,em,hfd]
   refine next_ren ⟨i + 1,⟨by omega,hallN⟩,hm2⟩ (by simp only;omega) [] (rhoL [(0,some 0)]) ?_
   apply ren_lists <;> simp -implicitDefEqProofs [go_sem,em2,<- hi1,<- hi2]
   rw [hi2]
   exact renCells_plain rfl (by simp [itsD,plainD])
 · have ej:(slot m b.items[i].id).toNat = j:=by omega
   rw [if_neg (by omega),ej] at hfd
   have hg:=itsD_get hj
   have hmid:m[j].id = b.items[i].id:=by
    rcases slot_spec m b.items[i].id with ⟨t1,_⟩ | ⟨j2,hj2,t1,t2⟩
    · omega
    · obtain rfl:j2 = j:=by omega
      exact t2
   have c3:=mayFollow_pc Γ m[j] b.items[i]
   by_cases g1:0≤b.items[i].id∧b.items[i].id≤b.next - 1
   rotate_left
   · rw [decide_eq_false g1] at c1
     unfold item at hg
     simp -implicitDefEqProofs (disch:=omega) [go_sem,em,hfd,hg]
     refine .inl (call_data c1 (by simp [go_sem]) ?_)
     simp -implicitDefEqProofs (disch:=omega) [go_sem,Tryz.results179]
   rw [decide_eq_true g1] at c1
   by_cases hnx:NextOk m[j] b.items[i]
   rotate_left
   · rw [decide_eq_false hnx] at c3
     unfold item at hg c3
     simp -implicitDefEqProofs (disch:=omega) [go_sem,em,hfd,hg]
     refine .inl (call_data c1 (by simp [go_sem]) ?_)
     simp -implicitDefEqProofs (disch:=omega) [go_sem]
     refine .inl (call_data c3 (by simp [go_sem]) ?_)
     simp -implicitDefEqProofs (disch:=omega) [go_sem,Tryz.results179]
   have hline:LineOk b i b.items[i]:=by
    have hgd:b.items.getD k default = b.items[k]:=by rw [List.getD_eq_getElem?_getD,List.getElem?_eq_getElem hk];rfl
    unfold LineOk
    rw [h1]
    unfold LineAt
    rw [Int.toNat_natCast,hgd,<- h3]
    unfold NextOk at hnx
    omega
   have hallN:=hall2 hline
   rw [decide_eq_true hnx] at c3
   have hp:m2 = m.set j b.items[i]:=by rw [htk];unfold putI;rw [if_neg (by omega),ej]
   have hi1:ids m = ids m2:=by rw [hp,ids_set hj hmid]
   have hi2:(itsD m).set j (.data (item b.items[i])) = itsD m2:=by rw [hp,itsD_set]
   clear hall2 hline hnx
   unfold item at hi2 c3 hg
   simp -implicitDefEqProofs (disch:=omega) [go_sem,em,hfd,hg]
   refine .inl (call_data c1 (by simp [go_sem]) ?_)
   simp -implicitDefEqProofs (disch:=omega) [go_sem]
   refine .inl (call_data c3 (by simp [go_sem]) ?_)
   simp -implicitDefEqProofs (disch:=omega) [go_sem,em,hfd,hg]
   refine next_ren ⟨i + 1,⟨by omega,hallN⟩,hm2⟩ (by simp only;omega) [] (rhoL [(0,some 0)]) ?_
   apply ren_lists <;> simp -implicitDefEqProofs [go_sem,em2,<- hi1,<- hi2]
   rw [hi2]
   exact renCells_plain rfl (by simp [itsD,plainD])
/-- What the map must have of a session that is open. -/
def OpenHas (m:List Item) (s:Sess):Prop:=∃ (j:Nat) (hj:j < m.length),slot m s.id = (j:Int)∧m[j].kind≠3∧m[j].inn = s.inn∧m[j].out = s.out
/-- What has not stopped is open. -/
def RestHas (b:Book) (y:Item):Prop:=y.kind≠3->0≤first (fun s:Sess=>decide (s.id = y.id)) 0 b.opn
def LedgerP (b:Book):Prop:=(∀ (i:Nat) (h:i < b.items.length),LineOk b i b.items[i])∧(∀ (i:Nat) (h:i < b.opn.length),OpenHas (linesM b.items) b.opn[i])∧∀ (i:Nat) (h:i < (linesM b.items).length),RestHas b (linesM b.items)[i]
theorem led_iff (b:Book):((∀ (i:Nat) (h:i < b.items.length),ItemAt b i h)∧∀ (i:Nat) (h:i < b.opn.length),SessEnd b b.opn[i]) ↔ LedgerP b:=by
 constructor
 · rintro ⟨hit,hse⟩
   refine ⟨fun i h=>(hit i h).line,fun i h=>?_,fun i h hk=>?_⟩
   · obtain ⟨k0,ki,ko⟩:=hse i h
     rcases hasLast_all b.items b.opn[i].id with ⟨h1,_⟩ | ⟨k,j,hk,hj,h1,h2,h3⟩
     · omega
     · rw [h1,Int.toNat_natCast] at ki ko
       have hgd:b.items.getD k default = b.items[k]:=by rw [List.getD_eq_getElem?_getD,List.getElem?_eq_getElem hk];rfl
       rw [hgd] at ki ko
       have hid:=last_id b.items b.opn[i].id _ (Nat.le_refl _) k h1 hk
       refine ⟨j,hj,h2,?_,h3 ▸ ki,h3 ▸ ko⟩
       rw [h3]
       intro e3
       have he:=(hit k hk).ends (by rw [hid];exact h1)
       refine he ⟨fun _=>e3,fun _=>?_⟩
       rw [hid]
       rcases first_spec (p:=fun s:Sess=>decide (s.id = b.opn[i].id)) b.opn 0 with ⟨_,t2⟩ | ⟨j2,hj2,t1,_⟩
       · exact absurd (t2 _ (List.getElem_mem h)) (by simp)
       · unfold ofId;rw [t1];omega
   · have hu:=uniq_lines b.items i h
     rcases hasLast_all b.items (linesM b.items)[i].id with ⟨_,h2⟩ | ⟨k,j,hkk,hj,h1,h2,h3⟩
     · omega
     · obtain rfl:j = i:=by omega
       have hid:=last_id b.items _ _ (Nat.le_refl _) k h1 hkk
       have he:=(hit k hkk).ends (by rw [hid];exact h1)
       rw [hid,<- h3] at he
       by_cases g:0≤ofId b (linesM b.items)[j].id
       · exact g
       · exact absurd (Iff.intro (fun x=>absurd x g) (fun x=>absurd x hk)) he
 · rintro ⟨p1,p2,p3⟩
   refine ⟨fun i h=>⟨p1 i h,fun hlast hiff=>?_⟩,fun i h=>?_⟩
   · rcases hasLast_all b.items b.items[i].id with ⟨h1,_⟩ | ⟨k,j,hkk,hj,h1,h2,h3⟩
     · omega
     · obtain rfl:k = i:=by omega
       by_cases g:0≤ofId b b.items[k].id
       · have hk3:=hiff.1 g
         unfold ofId at g
         obtain ⟨s,hs,e⟩:=first_pos g
         obtain ⟨i2,hi2,rfl⟩:=List.getElem_of_mem hs
         have e:b.opn[i2].id = b.items[k].id:=by simpa using e
         obtain ⟨j2,hj2,q1,q2,_⟩:=p2 i2 hi2
         rw [e,h2] at q1
         obtain rfl:j = j2:=by omega
         rw [h3] at q2
         exact q2 hk3
       · have hk3:b.items[k].kind≠3:=fun e=>g (hiff.2 e)
         have:=p3 j hj (by rw [h3];exact hk3)
         rw [h3] at this
         exact g this
   · obtain ⟨j,hj,q1,q2,q3,q4⟩:=p2 i h
     rcases hasLast_all b.items b.opn[i].id with ⟨_,h2⟩ | ⟨k,j2,hk,hj2,h1,h2,h3⟩
     · omega
     · obtain rfl:j2 = j:=by omega
       have hgd:b.items.getD k default = b.items[k]:=by rw [List.getD_eq_getElem?_getD,List.getElem?_eq_getElem hk];rfl
       refine ⟨by omega,?_,?_⟩
       · rw [h1,Int.toNat_natCast,hgd,<- h3];exact q3
       · rw [h1,Int.toNat_natCast,hgd,<- h3];exact q4
set_option maxHeartbeats 8000000 in
theorem rightLedger2_pc (b:Book) (ho:b.opn.length≤1000000) (hi:b.items.length≤1000000) (n0:0≤b.next) (n1:b.next≤1000000000) (ht:∀ x∈b.items,x.Ty) {v:Bool} (hv:v = true ↔ LedgerP b):PC Tryz.prog Γ 155 [book b] (.bool v):=by
 refine pc_by mixed Tryz.func155 rfl (fun args w=>Tryz.call155 args w) ?_
 have no:¬ LedgerP b->v = false:=fun h=>by
  cases v
  · rfl
  · exact absurd (hv.1 rfl) h
 have yes:LedgerP b->v = true:=hv.2
 clear hv
 by_cases p1:∀ (i:Nat) (h:i < b.items.length),LineOk b i b.items[i]
 rotate_left
 · have hvf:v = false:=no fun h=>p1 h.1
   have c0:=lastLinesNo_pc Γ b (by omega) ht n0 n1 p1
   simp -implicitDefEqProofs (disch:=omega) [go_sem,book]
   refine .inl (call_data c0 (by simp [go_sem]) ?_)
   simp -implicitDefEqProofs (disch:=omega) [go_sem,hvf,Tryz.results155]
 have c0:=lastLines_pc Γ b (by omega) ht n0 n1 p1
 have hpl:=fun id=>placeOfId_pc Γ b.opn (by omega) id
 have no2:∀ (i:Nat) (h:i < b.opn.length),¬ OpenHas (linesM b.items) b.opn[i]->v = false:=fun i h hn=>no fun hl=>hn (hl.2.1 i h)
 have no3:∀ (i:Nat) (h:i < (linesM b.items).length),¬ RestHas b (linesM b.items)[i]->v = false:=fun i h hn=>no fun hl=>hn (hl.2.2 i h)
 have yes2:(∀ (i:Nat) (h:i < b.opn.length),OpenHas (linesM b.items) b.opn[i])->(∀ (i:Nat) (h:i < (linesM b.items).length),RestHas b (linesM b.items)[i])->v = true:=fun h2 h3=>yes ⟨p1,h2,h3⟩
 clear no yes p1
 generalize linesM b.items = m at *
 simp -implicitDefEqProofs (disch:=omega) [go_sem,book]
 refine .inl (call_data c0 (by simp [go_sem]) ?_)
 simp -implicitDefEqProofs (disch:=omega) [go_sem]
 refine loop_ren (σ:={ i:Nat // i≤b.opn.length∧∀ (j:Nat) (h:j < b.opn.length),j < i->OpenHas m b.opn[j] }) (fun i=>⟨envL [(1,.ptr 0 0),(3,.data (.mp (ids m) (items m))),(22,.data (.sl 6 (sesss b.opn))),(23,.data (.int .i64 b.opn.length)),(24,.data (.int .i64 i.1))],hpL [(0,.blk true [.data (.int .i64 b.next),.data (.sl 6 (sesss b.opn)),.data (.sl 5 (items b.items)),.data (.sl 3 (locks b.locks))])],1,0,74⟩) (fun i=>b.opn.length - i.1) ⟨0,by omega,fun j h hj=>absurd hj (by omega)⟩ [] (rhoL [(0,some 0)]) ?_ ?_
 · apply ren_lists <;> simp -implicitDefEqProofs [go_sem]
 rintro ⟨i,hi3,hall⟩
 by_cases h:i < b.opn.length
 · have hfd:=findD_slot m b.opn[i].id
   have hno:=no2 i h
   have hallN:OpenHas m b.opn[i]->∀ (j:Nat) (h:j < b.opn.length),j < i + 1->OpenHas m b.opn[j]:=fun hl j hj hji=>if e:j = i then by subst e;exact hl else hall j hj (by omega)
   clear no2 no3 yes2
   rcases slot_spec m b.opn[i].id with ⟨s1,s2⟩ | ⟨j,hj,s1,s2⟩
   · rw [s1,if_pos (by omega)] at hfd
     have hvf:v = false:=hno fun ⟨j,hj,q1,_⟩=>by omega
     simp -implicitDefEqProofs (disch:=omega) [go_sem,hfd,hvf,Tryz.results155]
   rw [s1,if_neg (by omega),Int.toNat_natCast] at hfd
   have hg:=itms_get hj
   have hhas:OpenHas m b.opn[i] ↔ m[j].kind≠3∧m[j].inn = b.opn[i].inn∧m[j].out = b.opn[i].out:=by
    constructor
    · rintro ⟨j2,hj2,q1,q2⟩
      obtain rfl:j2 = j:=by omega
      exact q2
    · intro q;exact ⟨j,hj,s1,q⟩
   rw [hhas] at hno hallN
   clear hhas
   unfold item at hg
   by_cases g1:m[j].kind = 3
   · have hvf:v = false:=hno fun q=>q.1 g1
     simp -implicitDefEqProofs (disch:=omega) [go_sem,hfd,hg,g1,hvf,Tryz.results155]
   by_cases g2:m[j].inn = b.opn[i].inn
   rotate_left
   · have hvf:v = false:=hno fun q=>g2 q.2.1
     simp -implicitDefEqProofs (disch:=omega) [go_sem,hfd,hg,g1,g2,hvf,Tryz.results155]
   by_cases g3:m[j].out = b.opn[i].out
   rotate_left
   · have hvf:v = false:=hno fun q=>g3 q.2.2
     simp -implicitDefEqProofs (disch:=omega) [go_sem,hfd,hg,g1,g2,g3,hvf,Tryz.results155]
   have hallM:=hallN ⟨g1,g2,g3⟩
   clear hallN hno
   simp -implicitDefEqProofs (disch:=omega) [go_sem,hfd,hg,g1,g2,g3]
   refine next_ren ⟨i + 1,by omega,hallM⟩ (by simp only;omega) [] (rhoL [(0,some 0)]) ?_
   apply ren_lists <;> simp -implicitDefEqProofs [go_sem]
 obtain rfl:i = b.opn.length:=by omega
 have yes3:=yes2 fun j hj=>hall j hj hj
 clear yes2 no2
 simp -implicitDefEqProofs (disch:=omega) [go_sem]
 refine loop_ren (σ:={ l:List Nat × Option Nat // (∀ i∈l.1,i < m.length)∧∀ (q:Nat) (h:q < m.length),q ∉ l.1->RestHas b m[q] }) (fun l=>⟨envL [(1,.ptr 0 0),(58,.iref 1)],hpL [(0,.blk true [.data (.int .i64 b.next),.data (.sl 6 (sesss b.opn)),.data (.sl 5 (items b.items)),.data (.sl 3 (locks b.locks))]),(1,.obj (.it (ids m) (items m) l.1.1 l.1.2))],2,0,74⟩) (fun l=>l.1.1.length) ⟨(List.range m.length,none),fun i h=>by simpa using h,fun q hq hn=>absurd hq (by simpa using hn)⟩ [] (rhoL [(0,some 0),(1,some 3)]) ?_ ?_
 · apply ren_lists <;> simp -implicitDefEqProofs [go_sem,ids]
 rintro ⟨⟨left,cur⟩,hleft,hdone⟩
 simp only at hleft hdone
 simp -implicitDefEqProofs (disch:=omega) [go_sem]
 refine ⟨fun hl=>?_,fun q k x hq hk hx=>?_⟩
 · have hvt:v = true:=yes3 fun i h=>hdone i h (by rw [hl];simp)
   simp -implicitDefEqProofs (disch:=omega) [go_sem,hvt,Tryz.results155]
 have hqm:=hleft q hq
 obtain rfl:k = .int .i64 m[q].id:=by simpa [ids,hqm] using hk.symm
 obtain rfl:x = item m[q]:=by simpa [items,hqm] using hx.symm
 have hdoneN:RestHas b m[q]->∀ (q2:Nat) (h:q2 < m.length),q2 ∉ left.filter (· != q)->RestHas b m[q2]:=fun hr q2 h2 hn=>by
  by_cases e:q2 = q
  · subst e;exact hr
  · refine hdone q2 h2 fun hin=>hn (List.mem_filter.2 ⟨hin,?_⟩)
    simpa using e
 have hno:=no3 q hqm
 clear no3 yes3
 unfold item at hx
 by_cases g:m[q].kind = 3
 · have hdM:=hdoneN fun h=>absurd g h
   clear hdoneN hno
   simp -implicitDefEqProofs (disch:=omega) [go_sem,hk,hx,g,item]
   refine next_ren ⟨(left.filter (· != q),some q),fun i hi=>hleft i (List.mem_filter.1 hi).1,hdM⟩ ?_ [] (rhoL [(0,some 0),(1,some 1)]) ?_
   · simp only
     refine Nat.lt_of_le_of_ne (List.length_filter_le _ _) fun e=>?_
     have:=List.length_filter_eq_length_iff.1 e q hq
     simp at this
   apply ren_lists <;> simp -implicitDefEqProofs [go_sem]
 by_cases hp:0≤first (fun s:Sess=>decide (s.id = m[q].id)) 0 b.opn
 rotate_left
 · have hvf:v = false:=hno fun h=>hp (h g)
   clear hdoneN hno
   simp -implicitDefEqProofs (disch:=omega) [go_sem,hk,hx,g,item]
   refine .inl (call_data (hpl m[q].id) (by simp [go_sem]) ?_)
   simp -implicitDefEqProofs (disch:=omega) [go_sem,hvf,Tryz.results155]
 · have hdM:=hdoneN fun _=>hp
   clear hdoneN hno
   simp -implicitDefEqProofs (disch:=omega) [go_sem,hk,hx,g,item]
   refine .inl (call_data (hpl m[q].id) (by simp [go_sem]) ?_)
   simp -implicitDefEqProofs (disch:=omega) [go_sem]
   refine next_ren ⟨(left.filter (· != q),some q),fun i hi=>hleft i (List.mem_filter.1 hi).1,hdM⟩ ?_ [] (rhoL [(0,some 0),(1,some 1)]) ?_
   · simp only
     refine Nat.lt_of_le_of_ne (List.length_filter_le _ _) fun e=>?_
     have:=List.length_filter_eq_length_iff.1 e q hq
     simp at this
   apply ren_lists <;> simp -implicitDefEqProofs [go_sem]
set_option maxHeartbeats 8000000 in
theorem right3_pc (b:Book) (hb:Fits b) (ht:∀ x∈b.items,x.Ty) {q:Bool} (hq:q = true ↔ RightP b):PC Tryz.prog Γ 131 [book b] (.bool q):=by
 refine pc_by mixed Tryz.func131 rfl (fun args w=>Tryz.call131 args w) ?_
 have no:¬ RightP b->q = false:=fun h=>by
  cases q
  · rfl
  · exact absurd (hq.1 rfl) h
 have yes:RightP b->q = true:=hq.2
 clear hq
 obtain ⟨f1,f2,f3,f4,f5⟩:=hb
 have c1:=isFrom_pc Γ b.next 0 1000000000
 by_cases g1:0≤b.next∧b.next≤1000000000
 rotate_left
 · have hqf:q = false:=no fun r=>g1 ⟨r.n0,r.n1⟩
   rw [decide_eq_false g1] at c1
   simp -implicitDefEqProofs (disch:=omega) [go_sem,book]
   refine .inl (call_data c1 (by simp [go_sem]) ?_)
   simp -implicitDefEqProofs (disch:=omega) [go_sem,hqf,Tryz.f131]
 rw [decide_eq_true g1] at c1
 by_cases g2:b.items.length + b.opn.length≤60
 rotate_left
 · have hqf:q = false:=no fun r=>g2 r.len
   simp -implicitDefEqProofs (disch:=omega) [go_sem,book]
   refine .inl (call_data c1 (by simp [go_sem]) ?_)
   simp -implicitDefEqProofs (disch:=omega) [go_sem,hqf,Tryz.f131]
 by_cases g3:b.locks.length≤8
 rotate_left
 · have hqf:q = false:=no fun r=>g3 r.ll
   simp -implicitDefEqProofs (disch:=omega) [go_sem,book]
   refine .inl (call_data c1 (by simp [go_sem]) ?_)
   simp -implicitDefEqProofs (disch:=omega) [go_sem,hqf,Tryz.f131]
 obtain ⟨v2,hv2⟩:∃ v:Bool,v = true ↔ OpenOk b:=by classical exact ⟨decide (OpenOk b),by simp⟩
 have c2:=rightOpen_pc Γ b (by omega) g1.1 g1.2 hv2
 cases v2 with
 | false =>
   have hqf:q = false:=no fun r=>by have:=hv2.2 r.opens;cases this
   simp -implicitDefEqProofs (disch:=omega) [go_sem,book]
   refine .inl (call_data c1 (by simp [go_sem]) ?_)
   simp -implicitDefEqProofs (disch:=omega) [go_sem]
   refine .inl (call_data c2 (by simp [go_sem]) ?_)
   simp -implicitDefEqProofs (disch:=omega) [go_sem,hqf,Tryz.f131]
 | true =>
   have hopen:=hv2.1 rfl
   obtain ⟨v3,hv3⟩:∃ v:Bool,v = true ↔ LedgerP b:=by classical exact ⟨decide (LedgerP b),by simp⟩
   have c3:=rightLedger2_pc Γ b (by omega) (by omega) g1.1 g1.2 ht hv3
   unfold book at c3
   cases v3 with
   | false =>
     have hqf:q = false:=no fun r=>by have:=hv3.2 ((led_iff b).1 ⟨r.items,r.ends⟩);cases this
     simp -implicitDefEqProofs (disch:=omega) [go_sem,book]
     refine .inl (call_data c1 (by simp [go_sem]) ?_)
     simp -implicitDefEqProofs (disch:=omega) [go_sem]
     refine .inl (call_data c2 (by simp [go_sem]) ?_)
     simp -implicitDefEqProofs (disch:=omega) [go_sem]
     refine .inl (call_data c3 (by simp [go_sem]) ?_)
     simp -implicitDefEqProofs (disch:=omega) [go_sem,hqf,Tryz.f131]
   | true =>
     have hled:=(led_iff b).2 (hv3.1 rfl)
     obtain ⟨v4,hv4⟩:∃ v:Bool,v = true ↔ ∀ (i:Nat) (h:i < b.locks.length),LockAt b i h:=by classical exact ⟨decide (∀ (i:Nat) (h:i < b.locks.length),LockAt b i h),by simp⟩
     have c4:=rightLocks_pc Γ b (by omega) hv4
     have e4:q = v4:=by
      cases v4 with
      | false=>exact no fun r=>by have:=hv4.2 r.locks;cases this
      | true=>exact yes ⟨g1.1,g1.2,g2,g3,hopen,hled.1,hled.2,hv4.1 rfl⟩
     clear no yes hv4 hv3 hv2 hled hopen
     simp -implicitDefEqProofs (disch:=omega) [go_sem,book]
     refine .inl (call_data c1 (by simp [go_sem]) ?_)
     simp -implicitDefEqProofs (disch:=omega) [go_sem]
     refine .inl (call_data c2 (by simp [go_sem]) ?_)
     simp -implicitDefEqProofs (disch:=omega) [go_sem]
     refine .inl (call_data c3 (by simp [go_sem]) ?_)
     simp -implicitDefEqProofs (disch:=omega) [go_sem]
     refine .inl (call_data c4 (by simp [go_sem]) ?_)
     simp -implicitDefEqProofs (disch:=omega) [go_sem,e4,Tryz.f131]
end
end Bk
namespace Bk
section
theorem manyP_none {α:Type} {p:List Nat->Option (α × List Nat)} {n i:Nat} {l r:List Nat} {xs:List α} (hi:i < n) (h:manyP p n l = (manyP p (n - i) r).map fun y=>(xs++y.1,y.2)) (hp:p r = none):manyP p n l = none:=by
 rw [h,show n - i = (n - i - 1) + 1 by omega,manyP,hp]
 rfl
theorem manyP_more {α:Type} {p:List Nat->Option (α × List Nat)} {n i:Nat} {l r r2:List Nat} {xs:List α} {x:α} (hi:i < n) (h:manyP p n l = (manyP p (n - i) r).map fun y=>(xs++y.1,y.2)) (hp:p r = some (x,r2)):manyP p n l = (manyP p (n - (i + 1)) r2).map fun y=>((xs++[x])++y.1,y.2):=by
 rw [h,show n - i = (n - (i + 1)) + 1 by omega,manyP,hp]
 cases h2:manyP p (n - (i + 1)) r2 with
 | none=>simp [bnd,h2]
 | some y=>simp [bnd,h2]
theorem manyP_end {α:Type} {p:List Nat->Option (α × List Nat)} {n:Nat} {l r:List Nat} {xs:List α} (h:manyP p n l = (manyP p (n - n) r).map fun y=>(xs++y.1,y.2)):manyP p n l = some (xs,r):=by
 rw [h,Nat.sub_self,manyP]
 simp
theorem sessP_rest {l r:List Nat} {s:Sess} (hl:Bytes l) (h:sessP l = some (s,r)):Bytes r∧r.length≤l.length:=by
 obtain ⟨rfl,_⟩:=(sessP_iff hl s r).1 h
 exact ⟨(bytes_app.1 hl).2,by simp⟩
theorem itemP_rest {l r:List Nat} {s:Item} (hl:Bytes l) (h:itemP l = some (s,r)):Bytes r∧r.length≤l.length:=by
 obtain ⟨rfl,_⟩:=(itemP_iff hl s r).1 h
 exact ⟨(bytes_app.1 hl).2,by simp⟩
theorem lockP_rest {l r:List Nat} {s:Lock} (hl:Bytes l) (h:lockP l = some (s,r)):Bytes r∧r.length≤l.length:=by
 obtain ⟨rfl,_⟩:=(lockP_iff hl s r).1 h
 exact ⟨(bytes_app.1 hl).2,by simp⟩
end
section
variable (Γ:Nat->Option (List Data))
theorem sesss_flat_snoc (l:List Sess) (x:Sess):(flat (sesss (l++[x]))).map D.data = (flat (sesss l)).map D.data++[.data (.int .i64 x.id),.data (.int .i64 x.link),.data (.int .u32 x.addr),.data (.str x.user),.data (.int .u64 x.inn),.data (.int .u64 x.out)]:=by
 simp [sesss,flat,sess_cells]
set_option maxHeartbeats 8000000 in
theorem manySess_dx (l:List Nat) (hl:l.length≤1000000) (hb:Bytes l) (n:Nat) (hn:n≤255):DX Tryz.prog Γ 163 [.data (.int .i64 n),.bnd 164 (.ptr 0 0)] (hpL [(0,.blk true [.data (.sl 1 (bys l))])]) 1 (RdK (mapD (manyP sessP n l) fun xs=>.sl 6 (sesss xs))) (RdX (mapD (manyP sessP n l) fun xs=>.sl 6 (sesss xs))):=by
 refine dx_by mixed Tryz.func163 rfl (fun args w=>Tryz.call163 args w) ?_
 simp -implicitDefEqProofs (disch:=omega) [go_sem]
 refine loop_ren (σ:={ x:Nat × List Sess × List Nat // (x.1≤n∧x.2.1.length = x.1)∧(Bytes x.2.2∧x.2.2.length≤1000000)∧manyP sessP n l = (manyP sessP (n - x.1) x.2.2).map fun y=>(x.2.1++y.1,y.2) }) (fun x=>if x.1.1 < n then ⟨envL [(1,.bnd 164 (.ptr 0 0)),(5,.ref 1 0 x.1.1 6),(6,.data (.int .i64 n)),(7,.data (.int .i64 x.1.1))],hpL [(0,.blk true [.data (.sl 1 (bys x.1.2.2))]),(1,.blk true ((flat (sesss x.1.2.1)).map D.data))],2,1,16⟩ else ⟨envL [(5,.data (.sl 6 (sesss x.1.2.1))),(6,.data (.int .i64 n)),(7,.data (.int .i64 x.1.1))],hpL [(0,.blk true [.data (.sl 1 (bys x.1.2.2))])],2,1,16⟩) (fun x=>n - x.1.1) ⟨(0,[],l),⟨by simp,rfl⟩,⟨hb,hl⟩,by simp⟩ [] (rhoL [(1,none)]) ?_ ?_
 · by_cases h0:0 < n
   · simp only [h0,if_true]
     apply ren_lists <;> simp -implicitDefEqProofs [go_sem,sesss,flat]
   · simp only [h0,if_false]
     apply ren_lists <;> simp -implicitDefEqProofs [go_sem,sesss]
 rintro ⟨⟨i,xs,r⟩,⟨hi,hx⟩,⟨hbr,hlr⟩,hm⟩
 simp only at hi hx hbr hlr hm ⊢
 by_cases h:i < n
 rotate_left
 · obtain rfl:i = n:=by omega
   rw [if_neg h]
   have he:=manyP_end hm
   simp -implicitDefEqProofs (disch:=omega) [go_sem,Tryz.f163]
   exact rdK (l':=r) (by simp [go_sem]) (by rw [he];rfl)
 rw [if_pos h]
 have hxl:=sesss_length xs
 simp -implicitDefEqProofs (disch:=omega) [go_sem]
 refine .inr (.inr (rd_lent (sess_rd Γ r hlr hbr) (by simp [go_sem]) (by simp) (fun d r2 hp=>?_) (fun hp l'=>?_)))
 rotate_left
 · rw [mapD_none] at hp
   have he:=manyP_none h hm hp
   simp -implicitDefEqProofs (disch:=omega) [go_sem]
   exact rdX (l':=l') rfl (by simp [go_sem]) (by rw [he];rfl)
 obtain ⟨x,hp2,rfl⟩:=mapD_some.1 hp
 clear hp
 have he:=manyP_more h hm hp2
 obtain ⟨hb2,hl2⟩:=sessP_rest hbr hp2
 have hsn:=sesss_flat_snoc xs x
 have hlen:(flat (sesss xs)).length = i * 6:=by rw [flat_len (es:=6) (sesss_cells xs),sesss_length,hx]
 unfold sess
 simp -implicitDefEqProofs (disch:=omega) [go_sem,hlen]
 refine next_ren ⟨(i + 1,xs++[x],r2),⟨by simp only;omega,by simp [hx]⟩,⟨hb2,by simp only;omega⟩,he⟩ (by simp only;omega) (if i + 1 < n then [] else [6]) (rhoL [(1,some 6)]) ?_
 by_cases h1:i + 1 < n
 · simp only [h1,if_true]
   apply ren_lists <;> simp -implicitDefEqProofs [go_sem,hsn]
   all_goals exact renCells_plain rfl (by simp [plainD])
 · simp only [h1,if_false]
   apply ren_lists <;> simp -implicitDefEqProofs [go_sem]
   all_goals exact frz_ref (rw:=false) rfl (.inr rfl) (by simp [sesss_length,hx]) (sesss_cells _) hsn.symm
theorem items_flat_snoc (l:List Item) (x:Item):(flat (items (l++[x]))).map D.data = (flat (items l)).map D.data++[.data (.int .i64 x.kind),.data (.int .i64 x.id),.data (.int .u64 x.inn),.data (.int .u64 x.out),.data (.int .i64 x.cause)]:=by
 simp [items,flat,item_cells]
set_option maxHeartbeats 8000000 in
theorem manyItem_dx (l:List Nat) (hl:l.length≤1000000) (hb:Bytes l) (n:Nat) (hn:n≤255):DX Tryz.prog Γ 165 [.data (.int .i64 n),.bnd 166 (.ptr 0 0)] (hpL [(0,.blk true [.data (.sl 1 (bys l))])]) 1 (RdK (mapD (manyP itemP n l) fun xs=>.sl 5 (items xs))) (RdX (mapD (manyP itemP n l) fun xs=>.sl 5 (items xs))):=by
 refine dx_by mixed Tryz.func165 rfl (fun args w=>Tryz.call165 args w) ?_
 simp -implicitDefEqProofs (disch:=omega) [go_sem]
 refine loop_ren (σ:={ x:Nat × List Item × List Nat // (x.1≤n∧x.2.1.length = x.1)∧(Bytes x.2.2∧x.2.2.length≤1000000)∧manyP itemP n l = (manyP itemP (n - x.1) x.2.2).map fun y=>(x.2.1++y.1,y.2) }) (fun x=>if x.1.1 < n then ⟨envL [(1,.bnd 166 (.ptr 0 0)),(5,.ref 1 0 x.1.1 5),(6,.data (.int .i64 n)),(7,.data (.int .i64 x.1.1))],hpL [(0,.blk true [.data (.sl 1 (bys x.1.2.2))]),(1,.blk true ((flat (items x.1.2.1)).map D.data))],2,1,16⟩ else ⟨envL [(5,.data (.sl 5 (items x.1.2.1))),(6,.data (.int .i64 n)),(7,.data (.int .i64 x.1.1))],hpL [(0,.blk true [.data (.sl 1 (bys x.1.2.2))])],2,1,16⟩) (fun x=>n - x.1.1) ⟨(0,[],l),⟨by simp,rfl⟩,⟨hb,hl⟩,by simp⟩ [] (rhoL [(1,none)]) ?_ ?_
 · by_cases h0:0 < n
   · simp only [h0,if_true]
     apply ren_lists <;> simp -implicitDefEqProofs [go_sem,items,flat]
   · simp only [h0,if_false]
     apply ren_lists <;> simp -implicitDefEqProofs [go_sem,items]
 rintro ⟨⟨i,xs,r⟩,⟨hi,hx⟩,⟨hbr,hlr⟩,hm⟩
 simp only at hi hx hbr hlr hm ⊢
 by_cases h:i < n
 rotate_left
 · obtain rfl:i = n:=by omega
   rw [if_neg h]
   have he:=manyP_end hm
   simp -implicitDefEqProofs (disch:=omega) [go_sem,Tryz.f165]
   exact rdK (l':=r) (by simp [go_sem]) (by rw [he];rfl)
 rw [if_pos h]
 have hxl:=items_length xs
 simp -implicitDefEqProofs (disch:=omega) [go_sem]
 refine .inr (.inr (rd_lent (item_rd Γ r hlr hbr) (by simp [go_sem]) (by simp) (fun d r2 hp=>?_) (fun hp l'=>?_)))
 rotate_left
 · rw [mapD_none] at hp
   have he:=manyP_none h hm hp
   simp -implicitDefEqProofs (disch:=omega) [go_sem]
   exact rdX (l':=l') rfl (by simp [go_sem]) (by rw [he];rfl)
 obtain ⟨x,hp2,rfl⟩:=mapD_some.1 hp
 clear hp
 have he:=manyP_more h hm hp2
 obtain ⟨hb2,hl2⟩:=itemP_rest hbr hp2
 have hsn:=items_flat_snoc xs x
 have hlen:(flat (items xs)).length = i * 5:=by rw [flat_len (es:=5) (items_cells xs),items_length,hx]
 unfold item
 simp -implicitDefEqProofs (disch:=omega) [go_sem,hlen]
 refine next_ren ⟨(i + 1,xs++[x],r2),⟨by simp only;omega,by simp [hx]⟩,⟨hb2,by simp only;omega⟩,he⟩ (by simp only;omega) (if i + 1 < n then [] else [6]) (rhoL [(1,some 6)]) ?_
 by_cases h1:i + 1 < n
 · simp only [h1,if_true]
   apply ren_lists <;> simp -implicitDefEqProofs [go_sem,hsn]
   all_goals exact renCells_plain rfl (by simp [plainD])
 · simp only [h1,if_false]
   apply ren_lists <;> simp -implicitDefEqProofs [go_sem]
   all_goals exact frz_ref (rw:=false) rfl (.inr rfl) (by simp [items_length,hx]) (items_cells _) hsn.symm
theorem locks_flat_snoc (l:List Lock) (x:Lock):(flat (locks (l++[x]))).map D.data = (flat (locks l)).map D.data++[.data (.str x.user),.data (.int .i64 x.n),.data (.int .i64 x.at_)]:=by
 simp [locks,flat,lock_cells]
set_option maxHeartbeats 8000000 in
theorem manyLock_dx (l:List Nat) (hl:l.length≤1000000) (hb:Bytes l) (n:Nat) (hn:n≤255):DX Tryz.prog Γ 167 [.data (.int .i64 n),.bnd 168 (.ptr 0 0)] (hpL [(0,.blk true [.data (.sl 1 (bys l))])]) 1 (RdK (mapD (manyP lockP n l) fun xs=>.sl 3 (locks xs))) (RdX (mapD (manyP lockP n l) fun xs=>.sl 3 (locks xs))):=by
 refine dx_by mixed Tryz.func167 rfl (fun args w=>Tryz.call167 args w) ?_
 simp -implicitDefEqProofs (disch:=omega) [go_sem]
 refine loop_ren (σ:={ x:Nat × List Lock × List Nat // (x.1≤n∧x.2.1.length = x.1)∧(Bytes x.2.2∧x.2.2.length≤1000000)∧manyP lockP n l = (manyP lockP (n - x.1) x.2.2).map fun y=>(x.2.1++y.1,y.2) }) (fun x=>if x.1.1 < n then ⟨envL [(1,.bnd 168 (.ptr 0 0)),(5,.ref 1 0 x.1.1 3),(6,.data (.int .i64 n)),(7,.data (.int .i64 x.1.1))],hpL [(0,.blk true [.data (.sl 1 (bys x.1.2.2))]),(1,.blk true ((flat (locks x.1.2.1)).map D.data))],2,1,16⟩ else ⟨envL [(5,.data (.sl 3 (locks x.1.2.1))),(6,.data (.int .i64 n)),(7,.data (.int .i64 x.1.1))],hpL [(0,.blk true [.data (.sl 1 (bys x.1.2.2))])],2,1,16⟩) (fun x=>n - x.1.1) ⟨(0,[],l),⟨by simp,rfl⟩,⟨hb,hl⟩,by simp⟩ [] (rhoL [(1,none)]) ?_ ?_
 · by_cases h0:0 < n
   · simp only [h0,if_true]
     apply ren_lists <;> simp -implicitDefEqProofs [go_sem,locks,flat]
   · simp only [h0,if_false]
     apply ren_lists <;> simp -implicitDefEqProofs [go_sem,locks]
 rintro ⟨⟨i,xs,r⟩,⟨hi,hx⟩,⟨hbr,hlr⟩,hm⟩
 simp only at hi hx hbr hlr hm ⊢
 by_cases h:i < n
 rotate_left
 · obtain rfl:i = n:=by omega
   rw [if_neg h]
   have he:=manyP_end hm
   simp -implicitDefEqProofs (disch:=omega) [go_sem,Tryz.f167]
   exact rdK (l':=r) (by simp [go_sem]) (by rw [he];rfl)
 rw [if_pos h]
 have hxl:=locks_length xs
 simp -implicitDefEqProofs (disch:=omega) [go_sem]
 refine .inr (.inr (rd_lent (lock_rd Γ r hlr hbr) (by simp [go_sem]) (by simp) (fun d r2 hp=>?_) (fun hp l'=>?_)))
 rotate_left
 · rw [mapD_none] at hp
   have he:=manyP_none h hm hp
   simp -implicitDefEqProofs (disch:=omega) [go_sem]
   exact rdX (l':=l') rfl (by simp [go_sem]) (by rw [he];rfl)
 obtain ⟨x,hp2,rfl⟩:=mapD_some.1 hp
 clear hp
 have he:=manyP_more h hm hp2
 obtain ⟨hb2,hl2⟩:=lockP_rest hbr hp2
 have hsn:=locks_flat_snoc xs x
 have hlen:(flat (locks xs)).length = i * 3:=by rw [flat_len (es:=3) (locks_cells xs),locks_length,hx]
 unfold lock
 simp -implicitDefEqProofs (disch:=omega) [go_sem,hlen]
 refine next_ren ⟨(i + 1,xs++[x],r2),⟨by simp only;omega,by simp [hx]⟩,⟨hb2,by simp only;omega⟩,he⟩ (by simp only;omega) (if i + 1 < n then [] else [6]) (rhoL [(1,some 6)]) ?_
 by_cases h1:i + 1 < n
 · simp only [h1,if_true]
   apply ren_lists <;> simp -implicitDefEqProofs [go_sem,hsn]
   all_goals exact renCells_plain rfl (by simp [plainD])
 · simp only [h1,if_false]
   apply ren_lists <;> simp -implicitDefEqProofs [go_sem]
   all_goals exact frz_ref (rw:=false) rfl (.inr rfl) (by simp [locks_length,hx]) (locks_cells _) hsn.symm
end
end Bk
namespace Bk
/-- What a snapshot tells: a right book,and noughts behind it. -/
def BookPIs (l:List Nat) (p:Option (Book × List Nat)):Prop:=∀ b r,p = some (b,r) ↔ bookQ l = some (b,r)∧RightP b∧∀ x∈r,x = 0
theorem bookP_ex (l:List Nat):∃ p,BookPIs l p:=by
 by_cases h:∃ b r,bookQ l = some (b,r)∧RightP b∧∀ x∈r,x = 0
 · obtain ⟨b,r,h1,h2⟩:=h
   refine ⟨some (b,r),fun b2 r2=>⟨fun e=>?_,fun e=>?_⟩⟩
   · cases e;exact ⟨h1,h2⟩
   · rw [h1] at e;exact e.1
 · exact ⟨none,fun b r=>⟨fun e=>(by cases e),fun e=>absurd ⟨b,r,e⟩ h⟩⟩
theorem BookPIs.none_of {l:List Nat} {p:Option (Book × List Nat)} (h:BookPIs l p) (hn:bookQ l = none):p = none:=by
 cases p with
 | none=>rfl
 | some x =>
   obtain ⟨b,r⟩:=x
   have:=((h b r).1 rfl).1
   rw [hn] at this;cases this
theorem BookPIs.bad {l:List Nat} {p:Option (Book × List Nat)} (h:BookPIs l p) {b:Book} {r:List Nat} (hq:bookQ l = some (b,r)) (hb:¬ (RightP b∧∀ x∈r,x = 0)):p = none:=by
 cases p with
 | none=>rfl
 | some x =>
   obtain ⟨b2,r2⟩:=x
   have:=(h b2 r2).1 rfl
   rw [hq] at this
   have e:=this.1
   simp only [Option.some.injEq,Prod.mk.injEq] at e
   obtain ⟨rfl,rfl⟩:=e
   exact absurd this.2 hb
theorem BookFit.fits {b:Book} (h:BookFit b):Fits b:=⟨by have:=h.nopn;omega,by have:=h.nitems;omega,by have:=h.nlocks;omega,fun s hs=>by have:=(h.opn s hs).user;omega,fun s hs=>by have:=(h.locks s hs).user;omega⟩
theorem ItemFit.ty {x:Item} (h:ItemFit x):x.Ty:=by
 obtain ⟨h1,h2,h3,h4,h5⟩:=h
 unfold Fit at h1 h2 h3 h4 h5
 refine ⟨?_,?_,?_,?_,?_⟩
 · unfold R64;omega
 · unfold R64;omega
 · unfold U64;omega
 · unfold U64;omega
 · unfold R64;omega
section
variable {Γ:Nat->Option (List Data)}
theorem rd_lentL {f:FuncId} {ds bs:List D} {l:List Nat} {p:Option (Data × List Nat)} (h:DX Tryz.prog Γ f bs (hpL [(0,.blk true [.data (.sl 1 (bys l))])]) 1 (RdK p) (RdX p)) {H:Nat->Blk} {nx g:Nat} {K:D->(Nat->Blk)->Nat->Prop} {X:Value->(Nat->Blk)->Nat->Prop} (hg:H g = .blk true [.data (.sl 1 (bys l))]) (hd:LentL g ds bs)
 (hk:∀ r l',p = some (r,l')->K (.data r) (Hp.upd H [(g,.blk true [.data (.sl 1 (bys l'))])]) nx) (hx:p = none->∀ l',X errV (Hp.upd H [(g,.blk true [.data (.sl 1 (bys l'))])]) nx):DX Tryz.prog Γ f ds H nx K X:=by
 refine dx_lentL (cells:=[.sl 1 (bys l)]) (K0:=fun r c=>∃ l',c = [.sl 1 (bys l')]∧p = some (r,l')) (X0:=fun v c=>(∃ l',c = [Data.sl 1 (bys l')])∧v = errV∧p = none) h hg hd ?_ ?_
 · rintro r c ⟨l',rfl,hp⟩;exact hk r l' hp
 · rintro v c ⟨⟨l',rfl⟩,rfl,hp⟩;exact hx hp l'
end
theorem manyP_rest {α:Type} {p:List Nat->Option (α × List Nat)} (hp:∀ {l r:List Nat} {x:α},Bytes l->p l = some (x,r)->Bytes r∧r.length≤l.length):∀ (n:Nat) {l r:List Nat} {xs:List α},Bytes l->manyP p n l = some (xs,r)->Bytes r∧r.length≤l.length
 | 0,l,r,xs,hl,h=>by
   simp only [manyP,Option.some.injEq,Prod.mk.injEq] at h
   obtain ⟨_,rfl⟩:=h
   exact ⟨hl,Nat.le_refl _⟩
 | n + 1,l,r,xs,hl,h=>by
   simp only [manyP] at h
   obtain ⟨x,l1,h1,h⟩:=bnd_some.1 h
   obtain ⟨ys,l2,h2,h⟩:=bnd_some.1 h
   simp only [Option.some.injEq,Prod.mk.injEq] at h
   obtain ⟨_,rfl⟩:=h
   obtain ⟨b1,e1⟩:=hp hl h1
   obtain ⟨b2,e2⟩:=manyP_rest hp n b1 h2
   exact ⟨b2,Nat.le_trans e2 e1⟩
section
variable (Γ:Nat->Option (List Data))
set_option maxHeartbeats 16000000 in
theorem book_rd (l:List Nat) (hl:l.length≤1000000) (hb:Bytes l) (p:Option (Book × List Nat)) (hP:BookPIs l p):RD Γ 141 [] l (mapD p book):=by
 refine dx_by mixed Tryz.func141 rfl (fun args w=>Tryz.call141 args w) ?_
 by_cases h2048:l.length = 2048
 rotate_left
 · have hn:=hP.none_of (by unfold bookQ;rw [if_neg h2048])
   simp -implicitDefEqProofs (disch:=omega) [go_sem]
   refine .inr (.inr (need_dx Γ false (fun e=>by cases e) (fun _=>?_)))
   simp -implicitDefEqProofs (disch:=omega) [go_sem]
   exact rdX (l':=l) rfl (by simp [go_sem]) (by rw [hn];rfl)
 simp -implicitDefEqProofs (disch:=omega) [go_sem]
 refine .inr (.inr (need_dx Γ true (fun _=>?_) (fun e=>by cases e)))
 have hl0:=hl
 have hb0:=hb
 simp -implicitDefEqProofs (disch:=omega) [go_sem]
 refine .inr (.inr (rd_lent (small_rd Γ l hl0 hb0 4 (by omega)) (by simp [go_sem]) (by simp) (fun r l1 hp=>?_) (fun hp l'=>?_)))
 rotate_left
 · rw [numD_none] at hp
   have hn:=hP.none_of (by simp [bookQ,h2048,bnd,hp])
   simp -implicitDefEqProofs (disch:=omega) [go_sem]
   exact rdX (l':=l') rfl (by simp [go_sem]) (by rw [hn];rfl)
 obtain ⟨nx,h1,rfl⟩:=numD_some.1 hp
 clear hp
 have hb1:=bytes_rest hb0 h1
 have hl1:l1.length≤1000000:=Nat.le_trans (numP_len h1) hl0
 have q1:nx < 4294967296:=numP_lt hb0 h1
 simp -implicitDefEqProofs (disch:=omega) [go_sem]
 refine .inr (.inr (rd_lent (small_rd Γ l1 hl1 hb1 1 (by omega)) (by simp [go_sem]) (by simp) (fun r l2 hp=>?_) (fun hp l'=>?_)))
 rotate_left
 · rw [numD_none] at hp
   have hn:=hP.none_of (by simp [bookQ,h2048,bnd,h1,hp])
   simp -implicitDefEqProofs (disch:=omega) [go_sem]
   exact rdX (l':=l') rfl (by simp [go_sem]) (by rw [hn];rfl)
 obtain ⟨no,h2,rfl⟩:=numD_some.1 hp
 clear hp
 have hb2:=bytes_rest hb1 h2
 have hl2:l2.length≤1000000:=Nat.le_trans (numP_len h2) hl1
 have q2:no < 256:=numP_lt hb1 h2
 simp -implicitDefEqProofs (disch:=omega) [go_sem]
 refine .inr (.inr (rd_lent (small_rd Γ l2 hl2 hb2 1 (by omega)) (by simp [go_sem]) (by simp) (fun r l3 hp=>?_) (fun hp l'=>?_)))
 rotate_left
 · rw [numD_none] at hp
   have hn:=hP.none_of (by simp [bookQ,h2048,bnd,h1,h2,hp])
   simp -implicitDefEqProofs (disch:=omega) [go_sem]
   exact rdX (l':=l') rfl (by simp [go_sem]) (by rw [hn];rfl)
 obtain ⟨ni,h3,rfl⟩:=numD_some.1 hp
 clear hp
 have hb3:=bytes_rest hb2 h3
 have hl3:l3.length≤1000000:=Nat.le_trans (numP_len h3) hl2
 have q3:ni < 256:=numP_lt hb2 h3
 simp -implicitDefEqProofs (disch:=omega) [go_sem]
 refine .inr (.inr (rd_lent (small_rd Γ l3 hl3 hb3 1 (by omega)) (by simp [go_sem]) (by simp) (fun r l4 hp=>?_) (fun hp l'=>?_)))
 rotate_left
 · rw [numD_none] at hp
   have hn:=hP.none_of (by simp [bookQ,h2048,bnd,h1,h2,h3,hp])
   simp -implicitDefEqProofs (disch:=omega) [go_sem]
   exact rdX (l':=l') rfl (by simp [go_sem]) (by rw [hn];rfl)
 obtain ⟨nl,h4,rfl⟩:=numD_some.1 hp
 clear hp
 have hb4:=bytes_rest hb3 h4
 have hl4:l4.length≤1000000:=Nat.le_trans (numP_len h4) hl3
 have q4:nl < 256:=numP_lt hb3 h4
 simp -implicitDefEqProofs (disch:=omega) [go_sem]
 refine .inr (.inr (rd_lentL (manySess_dx Γ l4 hl4 hb4 no (by omega)) (by simp [go_sem]) (.cons (.data _) (.cons (.bnd _ (.ptr 0)) .nil)) (fun r l5 hp=>?_) (fun hp l'=>?_)))
 rotate_left
 · rw [mapD_none] at hp
   have hn:=hP.none_of (by simp [bookQ,h2048,bnd,h1,h2,h3,h4,hp])
   simp -implicitDefEqProofs (disch:=omega) [go_sem]
   exact rdX (l':=l') rfl (by simp [go_sem]) (by rw [hn];rfl)
 obtain ⟨os,h5,rfl⟩:=mapD_some.1 hp
 clear hp
 obtain ⟨hb5,e5⟩:=manyP_rest (fun h1 h2=>sessP_rest h1 h2) no hb4 h5
 have hl5:l5.length≤1000000:=Nat.le_trans e5 hl4
 simp -implicitDefEqProofs (disch:=omega) [go_sem]
 refine .inr (.inr (rd_lentL (manyItem_dx Γ l5 hl5 hb5 ni (by omega)) (by simp [go_sem]) (.cons (.data _) (.cons (.bnd _ (.ptr 0)) .nil)) (fun r l6 hp=>?_) (fun hp l'=>?_)))
 rotate_left
 · rw [mapD_none] at hp
   have hn:=hP.none_of (by simp [bookQ,h2048,bnd,h1,h2,h3,h4,h5,hp])
   simp -implicitDefEqProofs (disch:=omega) [go_sem]
   exact rdX (l':=l') rfl (by simp [go_sem]) (by rw [hn];rfl)
 obtain ⟨is,h6,rfl⟩:=mapD_some.1 hp
 clear hp
 obtain ⟨hb6,e6⟩:=manyP_rest (fun h1 h2=>itemP_rest h1 h2) ni hb5 h6
 have hl6:l6.length≤1000000:=Nat.le_trans e6 hl5
 simp -implicitDefEqProofs (disch:=omega) [go_sem]
 refine .inr (.inr (rd_lentL (manyLock_dx Γ l6 hl6 hb6 nl (by omega)) (by simp [go_sem]) (.cons (.data _) (.cons (.bnd _ (.ptr 0)) .nil)) (fun r l7 hp=>?_) (fun hp l'=>?_)))
 rotate_left
 · rw [mapD_none] at hp
   have hn:=hP.none_of (by simp [bookQ,h2048,bnd,h1,h2,h3,h4,h5,h6,hp])
   simp -implicitDefEqProofs (disch:=omega) [go_sem]
   exact rdX (l':=l') rfl (by simp [go_sem]) (by rw [hn];rfl)
 obtain ⟨ls,h7,rfl⟩:=mapD_some.1 hp
 clear hp
 obtain ⟨hb7,e7⟩:=manyP_rest (fun h1 h2=>lockP_rest h1 h2) nl hb6 h7
 have hl7:l7.length≤1000000:=Nat.le_trans e7 hl6
 have hQ:bookQ l = some (⟨nx,os,is,ls⟩,l7):=by simp [bookQ,h2048,bnd,h1,h2,h3,h4,h5,h6,h7]
 have hfit:=((bookQ_iff hb _ _).1 hQ).2.2
 obtain ⟨v1,hv1⟩:∃ v:Bool,v = true ↔ RightP ⟨nx,os,is,ls⟩:=by classical exact ⟨decide (RightP ⟨nx,os,is,ls⟩),by simp⟩
 have cr:=right3_pc Γ ⟨nx,os,is,ls⟩ hfit.fits (fun x hx=>(hfit.items x hx).ty) hv1
 clear h1 h2 h3 h4 h5 h6 h7 hfit
 unfold book at cr
 simp only at cr
 simp -implicitDefEqProofs (disch:=omega) [go_sem]
 refine .inl (call_data cr (by simp [go_sem]) ?_)
 simp -implicitDefEqProofs (disch:=omega) [go_sem]
 refine .inr (.inr (need_dx Γ v1 (fun e=>?_) (fun e=>?_)))
 rotate_left
 · have hn:=hP.bad hQ fun h=>by rw [hv1.2 h.1] at e;cases e
   simp -implicitDefEqProofs (disch:=omega) [go_sem]
   exact rdX (l':=l7) rfl (by simp [go_sem]) (by rw [hn];rfl)
 have hr:=hv1.1 e
 simp -implicitDefEqProofs (disch:=omega) [go_sem]
 obtain ⟨v,hv⟩:∃ v:Bool,v = true ↔ ∀ x∈l7,x = 0:=by classical exact ⟨decide (∀ x∈l7,x = 0),by simp⟩
 refine .inr (.inr (rd_lent (end_rd Γ l7 hl7 hv) (by simp [go_sem]) (by simp) (fun r l8 hp=>?_) (fun hp l'=>?_)))
 rotate_left
 · have hn:=hP.bad hQ fun h=>by rw [hv.2 h.2,if_pos rfl] at hp;cases hp
   simp -implicitDefEqProofs (disch:=omega) [go_sem]
   exact rdX (l':=l') rfl (by simp [go_sem]) (by rw [hn];rfl)
 split at hp
 rotate_left
 · cases hp
 rename_i hv2
 simp only [Option.some.injEq,Prod.mk.injEq] at hp
 obtain ⟨rfl,rfl⟩:=hp
 have hsome:=(hP _ _).2 ⟨hQ,hr,hv.1 hv2⟩
 simp -implicitDefEqProofs (disch:=omega) [go_sem,Tryz.f141]
 exact rdK (l':=l7) (by simp [go_sem]) (by rw [hsome];rfl)
theorem clBook_nil {g:Nat} {H:Nat->Blk} {nx:Nat} {K:(Nat->Blk)->Nat->Prop} (hk:K H (nx + 2)):DR Tryz.prog Γ 162 [.ptr g 0] .nili H nx K:=by
 refine dr_by mixed Tryz.func162 rfl rfl (fun args w=>Tryz.call162 args w) (by decide) (by decide) ?_
 simp -implicitDefEqProofs (disch:=omega) [go_sem]
 refine eqK_nil any_interface ?_
 simp -implicitDefEqProofs (disch:=omega) [go_sem,hk]
theorem clBook_err {g:Nat} {H:Nat->Blk} {nx:Nat} {x:D} {K:(Nat->Blk)->Nat->Prop} (hg:H g = .blk true [x]) (hk:K (Hp.upd H [(g,.blk true [.data (.int .i64 2)])]) (nx + 5)):DR Tryz.prog Γ 162 [.ptr g 0] errD H nx K:=by
 refine dr_by mixed Tryz.func162 rfl rfl (fun args w=>Tryz.call162 args w) (by decide) (by decide) ?_
 unfold errD
 simp -implicitDefEqProofs (disch:=omega) [go_sem]
 refine eqK_ifc any_interface ?_
 simp -implicitDefEqProofs (disch:=omega) [go_sem,hg]
 exact hk
def noBook:Book:=⟨0,[],[],[]⟩
def gotB (p:Option (Book × List Nat)):Book:=match p with
 | some (b,_)=>b
 | none=>noBook
set_option maxHeartbeats 2000000 in
theorem triedBook_pc {f:FuncId} (l:List Nat) (p:Option (Book × List Nat)) (h:RD Γ f [] l (mapD p book)):PC Tryz.prog Γ 140 [.sl 1 (bys l),.fn f []] (.tup [book (gotB p),.int .i64 (gotE p)]):=by
 refine pc_def_by mixed Tryz.func140 rfl (fun args w=>Tryz.call140 args w) (by decide) ?_
 simp -implicitDefEqProofs (disch:=omega) [go_sem]
 refine .inr (.inr (rd_lent h (by simp [go_sem]) (by simp) (fun r l' hp=>?_) (fun hp l'=>?_)))
 · obtain ⟨b,hp2,rfl⟩:=mapD_some.1 hp
   unfold book
   simp -implicitDefEqProofs (disch:=omega) [go_sem]
   refine clBook_nil Γ ?_
   simp -implicitDefEqProofs (disch:=omega) [go_sem,Tryz.f140,hp2,gotB,gotE]
 · rw [mapD_none] at hp
   simp -implicitDefEqProofs (disch:=omega) [go_sem]
   refine bodyR_panic (x:=.int .i64 2) rfl (clBook_err Γ (by simp [go_sem];rfl) ?_)
   simp -implicitDefEqProofs (disch:=omega) [go_sem,Tryz.f140,hp,gotB,gotE,book,noBook,sesss,items,locks]
   exact ⟨_,⟨_,rfl,frz_aggL (frzL_c ((frz_data _ _ _ _).2 rfl) (frzL_c (.emp 0 6) (frzL_c (.emp 0 5) (frzL_c (.emp 0 3) frzL_n))))⟩,rfl⟩
set_option maxHeartbeats 2000000 in
theorem readBook_pc (l:List Nat) (hl:l.length≤1000000) (hb:Bytes l) (p:Option (Book × List Nat)) (hP:BookPIs l p):PC Tryz.prog Γ 103 [.sl 1 (bys l)] (.tup [book (gotB p),.int .i64 (gotE p)]):=by
 refine pc_by mixed Tryz.func103 rfl (fun args w=>Tryz.call103 args w) ?_
 have ct:=triedBook_pc Γ l p (book_rd Γ l hl hb p hP)
 generalize gotB p = b at *
 generalize gotE p = e at *
 unfold book at ct ⊢
 simp -implicitDefEqProofs (disch:=omega) [go_sem]
 refine .inl (call_data ct (by simp [go_sem]) ?_)
 simp -implicitDefEqProofs (disch:=omega) [go_sem,Tryz.f103]
end
end Bk
namespace Bk
variable (Γ:Nat->Option (List Data))
/-- The first of the cells that were moved to the left,and noughts behind them. -/
theorem cut_left {L z:List D} {i n es:Nat} (hes:0 < es) (hi:i < n) (hL:L.length = n * es) (hz:z.length = es) :
 over (over L (i * es) ((L.drop ((i + 1) * es)).take ((n - (i + 1)) * es))) ((n - 1) * es) z = L.take (i * es)++L.drop ((i + 1) * es)++z:=by
 have e1:(i + 1) * es = i * es + es:=by rw [Nat.add_mul,Nat.one_mul]
 have e2:(n - (i + 1)) * es = n * es - (i * es + es):=by rw [Nat.sub_mul,e1]
 have e3:(n - 1) * es = n * es - es:=by rw [Nat.sub_mul,Nat.one_mul]
 have e4:i * es + es≤n * es:=by rw [<- e1];exact Nat.mul_le_mul_right _ hi
 rw [e1,e2,e3]
 have h1:(L.drop (i * es + es)).take (n * es - (i * es + es)) = L.drop (i * es + es):=List.take_of_length_le (by rw [List.length_drop,hL];omega)
 rw [h1]
 have hd:(L.drop (i * es + es)).length = n * es - (i * es + es):=by rw [List.length_drop,hL]
 apply List.ext_getElem?
 intro q
 have hfit:i * es + (L.drop (i * es + es)).length≤L.length:=by omega
 rw [over_get (by rw [over_length hfit];omega),over_get hfit]
 have ht:(L.take (i * es)).length = i * es:=by rw [List.length_take];omega
 by_cases a:n * es - es≤q
 · rw [List.getElem?_append_right (by rw [List.length_append,ht,hd];omega),List.length_append,ht,hd,show i * es + (n * es - (i * es + es)) = n * es - es by omega]
   by_cases b:q < n * es - es + z.length
   · rw [if_pos ⟨a,b⟩]
   · rw [if_neg (by omega),if_neg (by omega),List.getElem?_eq_none (by omega),List.getElem?_eq_none (by omega)]
 · rw [if_neg (by omega),List.getElem?_append_left (by rw [List.length_append,ht,hd];omega)]
   by_cases b:q < i * es
   · rw [if_neg (by omega),List.getElem?_append_left (by omega),List.getElem?_take_of_lt b]
   · rw [if_pos (by omega),List.getElem?_append_right (by omega),ht]
theorem sesss_cutout (l:List Sess) (i:Nat) (hi:i < l.length):((flat (sesss l)).map D.data).take (i * 6)++((flat (sesss l)).map D.data).drop ((i + 1) * 6) = (flat (sesss (l.take i++l.drop (i + 1)))).map D.data:=by
 rw [<- List.map_take,<- List.map_drop,<- flat_take (sesss_cells l) i (by rw [sesss_length];omega),<- flat_drop (sesss_cells l) (i + 1) (by rw [sesss_length];omega),sesss_take,sesss_drop,<- sesss_append,List.map_append]
set_option maxHeartbeats 4000000 in
set_option maxRecDepth 100000 in
theorem deleteSess_dc (H:Nat->Blk) (l:List Sess) (hH:H 5 = .blk true ((flat (sesss l)).map .data)) (i:Nat) (hi:i < l.length) (hl:l.length≤1000000) {K:D->(Nat->Blk)->Nat->Prop}
 (hk:K (.ref 5 0 (l.length - 1) 6) (Hp.set H 5 (.blk true ((flat (sesss (l.take i++l.drop (i + 1)))).map .data++[.data (.int .i64 0),.data (.int .i64 0),.data (.int .u32 0),.data (.str ByteArray.empty),.data (.int .u64 0),.data (.int .u64 0)]))) 131) :
 DC Tryz.prog Γ 148 [.ref 5 0 l.length 6,.data (.int .i64 i),.data (.int .i64 ((i:Int) + 1))] H 102 K:=by
 refine dc_weak (dc_recut (by omega) ?_)
 refine dc_by mixed Tryz.func148 rfl (fun args w=>Tryz.call148 args w) ?_
 have hne:¬ ((i:Int) = (i:Int) + 1):=by omega
 simp -implicitDefEqProofs (disch:=omega) [go_sem,hH,hne]
 refine side (fun x hx=>?_) ?_
 · obtain ⟨y,hy,rfl⟩:=List.mem_map.1 (List.mem_of_mem_drop (List.mem_of_mem_take hx))
   exact (flat_sesss_cell l).2 trivial y hy
 simp -implicitDefEqProofs (disch:=omega) [go_sem,hH]
 refine side (by kernel_rfl) ?_
 have hN:((i:Int) + ((l.length - (i + 1):Nat):Int)).toNat = l.length - 1:=by omega
 have hN1:l.length - (l.length - 1) = 1:=by omega
 have hLl:((flat (sesss l)).map D.data).length = l.length * 6:=by rw [List.length_map,flat_sesss_length]
 have hov:(over ((flat (sesss l)).map D.data) (i * 6) (List.take ((l.length - (i + 1)) * 6) (List.drop ((i + 1) * 6) ((flat (sesss l)).map D.data)))).length = l.length * 6:=by
  rw [over_length (by rw [List.length_take,List.length_drop,hLl];omega),hLl]
 simp -implicitDefEqProofs (disch:=omega) [go_sem,hH,hN,hN1,hov,Tryz.f148]
 have key:=cut_left (L:=(flat (sesss l)).map D.data) (z:=[.data (.int .i64 0),.data (.int .i64 0),.data (.int .u32 0),.data (.str ByteArray.empty),.data (.int .u64 0),.data (.int .u64 0)]) (i:=i) (n:=l.length) (es:=6) (by omega) hi hLl rfl
 rw [sesss_cutout l i hi] at key
 simp only [over_two,List.length_cons,List.length_nil,List.append_assoc,List.cons_append,List.nil_append,Nat.reduceAdd] at key
 rw [key,show i + (l.length - (i + 1)) = l.length - 1 by omega]
 exact hk
theorem locks_cutout (l:List Lock) (i:Nat) (hi:i < l.length):((flat (locks l)).map D.data).take (i * 3)++((flat (locks l)).map D.data).drop ((i + 1) * 3) = (flat (locks (l.take i++l.drop (i + 1)))).map D.data:=by
 rw [<- List.map_take,<- List.map_drop,<- flat_take (locks_cells l) i (by rw [locks_length];omega),<- flat_drop (locks_cells l) (i + 1) (by rw [locks_length];omega),locks_take,locks_drop,<- locks_append,List.map_append]
set_option maxHeartbeats 4000000 in
set_option maxRecDepth 100000 in
theorem deleteLock_dc (H:Nat->Blk) (l:List Lock) (hH:H 7 = .blk true ((flat (locks l)).map .data)) (i:Nat) (hi:i < l.length) (hl:l.length≤1000000) {K:D->(Nat->Blk)->Nat->Prop}
 (hk:K (.ref 7 0 (l.length - 1) 3) (Hp.set H 7 (.blk true ((flat (locks (l.take i++l.drop (i + 1)))).map .data++[.data (.str ByteArray.empty),.data (.int .i64 0),.data (.int .i64 0)]))) 136) :
 DC Tryz.prog Γ 150 [.ref 7 0 l.length 3,.data (.int .i64 i),.data (.int .i64 ((i:Int) + 1))] H 107 K:=by
 refine dc_weak (dc_recut (by omega) ?_)
 refine dc_by mixed Tryz.func150 rfl (fun args w=>Tryz.call150 args w) ?_
 have hne:¬ ((i:Int) = (i:Int) + 1):=by omega
 simp -implicitDefEqProofs (disch:=omega) [go_sem,hH,hne]
 refine side (fun x hx=>?_) ?_
 · obtain ⟨y,hy,rfl⟩:=List.mem_map.1 (List.mem_of_mem_drop (List.mem_of_mem_take hx))
   exact (flat_locks_cell l).2 trivial y hy
 simp -implicitDefEqProofs (disch:=omega) [go_sem,hH]
 refine side (by kernel_rfl) ?_
 have hN:((i:Int) + ((l.length - (i + 1):Nat):Int)).toNat = l.length - 1:=by omega
 have hN1:l.length - (l.length - 1) = 1:=by omega
 have hLl:((flat (locks l)).map D.data).length = l.length * 3:=by rw [List.length_map,flat_locks_length]
 have hov:(over ((flat (locks l)).map D.data) (i * 3) (List.take ((l.length - (i + 1)) * 3) (List.drop ((i + 1) * 3) ((flat (locks l)).map D.data)))).length = l.length * 3:=by
  rw [over_length (by rw [List.length_take,List.length_drop,hLl];omega),hLl]
 simp -implicitDefEqProofs (disch:=omega) [go_sem,hH,hN,hN1,hov,Tryz.f150]
 have key:=cut_left (L:=(flat (locks l)).map D.data) (z:=[.data (.str ByteArray.empty),.data (.int .i64 0),.data (.int .i64 0)]) (i:=i) (n:=l.length) (es:=3) (by omega) hi hLl rfl
 rw [locks_cutout l i hi] at key
 simp only [over_two,List.length_cons,List.length_nil,List.append_assoc,List.cons_append,List.nil_append,Nat.reduceAdd] at key
 rw [key,show i + (l.length - (i + 1)) = l.length - 1 by omega]
 exact hk
set_option maxHeartbeats 4000000 in
set_option maxRecDepth 100000 in
theorem stop_dc (b:Book) (o:Op) (hk:o.kind = 3) (hs:Short b):DC Tryz.prog Γ 114 [.ptr 10 0] (hpL (appL b o)) 83 (Ends (countedOp b o).1 b o (countedOp b o).2):=by
 refine dc_by mixed Tryz.func114 rfl (fun args w=>Tryz.call114 args w) ?_
 have c1:=counted2_pc Γ b hs o
 have hrg:=first_range (fun s:Sess=>decide (s.id = o.id)) b.opn 0
 obtain ⟨s1,s2,s3⟩:=hs
 have hr0:countedOp b o = countedAt b o (ofId b o.id):=rfl
 rw [hr0];clear hr0
 change ofId b o.id = -1 ∨ _≤ofId b o.id∧ofId b o.id < _ at hrg
 generalize ofId b o.id = k at *
 unfold appL
 simp -implicitDefEqProofs (disch:=omega) [go_sem]
 refine .inl (call_bare [10,5,6,7] c1 (.tup _ (by simp;exact ⟨.int _ _,.int _ _⟩)) (fun H' hH=>?_) ?_)
 · have h10:=hH 10 (by simp)
   have h5:=hH 5 (by simp)
   have h6:=hH 6 (by simp)
   have h7:=hH 7 (by simp)
   simp -implicitDefEqProofs [go_sem] at h10 h5 h6 h7
   exact frzL_c (frz_ptrL h10 (.inl rfl) (frz_work h5 h6 h7)) frzL_n
 by_cases g1:k < 0
 · have hr:countedAt b o k = (b,5):=by unfold countedAt;rw [if_pos g1]
   have hq:countAt b o k = (0,5):=by unfold countAt;rw [if_pos g1]
   rw [hq]
   rw [hr]
   simp -implicitDefEqProofs (disch:=omega) [go_sem,Tryz.f114]
   exact ends_of (i:=5) (j:=6) (k:=7) (by omega) (by simp [go_sem]) ⟨[],by simp [go_sem]⟩ ⟨[],by simp [go_sem]⟩ ⟨[],by simp [go_sem]⟩ (by simp [go_sem]) (by simp [go_sem]) (by simp [go_sem]) (by omega)
 obtain ⟨n,rfl⟩:∃ n:Nat,k = n:=⟨k.toNat,by omega⟩
 have hn:n < b.opn.length:=by omega
 have hgd:b.opn.getD ((n:Int)).toNat default = b.opn[n]:=by rw [Int.toNat_natCast,List.getD_eq_getElem?_getD,List.getElem?_eq_getElem hn];rfl
 by_cases g2:o.inn < b.opn[n].inn ∨ o.out < b.opn[n].out
 · have hr:countedAt b o n = (b,7):=by unfold countedAt;rw [if_neg g1,hgd,if_pos g2]
   have hq:countAt b o n = (0,7):=by unfold countAt;rw [if_neg g1,hgd,if_pos g2]
   rw [hq]
   rw [hr]
   simp -implicitDefEqProofs (disch:=omega) [go_sem,Tryz.f114]
   exact ends_of (i:=5) (j:=6) (k:=7) (by omega) (by simp [go_sem]) ⟨[],by simp [go_sem]⟩ ⟨[],by simp [go_sem]⟩ ⟨[],by simp [go_sem]⟩ (by simp [go_sem]) (by simp [go_sem]) (by simp [go_sem]) (by omega)
 have hq:countAt b o n = ((n:Int),0):=by unfold countAt;rw [if_neg g1,hgd,if_neg g2]
 have hr:countedAt b o n = ({ b with items:=b.items++[⟨3,o.id,o.inn,o.out,o.cause⟩],opn:=b.opn.take n++b.opn.drop (n + 1) },0):=by unfold countedAt;rw [if_neg g1,hgd,if_neg g2,if_pos hk,Int.toNat_natCast]
 have hlen:(b.opn.take n++b.opn.drop (n + 1)).length = b.opn.length - 1:=by simp;omega
 rw [hq,hr]
 simp -implicitDefEqProofs (disch:=omega) [go_sem]
 refine .inr (deleteSess_dc Γ _ b.opn (by simp [go_sem]) n hn s1 ?_)
 simp -implicitDefEqProofs (disch:=omega) [go_sem]
 refine side (by kernel_rfl) ?_
 simp -implicitDefEqProofs (disch:=omega) [go_sem,Tryz.f114]
 rw [<- hlen]
 exact ends_of (i:=5) (j:=163) (k:=7) (by omega) (by simp [go_sem]) ⟨_,by simp [go_sem];rfl⟩ ⟨[],by simp [go_sem,<- items_append,item_one]⟩ ⟨[],by simp [go_sem]⟩ (by simp [go_sem]) (by simp [go_sem]) (by simp [go_sem]) (by omega)
set_option maxHeartbeats 4000000 in
set_option maxRecDepth 100000 in
theorem pass_dc (b:Book) (o:Op) (hk:o.kind = 5) (hs:Short b):DC Tryz.prog Γ 116 [.ptr 10 0] (hpL (appL b o)) 83 (Ends (failedOp b o).1 b o (failedOp b o).2):=by
 refine dc_by mixed Tryz.func116 rfl (fun args w=>Tryz.call116 args w) ?_
 have c1:=placeOfUser_pc Γ b.locks (by have:=hs.2.2;omega) o.user
 have hrg:=first_range (fun l:Lock=>decide (l.user = o.user)) b.locks 0
 obtain ⟨s1,s2,s3⟩:=hs
 have hr0:failedOp b o = failedAt b o (failed b o.user):=rfl
 rw [hr0];clear hr0
 change PC _ _ _ _ (.int .i64 (failed b o.user)) at c1
 change failed b o.user = -1 ∨ _≤failed b o.user∧failed b o.user < _ at hrg
 generalize failed b o.user = k at *
 unfold appL
 simp -implicitDefEqProofs (disch:=omega) [go_sem]
 refine .inl (call_bare [7] c1 (by constructor) (fun H' hH=>?_) ?_)
 · have h7:=hH 7 (by simp)
   simp -implicitDefEqProofs [go_sem] at h7
   exact frzL_c (fz_locks (rw:=true) h7 (.inl rfl) rfl) (frzL_c ((frz_data _ _ _ _).2 rfl) frzL_n)
 simp -implicitDefEqProofs (disch:=omega) [go_sem]
 refine side (by kernel_rfl) ?_
 by_cases g1:k < 0
 · have hr:failedAt b o k = (b,5):=by unfold failedAt;rw [if_pos hk,if_pos g1]
   rw [hr]
   simp -implicitDefEqProofs (disch:=omega) [go_sem,g1,Tryz.f116]
   exact ends_of (i:=5) (j:=6) (k:=7) (by omega) (by simp [go_sem]) ⟨[],by simp [go_sem]⟩ ⟨[],by simp [go_sem]⟩ ⟨[],by simp [go_sem]⟩ (by simp [go_sem]) (by simp [go_sem]) (by simp [go_sem]) (by omega)
 obtain ⟨n,rfl⟩:∃ n:Nat,k = n:=⟨k.toNat,by omega⟩
 have hn:n < b.locks.length:=by omega
 have hr:failedAt b o n = ({ b with locks:=b.locks.take n++b.locks.drop (n + 1) },0):=by unfold failedAt;rw [if_pos hk,if_neg g1,Int.toNat_natCast]
 have hlen:(b.locks.take n++b.locks.drop (n + 1)).length = b.locks.length - 1:=by simp;omega
 rw [hr]
 simp -implicitDefEqProofs (disch:=omega) [go_sem,g1]
 refine .inr (deleteLock_dc Γ _ b.locks (by simp [go_sem]) n hn s3 ?_)
 simp -implicitDefEqProofs (disch:=omega) [go_sem,Tryz.f116]
 rw [<- hlen]
 exact ends_of (i:=5) (j:=6) (k:=7) (by omega) (by simp [go_sem]) ⟨[],by simp [go_sem]⟩ ⟨[],by simp [go_sem]⟩ ⟨_,by simp [go_sem];rfl⟩ (by simp [go_sem]) (by simp [go_sem]) (by simp [go_sem]) (by omega)
end Bk
namespace Bk
variable (Γ:Nat->Option (List Data))
@[go_sem] theorem items_take (l:List Item) (n:Nat):List.take n (items l) = items (l.take n):=by simp [items]
@[go_sem] theorem items_drop (l:List Item) (n:Nat):List.drop n (items l) = items (l.drop n):=by simp [items]
theorem item_cut (l:List Item) (n:Nat) (h:n < l.length):List.take 5 (List.drop (n * 5) ((flat (items l)).map D.data)) = [.data (.int .i64 l[n].kind),.data (.int .i64 l[n].id),.data (.int .u64 l[n].inn),.data (.int .u64 l[n].out),.data (.int .i64 l[n].cause)]:=by
 rw [<- List.map_drop,<- flat_drop (items_cells l) n (by rw [items_length];omega),items_drop,List.drop_eq_getElem_cons h]
 rfl
theorem item_set (l:List Item) (n:Nat) (h:n < l.length) (x:Item):List.take (n * 5) ((flat (items l)).map D.data)++.data (.int .i64 x.kind) :: .data (.int .i64 x.id) :: .data (.int .u64 x.inn) :: .data (.int .u64 x.out) :: .data (.int .i64 x.cause) :: List.drop (n * 5 + 5) ((flat (items l)).map D.data) = (flat (items (l.set n x))).map D.data:=by
 have e:n * 5 + 5 = (n + 1) * 5:=by omega
 rw [e,<- List.map_take,<- List.map_drop,<- flat_take (items_cells l) n (by rw [items_length];omega),<- flat_drop (items_cells l) (n + 1) (by rw [items_length];omega),items_take,items_drop,List.set_eq_take_append_cons_drop,if_pos h,<- items_append,List.map_append]
 rfl
/-- It goes. -/
def goes (b:Book) (x:Item):Bool:=decide (ofId b x.id < 0)
set_option maxRecDepth 100000 in
theorem byGoes_pc (b:Book) (hl:b.opn.length≤1000000) (x:Item):PC Tryz.prog Γ 152 [item x,.pc [.pc [.int .i64 b.next,.sl 6 (sesss b.opn)]]] (.bool (goes b x)):=by
 refine pc_by mixed Tryz.func152 rfl (fun args w=>Tryz.call152 args w) ?_
 have hk:=placeOfId_pc Γ b.opn (by omega) x.id
 simp -implicitDefEqProofs (disch:=omega) [go_sem,item]
 refine .inl (call_data hk (by simp [go_sem]) ?_)
 simp -implicitDefEqProofs (disch:=omega) [go_sem]
 refine side (by kernel_rfl) ?_
 have e:goes b x = decide (first (fun s:Sess=>decide (s.id = x.id)) 0 b.opn < 0):=rfl
 simp -implicitDefEqProofs (disch:=omega) [go_sem,e,Tryz.f152]
theorem goes_kept (b:Book) (x:Item):decide (0≤ofId b x.id) = !goes b x:=by
 unfold goes
 by_cases h:ofId b x.id < 0
 · rw [decide_eq_true h,decide_eq_false (by omega)];rfl
 · rw [decide_eq_false h,decide_eq_true (by omega)];rfl
theorem first_neg {α:Type} {p:α->Bool}:∀ (l:List α) (n:Nat),first p n l = -1->∀ a∈l,p a = false
 | [],_,_,a,ha=>by cases ha
 | x :: l,n,h,a,ha=>by
   simp only [first] at h
   split at h
   · omega
   · rename_i hx
     rcases List.mem_cons.1 ha with rfl | ha
     · simpa using hx
     · exact first_neg l (n + 1) h a ha
theorem first_before {α:Type} {p:α->Bool}:∀ (l:List α) (m n:Nat),first p m l = ((m + n:Nat):Int)->∀ (j:Nat) (h:j < l.length),j < n->p l[j] = false
 | [],_,_,_,j,h,_=>by simp at h
 | x :: l,m,n,hf,j,h,hj=>by
   simp only [first] at hf
   split at hf
   · omega
   · rename_i hx
     match j with
     | 0=>simpa using hx
     | j + 1 =>
       obtain ⟨q,rfl⟩:∃ q,n = q + 1:=⟨n - 1,by omega⟩
       exact first_before l (m + 1) q (by rw [hf];congr 1;omega) j (by simpa using h) (by omega)
theorem kept_all (b:Book):∀ l:List Item,(∀ x∈l,goes b x = false)->kept b l = l:=by
 intro l h
 unfold kept
 rw [List.filter_eq_self]
 intro x hx
 rw [goes_kept,h x hx];rfl
theorem kept_take (b:Book) (l:List Item) (i:Nat) (h:i < l.length):kept b (l.take (i + 1)) = kept b (l.take i)++(if goes b l[i] then [] else [l[i]]):=by
 rw [List.take_succ_eq_append_getElem h]
 unfold kept
 rw [List.filter_append]
 congr 1
 cases g:goes b l[i] with
 | true=>simp [goes_kept,g]
 | false=>simp [goes_kept,g]
/-- What trim has in memory. -/
def trimL (b:Book) (o:Op) (r:List D):List (Nat × Blk):=[
 (83,.blk true [.ptr 10 0]),
 (10,.blk true [.data (.int .i64 b.next),.ref 5 0 b.opn.length 6,.ref 6 0 b.items.length 5,.ref 7 0 b.locks.length 3,.data (.int .i64 o.kind),.data (.int .i64 o.id),.data (.int .i64 o.link),.data (.int .u32 o.addr),.data (.str o.user),.data (.int .u64 o.inn),.data (.int .u64 o.out),.data (.int .i64 o.cause),.data (.int .i64 o.at_)]),
 (7,.blk true ((flat (locks b.locks)).map .data)),(6,.blk true r),(5,.blk true ((flat (sesss b.opn)).map .data)),
 (2,.blk true [.data (.int .i64 0),.emp 0,.emp 0,.emp 0]),
 (1,.blk true [.data (.int .i64 o.kind),.data (.int .i64 o.id),.data (.int .i64 o.link),.data (.int .u32 o.addr),.data (.str o.user),.data (.int .u64 o.inn),.data (.int .u64 o.out),.data (.int .i64 o.cause),.data (.int .i64 o.at_)]),
 (0,.blk true [.data (.int .i64 b.next),.data (.sl 6 (sesss b.opn)),.data (.sl 5 (items b.items)),.data (.sl 3 (locks b.locks))])]
theorem over_tail {cells vs:List D} {off:Nat} (h:off + vs.length = cells.length):over cells off vs = cells.take off++vs:=by
 apply List.ext_getElem?
 intro q
 rw [over_get (by omega)]
 have ht:(cells.take off).length = off:=by rw [List.length_take];omega
 by_cases a:q < off
 · rw [if_neg (by omega),List.getElem?_append_left (by omega),List.getElem?_take_of_lt a]
 · rw [List.getElem?_append_right (by omega),ht]
   by_cases b:q < off + vs.length
   · rw [if_pos ⟨by omega,b⟩]
   · rw [if_neg (by omega),List.getElem?_eq_none (by omega),List.getElem?_eq_none (by omega)]
def noughts (n:Nat):List D:=(List.replicate n [.data (.int .i64 0),.data (.int .i64 0),.data (.int .u64 0),.data (.int .u64 0),.data (.int .i64 0)]).flatten
theorem noughts_data (l:List Data) (n:Nat):∀ c∈l.map D.data++noughts n,∃ x,c = .data x:=by
 intro c hc
 rcases List.mem_append.1 hc with hc | hc
 · obtain ⟨x,_,rfl⟩:=List.mem_map.1 hc;exact ⟨x,rfl⟩
 · unfold noughts at hc
   obtain ⟨y,hy,hc⟩:=List.mem_flatten.1 hc
   obtain ⟨_,rfl⟩:=List.mem_replicate.1 hy
   simp at hc
   rcases hc with rfl | rfl | rfl | rfl | rfl <;> exact ⟨_,rfl⟩
theorem noughts_length (n:Nat):(noughts n).length = n * 5:=by simp [noughts]
theorem frz_goes {b:Book} {o:Op} {H':Nat->Blk} (h83:H' 83 = .blk true [.ptr 10 0])
 (h10:H' 10 = .blk true [.data (.int .i64 b.next),.ref 5 0 b.opn.length 6,.ref 6 0 b.items.length 5,.ref 7 0 b.locks.length 3,.data (.int .i64 o.kind),.data (.int .i64 o.id),.data (.int .i64 o.link),.data (.int .u32 o.addr),.data (.str o.user),.data (.int .u64 o.inn),.data (.int .u64 o.out),.data (.int .i64 o.cause),.data (.int .i64 o.at_)])
 (h5:H' 5 = .blk true ((flat (sesss b.opn)).map .data)):Frz true H' (.ptr 83 0) (.pc [.pc [.int .i64 b.next,.sl 6 (sesss b.opn)]]) :=
 frz_ptrL h83 (.inl rfl) (frzL_c (frz_ptrL h10 (.inl rfl) (frzL_c ((frz_data _ _ _ _).2 rfl) (frzL_c (fz_sesss (rw:=true) h5 (.inl rfl) rfl) frzL_n))) frzL_n)
set_option maxHeartbeats 4000000 in
set_option maxRecDepth 100000 in
theorem deleteFunc_dc (b:Book) (o:Op) (hs:Short b):DC Tryz.prog Γ 151 [.ref 6 0 b.items.length 5,.fn 152 [.ptr 83 0]] (Hp.set (hpL (appL b o)) 83 (.blk true [.ptr 10 0])) 156
 (fun d0 H1 nx1=>∃ F,WeakR F (rhoL []) ⟨envL [(0,d0)],H1,nx1,156,1⟩ ⟨envL [(0,.ref 6 0 (kept b b.items).length 5)],hpL (trimL b o ((flat (items (kept b b.items))).map .data++noughts (b.items.length - (kept b b.items).length))),156,156,1⟩):=by
 refine dc_by mixed Tryz.func151 rfl (fun args w=>Tryz.call151 args w) ?_
 obtain ⟨s1,s2,s3⟩:=hs
 have cg:=byGoes_pc Γ b s1
 have ci:=idxItem_pc Γ b.items (by omega) _ [.pc [.pc [.int .i64 b.next,.sl 6 (sesss b.opn)]]] (goes b) cg
 have hrg:=first_range (goes b) b.items 0
 have hh:=fun n=>first_hit (p:=goes b) (l:=b.items) (m:=0) (n:=n)
 unfold appL
 simp -implicitDefEqProofs (disch:=omega) [go_sem]
 refine .inl (call_bare [6,83,10,5] ci (by constructor) (fun H' hH=>?_) ?_)
 · have h6:=hH 6 (by simp)
   have h83:=hH 83 (by simp)
   have h10:=hH 10 (by simp)
   have h5:=hH 5 (by simp)
   simp -implicitDefEqProofs [go_sem] at h6 h83 h10 h5
   exact frzL_c (fz_items (rw:=true) h6 (.inl rfl) rfl) (frzL_c ((frz_fn _ _ _ _ _).2 ⟨_,rfl,frzL_c (frz_goes h83 h10 h5) frzL_n⟩) frzL_n)
 by_cases g1:first (goes b) 0 b.items = -1
 · have hk:kept b b.items = b.items:=kept_all b _ (first_neg _ _ g1)
   rw [g1,hk]
   simp -implicitDefEqProofs (disch:=omega) [go_sem,Tryz.f151]
   refine ⟨[],?_⟩
   apply ren_lists <;> simp -implicitDefEqProofs [go_sem,trimL,noughts]
 obtain ⟨m,hm⟩:∃ m:Nat,first (goes b) 0 b.items = ((0 + m:Nat):Int):=⟨(first (goes b) 0 b.items).toNat,by omega⟩
 obtain ⟨hmn,hgo⟩:=hh m hm
 have hbef:=first_before b.items 0 m hm
 rw [Nat.zero_add] at hm
 have hk0:kept b (b.items.take m) = b.items.take m:=kept_all b _ fun x hx=>by
  obtain ⟨q,hq,rfl⟩:=List.mem_iff_getElem.1 hx
  rw [List.getElem_take]
  have:q < m∧q < b.items.length:=by rw [List.length_take] at hq;omega
  exact hbef q this.2 this.1
 have hk1:kept b (b.items.take (m + 1)) = b.items.take m:=by rw [kept_take b b.items m hmn,hgo,hk0];simp
 have hm1:¬ ((m:Int) = -1):=by omega
 rw [hm]
 simp -implicitDefEqProofs (disch:=omega) [go_sem,hm1]
 refine loop_ren (σ:={ q:Nat × List Item // q.1≤b.items.length∧0 < q.2.length∧(kept b (b.items.take q.1)).length + q.2.length = q.1 }) (fun q=>⟨envL [(0,.ref 6 0 b.items.length 5),(1,.fn 152 [.ptr 83 0]),(5,.data (.int .i64 (kept b (b.items.take q.1.1)).length)),(6,.data (.int .i64 q.1.1))],hpL (trimL b o ((flat (items (kept b (b.items.take q.1.1)++q.1.2++b.items.drop q.1.1))).map .data)),156,156,42⟩) (fun q=>b.items.length - q.1.1) ⟨(m + 1,[b.items[m]]),by omega,by simp,by rw [hk1];simp;omega⟩ [] (rhoL []) ?_ ?_
 · have hX:kept b (b.items.take (m + 1))++[b.items[m]]++b.items.drop (m + 1) = b.items:=by
    rw [hk1,List.append_assoc,List.singleton_append,<- List.drop_eq_getElem_cons hmn,List.take_append_drop]
   have hl1:(kept b (b.items.take (m + 1))).length = m:=by rw [hk1];simp;omega
   apply ren_lists <;> simp -implicitDefEqProofs [go_sem,trimL,hX,hl1]
   trace_state
 rintro ⟨⟨j,G⟩,hj,hG,hlen⟩
 simp only at hj hG hlen ⊢
 obtain ⟨X,hX⟩:∃ X,X = kept b (b.items.take j)++G++b.items.drop j:=⟨_,rfl⟩
 rw [<- hX]
 have hXl:X.length = b.items.length:=by rw [hX];simp;omega
 by_cases h:j < b.items.length
 · have hXj:X[j] = b.items[j]:=by
    have:X[j]? = some b.items[j]:=by
     rw [hX,List.getElem?_append_right (by simp;omega)]
     simp [hlen,h]
    exact (List.getElem?_eq_some_iff.1 this).2
   have hcut:=item_cut X j (by omega)
   rw [hXj] at hcut
   have hkt:=kept_take b b.items j h
   have hset:=item_set X (kept b (b.items.take j)).length (by omega) b.items[j]
   have hcg:=cg b.items[j]
   unfold trimL
   simp -implicitDefEqProofs (disch:=omega) [go_sem,hcut]
   refine .inl (call_bare [83,10,5] hcg (by constructor) (fun H' hH=>?_) ?_)
   · have h83:=hH 83 (by simp)
     have h10:=hH 10 (by simp)
     have h5:=hH 5 (by simp)
     simp -implicitDefEqProofs [go_sem] at h83 h10 h5
     exact frzL_c ((frz_data _ _ _ _).2 rfl) (frzL_c (frz_goes h83 h10 h5) frzL_n)
   cases hq:goes b b.items[j] with
   | true =>
     rw [hq] at hkt
     simp only [if_true,List.append_nil] at hkt
     simp -implicitDefEqProofs (disch:=omega) [go_sem]
     refine next_ren ⟨(j + 1,G++[b.items[j]]),by omega,by simp,by rw [hkt];simp;omega⟩ (by simp only;omega) [] (rhoL []) ?_
     have hX2:kept b (b.items.take (j + 1))++(G++[b.items[j]])++b.items.drop (j + 1) = X:=by
      rw [hX,hkt,List.drop_eq_getElem_cons h];simp
     apply ren_lists <;> simp -implicitDefEqProofs [go_sem,trimL,hkt]
     exact renCells_eq (by rw [hX,List.append_assoc])
   | false =>
     rw [hq] at hkt
     simp only [Bool.false_eq_true,if_false] at hkt
     obtain ⟨y,G',rfl⟩:∃ y G',G = y :: G':=by
      cases G with
      | nil=>simp at hG
      | cons y G'=>exact ⟨y,G',rfl⟩
     have hX2:X.set (kept b (b.items.take j)).length b.items[j] = kept b (b.items.take (j + 1))++(G'++[b.items[j]])++b.items.drop (j + 1):=by
      rw [hX,hkt,List.drop_eq_getElem_cons h,List.append_assoc,List.set_append_right _ _ (Nat.le_refl _)]
      simp
     rw [hX2] at hset
     simp -implicitDefEqProofs (disch:=omega) [go_sem]
     refine next_ren ⟨(j + 1,G'++[b.items[j]]),by omega,by simp,by rw [hkt];simp at hlen ⊢;omega⟩ (by simp only;omega) [] (rhoL []) ?_
     apply ren_lists <;> simp -implicitDefEqProofs [go_sem,trimL,hkt]
     rw [hset]
     exact renCells_eq (by rw [hkt];simp)
 obtain rfl:j = b.items.length:=by omega
 rw [List.take_length] at hlen
 have hX3:X = kept b b.items++G:=by rw [hX,List.take_length,List.drop_length,List.append_nil]
 have hkl:(kept b b.items).length≤b.items.length:=by omega
 have hXc:((flat (items X)).map D.data).length = b.items.length * 5:=by rw [List.length_map,flat_items_length,hXl]
 unfold trimL
 have hover:over ((flat (items X)).map D.data) ((kept b b.items).length * 5) (noughts (b.items.length - (kept b b.items).length)) = (flat (items (kept b b.items))).map D.data++noughts (b.items.length - (kept b b.items).length):=by
  rw [over_tail (by rw [noughts_length,hXc,Nat.sub_mul];have:=Nat.mul_le_mul_right 5 hkl;omega)]
  rw [<- List.map_take,<- flat_take (items_cells X) _ (by rw [items_length];omega),items_take,hX3,List.take_left]
 simp -implicitDefEqProofs (disch:=omega) [go_sem,List.take_length]
 refine ⟨[],?_⟩
 change WeakR _ _ ⟨_,Hp.set _ 6 (.blk true (over _ _ (noughts (b.items.length - (kept b b.items).length)))),_,_,_⟩ _
 rw [hover]
 apply ren_lists <;> simp -implicitDefEqProofs [go_sem]
 exact renCells_datas (noughts_data _ _)
set_option maxHeartbeats 4000000 in
set_option maxRecDepth 100000 in
theorem trim_dc (b:Book) (o:Op) (hs:Short b):DC Tryz.prog Γ 117 [.ptr 10 0] (hpL (appL b o)) 83 (Ends { b with items:=kept b b.items } b o 0):=by
 refine dc_by mixed Tryz.func117 rfl (fun args w=>Tryz.call117 args w) ?_
 have c1:=deleteFunc_dc Γ b o hs
 have hkl:(kept b b.items).length≤b.items.length:=List.length_filter_le _ _
 obtain ⟨s1,s2,s3⟩:=hs
 generalize hL:hpL (appL b o) = H at *
 have h10:H 10 = .blk true [.data (.int .i64 b.next),.ref 5 0 b.opn.length 6,.ref 6 0 b.items.length 5,.ref 7 0 b.locks.length 3,.data (.int .i64 o.kind),.data (.int .i64 o.id),.data (.int .i64 o.link),.data (.int .u32 o.addr),.data (.str o.user),.data (.int .u64 o.inn),.data (.int .u64 o.out),.data (.int .i64 o.cause),.data (.int .i64 o.at_)]:=by rw [<- hL];simp [appL,go_sem]
 simp -implicitDefEqProofs (disch:=omega) [go_sem,h10]
 refine .inr (eff_dc (d:=.ref 6 0 (kept b b.items).length 5) [(6,.blk true ((flat (items (kept b b.items))).map D.data++noughts (b.items.length - (kept b b.items).length))),(15,.dead)] (trimL b o ((flat (items (kept b b.items))).map D.data++noughts (b.items.length - (kept b b.items).length))) ?_ ?_ c1 ?_)
 · rw [<- hL]
   funext g
   by_cases e15:g = 15
   · subst e15;rfl
   by_cases e6:g = 6
   · subst e6;rfl
   by_cases e83:g = 83
   · subst e83;rfl
   by_cases e10:g = 10
   · subst e10;rfl
   by_cases e7:g = 7
   · subst e7;rfl
   by_cases e5:g = 5
   · subst e5;rfl
   by_cases e2:g = 2
   · subst e2;rfl
   by_cases e1:g = 1
   · subst e1;rfl
   by_cases e0:g = 0
   · subst e0;rfl
   simp [Hp.upd,Hp.set,appL,trimL,hpL,e15,e6,e83,e10,e7,e5,e2,e1,e0]
 · rw [<- hL]
   intro g hg
   have hg:156≤g:=hg
   have e15:g≠15:=by omega
   have e6:g≠6:=by omega
   have e83:g≠83:=by omega
   have e10:g≠10:=by omega
   have e7:g≠7:=by omega
   have e5:g≠5:=by omega
   have e2:g≠2:=by omega
   have e1:g≠1:=by omega
   have e0:g≠0:=by omega
   simp [Hp.upd,Hp.set,appL,hpL,e15,e6,e83,e10,e7,e5,e2,e1,e0]
 subst hL
 simp -implicitDefEqProofs (disch:=omega) [go_sem,h10]
 refine side (by kernel_rfl) ?_
 simp -implicitDefEqProofs (disch:=omega) [go_sem,h10,Tryz.f117]
 exact ends_of (i:=5) (j:=6) (k:=7) (by omega) (by simp [go_sem,appL]) ⟨[],by simp [go_sem,appL]⟩ ⟨noughts (b.items.length - (kept b b.items).length),by simp [go_sem,appL]⟩ ⟨[],by simp [go_sem,appL]⟩ (by simp [go_sem,appL]) (by simp [go_sem,appL]) (by simp [go_sem,appL]) (by omega)
end Bk
namespace Bk
variable (Γ:Nat->Option (List Data))
def preL (b:Book) (o:Op):List (Nat × Blk):=(appL b o).drop 1
set_option maxHeartbeats 4000000 in
set_option maxRecDepth 100000 in
theorem deeds_dc (b:Book) (o:Op):DC Tryz.prog Γ 70 [.ptr 10 0] (hpL (preL b o)) 79 (fun d0 H1 nx1=>∃ F R,(∀ x∈R,x.1 = 15)∧WeakR F (rhoL R) ⟨envL [(0,d0)],H1,nx1,0,1⟩ ⟨envL [(0,.mref 15)],hpL (appL b o),79,0,1⟩):=by
 refine dc_by mixed Tryz.func70 rfl (fun args w=>Tryz.call70 args w) ?_
 simp -implicitDefEqProofs (disch:=omega) [go_sem,Tryz.f70]
 refine ⟨[],[(15,some 80)],by simp,?_⟩
 apply ren_lists <;> simp -implicitDefEqProofs [go_sem,appL,preL,opsMap]
theorem eff_newAt {f:FuncId} {ds:List D} {H:Nat->Blk} {fr:Nat} {K:D->List Nat->List (Nat × Blk)->Nat->Prop} {d:D} {L:List (Nat × Blk)} (u M:List (Nat × Blk)) (hH:H = hpL L) (hM:Hp.upd (hpL L) u = hpL M) (hD:deadFrom (hpL L) (fr + 64))
 (h:DC Tryz.prog Γ f ds (hpL L) (fr + 64) fun d0 H1 nx1=>∃ F R,(∀ x∈R,x.1 = fr)∧WeakR F (rhoL R) ⟨envL [(0,d0)],H1,nx1,0,1⟩ ⟨envL [(0,d)],hpL M,fr + 64,0,1⟩)
 (hk:K d (List.range (fr + 64)) u 1):effC Tryz.prog Γ f ds H fr K:=by
 subst hH
 exact eff_new u M hM hD h hk
theorem effAt (b c:Book) (o:Op) (e:Int) {f:FuncId} {K:D->List Nat->List (Nat × Blk)->Nat->Prop} (h:DC Tryz.prog Γ f [.ptr 10 0] (hpL (appL b o)) 83 (Ends c b o e))
 {H:Nat->Blk} (hH:H = hpL (appL b o)) (hk:K (.data (.int .i64 e)) (List.range 83) [(10,.blk true [.data (.int .i64 c.next),.data (.sl 6 (sesss c.opn)),.data (.sl 5 (items c.items)),.data (.sl 3 (locks c.locks)),.data (.int .i64 o.kind),.data (.int .i64 o.id),.data (.int .i64 o.link),.data (.int .u32 o.addr),.data (.str o.user),.data (.int .u64 o.inn),.data (.int .u64 o.out),.data (.int .i64 o.cause),.data (.int .i64 o.at_)]),(15,.dead),(5,.dead),(6,.dead),(7,.dead)] 1) :
 effC Tryz.prog Γ f [.ptr 10 0] H 19 K:=by
 subst hH
 refine eff_dc (fr:=19) (d:=.data (.int .i64 e)) _ (appM c b o) ?_ ?_ h hk
 · funext g
   by_cases e15:g = 15
   · subst e15;first | rfl | simp [Hp.upd,Hp.set,appL,appM,hpL,go_sem]
   by_cases e10:g = 10
   · subst e10;first | rfl | simp [Hp.upd,Hp.set,appL,appM,hpL,go_sem]
   by_cases e7:g = 7
   · subst e7;first | rfl | simp [Hp.upd,Hp.set,appL,appM,hpL,go_sem]
   by_cases e6:g = 6
   · subst e6;first | rfl | simp [Hp.upd,Hp.set,appL,appM,hpL,go_sem]
   by_cases e5:g = 5
   · subst e5;first | rfl | simp [Hp.upd,Hp.set,appL,appM,hpL,go_sem]
   by_cases e2:g = 2
   · subst e2;first | rfl | simp [Hp.upd,Hp.set,appL,appM,hpL,go_sem]
   by_cases e1:g = 1
   · subst e1;first | rfl | simp [Hp.upd,Hp.set,appL,appM,hpL,go_sem]
   by_cases e0:g = 0
   · subst e0;first | rfl | simp [Hp.upd,Hp.set,appL,appM,hpL,go_sem]
   simp [Hp.upd,Hp.set,appL,appM,hpL,e15,e10,e7,e6,e5,e2,e1,e0]
 · intro g hg
   have hg:83≤g:=hg
   have e15:g≠15:=by omega
   have e10:g≠10:=by omega
   have e7:g≠7:=by omega
   have e6:g≠6:=by omega
   have e5:g≠5:=by omega
   have e2:g≠2:=by omega
   have e1:g≠1:=by omega
   have e0:g≠0:=by omega
   simp [Hp.upd,Hp.set,appL,hpL,e15,e10,e7,e6,e5,e2,e1,e0]
/-- Such a book,and op,as may come. -/
structure Fine (b:Book) (o:Op):Prop where
 s:Short b
 n:0≤b.next∧b.next≤1000000000
 l:b.locks.length≤8
 ln:∀ l∈b.locks,-1000000≤l.n∧l.n≤1000000
set_option maxHeartbeats 4000000 in
set_option maxRecDepth 100000 in
theorem apply2_pc (b:Book) (o:Op) (h:Fine b o):PC Tryz.prog Γ 39 [book b,op o] (out (applyOp b o)):=by
 refine pc_by mixed Tryz.func39 rfl (fun args w=>Tryz.call39 args w) ?_
 obtain ⟨hs,hn,hl,hln⟩:=h
 have c0:=copied_oc Γ b hs
 unfold bookD sessBk itemBk lockBk at c0
 have c1:=may2_pc Γ o
 have cd:=deeds_dc Γ b o
 have hs':=hs
 obtain ⟨s1,s2,s3⟩:=hs'
 simp -implicitDefEqProofs (disch:=omega) [go_sem,book,op]
 refine .inr (eff_own3 c0 (by simp [go_sem,book]) ?_)
 simp -implicitDefEqProofs (disch:=omega) [go_sem]
 refine side (by kernel_rfl) ?_
 simp -implicitDefEqProofs (disch:=omega) [go_sem]
 refine .inl (call_data c1 (by simp [go_sem,op]) ?_)
 by_cases g0:MayP o
 rotate_left
 · have hr:applyOp b o = (b,1):=by unfold applyOp;rw [if_pos g0]
   rw [decide_eq_false g0,hr]
   simp -implicitDefEqProofs (disch:=omega) [go_sem,out,book,Tryz.f39]
   refine ⟨_,⟨_,rfl,frz_aggL (frzL_c ((frz_data _ _ _ _).2 rfl) (frzL_c (fz_sesss (rw:=true) (l:=b.opn) (by simp [go_sem]) (.inl rfl) rfl) (frzL_c (fz_items (rw:=true) (l:=b.items) (by simp [go_sem]) (.inl rfl) rfl) (frzL_c (fz_locks (rw:=true) (l:=b.locks) (by simp [go_sem]) (.inl rfl) rfl) frzL_n))))⟩,?_⟩
   rfl
 rw [decide_eq_true g0]
 simp -implicitDefEqProofs (disch:=omega) [go_sem]
 refine .inr (eff_newAt Γ (L:=preL b o) (d:=.mref 15) [(15,opsMap)] (appL b o) ?_ ?_ ?_ cd ?_)
 · funext g
   by_cases e10:g = 10
   · subst e10;first | rfl | simp [Hp.upd,Hp.set,appL,preL,hpL,go_sem]
   by_cases e7:g = 7
   · subst e7;first | rfl | simp [Hp.upd,Hp.set,appL,preL,hpL,go_sem]
   by_cases e6:g = 6
   · subst e6;first | rfl | simp [Hp.upd,Hp.set,appL,preL,hpL,go_sem]
   by_cases e5:g = 5
   · subst e5;first | rfl | simp [Hp.upd,Hp.set,appL,preL,hpL,go_sem]
   by_cases e2:g = 2
   · subst e2;first | rfl | simp [Hp.upd,Hp.set,appL,preL,hpL,go_sem]
   by_cases e1:g = 1
   · subst e1;first | rfl | simp [Hp.upd,Hp.set,appL,preL,hpL,go_sem]
   by_cases e0:g = 0
   · subst e0;first | rfl | simp [Hp.upd,Hp.set,appL,preL,hpL,go_sem]
   simp [Hp.upd,Hp.set,appL,preL,hpL,e10,e7,e6,e5,e2,e1,e0]
 · funext g
   by_cases e15:g = 15
   · subst e15;first | rfl | simp [Hp.upd,Hp.set,appL,preL,hpL,go_sem]
   by_cases e10:g = 10
   · subst e10;first | rfl | simp [Hp.upd,Hp.set,appL,preL,hpL,go_sem]
   by_cases e7:g = 7
   · subst e7;first | rfl | simp [Hp.upd,Hp.set,appL,preL,hpL,go_sem]
   by_cases e6:g = 6
   · subst e6;first | rfl | simp [Hp.upd,Hp.set,appL,preL,hpL,go_sem]
   by_cases e5:g = 5
   · subst e5;first | rfl | simp [Hp.upd,Hp.set,appL,preL,hpL,go_sem]
   by_cases e2:g = 2
   · subst e2;first | rfl | simp [Hp.upd,Hp.set,appL,preL,hpL,go_sem]
   by_cases e1:g = 1
   · subst e1;first | rfl | simp [Hp.upd,Hp.set,appL,preL,hpL,go_sem]
   by_cases e0:g = 0
   · subst e0;first | rfl | simp [Hp.upd,Hp.set,appL,preL,hpL,go_sem]
   simp [Hp.upd,Hp.set,appL,preL,hpL,e15,e10,e7,e6,e5,e2,e1,e0]
 · intro g hg
   have hg:79≤g:=hg
   have e15:g≠15:=by omega
   have e10:g≠10:=by omega
   have e7:g≠7:=by omega
   have e6:g≠6:=by omega
   have e5:g≠5:=by omega
   have e2:g≠2:=by omega
   have e1:g≠1:=by omega
   have e0:g≠0:=by omega
   simp [Hp.upd,Hp.set,appL,preL,hpL,e15,e10,e7,e6,e5,e2,e1,e0]
 have hkind:o.kind = 1 ∨ o.kind = 2 ∨ o.kind = 3 ∨ o.kind = 4 ∨ o.kind = 5 ∨ o.kind = 6:=by unfold MayP at g0;omega
 rcases hkind with hk | hk | hk | hk | hk | hk
 · have hr:applyOp b o = openedOp b o:=by unfold applyOp;rw [if_neg (by simpa using g0),if_pos hk]
   rw [hr]
   simp -implicitDefEqProofs (disch:=omega) [go_sem,opsMap,hk]
   refine .inr (effAt Γ b ((openedOp b o).1) o ((openedOp b o).2) (begin_dc Γ b o hs hn) ?_ ?_)
   · funext g
     by_cases e15:g = 15
     · subst e15;first | rfl | simp [Hp.upd,Hp.set,appL,opsMap,hpL,go_sem]
     by_cases e10:g = 10
     · subst e10;first | rfl | simp [Hp.upd,Hp.set,appL,opsMap,hpL,go_sem]
     by_cases e7:g = 7
     · subst e7;first | rfl | simp [Hp.upd,Hp.set,appL,opsMap,hpL,go_sem]
     by_cases e6:g = 6
     · subst e6;first | rfl | simp [Hp.upd,Hp.set,appL,opsMap,hpL,go_sem]
     by_cases e5:g = 5
     · subst e5;first | rfl | simp [Hp.upd,Hp.set,appL,opsMap,hpL,go_sem]
     by_cases e2:g = 2
     · subst e2;first | rfl | simp [Hp.upd,Hp.set,appL,opsMap,hpL,go_sem]
     by_cases e1:g = 1
     · subst e1;first | rfl | simp [Hp.upd,Hp.set,appL,opsMap,hpL,go_sem]
     by_cases e0:g = 0
     · subst e0;first | rfl | simp [Hp.upd,Hp.set,appL,opsMap,hpL,go_sem]
     simp [Hp.upd,Hp.set,appL,opsMap,hpL,e15,e10,e7,e6,e5,e2,e1,e0]
   simp -implicitDefEqProofs (disch:=omega) [go_sem]
   refine side (by kernel_rfl) ?_
   simp -implicitDefEqProofs (disch:=omega) [go_sem,out,book,Tryz.f39]
 · have hr:applyOp b o = countedOp b o:=by unfold applyOp;rw [if_neg (by simpa using g0),if_neg (by omega),if_pos (.inl hk)]
   rw [hr]
   simp -implicitDefEqProofs (disch:=omega) [go_sem,opsMap,hk]
   refine .inr (effAt Γ b ((countedOp b o).1) o ((countedOp b o).2) (count_dc Γ b o hk hs) ?_ ?_)
   · funext g
     by_cases e15:g = 15
     · subst e15;first | rfl | simp [Hp.upd,Hp.set,appL,opsMap,hpL,go_sem]
     by_cases e10:g = 10
     · subst e10;first | rfl | simp [Hp.upd,Hp.set,appL,opsMap,hpL,go_sem]
     by_cases e7:g = 7
     · subst e7;first | rfl | simp [Hp.upd,Hp.set,appL,opsMap,hpL,go_sem]
     by_cases e6:g = 6
     · subst e6;first | rfl | simp [Hp.upd,Hp.set,appL,opsMap,hpL,go_sem]
     by_cases e5:g = 5
     · subst e5;first | rfl | simp [Hp.upd,Hp.set,appL,opsMap,hpL,go_sem]
     by_cases e2:g = 2
     · subst e2;first | rfl | simp [Hp.upd,Hp.set,appL,opsMap,hpL,go_sem]
     by_cases e1:g = 1
     · subst e1;first | rfl | simp [Hp.upd,Hp.set,appL,opsMap,hpL,go_sem]
     by_cases e0:g = 0
     · subst e0;first | rfl | simp [Hp.upd,Hp.set,appL,opsMap,hpL,go_sem]
     simp [Hp.upd,Hp.set,appL,opsMap,hpL,e15,e10,e7,e6,e5,e2,e1,e0]
   simp -implicitDefEqProofs (disch:=omega) [go_sem]
   refine side (by kernel_rfl) ?_
   simp -implicitDefEqProofs (disch:=omega) [go_sem,out,book,Tryz.f39]
 · have hr:applyOp b o = countedOp b o:=by unfold applyOp;rw [if_neg (by simpa using g0),if_neg (by omega),if_pos (.inr hk)]
   rw [hr]
   simp -implicitDefEqProofs (disch:=omega) [go_sem,opsMap,hk]
   refine .inr (effAt Γ b ((countedOp b o).1) o ((countedOp b o).2) (stop_dc Γ b o hk hs) ?_ ?_)
   · funext g
     by_cases e15:g = 15
     · subst e15;first | rfl | simp [Hp.upd,Hp.set,appL,opsMap,hpL,go_sem]
     by_cases e10:g = 10
     · subst e10;first | rfl | simp [Hp.upd,Hp.set,appL,opsMap,hpL,go_sem]
     by_cases e7:g = 7
     · subst e7;first | rfl | simp [Hp.upd,Hp.set,appL,opsMap,hpL,go_sem]
     by_cases e6:g = 6
     · subst e6;first | rfl | simp [Hp.upd,Hp.set,appL,opsMap,hpL,go_sem]
     by_cases e5:g = 5
     · subst e5;first | rfl | simp [Hp.upd,Hp.set,appL,opsMap,hpL,go_sem]
     by_cases e2:g = 2
     · subst e2;first | rfl | simp [Hp.upd,Hp.set,appL,opsMap,hpL,go_sem]
     by_cases e1:g = 1
     · subst e1;first | rfl | simp [Hp.upd,Hp.set,appL,opsMap,hpL,go_sem]
     by_cases e0:g = 0
     · subst e0;first | rfl | simp [Hp.upd,Hp.set,appL,opsMap,hpL,go_sem]
     simp [Hp.upd,Hp.set,appL,opsMap,hpL,e15,e10,e7,e6,e5,e2,e1,e0]
   simp -implicitDefEqProofs (disch:=omega) [go_sem]
   refine side (by kernel_rfl) ?_
   simp -implicitDefEqProofs (disch:=omega) [go_sem,out,book,Tryz.f39]
 · have hr:applyOp b o = failedOp b o:=by unfold applyOp;rw [if_neg (by simpa using g0),if_neg (by omega),if_neg (by omega),if_pos (.inl hk)]
   rw [hr]
   simp -implicitDefEqProofs (disch:=omega) [go_sem,opsMap,hk]
   refine .inr (effAt Γ b ((failedOp b o).1) o ((failedOp b o).2) (fail_dc Γ b o hk hs hl hln) ?_ ?_)
   · funext g
     by_cases e15:g = 15
     · subst e15;first | rfl | simp [Hp.upd,Hp.set,appL,opsMap,hpL,go_sem]
     by_cases e10:g = 10
     · subst e10;first | rfl | simp [Hp.upd,Hp.set,appL,opsMap,hpL,go_sem]
     by_cases e7:g = 7
     · subst e7;first | rfl | simp [Hp.upd,Hp.set,appL,opsMap,hpL,go_sem]
     by_cases e6:g = 6
     · subst e6;first | rfl | simp [Hp.upd,Hp.set,appL,opsMap,hpL,go_sem]
     by_cases e5:g = 5
     · subst e5;first | rfl | simp [Hp.upd,Hp.set,appL,opsMap,hpL,go_sem]
     by_cases e2:g = 2
     · subst e2;first | rfl | simp [Hp.upd,Hp.set,appL,opsMap,hpL,go_sem]
     by_cases e1:g = 1
     · subst e1;first | rfl | simp [Hp.upd,Hp.set,appL,opsMap,hpL,go_sem]
     by_cases e0:g = 0
     · subst e0;first | rfl | simp [Hp.upd,Hp.set,appL,opsMap,hpL,go_sem]
     simp [Hp.upd,Hp.set,appL,opsMap,hpL,e15,e10,e7,e6,e5,e2,e1,e0]
   simp -implicitDefEqProofs (disch:=omega) [go_sem]
   refine side (by kernel_rfl) ?_
   simp -implicitDefEqProofs (disch:=omega) [go_sem,out,book,Tryz.f39]
 · have hr:applyOp b o = failedOp b o:=by unfold applyOp;rw [if_neg (by simpa using g0),if_neg (by omega),if_neg (by omega),if_pos (.inr hk)]
   rw [hr]
   simp -implicitDefEqProofs (disch:=omega) [go_sem,opsMap,hk]
   refine .inr (effAt Γ b ((failedOp b o).1) o ((failedOp b o).2) (pass_dc Γ b o hk hs) ?_ ?_)
   · funext g
     by_cases e15:g = 15
     · subst e15;first | rfl | simp [Hp.upd,Hp.set,appL,opsMap,hpL,go_sem]
     by_cases e10:g = 10
     · subst e10;first | rfl | simp [Hp.upd,Hp.set,appL,opsMap,hpL,go_sem]
     by_cases e7:g = 7
     · subst e7;first | rfl | simp [Hp.upd,Hp.set,appL,opsMap,hpL,go_sem]
     by_cases e6:g = 6
     · subst e6;first | rfl | simp [Hp.upd,Hp.set,appL,opsMap,hpL,go_sem]
     by_cases e5:g = 5
     · subst e5;first | rfl | simp [Hp.upd,Hp.set,appL,opsMap,hpL,go_sem]
     by_cases e2:g = 2
     · subst e2;first | rfl | simp [Hp.upd,Hp.set,appL,opsMap,hpL,go_sem]
     by_cases e1:g = 1
     · subst e1;first | rfl | simp [Hp.upd,Hp.set,appL,opsMap,hpL,go_sem]
     by_cases e0:g = 0
     · subst e0;first | rfl | simp [Hp.upd,Hp.set,appL,opsMap,hpL,go_sem]
     simp [Hp.upd,Hp.set,appL,opsMap,hpL,e15,e10,e7,e6,e5,e2,e1,e0]
   simp -implicitDefEqProofs (disch:=omega) [go_sem]
   refine side (by kernel_rfl) ?_
   simp -implicitDefEqProofs (disch:=omega) [go_sem,out,book,Tryz.f39]
 · have hr:applyOp b o = ({ b with items:=kept b b.items },0):=by unfold applyOp;rw [if_neg (by simpa using g0),if_neg (by omega),if_neg (by omega),if_neg (by omega)]
   rw [hr]
   simp -implicitDefEqProofs (disch:=omega) [go_sem,opsMap,hk]
   refine .inr (effAt Γ b ({ b with items:=kept b b.items }) o (0) (trim_dc Γ b o hs) ?_ ?_)
   · funext g
     by_cases e15:g = 15
     · subst e15;first | rfl | simp [Hp.upd,Hp.set,appL,opsMap,hpL,go_sem]
     by_cases e10:g = 10
     · subst e10;first | rfl | simp [Hp.upd,Hp.set,appL,opsMap,hpL,go_sem]
     by_cases e7:g = 7
     · subst e7;first | rfl | simp [Hp.upd,Hp.set,appL,opsMap,hpL,go_sem]
     by_cases e6:g = 6
     · subst e6;first | rfl | simp [Hp.upd,Hp.set,appL,opsMap,hpL,go_sem]
     by_cases e5:g = 5
     · subst e5;first | rfl | simp [Hp.upd,Hp.set,appL,opsMap,hpL,go_sem]
     by_cases e2:g = 2
     · subst e2;first | rfl | simp [Hp.upd,Hp.set,appL,opsMap,hpL,go_sem]
     by_cases e1:g = 1
     · subst e1;first | rfl | simp [Hp.upd,Hp.set,appL,opsMap,hpL,go_sem]
     by_cases e0:g = 0
     · subst e0;first | rfl | simp [Hp.upd,Hp.set,appL,opsMap,hpL,go_sem]
     simp [Hp.upd,Hp.set,appL,opsMap,hpL,e15,e10,e7,e6,e5,e2,e1,e0]
   simp -implicitDefEqProofs (disch:=omega) [go_sem]
   refine side (by kernel_rfl) ?_
   simp -implicitDefEqProofs (disch:=omega) [go_sem,out,book,Tryz.f39]
end Bk
namespace Bk
/-- What a sector holds. -/
def secAt (x:Disk) (a:Int):List Nat:=std a (x.s.getD a.toNat []) x.w
theorem secAt_len {x:Disk} (h:Dok x.s x.w) {a:Int} (ha:0≤a∧a < 64):(secAt x a).length = 128∧Bytes (secAt x a):=by
 have hn:=h.n
 have hlt:a.toNat < x.s.length:=by omega
 have e:x.s.getD a.toNat [] = x.s[a.toNat]:=by simp [hlt]
 unfold secAt
 rw [e]
 exact ⟨std_len (h.len _ (List.getElem_mem hlt)) h.wlen,std_lt (h.lt _ (List.getElem_mem hlt)) h.wlt⟩
theorem gotN_range (l:List Nat) (hb:Bytes l):0≤gotN (headP l)∧gotN (headP l)≤1000000000∧(gotE (headP l) = 0->1≤gotN (headP l)):=by
 cases h:headP l with
 | none=>simp [gotN,gotE]
 | some p =>
   obtain ⟨n,r⟩:=p
   have:=((headP_iff hb n r).1 h).1
   simp [gotN,gotE];omega
/-- The greatest generation of the heads of so many sides. -/
def newTo (x:Disk):Nat->Int
 | 0=>0
 | i + 1=>if gotE (headP (secAt x i)) = 0∧gotN (headP (secAt x i)) % 2 = i then max (newTo x i) (gotN (headP (secAt x i))) else newTo x i
theorem newTo_range {x:Disk} (h:Dok x.s x.w):∀ i,i≤2->0≤newTo x i∧newTo x i≤1000000000
 | 0,_=>by simp [newTo]
 | i + 1,hi=>by
   have h1:=newTo_range h i (by omega)
   have h2:=gotN_range (secAt x i) (secAt_len h (by omega)).2
   unfold newTo
   split <;> omega
section
variable (Γ:Nat->Option (List Data))
theorem readAt_pc (x:Disk) (h:Dok x.s x.w) (a:Int) (ha:0≤a∧a < 64):PC Tryz.prog Γ 101 [dk x.s x.w,.int .i64 a] (.tup [.sl 1 (bys (secAt x a)),.int .i64 0]):=by
 have:=read_pc Γ x.s x.w h a
 rw [if_pos ha] at this
 exact this
set_option maxHeartbeats 2000000 in
theorem newest_pc (x:Disk) (h:Dok x.s x.w):PC Tryz.prog Γ 57 [dk x.s x.w] (.int .i64 (newTo x 2)):=by
 refine pc_by mixed Tryz.func57 rfl (fun args w=>Tryz.call57 args w) ?_
 simp -implicitDefEqProofs (disch:=omega) [go_sem,dk]
 refine loop_ren (σ:={ i:Nat // i≤2 }) (fun i=>⟨envL [(1,.ptr 0 0),(3,.data (.int .i64 (newTo x i.1))),(9,.data (.int .i64 i.1))],hpL [(0,.blk true [.data (.sl 1 (secs x.s)),.data (.sl 2 (wrs x.w))])],1,0,36⟩) (fun i=>2 - i.1) ⟨0,by omega⟩ [] (rhoL [(0,some 0)]) ?_ ?_
 · apply ren_lists <;> simp -implicitDefEqProofs [go_sem,newTo]
 · rintro ⟨i,hi⟩
   by_cases hlt:i < 2
   · have cr:=readAt_pc Γ x h i (by omega)
     obtain ⟨hl1,hl2⟩:=secAt_len h (a:=i) (by omega)
     have ch:=readHead_pc Γ (secAt x i) (by omega) hl2
     have hg:=gotN_range (secAt x i) hl2
     have hnr:=newTo_range h i hi
     have hs:newTo x (i + 1) = if gotE (headP (secAt x i)) = 0∧gotN (headP (secAt x i)) % 2 = i then max (newTo x i) (gotN (headP (secAt x i))) else newTo x i:=rfl
     have cs:=sideOf_pc Γ (gotN (headP (secAt x i))) (by omega)
     generalize gotN (headP (secAt x i)) = hd at *
     generalize gotE (headP (secAt x i)) = e at *
     generalize hn1:newTo x (i + 1) = n1 at *
     generalize newTo x i = n0 at *
     unfold dk at cr
     simp -implicitDefEqProofs (disch:=omega) [go_sem]
     refine .inl (call_data cr (by simp [go_sem]) ?_)
     simp -implicitDefEqProofs (disch:=omega) [go_sem]
     refine .inl (call_data ch (by simp [go_sem]) ?_)
     by_cases he:e = 0
     · subst he
       simp -implicitDefEqProofs (disch:=omega) [go_sem]
       refine .inl (call_data cs (by simp [go_sem]) ?_)
       by_cases hm:hd % 2 = i
       · rw [if_pos ⟨rfl,hm⟩] at hs
         simp -implicitDefEqProofs (disch:=omega) [go_sem,hm]
         refine next_ren ⟨i + 1,by omega⟩ (by simp only;omega) [] (rhoL [(0,some 0)]) ?_
         apply ren_lists <;> simp -implicitDefEqProofs [go_sem,hn1,hs]
         split <;> omega
       · rw [if_neg (fun q=>hm q.2)] at hs
         simp -implicitDefEqProofs (disch:=omega) [go_sem,hm]
         refine next_ren ⟨i + 1,by omega⟩ (by simp only;omega) [] (rhoL [(0,some 0)]) ?_
         apply ren_lists <;> simp -implicitDefEqProofs [go_sem,hn1,hs]
     · rw [if_neg (fun q=>he q.1)] at hs
       simp -implicitDefEqProofs (disch:=omega) [go_sem,he]
       refine next_ren ⟨i + 1,by omega⟩ (by simp only;omega) [] (rhoL [(0,some 0)]) ?_
       apply ren_lists <;> simp -implicitDefEqProofs [go_sem,hn1,hs]
   · have:i = 2:=by omega
     subst this
     simp -implicitDefEqProofs (disch:=omega) [go_sem,Tryz.f57]
end
end Bk
namespace Bk
/-- The bytes of so many sectors. -/
def snapTo (x:Disk) (side:Int):Nat->List Nat
 | 0=>[]
 | i + 1=>snapTo x side i++secAt x (2 + side * 16 + i)
theorem snapTo_len {x:Disk} (h:Dok x.s x.w) {side:Int} (hs:0≤side∧side≤1):∀ i,i≤16->(snapTo x side i).length = i * 128∧Bytes (snapTo x side i)
 | 0,_=>⟨rfl,fun c hc=>by cases hc⟩
 | i + 1,hi=>by
   obtain ⟨h1,h2⟩:=snapTo_len h hs i (by omega)
   obtain ⟨h3,h4⟩:=secAt_len h (a:=2 + side * 16 + i) (by omega)
   exact ⟨by simp [snapTo,h1,h3];omega,fun c hc=>by
    rcases List.mem_append.1 hc with q | q
    · exact h2 c q
    · exact h4 c q⟩
section
variable (Γ:Nat->Option (List Data))
set_option maxHeartbeats 2000000 in
theorem snapshotOn_pc (x:Disk) (h:Dok x.s x.w) (sd:Int) (hs:0≤sd∧sd≤1) (r:Data) (cb:PC Tryz.prog Γ 103 [.sl 1 (bys (snapTo x sd 16))] r) (b:Book) (e:Int) (hr:r = .tup [book b,.int .i64 e]) :
 PC Tryz.prog Γ 58 [dk x.s x.w,.int .i64 sd] r:=by
 refine pc_by mixed Tryz.func58 rfl (fun args w=>Tryz.call58 args w) ?_
 subst hr
 have ca:=snapAt_pc Γ sd hs
 simp -implicitDefEqProofs (disch:=omega) [go_sem,dk]
 refine loop_ren (σ:={ i:Nat // i≤16 }) (fun i=>⟨envL [(1,.data (.int .i64 sd)),(2,.ptr 0 0),(4,.ptr 1 0),(6,.ref 2 0 (i.1 * 128) 1),(10,.data (.int .i64 i.1))],hpL [(0,.blk true [.data (.sl 1 (secs x.s)),.data (.sl 2 (wrs x.w))]),(1,.blk true [.data (.int .i64 0),.emp 0,.emp 0,.emp 0]),(2,.blk true ((bys (snapTo x sd i.1)).map D.data))],3,0,30⟩) (fun i=>16 - i.1) ⟨0,by omega⟩ [] (rhoL [(0,some 0),(1,some 1),(2,none)]) ?_ ?_
 · apply ren_lists <;> simp -implicitDefEqProofs [go_sem,snapTo]
 · rintro ⟨i,hi⟩
   by_cases hlt:i < 16
   · have cr:=readAt_pc Γ x h (2 + sd * 16 + i) (by omega)
     obtain ⟨hl1,hl2⟩:=secAt_len h (a:=2 + sd * 16 + i) (by omega)
     have hst:snapTo x sd (i + 1) = snapTo x sd i++secAt x (2 + sd * 16 + i):=rfl
     obtain ⟨hl3,_⟩:=snapTo_len h hs i (by omega)
     generalize secAt x (2 + sd * 16 + i) = sec1 at *
     unfold dk at cr
     simp -implicitDefEqProofs (disch:=omega) [go_sem]
     refine .inl (call_data ca (by simp [go_sem]) ?_)
     simp -implicitDefEqProofs (disch:=omega) [go_sem]
     refine .inl (call_data cr (by simp [go_sem]) ?_)
     simp -implicitDefEqProofs (disch:=omega) [go_sem]
     refine side (by kernel_rfl) ?_
     simp -implicitDefEqProofs (disch:=omega) [go_sem,hl1,hl3]
     refine next_ren ⟨i + 1,by omega⟩ (by simp only;omega) [] (rhoL [(0,some 0),(1,some 1),(2,some 19)]) ?_
     apply ren_lists <;> simp -implicitDefEqProofs [go_sem,hst,hl1]
     omega
   · have:i = 16:=by omega
     subst this
     simp -implicitDefEqProofs (disch:=omega) [go_sem]
     refine .inl (call_keep 2 cb rfl (fun H' hH=>frzL_c (frz_bys hH (.inr rfl) (by rw [(snapTo_len h hs 16 (by omega)).1])) frzL_n) ?_)
     simp -implicitDefEqProofs (disch:=omega) [go_sem,book,Tryz.f58]
end
end Bk
namespace Bk
/-- A book behind the record of a generation and number,if there is one,and it can be done. -/
noncomputable def redoOf (x:Disk) (gen:Int) (seq:Nat) (b:Book):Book × Bool :=
 if gotE (recordP (secAt x (34 + seq))) = 0∧(gotG (recordP (secAt x (34 + seq)))).1 = gen∧(gotG (recordP (secAt x (34 + seq)))).2.1 = seq then
  ((applyOp b (gotG (recordP (secAt x (34 + seq)))).2.2).1,decide ((applyOp b (gotG (recordP (secAt x (34 + seq)))).2.2).2 = 0))
 else (nilBook,false)
section
variable (Γ:Nat->Option (List Data))
set_option maxHeartbeats 4000000 in
theorem redo_pc (x:Disk) (h:Dok x.s x.w) (gen:Int) (seq:Nat) (hs:seq < 30) (b:Book) (hF:∀ o,Fine b o):PC Tryz.prog Γ 104 [dk x.s x.w,.int .i64 gen,.int .i64 seq,book b] (.tup [book (redoOf x gen seq b).1,.bool (redoOf x gen seq b).2]):=by
 refine pc_by mixed Tryz.func104 rfl (fun args w=>Tryz.call104 args w) ?_
 have ca:=recordAt_pc Γ seq (by omega)
 have cr:=readAt_pc Γ x h (34 + seq) (by omega)
 obtain ⟨hl1,hl2⟩:=secAt_len h (a:=34 + seq) (by omega)
 have co:=readOp_pc Γ (secAt x (34 + seq)) (by omega) hl2
 unfold redoOf
 generalize secAt x (34 + seq) = sec1 at *
 generalize gotE (recordP sec1) = E at *
 generalize gotG (recordP sec1) = R0 at *
 obtain ⟨G,S,O⟩:=R0
 have cp:=apply2_pc Γ b O (hF O)
 generalize applyOp b O = R at *
 obtain ⟨b2,e2⟩:=R
 simp only at co cp ⊢
 unfold out at cp
 unfold dk at cr
 unfold op at co cp
 unfold book at cp
 simp -implicitDefEqProofs (disch:=omega) [go_sem,dk,book]
 refine .inl (call_data ca (by simp [go_sem]) ?_)
 simp -implicitDefEqProofs (disch:=omega) [go_sem]
 refine .inl (call_data cr (by simp [go_sem]) ?_)
 simp -implicitDefEqProofs (disch:=omega) [go_sem]
 refine side (by kernel_rfl) ?_
 simp -implicitDefEqProofs (disch:=omega) [go_sem]
 refine .inl (call_data co (by simp [go_sem]) ?_)
 by_cases hE:E = 0
 · by_cases hG:G = gen
   · by_cases hS:S = seq
     · subst hE hG hS
       simp -implicitDefEqProofs (disch:=omega) [go_sem]
       refine .inl (call_data cp (by simp [go_sem]) ?_)
       by_cases he:e2 = 0
       · subst he
         simp -implicitDefEqProofs (disch:=omega) [go_sem,Tryz.f104]
         rfl
       · simp -implicitDefEqProofs (disch:=omega) [go_sem,he,Tryz.f104]
         rfl
     · rw [if_neg (fun q=>hS q.2.2)]
       subst hE hG
       simp -implicitDefEqProofs (disch:=omega) [go_sem,hS,Tryz.f104]
       exact ⟨_,⟨_,rfl,frz_aggL (frzL_c ((frz_data _ _ _ _).2 rfl) (frzL_c (.emp 0 6) (frzL_c (.emp 0 5) (frzL_c (.emp 0 3) frzL_n))))⟩,rfl⟩
   · rw [if_neg (fun q=>hG q.2.1)]
     subst hE
     simp -implicitDefEqProofs (disch:=omega) [go_sem,hG,Tryz.f104]
     exact ⟨_,⟨_,rfl,frz_aggL (frzL_c ((frz_data _ _ _ _).2 rfl) (frzL_c (.emp 0 6) (frzL_c (.emp 0 5) (frzL_c (.emp 0 3) frzL_n))))⟩,rfl⟩
 · rw [if_neg (fun q=>hE q.1)]
   simp -implicitDefEqProofs (disch:=omega) [go_sem,hE,Tryz.f104]
   exact ⟨_,⟨_,rfl,frz_aggL (frzL_c ((frz_data _ _ _ _).2 rfl) (frzL_c (.emp 0 6) (frzL_c (.emp 0 5) (frzL_c (.emp 0 3) frzL_n))))⟩,rfl⟩
/-- The book behind so many records,as long as they can be done. -/
noncomputable def redoTo (x:Disk) (gen:Int) (b:Book):Nat->Book
 | 0=>b
 | i + 1=>(redoOf x gen i (redoTo x gen b i)).1
/-- All of them could be done. -/
def AllTo (x:Disk) (gen:Int) (b:Book) (n:Nat):Prop:=∀ i,i < n->(redoOf x gen i (redoTo x gen b i)).2 = true
set_option maxHeartbeats 2000000 in
theorem redone_pc (x:Disk) (h:Dok x.s x.w) (gen:Int) (b:Book) (n:Nat) (hn:n≤30) (ha:AllTo x gen b n) (hz:n < 30->(redoOf x gen n (redoTo x gen b n)).2 = false) (hF:∀ i,i≤n->∀ o,Fine (redoTo x gen b i) o) :
 PC Tryz.prog Γ 60 [dk x.s x.w,.int .i64 gen,book b] (.tup [book (redoTo x gen b n),.int .i64 n]):=by
 refine pc_by mixed Tryz.func60 rfl (fun args w=>Tryz.call60 args w) ?_
 obtain ⟨bk,hbk⟩:∃ bk:Nat->Book,redoTo x gen b = bk:=⟨_,rfl⟩
 have hb0:bk 0 = b:=by rw [<- hbk];rfl
 unfold AllTo at ha
 rw [hbk] at ha hz hF ⊢
 simp -implicitDefEqProofs (disch:=omega) [go_sem,dk,book]
 refine loop_ren (σ:={ i:Nat // i≤n }) (fun i=>⟨envL [(1,.data (.int .i64 gen)),(3,.ptr 0 0),(5,.ptr 1 0),(6,.ptr 2 0),(11,.data (.int .i64 i.1))],hpL [(0,.blk true [.data (.sl 1 (secs x.s)),.data (.sl 2 (wrs x.w))]),(1,.blk true [.data (.int .i64 (bk i.1).next),.data (.sl 6 (sesss (bk i.1).opn)),.data (.sl 5 (items (bk i.1).items)),.data (.sl 3 (locks (bk i.1).locks))]),(2,.blk true [.data (.int .i64 0),.emp 0,.emp 0,.emp 0])],3,0,29⟩) (fun i=>n - i.1) ⟨0,by omega⟩ [] (rhoL [(0,some 0),(1,some 1),(2,some 2)]) ?_ ?_
 · apply ren_lists <;> simp -implicitDefEqProofs [go_sem,hb0]
 · rintro ⟨i,hi⟩
   by_cases h30:i < 30
   · have cr:=redo_pc Γ x h gen i h30 (bk i) (hF i hi)
     have hsucc:(redoOf x gen i (bk i)).1 = bk (i + 1):=by rw [<- hbk];rfl
     rw [hsucc] at cr
     unfold dk book at cr
     by_cases hlt:i < n
     · have hyes:=ha i hlt
       rw [hyes] at cr
       simp -implicitDefEqProofs (disch:=omega) [go_sem]
       refine .inl (call_data cr (by simp [go_sem]) ?_)
       simp -implicitDefEqProofs (disch:=omega) [go_sem]
       refine next_ren ⟨i + 1,by omega⟩ (by simp only;omega) [] (rhoL [(0,some 0),(1,some 1),(2,some 2)]) ?_
       apply ren_lists <;> simp -implicitDefEqProofs [go_sem]
     · have:i = n:=by omega
       subst this
       have hno:=hz h30
       rw [hno] at cr
       simp -implicitDefEqProofs (disch:=omega) [go_sem]
       refine .inl (call_data cr (by simp [go_sem]) ?_)
       simp -implicitDefEqProofs (disch:=omega) [go_sem,Tryz.f60]
       rfl
   · have:i = 30:=by omega
     subst this
     have hn30:n = 30:=by omega
     subst hn30
     simp -implicitDefEqProofs (disch:=omega) [go_sem,Tryz.f60]
     rfl
end
end Bk
namespace Bk
def noSto:Sto:=⟨⟨[],[]⟩,0,0,nilBook,nilBook⟩
section
variable (Γ:Nat->Option (List Data))
theorem foundNone_pc (x:Disk) (h:Dok x.s x.w) (hg:newTo x 2 = 0):PC Tryz.prog Γ 28 [dk x.s x.w] (.tup [sto noSto,.int .i64 8]):=by
 refine pc_by mixed Tryz.func28 rfl (fun args w=>Tryz.call28 args w) ?_
 have cn:=newest_pc Γ x h
 rw [hg] at cn
 unfold dk at *
 simp -implicitDefEqProofs (disch:=omega) [go_sem]
 refine .inl (call_data cn (by simp [go_sem]) ?_)
 simp -implicitDefEqProofs (disch:=omega) [go_sem,Tryz.f28]
 exact ⟨_,⟨_,rfl,frz_aggL (frzL_c (.emp 0 1) (frzL_c (.emp 0 2) (frzL_c ((frz_data _ _ _ _).2 rfl) (frzL_c ((frz_data _ _ _ _).2 rfl) (frzL_c ((frz_data _ _ _ _).2 rfl) (frzL_c (.emp 0 6) (frzL_c (.emp 0 5) (frzL_c (.emp 0 3) (frzL_c ((frz_data _ _ _ _).2 rfl) (frzL_c (.emp 0 6) (frzL_c (.emp 0 5) (frzL_c (.emp 0 3) frzL_n))))))))))))⟩,rfl⟩
set_option maxHeartbeats 1000000 in
theorem foundBad_pc (x:Disk) (h:Dok x.s x.w) (gen:Int) (hg:newTo x 2 = gen) (hg0:gen≠0) (b:Book) (e:Int) (he:e≠0) (cs:PC Tryz.prog Γ 58 [dk x.s x.w,.int .i64 (gen % 2)] (.tup [book b,.int .i64 e])) :
 PC Tryz.prog Γ 28 [dk x.s x.w] (.tup [sto noSto,.int .i64 8]):=by
 refine pc_by mixed Tryz.func28 rfl (fun args w=>Tryz.call28 args w) ?_
 have cn:=newest_pc Γ x h
 have hr:=newTo_range h 2 (by omega)
 rw [hg] at cn hr
 have c2:=sideOf_pc Γ gen (by omega)
 unfold dk book at *
 simp -implicitDefEqProofs (disch:=omega) [go_sem]
 refine .inl (call_data cn (by simp [go_sem]) ?_)
 simp -implicitDefEqProofs (disch:=omega) [go_sem,hg0]
 refine .inl (call_data c2 (by simp [go_sem]) ?_)
 simp -implicitDefEqProofs (disch:=omega) [go_sem]
 refine .inl (call_data cs (by simp [go_sem]) ?_)
 simp -implicitDefEqProofs (disch:=omega) [go_sem]
 refine side (by kernel_rfl) ?_
 simp -implicitDefEqProofs (disch:=omega) [go_sem,he,Tryz.f28]
 exact ⟨_,⟨_,rfl,frz_aggL (frzL_c (.emp 0 1) (frzL_c (.emp 0 2) (frzL_c ((frz_data _ _ _ _).2 rfl) (frzL_c ((frz_data _ _ _ _).2 rfl) (frzL_c ((frz_data _ _ _ _).2 rfl) (frzL_c (.emp 0 6) (frzL_c (.emp 0 5) (frzL_c (.emp 0 3) (frzL_c ((frz_data _ _ _ _).2 rfl) (frzL_c (.emp 0 6) (frzL_c (.emp 0 5) (frzL_c (.emp 0 3) frzL_n))))))))))))⟩,rfl⟩
set_option maxHeartbeats 1000000 in
theorem found_pc (x:Disk) (h:Dok x.s x.w) (gen:Int) (hg:newTo x 2 = gen) (hg0:gen≠0) (b:Book) (cs:PC Tryz.prog Γ 58 [dk x.s x.w,.int .i64 (gen % 2)] (.tup [book b,.int .i64 0]))
 (b2:Book) (hb:Short b2) (n:Int) (cr:PC Tryz.prog Γ 60 [dk x.s x.w,.int .i64 gen,book b] (.tup [book b2,.int .i64 n])) :
 PC Tryz.prog Γ 28 [dk x.s x.w] (.tup [sto ⟨x,gen,n,b2,b2⟩,.int .i64 0]):=by
 refine pc_by mixed Tryz.func28 rfl (fun args w=>Tryz.call28 args w) ?_
 have cn:=newest_pc Γ x h
 have hr:=newTo_range h 2 (by omega)
 rw [hg] at cn hr
 have c2:=sideOf_pc Γ gen (by omega)
 have cd:=copiedDisk_pc Γ x.s x.w h
 have cb:=copiedBook_pc Γ b2 hb
 unfold sto bookL
 unfold dk book at *
 simp -implicitDefEqProofs (disch:=omega) [go_sem]
 refine .inl (call_data cn (by simp [go_sem]) ?_)
 simp -implicitDefEqProofs (disch:=omega) [go_sem,hg0]
 refine .inl (call_data c2 (by simp [go_sem]) ?_)
 simp -implicitDefEqProofs (disch:=omega) [go_sem]
 refine .inl (call_data cs (by simp [go_sem]) ?_)
 simp -implicitDefEqProofs (disch:=omega) [go_sem]
 refine side (by kernel_rfl) ?_
 simp -implicitDefEqProofs (disch:=omega) [go_sem]
 refine .inl (call_data cr (by simp [go_sem]) ?_)
 simp -implicitDefEqProofs (disch:=omega) [go_sem]
 refine .inl (call_data cd (by simp [go_sem]) ?_)
 simp -implicitDefEqProofs (disch:=omega) [go_sem]
 refine .inl (call_data cb (by simp [go_sem]) ?_)
 simp -implicitDefEqProofs (disch:=omega) [go_sem]
 refine side (by kernel_rfl) ?_
 simp -implicitDefEqProofs (disch:=omega) [go_sem,Tryz.f28]
theorem recoverNo_pc (x:Disk) (u:Sto) (e:Int) (he:e≠0) (cf:PC Tryz.prog Γ 28 [dk x.s x.w] (.tup [sto u,.int .i64 e])):PC Tryz.prog Γ 30 [dk x.s x.w] (.tup [sto noSto,.int .i64 e]):=by
 refine pc_by mixed Tryz.func30 rfl (fun args w=>Tryz.call30 args w) ?_
 have hz:sto noSto = .agg [.sl 1 [],.sl 2 [],.int .i64 0,.int .i64 0,.int .i64 0,.sl 6 [],.sl 5 [],.sl 3 [],.int .i64 0,.sl 6 [],.sl 5 [],.sl 3 []]:=rfl
 rw [hz]
 unfold sto bookL at cf
 unfold dk at *
 simp -implicitDefEqProofs (disch:=omega) [go_sem]
 refine .inl (call_data cf (by simp [go_sem]) ?_)
 simp -implicitDefEqProofs (disch:=omega) [go_sem,he,Tryz.f30]
 exact ⟨_,⟨_,rfl,frz_aggL (frzL_c (.emp 0 1) (frzL_c (.emp 0 2) (frzL_c ((frz_data _ _ _ _).2 rfl) (frzL_c ((frz_data _ _ _ _).2 rfl) (frzL_c ((frz_data _ _ _ _).2 rfl) (frzL_c (.emp 0 6) (frzL_c (.emp 0 5) (frzL_c (.emp 0 3) (frzL_c ((frz_data _ _ _ _).2 rfl) (frzL_c (.emp 0 6) (frzL_c (.emp 0 5) (frzL_c (.emp 0 3) frzL_n))))))))))))⟩,rfl⟩
set_option maxHeartbeats 1000000 in
theorem recoverFull_pc (x:Disk) (u:Sto) (cf:PC Tryz.prog Γ 28 [dk x.s x.w] (.tup [sto u,.int .i64 0])) (b c:Book) (cb:PC Tryz.prog Γ 66 [book u.b] (book b)) (cc:PC Tryz.prog Γ 66 [book u.f] (book c))
 (v:Sto) (e:Int) (he:e≠0) (ck:PC Tryz.prog Γ 15 [sto ⟨u.x,u.gen,u.seq,b,c⟩] (.tup [sto v,.int .i64 e])):PC Tryz.prog Γ 30 [dk x.s x.w] (.tup [sto noSto,.int .i64 e]):=by
 refine pc_by mixed Tryz.func30 rfl (fun args w=>Tryz.call30 args w) ?_
 have hz:sto noSto = .agg [.sl 1 [],.sl 2 [],.int .i64 0,.int .i64 0,.int .i64 0,.sl 6 [],.sl 5 [],.sl 3 [],.int .i64 0,.sl 6 [],.sl 5 [],.sl 3 []]:=rfl
 rw [hz]
 unfold sto bookL at cf ck
 unfold dk book at *
 simp -implicitDefEqProofs (disch:=omega) [go_sem]
 refine .inl (call_data cf (by simp [go_sem]) ?_)
 simp -implicitDefEqProofs (disch:=omega) [go_sem]
 refine .inl (call_data cb (by simp [go_sem]) ?_)
 simp -implicitDefEqProofs (disch:=omega) [go_sem]
 refine .inl (call_data cc (by simp [go_sem]) ?_)
 simp -implicitDefEqProofs (disch:=omega) [go_sem]
 refine side (by kernel_rfl) ?_
 simp -implicitDefEqProofs (disch:=omega) [go_sem]
 refine .inl (call_data ck (by simp [go_sem]) ?_)
 simp -implicitDefEqProofs (disch:=omega) [go_sem,he,Tryz.f30]
 exact ⟨_,⟨_,rfl,frz_aggL (frzL_c (.emp 0 1) (frzL_c (.emp 0 2) (frzL_c ((frz_data _ _ _ _).2 rfl) (frzL_c ((frz_data _ _ _ _).2 rfl) (frzL_c ((frz_data _ _ _ _).2 rfl) (frzL_c (.emp 0 6) (frzL_c (.emp 0 5) (frzL_c (.emp 0 3) (frzL_c ((frz_data _ _ _ _).2 rfl) (frzL_c (.emp 0 6) (frzL_c (.emp 0 5) (frzL_c (.emp 0 3) frzL_n))))))))))))⟩,rfl⟩
set_option maxHeartbeats 1000000 in
theorem recover_pc (x:Disk) (u:Sto) (cf:PC Tryz.prog Γ 28 [dk x.s x.w] (.tup [sto u,.int .i64 0])) (b c:Book) (cb:PC Tryz.prog Γ 66 [book u.b] (book b)) (cc:PC Tryz.prog Γ 66 [book u.f] (book c))
 (v:Sto) (ck:PC Tryz.prog Γ 15 [sto ⟨u.x,u.gen,u.seq,b,c⟩] (.tup [sto v,.int .i64 0])):PC Tryz.prog Γ 30 [dk x.s x.w] (.tup [sto v,.int .i64 0]):=by
 refine pc_by mixed Tryz.func30 rfl (fun args w=>Tryz.call30 args w) ?_
 unfold sto bookL at *
 unfold dk book at *
 simp -implicitDefEqProofs (disch:=omega) [go_sem]
 refine .inl (call_data cf (by simp [go_sem]) ?_)
 simp -implicitDefEqProofs (disch:=omega) [go_sem]
 refine .inl (call_data cb (by simp [go_sem]) ?_)
 simp -implicitDefEqProofs (disch:=omega) [go_sem]
 refine .inl (call_data cc (by simp [go_sem]) ?_)
 simp -implicitDefEqProofs (disch:=omega) [go_sem]
 refine side (by kernel_rfl) ?_
 simp -implicitDefEqProofs (disch:=omega) [go_sem]
 refine .inl (call_data ck (by simp [go_sem]) ?_)
 simp -implicitDefEqProofs (disch:=omega) [go_sem,Tryz.f30]
end
end Bk
namespace Bk
theorem noSto_eq:sto noSto = .agg [.sl 1 [],.sl 2 [],.int .i64 0,.int .i64 0,.int .i64 0,.sl 6 [],.sl 5 [],.sl 3 [],.int .i64 0,.sl 6 [],.sl 5 [],.sl 3 []]:=rfl
section
variable (Γ:Nat->Option (List Data))
theorem rsync_pc (t:Sto) (hd:Dok t.x.s t.x.w):PC Tryz.prog Γ 19 [sto t] (sto ⟨flushTo t.x,t.gen,t.seq,t.b,t.b⟩):=by
 refine pc_by mixed Tryz.func19 rfl (fun args w=>Tryz.call19 args w) ?_
 have cf:=rflu_pc Γ t.x hd
 unfold sto bookL
 simp -implicitDefEqProofs (disch:=omega) [go_sem]
 refine .inl (call_data cf (by simp [go_sem]) ?_)
 simp -implicitDefEqProofs (disch:=omega) [go_sem]
 refine side (by kernel_rfl) ?_
 simp -implicitDefEqProofs (disch:=omega) [go_sem,Tryz.f19]
theorem rdoFull_pc (t:Sto) (o:Op) (h:30≤t.seq):PC Tryz.prog Γ 14 [sto t,op o] (.tup [sto t,.int .i64 4]):=by
 refine pc_by mixed Tryz.func14 rfl (fun args w=>Tryz.call14 args w) ?_
 unfold sto bookL op at *
 simp -implicitDefEqProofs (disch:=omega) [go_sem,Tryz.f14]
theorem rdoNo_pc (t:Sto) (o:Op) (h:t.seq < 30) (b2:Book) (e:Int) (he:e≠0) (ca:PC Tryz.prog Γ 44 [book t.b,op o] (.tup [book b2,.int .i64 e])):PC Tryz.prog Γ 14 [sto t,op o] (.tup [sto t,.int .i64 e]):=by
 refine pc_by mixed Tryz.func14 rfl (fun args w=>Tryz.call14 args w) ?_
 unfold sto bookL op book at *
 simp -implicitDefEqProofs (disch:=omega) [go_sem]
 refine .inl (call_data ca (by simp [go_sem]) ?_)
 simp -implicitDefEqProofs (disch:=omega) [go_sem,he,Tryz.f14]
set_option maxHeartbeats 1000000 in
theorem rdo_pc (t:Sto) (o:Op) (hd:Dok t.x.s t.x.w) (h0:0≤t.seq) (h:t.seq < 30) (b2:Book) (ca:PC Tryz.prog Γ 44 [book t.b,op o] (.tup [book b2,.int .i64 0])) (r:List Nat) (hr:r.length = 128)
 (co:PC Tryz.prog Γ 45 [.int .i64 t.gen,.int .i64 t.seq,op o] (.tup [.sl 1 (bys r),.int .i64 0])):PC Tryz.prog Γ 14 [sto t,op o] (.tup [sto ⟨wroteTo t.x (34 + t.seq) r,t.gen,t.seq + 1,b2,t.f⟩,.int .i64 0]):=by
 refine pc_by mixed Tryz.func14 rfl (fun args w=>Tryz.call14 args w) ?_
 have cw:=rput_pc Γ t.x hd (34 + t.seq) (by omega) r hr
 unfold sto bookL op book at *
 simp -implicitDefEqProofs (disch:=omega) [go_sem]
 refine .inl (call_data ca (by simp [go_sem]) ?_)
 simp -implicitDefEqProofs (disch:=omega) [go_sem]
 refine .inl (call_data co (by simp [go_sem]) ?_)
 simp -implicitDefEqProofs (disch:=omega) [go_sem]
 refine .inl (call_data cw (by simp [go_sem]) ?_)
 simp -implicitDefEqProofs (disch:=omega) [go_sem,Tryz.f14]
theorem rcheckFull_pc (t:Sto) (h:1000000000≤t.gen):PC Tryz.prog Γ 16 [sto t] (.tup [sto t,.int .i64 4]):=by
 refine pc_by mixed Tryz.func16 rfl (fun args w=>Tryz.call16 args w) ?_
 unfold sto bookL
 simp -implicitDefEqProofs (disch:=omega) [go_sem,Tryz.f16]
set_option maxHeartbeats 1000000 in
theorem rcheck_pc (t:Sto) (h0:0≤t.gen) (h:t.gen < 1000000000) (Y:Nat->Disk) (cs:PC Tryz.prog Γ 21 [sto t] (.sl 2 (disksL Y 20))):PC Tryz.prog Γ 16 [sto t] (.tup [sto ⟨Y 19,t.gen + 1,0,t.b,t.b⟩,.int .i64 0]):=by
 refine pc_by mixed Tryz.func16 rfl (fun args w=>Tryz.call16 args w) ?_
 unfold sto bookL at *
 have hl:=disksL_length Y 20
 have hg:(disksL Y 20)[19]? = some (.agg [.sl 1 (secs (Y 19).s),.sl 2 (wrs (Y 19).w)]):=disksL_get Y 20 19 (by omega)
 simp -implicitDefEqProofs (disch:=omega) [go_sem]
 refine .inl (call_data cs (by simp [go_sem]) ?_)
 generalize disksL Y 20 = ds at *
 have hg2:ds[19] = .agg [.sl 1 (secs (Y 19).s),.sl 2 (wrs (Y 19).w)]:=(List.getElem?_eq_some_iff.1 hg).2
 simp -implicitDefEqProofs (disch:=omega) [go_sem,hl,hg2,Data.cells]
 refine side (by kernel_rfl) ?_
 simp -implicitDefEqProofs (disch:=omega) [go_sem,Tryz.f16]
theorem rformat_pc (u:Sto) (cn:PC Tryz.prog Γ 54 [] (dk zeroS [])) (cc:PC Tryz.prog Γ 16 [sto ⟨⟨zeroS,[]⟩,0,0,nilBook,nilBook⟩] (.tup [sto u,.int .i64 0])):PC Tryz.prog Γ 24 [] (sto u):=by
 refine pc_by mixed Tryz.func24 rfl (fun args w=>Tryz.call24 args w) ?_
 have cc2:PC Tryz.prog Γ 16 [.agg [.sl 1 (secs zeroS),.sl 2 (wrs []),.int .i64 0,.int .i64 0,.int .i64 0,.sl 6 [],.sl 5 [],.sl 3 [],.int .i64 0,.sl 6 [],.sl 5 [],.sl 3 []]] (.tup [sto u,.int .i64 0]):=cc
 unfold sto bookL at *
 unfold dk at cn
 simp -implicitDefEqProofs (disch:=omega) [go_sem]
 refine .inl (call_data cn (by simp [go_sem]) ?_)
 simp -implicitDefEqProofs (disch:=omega) [go_sem]
 refine .inl (call_frz [] [] (by simp) cc2 (fun H' _=>frzL_c (frz_aggL (frzL_c ((frz_data _ _ _ _).2 rfl) (frzL_c ((frz_data _ _ _ _).2 rfl) (frzL_c ((frz_data _ _ _ _).2 rfl) (frzL_c ((frz_data _ _ _ _).2 rfl) (frzL_c ((frz_data _ _ _ _).2 rfl) (frzL_c (.emp 0 6) (frzL_c (.emp 0 5) (frzL_c (.emp 0 3) (frzL_c ((frz_data _ _ _ _).2 rfl) (frzL_c (.emp 0 6) (frzL_c (.emp 0 5) (frzL_c (.emp 0 3) frzL_n))))))))))))) frzL_n) ?_)
 simp -implicitDefEqProofs (disch:=omega) [go_sem,Tryz.f24]
theorem rhead_pc (x:Disk) (h:Dok x.s x.w) (sd:Int) (hs:0≤sd∧sd≤1) (hd e:Int) (h0:0≤hd∧hd≤1000000000) (ch:PC Tryz.prog Γ 106 [.sl 1 (bys (secAt x sd))] (.tup [.int .i64 hd,.int .i64 e])) :
 PC Tryz.prog Γ 62 [dk x.s x.w,.int .i64 sd] (.int .i64 (if e = 0∧hd % 2 = sd then hd else 0)):=by
 refine pc_by mixed Tryz.func62 rfl (fun args w=>Tryz.call62 args w) ?_
 have cr:=rread_pc Γ x.s x.w h sd
 rw [if_pos (by omega)] at cr
 have cr:PC Tryz.prog Γ 63 [dk x.s x.w,.int .i64 sd] (.tup [.sl 1 (bys (secAt x sd)),.int .i64 0]):=cr
 generalize secAt x sd = sec1 at *
 unfold dk at *
 simp -implicitDefEqProofs (disch:=omega) [go_sem]
 refine .inl (call_data cr (by simp [go_sem]) ?_)
 simp -implicitDefEqProofs (disch:=omega) [go_sem]
 refine .inl (call_data ch (by simp [go_sem]) ?_)
 by_cases he:e = 0
 · subst he
   by_cases hm:hd % 2 = sd
   · rw [if_pos ⟨rfl,hm⟩]
     simp -implicitDefEqProofs (disch:=omega) [go_sem,hm,Tryz.f62]
   · rw [if_neg (fun q=>hm q.2)]
     simp -implicitDefEqProofs (disch:=omega) [go_sem,hm,Tryz.f62]
 · rw [if_neg (fun q=>he q.1)]
   simp -implicitDefEqProofs (disch:=omega) [go_sem,he,Tryz.f62]
theorem rrecoverNo_pc (x:Disk) (u:Sto) (e:Int) (he:e≠0) (cf:PC Tryz.prog Γ 29 [dk x.s x.w] (.tup [sto u,.int .i64 e])):PC Tryz.prog Γ 31 [dk x.s x.w] (.tup [sto noSto,.int .i64 e]):=by
 refine pc_by mixed Tryz.func31 rfl (fun args w=>Tryz.call31 args w) ?_
 rw [noSto_eq]
 unfold sto bookL at cf
 unfold dk at *
 simp -implicitDefEqProofs (disch:=omega) [go_sem]
 refine .inl (call_data cf (by simp [go_sem]) ?_)
 simp -implicitDefEqProofs (disch:=omega) [go_sem,he,Tryz.f31]
 exact ⟨_,⟨_,rfl,frz_aggL (frzL_c (.emp 0 1) (frzL_c (.emp 0 2) (frzL_c ((frz_data _ _ _ _).2 rfl) (frzL_c ((frz_data _ _ _ _).2 rfl) (frzL_c ((frz_data _ _ _ _).2 rfl) (frzL_c (.emp 0 6) (frzL_c (.emp 0 5) (frzL_c (.emp 0 3) (frzL_c ((frz_data _ _ _ _).2 rfl) (frzL_c (.emp 0 6) (frzL_c (.emp 0 5) (frzL_c (.emp 0 3) frzL_n))))))))))))⟩,rfl⟩
theorem rrecoverFull_pc (x:Disk) (u:Sto) (cf:PC Tryz.prog Γ 29 [dk x.s x.w] (.tup [sto u,.int .i64 0])) (b:Book) (cb:PC Tryz.prog Γ 35 [book u.b] (book b))
 (v:Sto) (e:Int) (he:e≠0) (ck:PC Tryz.prog Γ 16 [sto ⟨u.x,u.gen,u.seq,b,u.f⟩] (.tup [sto v,.int .i64 e])):PC Tryz.prog Γ 31 [dk x.s x.w] (.tup [sto noSto,.int .i64 e]):=by
 refine pc_by mixed Tryz.func31 rfl (fun args w=>Tryz.call31 args w) ?_
 rw [noSto_eq]
 unfold sto bookL at cf ck
 unfold dk book at *
 simp -implicitDefEqProofs (disch:=omega) [go_sem]
 refine .inl (call_data cf (by simp [go_sem]) ?_)
 simp -implicitDefEqProofs (disch:=omega) [go_sem]
 refine .inl (call_data cb (by simp [go_sem]) ?_)
 simp -implicitDefEqProofs (disch:=omega) [go_sem]
 refine .inl (call_data ck (by simp [go_sem]) ?_)
 simp -implicitDefEqProofs (disch:=omega) [go_sem,he,Tryz.f31]
 exact ⟨_,⟨_,rfl,frz_aggL (frzL_c (.emp 0 1) (frzL_c (.emp 0 2) (frzL_c ((frz_data _ _ _ _).2 rfl) (frzL_c ((frz_data _ _ _ _).2 rfl) (frzL_c ((frz_data _ _ _ _).2 rfl) (frzL_c (.emp 0 6) (frzL_c (.emp 0 5) (frzL_c (.emp 0 3) (frzL_c ((frz_data _ _ _ _).2 rfl) (frzL_c (.emp 0 6) (frzL_c (.emp 0 5) (frzL_c (.emp 0 3) frzL_n))))))))))))⟩,rfl⟩
theorem rrecover_pc (x:Disk) (u:Sto) (cf:PC Tryz.prog Γ 29 [dk x.s x.w] (.tup [sto u,.int .i64 0])) (b:Book) (cb:PC Tryz.prog Γ 35 [book u.b] (book b))
 (v:Sto) (ck:PC Tryz.prog Γ 16 [sto ⟨u.x,u.gen,u.seq,b,u.f⟩] (.tup [sto v,.int .i64 0])):PC Tryz.prog Γ 31 [dk x.s x.w] (.tup [sto v,.int .i64 0]):=by
 refine pc_by mixed Tryz.func31 rfl (fun args w=>Tryz.call31 args w) ?_
 unfold sto bookL at *
 unfold dk book at *
 simp -implicitDefEqProofs (disch:=omega) [go_sem]
 refine .inl (call_data cf (by simp [go_sem]) ?_)
 simp -implicitDefEqProofs (disch:=omega) [go_sem]
 refine .inl (call_data cb (by simp [go_sem]) ?_)
 simp -implicitDefEqProofs (disch:=omega) [go_sem]
 refine .inl (call_data ck (by simp [go_sem]) ?_)
 simp -implicitDefEqProofs (disch:=omega) [go_sem,Tryz.f31]
end
end Bk
namespace Bk
section
variable (Γ:Nat->Option (List Data))
set_option maxHeartbeats 2000000 in
theorem rfoundNone_pc (x:Disk) (g0 g1:Int) (c0:PC Tryz.prog Γ 62 [dk x.s x.w,.int .i64 0] (.int .i64 g0)) (c1:PC Tryz.prog Γ 62 [dk x.s x.w,.int .i64 1] (.int .i64 g1))
 (hg:(if g0 < g1 then g1 else g0) = 0):PC Tryz.prog Γ 29 [dk x.s x.w] (.tup [sto noSto,.int .i64 8]):=by
 refine pc_by mixed Tryz.func29 rfl (fun args w=>Tryz.call29 args w) ?_
 rw [noSto_eq]
 unfold dk at c0 c1 ⊢
 simp -implicitDefEqProofs (disch:=omega) [go_sem]
 refine .inl (call_data c0 (by simp [go_sem]) ?_)
 simp -implicitDefEqProofs (disch:=omega) [go_sem]
 refine .inl (call_data c1 (by simp [go_sem]) ?_)
 simp -implicitDefEqProofs (disch:=omega) [go_sem,hg]
 refine side (by kernel_rfl) ?_
 simp -implicitDefEqProofs (disch:=omega) [go_sem,hg,Tryz.f29]
 exact ⟨_,⟨_,rfl,frz_aggL (frzL_c (.emp 0 1) (frzL_c (.emp 0 2) (frzL_c ((frz_data _ _ _ _).2 rfl) (frzL_c ((frz_data _ _ _ _).2 rfl) (frzL_c ((frz_data _ _ _ _).2 rfl) (frzL_c (.emp 0 6) (frzL_c (.emp 0 5) (frzL_c (.emp 0 3) (frzL_c ((frz_data _ _ _ _).2 rfl) (frzL_c (.emp 0 6) (frzL_c (.emp 0 5) (frzL_c (.emp 0 3) frzL_n))))))))))))⟩,rfl⟩
set_option maxHeartbeats 4000000 in
theorem rfoundBad_pc (x:Disk) (h:Dok x.s x.w) (g0 g1 gen:Int) (c0:PC Tryz.prog Γ 62 [dk x.s x.w,.int .i64 0] (.int .i64 g0)) (c1:PC Tryz.prog Γ 62 [dk x.s x.w,.int .i64 1] (.int .i64 g1))
 (hg:(if g0 < g1 then g1 else g0) = gen) (hg0:1≤gen∧gen≤1000000000) (b:Book) (e:Int) (he:e≠0) (cb:PC Tryz.prog Γ 64 [.sl 1 (bys (snapTo x (gen % 2) 16))] (.tup [book b,.int .i64 e])) :
 PC Tryz.prog Γ 29 [dk x.s x.w] (.tup [sto noSto,.int .i64 8]):=by
 refine pc_by mixed Tryz.func29 rfl (fun args w=>Tryz.call29 args w) ?_
 have hgz:gen≠0:=by omega
 obtain ⟨sd,hsd⟩:∃ sd,gen % 2 = sd:=⟨_,rfl⟩
 have hs:0≤sd∧sd≤1:=by omega
 rw [hsd] at cb
 rw [noSto_eq]
 unfold dk at c0 c1 ⊢
 unfold book at *
 simp -implicitDefEqProofs (disch:=omega) [go_sem]
 refine .inl (call_data c0 (by simp [go_sem]) ?_)
 simp -implicitDefEqProofs (disch:=omega) [go_sem]
 refine .inl (call_data c1 (by simp [go_sem]) ?_)
 simp -implicitDefEqProofs (disch:=omega) [go_sem,hg]
 refine side (by kernel_rfl) ?_
 simp -implicitDefEqProofs (disch:=omega) [go_sem,hg,hgz]
 refine loop_ren (σ:={ i:Nat // i≤16 }) (fun i=>⟨envL [(1,.ptr 0 0),(2,.ptr 1 0),(4,.data (.int .i64 gen)),(5,.ref 2 0 (i.1 * 128) 1),(6,.data (.int .i64 i.1))],hpL [(0,.blk true [.data (.sl 1 (secs x.s)),.data (.sl 2 (wrs x.w))]),(1,.blk true [.emp 0,.emp 0,.data (.int .i64 0),.data (.int .i64 0),.data (.int .i64 0),.emp 0,.emp 0,.emp 0,.data (.int .i64 0),.emp 0,.emp 0,.emp 0]),(2,.blk true ((bys (snapTo x sd i.1)).map D.data))],3,0,99⟩) (fun i=>16 - i.1) ⟨0,by omega⟩ [] (rhoL [(0,some 0),(1,some 1),(2,none)]) ?_ ?_
 · apply ren_lists <;> simp -implicitDefEqProofs [go_sem,snapTo]
 · rintro ⟨i,hi⟩
   by_cases hlt:i < 16
   · have cr:PC Tryz.prog Γ 63 [.agg [.sl 1 (secs x.s),.sl 2 (wrs x.w)],.int .i64 (2 + sd * 16 + i)] (.tup [.sl 1 (bys (secAt x (2 + sd * 16 + i))),.int .i64 0]):=by
      have:=rread_pc Γ x.s x.w h (2 + sd * 16 + i)
      rw [if_pos (by omega)] at this
      exact this
     obtain ⟨hl1,hl2⟩:=secAt_len h (a:=2 + sd * 16 + i) (by omega)
     have hst:snapTo x sd (i + 1) = snapTo x sd i++secAt x (2 + sd * 16 + i):=rfl
     obtain ⟨hl3,_⟩:=snapTo_len h hs i (by omega)
     generalize secAt x (2 + sd * 16 + i) = sec1 at *
     simp -implicitDefEqProofs (disch:=omega) [go_sem,hsd]
     refine .inl (call_data cr (by simp [go_sem]) ?_)
     simp -implicitDefEqProofs (disch:=omega) [go_sem,hl1,hl3]
     refine next_ren ⟨i + 1,by omega⟩ (by simp only;omega) [] (rhoL [(0,some 0),(1,some 1),(2,some 20)]) ?_
     apply ren_lists <;> simp -implicitDefEqProofs [go_sem,hst,hl1]
     omega
   · have:i = 16:=by omega
     subst this
     simp -implicitDefEqProofs (disch:=omega) [go_sem]
     refine .inl (call_keep 2 cb rfl (fun H' hH=>frzL_c (frz_bys hH (.inr rfl) (by rw [(snapTo_len h hs 16 (by omega)).1])) frzL_n) ?_)
     simp -implicitDefEqProofs (disch:=omega) [go_sem,he,Tryz.f29]
     exact ⟨_,⟨_,rfl,frz_aggL (frzL_c (.emp 0 1) (frzL_c (.emp 0 2) (frzL_c ((frz_data _ _ _ _).2 rfl) (frzL_c ((frz_data _ _ _ _).2 rfl) (frzL_c ((frz_data _ _ _ _).2 rfl) (frzL_c (.emp 0 6) (frzL_c (.emp 0 5) (frzL_c (.emp 0 3) (frzL_c ((frz_data _ _ _ _).2 rfl) (frzL_c (.emp 0 6) (frzL_c (.emp 0 5) (frzL_c (.emp 0 3) frzL_n))))))))))))⟩,rfl⟩
end
end Bk
namespace Bk
section
variable (Γ:Nat->Option (List Data))
theorem rreadAt_pc (x:Disk) (h:Dok x.s x.w) (a:Int) (ha:0≤a∧a < 64):PC Tryz.prog Γ 63 [.agg [.sl 1 (secs x.s),.sl 2 (wrs x.w)],.int .i64 a] (.tup [.sl 1 (bys (secAt x a)),.int .i64 0]):=by
 have:=rread_pc Γ x.s x.w h a
 rw [if_pos ha] at this
 exact this
set_option maxHeartbeats 8000000 in
theorem rfound_pc (x:Disk) (h:Dok x.s x.w) (g0 g1 gen:Int) (c0:PC Tryz.prog Γ 62 [dk x.s x.w,.int .i64 0] (.int .i64 g0)) (c1:PC Tryz.prog Γ 62 [dk x.s x.w,.int .i64 1] (.int .i64 g1))
 (hg:(if g0 < g1 then g1 else g0) = gen) (hg0:1≤gen∧gen≤1000000000) (bk bn:Nat->Book) (cb:PC Tryz.prog Γ 64 [.sl 1 (bys (snapTo x (gen % 2) 16))] (.tup [book (bk 0),.int .i64 0]))
 (G S E en:Nat->Int) (O:Nat->Op) (n:Nat) (hn:n≤30) (co:∀ i:Nat,i < 30->PC Tryz.prog Γ 65 [.sl 1 (bys (secAt x (34 + i)))] (.tup [.int .i64 (G i),.int .i64 (S i),op (O i),.int .i64 (E i)]))
 (ca:∀ i,i≤n->i < 30->PC Tryz.prog Γ 44 [book (bk i),op (O i)] (.tup [book (bn i),.int .i64 (en i)])) (hall:∀ i,i < n->E i = 0∧G i = gen∧S i = i∧en i = 0∧bk (i + 1) = bn i) (hend:n < 30->¬ (E n = 0∧G n = gen∧S n = n∧en n = 0)) :
 PC Tryz.prog Γ 29 [dk x.s x.w] (.tup [sto ⟨x,gen,n,bk n,bk n⟩,.int .i64 0]):=by
 refine pc_by mixed Tryz.func29 rfl (fun args w=>Tryz.call29 args w) ?_
 have hgz:gen≠0:=by omega
 obtain ⟨sd,hsd⟩:∃ sd,gen % 2 = sd:=⟨_,rfl⟩
 have hs:0≤sd∧sd≤1:=by omega
 rw [hsd] at cb
 unfold dk at c0 c1 ⊢
 unfold sto bookL
 unfold op book at *
 simp -implicitDefEqProofs (disch:=omega) [go_sem]
 refine .inl (call_data c0 (by simp [go_sem]) ?_)
 simp -implicitDefEqProofs (disch:=omega) [go_sem]
 refine .inl (call_data c1 (by simp [go_sem]) ?_)
 simp -implicitDefEqProofs (disch:=omega) [go_sem,hg]
 refine side (by kernel_rfl) ?_
 simp -implicitDefEqProofs (disch:=omega) [go_sem,hg,hgz]
 refine loop_ren (σ:={ i:Nat // i≤16 }) (fun i=>⟨envL [(1,.ptr 0 0),(2,.ptr 1 0),(4,.data (.int .i64 gen)),(5,.ref 2 0 (i.1 * 128) 1),(6,.data (.int .i64 i.1))],hpL [(0,.blk true [.data (.sl 1 (secs x.s)),.data (.sl 2 (wrs x.w))]),(1,.blk true [.emp 0,.emp 0,.data (.int .i64 0),.data (.int .i64 0),.data (.int .i64 0),.emp 0,.emp 0,.emp 0,.data (.int .i64 0),.emp 0,.emp 0,.emp 0]),(2,.blk true ((bys (snapTo x sd i.1)).map D.data))],3,0,99⟩) (fun i=>16 - i.1) ⟨0,by omega⟩ [] (rhoL [(0,some 0),(1,some 1),(2,none)]) ?_ ?_
 · apply ren_lists <;> simp -implicitDefEqProofs [go_sem,snapTo]
 · rintro ⟨i,hi⟩
   by_cases hlt:i < 16
   · have cr:=rreadAt_pc Γ x h (2 + sd * 16 + i) (by omega)
     obtain ⟨hl1,hl2⟩:=secAt_len h (a:=2 + sd * 16 + i) (by omega)
     have hst:snapTo x sd (i + 1) = snapTo x sd i++secAt x (2 + sd * 16 + i):=rfl
     obtain ⟨hl3,_⟩:=snapTo_len h hs i (by omega)
     generalize secAt x (2 + sd * 16 + i) = sec1 at *
     simp -implicitDefEqProofs (disch:=omega) [go_sem,hsd]
     refine .inl (call_data cr (by simp [go_sem]) ?_)
     simp -implicitDefEqProofs (disch:=omega) [go_sem,hl1,hl3]
     refine next_ren ⟨i + 1,by omega⟩ (by simp only;omega) [] (rhoL [(0,some 0),(1,some 1),(2,some 20)]) ?_
     apply ren_lists <;> simp -implicitDefEqProofs [go_sem,hst,hl1]
     omega
   · have:i = 16:=by omega
     subst this
     simp -implicitDefEqProofs (disch:=omega) [go_sem]
     refine .inl (call_keep 2 cb rfl (fun H' hH=>frzL_c (frz_bys hH (.inr rfl) (by rw [(snapTo_len h hs 16 (by omega)).1])) frzL_n) ?_)
     simp -implicitDefEqProofs (disch:=omega) [go_sem]
     refine loop_ren (σ:={ i:Nat // i≤n }) (fun i=>⟨envL [(1,.ptr 0 0),(2,.ptr 1 0),(4,.data (.int .i64 gen)),(9,.ptr 2 0),(11,.data (.int .i64 i.1))],hpL [(0,.blk true [.data (.sl 1 (secs x.s)),.data (.sl 2 (wrs x.w))]),(1,.blk true [.emp 0,.emp 0,.data (.int .i64 0),.data (.int .i64 0),.data (.int .i64 0),.emp 0,.emp 0,.emp 0,.data (.int .i64 0),.emp 0,.emp 0,.emp 0]),
      (2,.blk true [.data (.int .i64 (bk i.1).next),.data (.sl 6 (sesss (bk i.1).opn)),.data (.sl 5 (items (bk i.1).items)),.data (.sl 3 (locks (bk i.1).locks))])],3,0,99⟩) (fun i=>n - i.1) ⟨0,by omega⟩ [] (rhoL [(0,some 0),(1,some 1),(2,some 10)]) ?_ ?_
     · apply ren_lists <;> simp -implicitDefEqProofs [go_sem]
     · rintro ⟨i,hi⟩
       by_cases h30:i < 30
       · have cr:=rreadAt_pc Γ x h (34 + i) (by omega)
         have coi:=co i h30
         have cai:=ca i hi h30
         generalize secAt x (34 + i) = sec1 at *
         by_cases hlt:i < n
         · obtain ⟨q1,q2,q3,q4,q5⟩:=hall i hlt
           rw [q1,q2,q3] at coi
           rw [q4,<- q5] at cai
           simp -implicitDefEqProofs (disch:=omega) [go_sem]
           refine .inl (call_data cr (by simp [go_sem]) ?_)
           simp -implicitDefEqProofs (disch:=omega) [go_sem]
           refine .inl (call_data coi (by simp [go_sem]) ?_)
           simp -implicitDefEqProofs (disch:=omega) [go_sem]
           refine .inl (call_data cai (by simp [go_sem]) ?_)
           simp -implicitDefEqProofs (disch:=omega) [go_sem]
           refine next_ren ⟨i + 1,by omega⟩ (by simp only;omega) [] (rhoL [(0,some 0),(1,some 1),(2,some 2)]) ?_
           apply ren_lists <;> simp -implicitDefEqProofs [go_sem]
         · have:i = n:=by omega
           subst this
           have hno:=hend h30
           simp -implicitDefEqProofs (disch:=omega) [go_sem]
           refine .inl (call_data cr (by simp [go_sem]) ?_)
           simp -implicitDefEqProofs (disch:=omega) [go_sem]
           refine .inl (call_data coi (by simp [go_sem]) ?_)
           by_cases q1:E i = 0
           · by_cases q2:G i = gen
             · by_cases q3:S i = i
               · have q4:en i≠0:=fun q=>hno ⟨q1,q2,q3,q⟩
                 simp -implicitDefEqProofs (disch:=omega) [go_sem,q1,q2,q3]
                 refine .inl (call_data cai (by simp [go_sem]) ?_)
                 simp -implicitDefEqProofs (disch:=omega) [go_sem,q4,Tryz.f29]
               · simp -implicitDefEqProofs (disch:=omega) [go_sem,q1,q2,q3,Tryz.f29]
             · simp -implicitDefEqProofs (disch:=omega) [go_sem,q1,q2,Tryz.f29]
           · simp -implicitDefEqProofs (disch:=omega) [go_sem,q1,Tryz.f29]
       · have:i = 30:=by omega
         subst this
         have:n = 30:=by omega
         subst this
         simp -implicitDefEqProofs (disch:=omega) [go_sem,Tryz.f29]
end
end Bk
end Go.Proofs.YtjkpeebajibgiaaGreat
