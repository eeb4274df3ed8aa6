/- Code: snapshots as the document writes them. (By genQF.py.) Code: names and records as the document reads them. Code: records as the document reads them. (By genQE.py.) Code: what the document reads of bytes is what the program reads. Code: snapshots as the document reads them. (By genQH.py.) Stores: the document's own readers in the program's words. Stores: what is found, told once. Stores: a snapshot laid, told once. Stores: something done, a new one, one begun anew, told once. Stores: the document's own new disk. Stores: a new one. Books: the program's Close. Books: sessions, lines, users who have failed, books and ops as they come in. Books: the program's Right, of a right book; the document's example; books as they come in; what closes all; BookDoes. Books: what an op does to a right book (mathematics): who has failed; right again, closed, free, counted, trimmed. Stores: good books, and what comes of them; both Founds, both Recovers, of any right disk. Stores: what is done to one, act by act. Stores: few acts; how many of the first writes a crash keeps. Stores: the mathematics of crashes. -/
import Derived.Test.YtjkpeebajibgiaaGreatPk9
import Derived.KernelRfl
namespace Go.Proofs.YtjkpeebajibgiaaGreat
open Go.RowKit
set_option linter.unusedSimpArgs false
set_option linter.unusedVariables false
set_option maxRecDepth 100000
namespace Bk
section
variable (Γ:Nat->Option (List Data))
theorem named_eff {q:List Nat} {u:ByteArray} (hq:q.length≤1000000) (hu:u.size≤16) {H:Nat->Blk} {fr g:Nat} {K:D->List Nat->List (Nat × Blk)->Nat->Prop} {m:Nat} (hm:m = q.length) (hg:H g = .blk true ((bys q).map D.data)) (hgn:g≠fr)
 (h:K (.ref fr 0 (q.length + 17) 1) [] [(g,.dead),(fr,.blk true ((bys (q++nameB u)).map D.data))] 1):effC Tryz.prog Γ 86 [.ref g 0 m 1,.data (.str u)] H fr K:=by
 subst hm
 exact eff_given (cells:=bys q) (rnamed_dc Γ q u hq hu) hg hgn (by simp) h
theorem flat_snoc {α:Type} (e:α->List Nat) (l:List α) (i:Nat) (h:i < l.length):(l.take (i + 1)).flatMap e = (l.take i).flatMap e++e l[i]:=by
 rw [List.take_succ_eq_append_getElem h,List.flatMap_append]
 simp
theorem flat_len_le {α:Type} {e:α->List Nat} {n:Nat} {l:List α} (h:∀ x∈l,(e x).length = n) (i:Nat):((l.take i).flatMap e).length≤n * l.length:=by
 rw [flatMap_length (n:=n) fun x hx=>h x (List.mem_of_mem_take hx),List.length_take]
 exact Nat.mul_le_mul_left _ (Nat.min_le_right _ _)
def cntB (b:Book):List Nat:=be 4 b.next.toNat++[b.opn.length,b.items.length,b.locks.length]
theorem bookB_parts {b:Book} (h1:b.opn.length < 256) (h2:b.items.length < 256) (h3:b.locks.length < 256):bookB b = cntB b++b.opn.flatMap sessB++b.items.flatMap itemB++b.locks.flatMap lockB:=by
 unfold bookB cntB
 rw [be_one h1,be_one h2,be_one h3]
 simp
set_option maxHeartbeats 16000000 in
theorem rbookBytes_pc (b:Book) (hb:Fits b) (ht:b.Ty) {q:Bool} (hq:q = true ↔ RightP b):PC Tryz.prog Γ 50 [book b] (if q = true then .tup [.sl 1 (bys (padB 2048 (bookB b))),.int .i64 0] else .tup [.sl 1 [],.int .i64 1]):=by
 have cr:=right_pc Γ b hb hq
 refine pc_by mixed Tryz.func50 rfl (fun args w=>Tryz.call50 args w) ?_
 unfold book at cr ⊢
 simp -implicitDefEqProofs (disch:=omega) [go_sem]
 refine .inl (call_data cr (by simp [go_sem]) ?_)
 cases q with
 | false =>
   simp -implicitDefEqProofs (disch:=omega) [go_sem,Tryz.f50]
   exact ⟨_,⟨_,rfl,.emp ..⟩,rfl⟩
 | true =>
 have hr:=hq.1 rfl
 have hf:=hr.bfit ht
 have h8:=hr.opn8
 have hl1:=hr.len
 have hl2:=hr.ll
 have hlen:=bookB_length hf
 have hparts:=bookB_parts hf.nopn hf.nitems hf.nlocks
 obtain ⟨q0,q1,q2,q3,q4,q5,q6⟩:=hf
 clear hq hr hb ht cr
 obtain ⟨n,hn⟩:∃ n:Nat,b.next = n:=⟨b.next.toNat,by unfold Fit at q0;omega⟩
 have hnt:b.next.toNat = n:=by omega
 have e0:(b.next % 18446744073709551616) = (n:Int):=by unfold Fit at q0;omega
 have en:n < 18446744073709551616:=by unfold Fit at q0;omega
 have eo:((b.opn.length:Int) % 256) = b.opn.length:=by omega
 have ei:((b.items.length:Int) % 256) = b.items.length:=by omega
 have el:((b.locks.length:Int) % 256) = b.locks.length:=by omega
 simp -implicitDefEqProofs (disch:=omega) [go_sem,e0]
 refine .inr (dc_nil (es:=1) ?_ (by simp))
 refine put_given Γ (q:=[]) (k:=4) (by simp) (by omega) en rfl (by simp [go_sem,bys]) (by simp) ?_
 simp -implicitDefEqProofs (disch:=omega) [go_sem,be_length,eo,ei,el]
 have hw1:∀ i:Nat,(cntB b++(b.opn.take i).flatMap sessB).length≤7 + 42 * 8:=fun i=>by
  have:=flat_len_le (e:=sessB) (n:=42) (l:=b.opn) (fun s hs=>sessB_length (q4 s hs)) i
  simp only [cntB,List.length_append,be_length,List.length_cons,List.length_nil]
  omega
 refine loop_ren (σ:={ i:Nat // i≤b.opn.length }) (fun i=>⟨envL [(1,.ptr 0 0),(5,.ref 1 0 (cntB b++(b.opn.take i.1).flatMap sessB).length 1),(6,.data (.int .i64 i.1))],hpL [(0,.blk true [.data (.int .i64 b.next),.data (.sl 6 (sesss b.opn)),.data (.sl 5 (items b.items)),.data (.sl 3 (locks b.locks))]),(1,.blk true ((bys (cntB b++(b.opn.take i.1).flatMap sessB)).map D.data))],2,0,128⟩) (fun i=>b.opn.length - i.1) ⟨0,by omega⟩ [] (rhoL [(0,some 0),(1,some 28)]) ?_ ?_
 · apply ren_lists <;> simp -implicitDefEqProofs [go_sem,cntB,be_length,hnt]
   all_goals exact renCells_plain (by simp [bys,u8]) (by simp [plainD])
 rintro ⟨i,hi⟩
 by_cases h:i < b.opn.length
 · have hwi:=hw1 i
   have hs:=flat_snoc sessB b.opn i h
   have hs2:cntB b++(b.opn.take (i + 1)).flatMap sessB = (cntB b++(b.opn.take i).flatMap sessB)++sessB b.opn[i]:=by rw [hs,List.append_assoc]
   clear hs
   have hfi:=q4 _ (List.getElem_mem h)
   generalize hqw:cntB b++(b.opn.take i).flatMap sessB = pw at *
   generalize hsi:b.opn[i] = s at *
   obtain ⟨id,link,addr,user,inn,out⟩:=s
   obtain ⟨f_id,f_link,f_addr,f_user,f_inn,f_out⟩:=hfi
   simp only [Fit] at f_id f_link f_addr f_user f_inn f_out
   obtain ⟨id,rfl⟩:∃ y:Nat,id = y:=⟨id.toNat,by omega⟩
   have e_id:(id:Int) % 18446744073709551616 = id:=by omega
   obtain ⟨link,rfl⟩:∃ y:Nat,link = y:=⟨link.toNat,by omega⟩
   have e_link:(link:Int) % 18446744073709551616 = link:=by omega
   obtain ⟨addr,rfl⟩:∃ y:Nat,addr = y:=⟨addr.toNat,by omega⟩
   have e_addr:(addr:Int) % 18446744073709551616 = addr:=by omega
   obtain ⟨inn,rfl⟩:∃ y:Nat,inn = y:=⟨inn.toNat,by omega⟩
   have e_inn:(inn:Int) % 18446744073709551616 = inn:=by omega
   obtain ⟨out,rfl⟩:∃ y:Nat,out = y:=⟨out.toNat,by omega⟩
   have e_out:(out:Int) % 18446744073709551616 = out:=by omega
   simp -implicitDefEqProofs (disch:=omega) [go_sem,hsi,sess,e_id,e_link,e_addr,e_inn,e_out]
   refine .inr (put_eff Γ (q:=pw) (n:=id) (k:=4) (by omega) (by omega) (by omega) rfl (by simp [go_sem,bys]) (by simp) ?_)
   simp -implicitDefEqProofs (disch:=omega) [go_sem,e_id,e_link,e_addr,e_inn,e_out]
   refine .inr (put_eff Γ (q:=pw++be 4 id) (n:=link) (k:=1) (by simp [be_length,nameB_length f_user];omega) (by omega) (by omega) (by simp [be_length,nameB_length f_user]) (by simp [go_sem,bys]) (by simp) ?_)
   simp -implicitDefEqProofs (disch:=omega) [go_sem,e_id,e_link,e_addr,e_inn,e_out]
   refine .inr (put_eff Γ (q:=pw++be 4 id++be 1 link) (n:=addr) (k:=4) (by simp [be_length,nameB_length f_user];omega) (by omega) (by omega) (by simp [be_length,nameB_length f_user]) (by simp [go_sem,bys]) (by simp) ?_)
   simp -implicitDefEqProofs (disch:=omega) [go_sem,e_id,e_link,e_addr,e_inn,e_out]
   refine side (by kernel_rfl) ?_
   simp -implicitDefEqProofs (disch:=omega) [go_sem,e_id,e_link,e_addr,e_inn,e_out]
   refine .inr (named_eff Γ (q:=pw++be 4 id++be 1 link++be 4 addr) (u:=user) (by simp [be_length,nameB_length f_user];omega) f_user (by simp [be_length,nameB_length f_user]) (by simp [go_sem,bys]) (by simp) ?_)
   simp -implicitDefEqProofs (disch:=omega) [go_sem,e_id,e_link,e_addr,e_inn,e_out]
   refine .inr (put_eff Γ (q:=pw++be 4 id++be 1 link++be 4 addr++nameB user) (n:=inn) (k:=8) (by simp [be_length,nameB_length f_user];omega) (by omega) (by omega) (by simp [be_length,nameB_length f_user]) (by simp [go_sem,bys]) (by simp) ?_)
   simp -implicitDefEqProofs (disch:=omega) [go_sem,e_id,e_link,e_addr,e_inn,e_out]
   refine .inr (put_eff Γ (q:=pw++be 4 id++be 1 link++be 4 addr++nameB user++be 8 inn) (n:=out) (k:=8) (by simp [be_length,nameB_length f_user];omega) (by omega) (by omega) (by simp [be_length,nameB_length f_user]) (by simp [go_sem,bys]) (by simp) ?_)
   simp -implicitDefEqProofs (disch:=omega) [go_sem,e_id,e_link,e_addr,e_inn,e_out]
   refine side (by kernel_rfl) ?_
   simp -implicitDefEqProofs (disch:=omega) [go_sem,e_id,e_link,e_addr,e_inn,e_out]
   have hend:pw++be 4 id++be 1 link++be 4 addr++nameB user++be 8 inn++be 8 out = pw++sessB ⟨(id:Nat),(link:Nat),(addr:Nat),user,(inn:Nat),(out:Nat)⟩:=by simp [sessB]
   refine next_ren ⟨i + 1,by omega⟩ (by simp only;omega) [] (rhoL [(0,some 0),(1,some 37)]) ?_
   rw [hend]
   apply ren_lists <;> simp -implicitDefEqProofs [go_sem,hs2]
   all_goals simp [be_length,sessB,nameB_length f_user]
 obtain rfl:i = b.opn.length:=by omega
 have hwi:=hw1 b.opn.length
 rw [List.take_length] at hwi
 simp only [List.take_length]
 generalize hp1:cntB b++b.opn.flatMap sessB = p1 at *
 simp -implicitDefEqProofs (disch:=omega) [go_sem]
 have hw2:∀ i:Nat,(p1++(b.items.take i).flatMap itemB).length≤7 + 42 * 8 + 22 * 60:=fun i=>by
  have:=flat_len_le (e:=itemB) (n:=22) (l:=b.items) (fun s hs=>itemB_length s) i
  simp only [List.length_append]
  omega
 refine loop_ren (σ:={ i:Nat // i≤b.items.length }) (fun i=>⟨envL [(1,.ptr 0 0),(5,.ref 1 0 (p1++(b.items.take i.1).flatMap itemB).length 1),(8,.data (.int .i64 i.1))],hpL [(0,.blk true [.data (.int .i64 b.next),.data (.sl 6 (sesss b.opn)),.data (.sl 5 (items b.items)),.data (.sl 3 (locks b.locks))]),(1,.blk true ((bys (p1++(b.items.take i.1).flatMap itemB)).map D.data))],2,0,128⟩) (fun i=>b.items.length - i.1) ⟨0,by omega⟩ [] (rhoL [(0,some 0),(1,some 1)]) ?_ ?_
 · apply ren_lists <;> simp -implicitDefEqProofs [go_sem]
   all_goals exact renCells_plain (by simp [bys,u8]) (by simp [plainD])
 rintro ⟨i,hi⟩
 by_cases h:i < b.items.length
 · have hwi:=hw2 i
   have hs:=flat_snoc itemB b.items i h
   have hs2:p1++(b.items.take (i + 1)).flatMap itemB = (p1++(b.items.take i).flatMap itemB)++itemB b.items[i]:=by rw [hs,List.append_assoc]
   clear hs
   have hfi:=q5 _ (List.getElem_mem h)
   generalize hqw:p1++(b.items.take i).flatMap itemB = pw at *
   generalize hsi:b.items[i] = s at *
   obtain ⟨kind,id,inn,out,cause⟩:=s
   obtain ⟨f_kind,f_id,f_inn,f_out,f_cause⟩:=hfi
   simp only [Fit] at f_kind f_id f_inn f_out f_cause
   obtain ⟨kind,rfl⟩:∃ y:Nat,kind = y:=⟨kind.toNat,by omega⟩
   have e_kind:(kind:Int) % 18446744073709551616 = kind:=by omega
   obtain ⟨id,rfl⟩:∃ y:Nat,id = y:=⟨id.toNat,by omega⟩
   have e_id:(id:Int) % 18446744073709551616 = id:=by omega
   obtain ⟨inn,rfl⟩:∃ y:Nat,inn = y:=⟨inn.toNat,by omega⟩
   have e_inn:(inn:Int) % 18446744073709551616 = inn:=by omega
   obtain ⟨out,rfl⟩:∃ y:Nat,out = y:=⟨out.toNat,by omega⟩
   have e_out:(out:Int) % 18446744073709551616 = out:=by omega
   obtain ⟨cause,rfl⟩:∃ y:Nat,cause = y:=⟨cause.toNat,by omega⟩
   have e_cause:(cause:Int) % 18446744073709551616 = cause:=by omega
   simp -implicitDefEqProofs (disch:=omega) [go_sem,hsi,item,e_kind,e_id,e_inn,e_out,e_cause]
   refine .inr (put_eff Γ (q:=pw) (n:=kind) (k:=1) (by omega) (by omega) (by omega) rfl (by simp [go_sem,bys]) (by simp) ?_)
   simp -implicitDefEqProofs (disch:=omega) [go_sem,e_kind,e_id,e_inn,e_out,e_cause]
   refine .inr (put_eff Γ (q:=pw++be 1 kind) (n:=id) (k:=4) (by simp [be_length];omega) (by omega) (by omega) (by simp [be_length]) (by simp [go_sem,bys]) (by simp) ?_)
   simp -implicitDefEqProofs (disch:=omega) [go_sem,e_kind,e_id,e_inn,e_out,e_cause]
   refine side (by kernel_rfl) ?_
   simp -implicitDefEqProofs (disch:=omega) [go_sem,e_kind,e_id,e_inn,e_out,e_cause]
   refine .inr (put_eff Γ (q:=pw++be 1 kind++be 4 id) (n:=inn) (k:=8) (by simp [be_length];omega) (by omega) (by omega) (by simp [be_length]) (by simp [go_sem,bys]) (by simp) ?_)
   simp -implicitDefEqProofs (disch:=omega) [go_sem,e_kind,e_id,e_inn,e_out,e_cause]
   refine .inr (put_eff Γ (q:=pw++be 1 kind++be 4 id++be 8 inn) (n:=out) (k:=8) (by simp [be_length];omega) (by omega) (by omega) (by simp [be_length]) (by simp [go_sem,bys]) (by simp) ?_)
   simp -implicitDefEqProofs (disch:=omega) [go_sem,e_kind,e_id,e_inn,e_out,e_cause]
   refine .inr (put_eff Γ (q:=pw++be 1 kind++be 4 id++be 8 inn++be 8 out) (n:=cause) (k:=1) (by simp [be_length];omega) (by omega) (by omega) (by simp [be_length]) (by simp [go_sem,bys]) (by simp) ?_)
   simp -implicitDefEqProofs (disch:=omega) [go_sem,e_kind,e_id,e_inn,e_out,e_cause]
   refine side (by kernel_rfl) ?_
   simp -implicitDefEqProofs (disch:=omega) [go_sem,e_kind,e_id,e_inn,e_out,e_cause]
   have hend:pw++be 1 kind++be 4 id++be 8 inn++be 8 out++be 1 cause = pw++itemB ⟨(kind:Nat),(id:Nat),(inn:Nat),(out:Nat),(cause:Nat)⟩:=by simp [itemB]
   refine next_ren ⟨i + 1,by omega⟩ (by simp only;omega) [] (rhoL [(0,some 0),(1,some 34)]) ?_
   rw [hend]
   apply ren_lists <;> simp -implicitDefEqProofs [go_sem,hs2]
   all_goals simp [be_length,itemB]
 obtain rfl:i = b.items.length:=by omega
 have hwi:=hw2 b.items.length
 rw [List.take_length] at hwi
 simp only [List.take_length]
 generalize hp2:p1++b.items.flatMap itemB = p2 at *
 simp -implicitDefEqProofs (disch:=omega) [go_sem]
 have hw3:∀ i:Nat,(p2++(b.locks.take i).flatMap lockB).length≤7 + 42 * 8 + 22 * 60 + 22 * 8:=fun i=>by
  have:=flat_len_le (e:=lockB) (n:=22) (l:=b.locks) (fun s hs=>lockB_length (q6 s hs)) i
  simp only [List.length_append]
  omega
 refine loop_ren (σ:={ i:Nat // i≤b.locks.length }) (fun i=>⟨envL [(1,.ptr 0 0),(5,.ref 1 0 (p2++(b.locks.take i.1).flatMap lockB).length 1),(10,.data (.int .i64 i.1))],hpL [(0,.blk true [.data (.int .i64 b.next),.data (.sl 6 (sesss b.opn)),.data (.sl 5 (items b.items)),.data (.sl 3 (locks b.locks))]),(1,.blk true ((bys (p2++(b.locks.take i.1).flatMap lockB)).map D.data))],2,0,128⟩) (fun i=>b.locks.length - i.1) ⟨0,by omega⟩ [] (rhoL [(0,some 0),(1,some 1)]) ?_ ?_
 · apply ren_lists <;> simp -implicitDefEqProofs [go_sem]
   all_goals exact renCells_plain (by simp [bys,u8]) (by simp [plainD])
 rintro ⟨i,hi⟩
 by_cases h:i < b.locks.length
 · have hwi:=hw3 i
   have hs:=flat_snoc lockB b.locks i h
   have hs2:p2++(b.locks.take (i + 1)).flatMap lockB = (p2++(b.locks.take i).flatMap lockB)++lockB b.locks[i]:=by rw [hs,List.append_assoc]
   clear hs
   have hfi:=q6 _ (List.getElem_mem h)
   generalize hqw:p2++(b.locks.take i).flatMap lockB = pw at *
   generalize hsi:b.locks[i] = s at *
   obtain ⟨user,n,at_⟩:=s
   obtain ⟨f_user,f_n,f_at_⟩:=hfi
   simp only [Fit] at f_user f_n f_at_
   obtain ⟨n,rfl⟩:∃ y:Nat,n = y:=⟨n.toNat,by omega⟩
   have e_n:(n:Int) % 18446744073709551616 = n:=by omega
   obtain ⟨at_,rfl⟩:∃ y:Nat,at_ = y:=⟨at_.toNat,by omega⟩
   have e_at_:(at_:Int) % 18446744073709551616 = at_:=by omega
   simp -implicitDefEqProofs (disch:=omega) [go_sem,hsi,lock,e_n,e_at_]
   refine .inr (named_eff Γ (q:=pw) (u:=user) (by omega) f_user rfl (by simp [go_sem,bys]) (by simp) ?_)
   simp -implicitDefEqProofs (disch:=omega) [go_sem,e_n,e_at_]
   refine .inr (put_eff Γ (q:=pw++nameB user) (n:=n) (k:=1) (by simp [be_length,nameB_length f_user];omega) (by omega) (by omega) (by simp [be_length,nameB_length f_user]) (by simp [go_sem,bys]) (by simp) ?_)
   simp -implicitDefEqProofs (disch:=omega) [go_sem,e_n,e_at_]
   refine .inr (put_eff Γ (q:=pw++nameB user++be 1 n) (n:=at_) (k:=4) (by simp [be_length,nameB_length f_user];omega) (by omega) (by omega) (by simp [be_length,nameB_length f_user]) (by simp [go_sem,bys]) (by simp) ?_)
   simp -implicitDefEqProofs (disch:=omega) [go_sem,e_n,e_at_]
   refine side (by kernel_rfl) ?_
   simp -implicitDefEqProofs (disch:=omega) [go_sem,e_n,e_at_]
   have hend:pw++nameB user++be 1 n++be 4 at_ = pw++lockB ⟨user,(n:Nat),(at_:Nat)⟩:=by simp [lockB]
   refine next_ren ⟨i + 1,by omega⟩ (by simp only;omega) [] (rhoL [(0,some 0),(1,some 25)]) ?_
   rw [hend]
   apply ren_lists <;> simp -implicitDefEqProofs [go_sem,hs2]
   all_goals simp [be_length,lockB,nameB_length f_user]
 obtain rfl:i = b.locks.length:=by omega
 have hwi:=hw3 b.locks.length
 rw [List.take_length] at hwi
 simp only [List.take_length]
 rw [<- hparts]
 simp -implicitDefEqProofs (disch:=omega) [go_sem]
 refine .inr (filled_given Γ (q:=bookB b) (n:=2048) (by omega) (by omega) rfl (by simp [go_sem]) (by simp) ?_)
 simp -implicitDefEqProofs (disch:=omega) [go_sem,Tryz.f50]
 exact ⟨_,⟨_,rfl,frz_bys (l:=padB 2048 (bookB b)) rfl (.inl rfl) (padB_length (by omega))⟩,rfl⟩
end
end Bk
namespace Bk
def userB (l:List Nat) (a n:Nat):List Nat:=(List.range n).map fun i=>getR l (a + 1 + i) 1
def userR (l:List Nat) (a:Nat):ByteArray:=toStr (userB l a (min (getR l a 1) 16))
theorem userB_succ (l:List Nat) (a n:Nat):userB l a (n + 1) = userB l a n++[getR l (a + 1 + n) 1]:=by simp [userB,List.range_succ]
theorem userB_length (l:List Nat) (a n:Nat):(userB l a n).length = n:=by simp [userB]
theorem userB_lt {l:List Nat} (hl:Bytes l) (a n:Nat):Bytes (userB l a n):=by
 intro x hx
 obtain ⟨i,_,rfl⟩:=List.mem_map.1 hx
 exact getR_lt hl _ 1
theorem toStr_size (l:List Nat):(toStr l).size = l.length:=by simp [toStr,ByteArray.size]
theorem userR_size (l:List Nat) (a:Nat):(userR l a).size≤16:=by
 unfold userR
 rw [toStr_size,userB_length]
 omega
section
variable (Γ:Nat->Option (List Data))
set_option maxHeartbeats 8000000 in
theorem user_pc (l:List Nat) (hl:l.length≤1000000) (hb:Bytes l) (a:Nat) (ha:a≤900000):PC Tryz.prog Γ 108 [.sl 1 (bys l),.int .i64 a] (.str (userR l a)):=by
 refine pc_by mixed Tryz.func108 rfl (fun args w=>Tryz.call108 args w) ?_
 have c0:=rget_pc Γ l hl hb a 1 (by omega) (by omega)
 have hn:getR l a 1 < 256:=getR_lt hb a 1
 have hm:userR l a = toStr (userB l a (min (getR l a 1) 16)):=rfl
 generalize getR l a 1 = n at *
 have hm1:min n 16≤n:=Nat.min_le_left _ _
 have hm2:min n 16≤16:=Nat.min_le_right _ _
 have hm3:min n 16 = n ∨ min n 16 = 16:=by omega
 generalize min n 16 = m at *
 have e1:IntKind.i64.wrap (n:Int) = n:=by rw [IntKind.wrap_i64];omega
 rw [hm]
 simp -implicitDefEqProofs (disch:=omega) [go_sem]
 refine .inl (call_data c0 (by simp [go_sem]) ?_)
 simp -implicitDefEqProofs (disch:=omega) [go_sem,e1]
 refine loop_ren (σ:={ i:Nat // i≤m }) (fun i=>if i.1 < m then ⟨envL [(0,.data (.sl 1 (bys l))),(1,.data (.int .i64 a)),(5,.data (.int .i64 n)),(6,.ref 0 0 i.1 1),(7,.data (.int .i64 i.1))],hpL [(0,.blk true ((bys (userB l a i.1)).map D.data))],1,0,33⟩ else ⟨envL [(5,.data (.int .i64 n)),(6,.data (.sl 1 (bys (userB l a i.1)))),(7,.data (.int .i64 i.1))],hpL [],1,0,33⟩) (fun i=>m - i.1) ⟨0,by omega⟩ [] (rhoL [(0,none)]) ?_ ?_
 · by_cases h0:0 < m
   · simp only [h0,if_true]
     apply ren_lists <;> simp -implicitDefEqProofs [go_sem,userB]
   · simp only [h0,if_false]
     apply ren_lists <;> simp -implicitDefEqProofs [go_sem,userB]
 rintro ⟨i,hi⟩
 simp only
 by_cases h:i < m
 rotate_left
 · rw [if_neg h]
   obtain rfl:i = m:=by omega
   have hul:=userB_lt hb a i
   generalize userB l a i = q at *
   rcases hm3 with e | e
   · subst e
     simp -implicitDefEqProofs (disch:=omega) [go_sem]
     refine conv_bys (e:=5) hul (by simp [go_sem]) (by simp [go_sem]) (by simp [go_sem]) ?_
     simp -implicitDefEqProofs (disch:=omega) [go_sem,Tryz.f108]
   · subst e
     by_cases e:16 < n
     · simp -implicitDefEqProofs (disch:=omega) [go_sem]
       refine conv_bys (e:=5) hul (by simp [go_sem]) (by simp [go_sem]) (by simp [go_sem]) ?_
       simp -implicitDefEqProofs (disch:=omega) [go_sem,Tryz.f108]
     · obtain rfl:n = 16:=by omega
       simp -implicitDefEqProofs (disch:=omega) [go_sem]
       refine conv_bys (e:=5) hul (by simp [go_sem]) (by simp [go_sem]) (by simp [go_sem]) ?_
       simp -implicitDefEqProofs (disch:=omega) [go_sem,Tryz.f108]
 rw [if_pos h]
 have ci:=rget_pc Γ l hl hb (a + 1 + i) 1 (by omega) (by omega)
 have hx:getR l (a + 1 + i) 1 < 256:=getR_lt hb (a + 1 + i) 1
 have hs:=userB_succ l a i
 have hql:=userB_length l a i
 generalize getR l (a + 1 + i) 1 = x at *
 generalize userB l a i = q at *
 have e2:IntKind.u8.wrap (x:Int) = x:=by rw [IntKind.wrap_u8];omega
 simp -implicitDefEqProofs (disch:=omega) [go_sem]
 refine .inl (call_data ci (by simp [go_sem]) ?_)
 simp -implicitDefEqProofs (disch:=omega) [go_sem,e2]
 refine next_ren ⟨i + 1,by omega⟩ (by simp only;omega) (if i + 1 < m then [] else [17]) (rhoL [(0,some 17)]) ?_
 by_cases h1:i + 1 < m
 · simp only [h1,if_true]
   apply ren_lists <;> simp -implicitDefEqProofs [go_sem,hs]
   all_goals exact renCells_plain (by simp [bys,u8]) (by simp [plainD])
 · simp only [h1,if_false]
   apply ren_lists <;> simp -implicitDefEqProofs [go_sem]
   all_goals exact frz_bys (rw:=false) (by rw [hs];simp [go_sem,bys,u8];rfl) (.inr rfl) (by rw [hs];simp [hql])
end
end Bk
namespace Bk
def opR (l:List Nat):Op:=⟨getR l 7 1,getR l 8 4,getR l 12 1,getR l 13 4,userR l 17,getR l 34 8,getR l 42 8,getR l 50 1,getR l 51 4⟩
def RecIs (l:List Nat):Prop:=RecP (getR l 2 4:Nat) (getR l 6 1:Nat) (opR l)∧l = padB 128 (recB (getR l 2 4:Nat) (getR l 6 1:Nat) (opR l))
section
variable (Γ:Nat->Option (List Data))
set_option maxHeartbeats 16000000 in
theorem rreadOp_pc (l:List Nat) (hl:l.length≤1000000) (hb:Bytes l) {q:Bool} (hq:q = true ↔ RecIs l):PC Tryz.prog Γ 65 [.sl 1 (bys l)] (if q = true then .tup [.int .i64 (getR l 2 4),.int .i64 (getR l 6 1),op (opR l),.int .i64 0] else .tup [.int .i64 0,.int .i64 0,op noOp,.int .i64 2]):=by
 refine pc_by mixed Tryz.func65 rfl (fun args w=>Tryz.call65 args w) ?_
 have ho:opR l = ⟨getR l 7 1,getR l 8 4,getR l 12 1,getR l 13 4,userR l 17,getR l 34 8,getR l 42 8,getR l 50 1,getR l 51 4⟩:=rfl
 unfold RecIs at hq
 have ck:=rget_pc Γ l hl hb 7 1 (by omega) (by omega)
 have bk:getR l 7 1 < 256:=getR_lt hb 7 1
 have ci:=rget_pc Γ l hl hb 8 4 (by omega) (by omega)
 have bi:getR l 8 4 < 4294967296:=getR_lt hb 8 4
 have ce:=rget_pc Γ l hl hb 12 1 (by omega) (by omega)
 have be:getR l 12 1 < 256:=getR_lt hb 12 1
 have ca:=rget_pc Γ l hl hb 13 4 (by omega) (by omega)
 have ba:getR l 13 4 < 4294967296:=getR_lt hb 13 4
 have cu:=user_pc Γ l hl hb 17 (by omega)
 have bu:=userR_size l 17
 have cn:=rget_pc Γ l hl hb 34 8 (by omega) (by omega)
 have bn:getR l 34 8 < 18446744073709551616:=getR_lt hb 34 8
 have ct:=rget_pc Γ l hl hb 42 8 (by omega) (by omega)
 have bt:getR l 42 8 < 18446744073709551616:=getR_lt hb 42 8
 have cc:=rget_pc Γ l hl hb 50 1 (by omega) (by omega)
 have bc:getR l 50 1 < 256:=getR_lt hb 50 1
 have cz:=rget_pc Γ l hl hb 51 4 (by omega) (by omega)
 have bz:getR l 51 4 < 4294967296:=getR_lt hb 51 4
 have cg:=rget_pc Γ l hl hb 2 4 (by omega) (by omega)
 have bg:getR l 2 4 < 4294967296:=getR_lt hb 2 4
 have cs:=rget_pc Γ l hl hb 6 1 (by omega) (by omega)
 have bs:getR l 6 1 < 256:=getR_lt hb 6 1
 generalize getR l 7 1 = k at *
 generalize getR l 8 4 = i at *
 generalize getR l 12 1 = e at *
 generalize getR l 13 4 = a at *
 generalize userR l 17 = u at *
 generalize getR l 34 8 = n at *
 generalize getR l 42 8 = t at *
 generalize getR l 50 1 = c at *
 generalize getR l 51 4 = z at *
 generalize getR l 2 4 = g at *
 generalize getR l 6 1 = s at *
 have ek:IntKind.i64.wrap (k:Int) = k:=by rw [IntKind.wrap_i64];omega
 have ei:IntKind.i64.wrap (i:Int) = i:=by rw [IntKind.wrap_i64];omega
 have ee:IntKind.i64.wrap (e:Int) = e:=by rw [IntKind.wrap_i64];omega
 have ec:IntKind.i64.wrap (c:Int) = c:=by rw [IntKind.wrap_i64];omega
 have ez:IntKind.i64.wrap (z:Int) = z:=by rw [IntKind.wrap_i64];omega
 have eg:IntKind.i64.wrap (g:Int) = g:=by rw [IntKind.wrap_i64];omega
 have es:IntKind.i64.wrap (s:Int) = s:=by rw [IntKind.wrap_i64];omega
 have ea:IntKind.u32.wrap (a:Int) = a:=by rw [IntKind.wrap_u32];omega
 have cb:=ropBytes_pc Γ g s (opR l) (by rw [ho];exact ⟨⟨by simp only;omega,by simp only;omega⟩,⟨by simp only;omega,by simp only;omega⟩,⟨by simp only;omega,by simp only;omega⟩⟩) (by rw [ho];simp only;omega)
 rw [ho] at hq cb ⊢
 unfold op at cb
 simp only at cb
 simp -implicitDefEqProofs (disch:=omega) [go_sem,ek,ei,ee,ec,ez,eg,es,ea]
 refine .inl (call_data ck (by simp [go_sem]) ?_)
 simp -implicitDefEqProofs (disch:=omega) [go_sem,ek,ei,ee,ec,ez,eg,es,ea]
 refine .inl (call_data ci (by simp [go_sem]) ?_)
 simp -implicitDefEqProofs (disch:=omega) [go_sem,ek,ei,ee,ec,ez,eg,es,ea]
 refine .inl (call_data ce (by simp [go_sem]) ?_)
 simp -implicitDefEqProofs (disch:=omega) [go_sem,ek,ei,ee,ec,ez,eg,es,ea]
 refine .inl (call_data ca (by simp [go_sem]) ?_)
 simp -implicitDefEqProofs (disch:=omega) [go_sem,ek,ei,ee,ec,ez,eg,es,ea]
 refine .inl (call_data cu (by simp [go_sem]) ?_)
 simp -implicitDefEqProofs (disch:=omega) [go_sem,ek,ei,ee,ec,ez,eg,es,ea]
 refine .inl (call_data cn (by simp [go_sem]) ?_)
 simp -implicitDefEqProofs (disch:=omega) [go_sem,ek,ei,ee,ec,ez,eg,es,ea]
 refine .inl (call_data ct (by simp [go_sem]) ?_)
 simp -implicitDefEqProofs (disch:=omega) [go_sem,ek,ei,ee,ec,ez,eg,es,ea]
 refine .inl (call_data cc (by simp [go_sem]) ?_)
 simp -implicitDefEqProofs (disch:=omega) [go_sem,ek,ei,ee,ec,ez,eg,es,ea]
 refine .inl (call_data cz (by simp [go_sem]) ?_)
 simp -implicitDefEqProofs (disch:=omega) [go_sem,ek,ei,ee,ec,ez,eg,es,ea]
 refine .inl (call_data cg (by simp [go_sem]) ?_)
 simp -implicitDefEqProofs (disch:=omega) [go_sem,ek,ei,ee,ec,ez,eg,es,ea]
 refine .inl (call_data cs (by simp [go_sem]) ?_)
 simp -implicitDefEqProofs (disch:=omega) [go_sem,ek,ei,ee,ec,ez,eg,es,ea]
 by_cases hP:RecP g s ⟨k,i,e,a,u,n,t,c,z⟩
 · rw [if_pos hP] at cb
   have hf:=hP.fit ⟨by simp only;omega,by simp only;omega,by simp only;omega⟩
   have hlen:(padB 128 (recB g s ⟨k,i,e,a,u,n,t,c,z⟩)).length = 128:=padB_length (by rw [recB_length hf];omega)
   refine .inl (call_data cb (by simp [go_sem]) ?_)
   simp -implicitDefEqProofs (disch:=omega) [go_sem,ek,ei,ee,ec,ez,eg,es,ea]
   have cr:=row_pc Γ l (padB 128 (recB g s ⟨k,i,e,a,u,n,t,c,z⟩)) (by omega) (by omega)
   refine .inl (call_data cr (by simp [go_sem]) ?_)
   by_cases h2:l = padB 128 (recB g s ⟨k,i,e,a,u,n,t,c,z⟩)
   · have hqt:q = true:=hq.2 ⟨hP,h2⟩
     rw [decide_eq_true h2,if_pos hqt]
     simp -implicitDefEqProofs (disch:=omega) [go_sem,ek,ei,ee,ec,ez,eg,es,ea]
     refine side (by kernel_rfl) ?_
     simp -implicitDefEqProofs (disch:=omega) [go_sem,op,Tryz.f65]
   · have hqf:¬ q = true:=fun h=>h2 (hq.1 h).2
     rw [decide_eq_false h2,if_neg hqf]
     simp -implicitDefEqProofs (disch:=omega) [go_sem,op,noOp,Tryz.f65]
 · rw [if_neg hP] at cb
   have hqf:¬ q = true:=fun h=>hP (hq.1 h).1
   rw [if_neg hqf]
   refine .inl (call_data cb (by simp [go_sem]) ?_)
   simp -implicitDefEqProofs (disch:=omega) [go_sem,ek,ei,ee,ec,ez,eg,es,ea]
   have cr:=row_pc Γ l [] (by omega) (by simp)
   refine .inl (call_data cr (by simp [go_sem]) ?_)
   simp -implicitDefEqProofs (disch:=omega) [go_sem,op,noOp,Tryz.f65]
end
end Bk
namespace Bk
theorem num_get {k n a b:Nat} {l l' r:List Nat} (h:l' = l.drop a) (hp:numP k l' = some (n,r)) (hb:b = a + k):n = getR l a k∧r = l.drop b:=by
 unfold numP at hp
 split at hp
 rotate_left
 · cases hp
 rename_i hk
 simp only [Option.some.injEq,Prod.mk.injEq] at hp
 obtain ⟨rfl,rfl⟩:=hp
 subst h
 subst hb
 refine ⟨?_,by rw [List.drop_drop]⟩
 exact (getR_take (l:=l) (a:=a) (l.drop a) (fun i hi=>by rw [List.getD_eq_getElem?_getD,<- List.getElem?_drop,List.getElem?_eq_getElem hi,Option.getD_some]) k hk).symm
theorem name_get {a b:Nat} {l l' r:List Nat} {u:ByteArray} (h:l' = l.drop a) (hp:nameP l' = some (u,r)) (hb:b = a + 17):u = userR l a∧r = l.drop b:=by
 unfold nameP at hp
 split at hp
 · cases hp
 rename_i n l1 h1
 obtain ⟨hn,hl1⟩:=num_get h h1 rfl
 split at hp
 rotate_left
 · cases hp
 rename_i hc
 obtain ⟨h16,hn16,_⟩:=hc
 simp only [Option.some.injEq,Prod.mk.injEq] at hp
 obtain ⟨rfl,rfl⟩:=hp
 subst hl1
 refine ⟨?_,by rw [List.drop_drop,hb]⟩
 unfold userR
 rw [<- hn,Nat.min_eq_left hn16]
 congr 1
 apply List.ext_getElem
 · rw [userB_length,List.length_take,List.length_take];omega
 · intro i h1 h2
   rw [userB_length] at h2
   simp only [List.getElem_take,userB,List.getElem_map,List.getElem_range,getR]
   have hi:i < (l.drop (a + 1)).length:=by omega
   have:l.getD (a + 1 + i + 0) 0 = (l.drop (a + 1))[i]:=by
    rw [List.getD_eq_getElem?_getD,Nat.add_zero,<- List.getElem?_drop,List.getElem?_eq_getElem hi,Option.getD_some]
   omega
def sessR (l:List Nat) (a:Nat):Sess:=⟨getR l a 4,getR l (a + 4) 1,getR l (a + 5) 4,userR l (a + 9),getR l (a + 26) 8,getR l (a + 34) 8⟩
def itemR (l:List Nat) (a:Nat):Item:=⟨getR l a 1,getR l (a + 1) 4,getR l (a + 5) 8,getR l (a + 13) 8,getR l (a + 21) 1⟩
def lockR (l:List Nat) (a:Nat):Lock:=⟨userR l a,getR l (a + 17) 1,getR l (a + 18) 4⟩
theorem sess_get {a b:Nat} {l l' r:List Nat} {s:Sess} (h:l' = l.drop a) (hp:sessP l' = some (s,r)) (hb:b = a + 42):s = sessR l a∧r = l.drop b:=by
 unfold sessP at hp
 simp only [bnd_some,Option.some.injEq,Prod.mk.injEq] at hp
 obtain ⟨x1,l1,h1,x2,l2,h2,x3,l3,h3,x4,l4,h4,x5,l5,h5,x6,l6,h6,rfl,rfl⟩:=hp
 obtain ⟨rfl,e1⟩:=num_get (b:=a + 4) h h1 rfl
 obtain ⟨rfl,e2⟩:=num_get (b:=a + 5) e1 h2 (by omega)
 obtain ⟨rfl,e3⟩:=num_get (b:=a + 9) e2 h3 (by omega)
 obtain ⟨rfl,e4⟩:=name_get (b:=a + 26) e3 h4 (by omega)
 obtain ⟨rfl,e5⟩:=num_get (b:=a + 34) e4 h5 (by omega)
 obtain ⟨rfl,e6⟩:=num_get (b:=b) e5 h6 (by omega)
 exact ⟨rfl,e6⟩
theorem item_get {a b:Nat} {l l' r:List Nat} {s:Item} (h:l' = l.drop a) (hp:itemP l' = some (s,r)) (hb:b = a + 22):s = itemR l a∧r = l.drop b:=by
 unfold itemP at hp
 simp only [bnd_some,Option.some.injEq,Prod.mk.injEq] at hp
 obtain ⟨x1,l1,h1,x2,l2,h2,x3,l3,h3,x4,l4,h4,x5,l5,h5,rfl,rfl⟩:=hp
 obtain ⟨rfl,e1⟩:=num_get (b:=a + 1) h h1 rfl
 obtain ⟨rfl,e2⟩:=num_get (b:=a + 5) e1 h2 (by omega)
 obtain ⟨rfl,e3⟩:=num_get (b:=a + 13) e2 h3 (by omega)
 obtain ⟨rfl,e4⟩:=num_get (b:=a + 21) e3 h4 (by omega)
 obtain ⟨rfl,e5⟩:=num_get (b:=b) e4 h5 (by omega)
 exact ⟨rfl,e5⟩
theorem lock_get {a b:Nat} {l l' r:List Nat} {s:Lock} (h:l' = l.drop a) (hp:lockP l' = some (s,r)) (hb:b = a + 22):s = lockR l a∧r = l.drop b:=by
 unfold lockP at hp
 simp only [bnd_some,Option.some.injEq,Prod.mk.injEq] at hp
 obtain ⟨x1,l1,h1,x2,l2,h2,x3,l3,h3,rfl,rfl⟩:=hp
 obtain ⟨rfl,e1⟩:=name_get (b:=a + 17) h h1 rfl
 obtain ⟨rfl,e2⟩:=num_get (b:=a + 18) e1 h2 (by omega)
 obtain ⟨rfl,e3⟩:=num_get (b:=b) e2 h3 (by omega)
 exact ⟨rfl,e3⟩
theorem many_get {α:Type} {l:List Nat} {p:List Nat->Option (α × List Nat)} {R:Nat->α} {w:Nat} (hp:∀ {a b:Nat} {l' r:List Nat} {x:α},l' = l.drop a->p l' = some (x,r)->b = a + w->x = R a∧r = l.drop b) :
 ∀ (n:Nat) {a b:Nat} {l' r:List Nat} {xs:List α},l' = l.drop a->manyP p n l' = some (xs,r)->b = a + w * n->xs = (List.range n).map (fun i=>R (a + w * i))∧r = l.drop b
 | 0,a,b,l',r,xs,h,hm,hb=>by
   simp only [manyP,Option.some.injEq,Prod.mk.injEq] at hm
   obtain ⟨rfl,rfl⟩:=hm
   exact ⟨rfl,by rw [h,hb];rfl⟩
 | n + 1,a,b,l',r,xs,h,hm,hb=>by
   simp only [manyP] at hm
   obtain ⟨x,l1,h1,hm⟩:=bnd_some.1 hm
   obtain ⟨ys,l2,h2,hm⟩:=bnd_some.1 hm
   simp only [Option.some.injEq,Prod.mk.injEq] at hm
   obtain ⟨rfl,rfl⟩:=hm
   obtain ⟨rfl,e1⟩:=hp h h1 rfl
   obtain ⟨rfl,e2⟩:=many_get hp n (b:=b) e1 h2 (by rw [hb,Nat.mul_succ];omega)
   refine ⟨?_,e2⟩
   rw [List.range_succ_eq_map,List.map_cons,List.map_map]
   congr 1
   apply List.map_congr_left
   intro i _
   simp only [Function.comp,Nat.mul_succ]
   congr 1
   omega
def bookR (l:List Nat):Book:=⟨getR l 0 4,(List.range (getR l 4 1)).map fun i=>sessR l (7 + 42 * i),(List.range (getR l 5 1)).map fun i=>itemR l (7 + 42 * getR l 4 1 + 22 * i),(List.range (getR l 6 1)).map fun i=>lockR l (7 + 42 * getR l 4 1 + 22 * getR l 5 1 + 22 * i)⟩
theorem book_get {l r:List Nat} {b:Book} (h:bookQ l = some (b,r)):b = bookR l:=by
 unfold bookQ at h
 split at h
 rotate_left
 · cases h
 simp only [bnd_some,Option.some.injEq,Prod.mk.injEq] at h
 obtain ⟨next,l1,h1,no,l2,h2,ni,l3,h3,nl,l4,h4,os,l5,h5,is,l6,h6,ls,l7,h7,rfl,rfl⟩:=h
 obtain ⟨rfl,e1⟩:=num_get (a:=0) (b:=4) (l:=l) rfl h1 rfl
 obtain ⟨rfl,e2⟩:=num_get (b:=5) e1 h2 rfl
 obtain ⟨rfl,e3⟩:=num_get (b:=6) e2 h3 rfl
 obtain ⟨rfl,e4⟩:=num_get (b:=7) e3 h4 rfl
 obtain ⟨rfl,e5⟩:=many_get (R:=sessR l) (w:=42) (fun h hp hb=>sess_get h hp hb) _ e4 h5 rfl
 obtain ⟨rfl,e6⟩:=many_get (R:=itemR l) (w:=22) (fun h hp hb=>item_get h hp hb) _ e5 h6 rfl
 obtain ⟨rfl,e7⟩:=many_get (R:=lockR l) (w:=22) (fun h hp hb=>lock_get h hp hb) _ e6 h7 rfl
 rfl
theorem fit_get {l:List Nat} (hl:Bytes l) (a k:Nat):Fit k (getR l a k:Nat):=fit_nat (getR_lt hl a k)
theorem sessR_fit {l:List Nat} (hl:Bytes l) (a:Nat):SessFit (sessR l a):=⟨fit_get hl _ _,fit_get hl _ _,fit_get hl _ _,userR_size _ _,fit_get hl _ _,fit_get hl _ _⟩
theorem itemR_fit {l:List Nat} (hl:Bytes l) (a:Nat):ItemFit (itemR l a):=⟨fit_get hl _ _,fit_get hl _ _,fit_get hl _ _,fit_get hl _ _,fit_get hl _ _⟩
theorem lockR_fit {l:List Nat} (hl:Bytes l) (a:Nat):LockFit (lockR l a):=⟨userR_size _ _,fit_get hl _ _,fit_get hl _ _⟩
theorem bookR_fit {l:List Nat} (hl:Bytes l):BookFit (bookR l):=by
 refine ⟨fit_get hl _ _,?_,?_,?_,fun s hs=>?_,fun s hs=>?_,fun s hs=>?_⟩
 · simp only [bookR,List.length_map,List.length_range];exact getR_lt hl 4 1
 · simp only [bookR,List.length_map,List.length_range];exact getR_lt hl 5 1
 · simp only [bookR,List.length_map,List.length_range];exact getR_lt hl 6 1
 · obtain ⟨i,_,rfl⟩:=List.mem_map.1 hs;exact sessR_fit hl _
 · obtain ⟨i,_,rfl⟩:=List.mem_map.1 hs;exact itemR_fit hl _
 · obtain ⟨i,_,rfl⟩:=List.mem_map.1 hs;exact lockR_fit hl _
theorem SessFit.ty {x:Sess} (h:SessFit x):x.Ty:=by
 obtain ⟨h1,h2,h3,h4,h5,h6⟩:=h
 unfold Fit at h1 h2 h3 h5 h6
 refine ⟨?_,?_,?_,?_,?_,?_⟩
 · unfold R64;omega
 · unfold R64;omega
 · omega
 · exact Nat.le_trans h4 (by decide)
 · unfold U64;omega
 · unfold U64;omega
theorem LockFit.ty {x:Lock} (h:LockFit x):x.Ty:=by
 obtain ⟨h1,h2,h3⟩:=h
 unfold Fit at h2 h3
 constructor <;> first | exact Nat.le_trans h1 (by decide) | (unfold R64;omega)
theorem BookFit.ty {b:Book} (h:BookFit b):b.Ty:=⟨fun s hs=>(h.opn s hs).ty,fun s hs=>(h.items s hs).ty,fun s hs=>(h.locks s hs).ty⟩
/-- Bytes are the snapshot that the document reads of them. -/
def BookIs (l:List Nat):Prop:=RightP (bookR l)∧l = padB 2048 (bookB (bookR l))
theorem RightP.short {b:Book} (h:RightP b) (hf:BookFit b):(bookB b).length≤2048:=by
 have:=bookB_length hf
 have:=h.opn8
 have:=h.len
 have:=h.ll
 omega
theorem bookIs_iff {l:List Nat} (hl:Bytes l) {p:Option (Book × List Nat)} (hP:BookPIs l p):BookIs l ↔ ∃ b r,p = some (b,r):=by
 constructor
 · rintro ⟨h1,h2⟩
   have hf:=bookR_fit hl
   have hb:=book_back hf (h1.short hf)
   rw [<- h2] at hb
   exact ⟨_,_,(hP _ _).2 ⟨hb,h1,by simp⟩⟩
 · rintro ⟨b,r,h⟩
   obtain ⟨h1,h2,h3⟩:=(hP _ _).1 h
   have e:=book_get h1
   subst e
   exact ⟨h2,book_forth hl h1 h3⟩
theorem book_same {l:List Nat} (hl:Bytes l) {p:Option (Book × List Nat)} (hP:BookPIs l p) {q:Bool} (hq:q = true ↔ BookIs l):gotB p = (if q = true then bookR l else noBook)∧gotE p = if q = true then 0 else 2:=by
 rw [bookIs_iff hl hP] at hq
 cases p with
 | none =>
   have:¬ q = true:=fun h=>by obtain ⟨_,_,h⟩:=hq.1 h;cases h
   rw [if_neg this,if_neg this]
   exact ⟨rfl,rfl⟩
 | some x =>
   obtain ⟨b,r⟩:=x
   rw [if_pos (hq.2 ⟨b,r,rfl⟩),if_pos (hq.2 ⟨b,r,rfl⟩)]
   exact ⟨book_get ((hP _ _).1 rfl).1,rfl⟩
theorem op_get {a b:Nat} {l l' r:List Nat} {o:Op} (h:l' = l.drop 7) (hp:opP l' = some (o,r)):o = opR l:=by
 unfold opP at hp
 simp only [bnd_some,Option.some.injEq,Prod.mk.injEq] at hp
 obtain ⟨x1,l1,h1,x2,l2,h2,x3,l3,h3,x4,l4,h4,x5,l5,h5,x6,l6,h6,x7,l7,h7,x8,l8,h8,x9,l9,h9,rfl,rfl⟩:=hp
 obtain ⟨rfl,e1⟩:=num_get (b:=8) h h1 rfl
 obtain ⟨rfl,e2⟩:=num_get (b:=12) e1 h2 rfl
 obtain ⟨rfl,e3⟩:=num_get (b:=13) e2 h3 rfl
 obtain ⟨rfl,e4⟩:=num_get (b:=17) e3 h4 rfl
 obtain ⟨rfl,e5⟩:=name_get (b:=34) e4 h5 rfl
 obtain ⟨rfl,e6⟩:=num_get (b:=42) e5 h6 rfl
 obtain ⟨rfl,e7⟩:=num_get (b:=50) e6 h7 rfl
 obtain ⟨rfl,e8⟩:=num_get (b:=51) e7 h8 rfl
 obtain ⟨rfl,e9⟩:=num_get (b:=55) e8 h9 rfl
 rfl
theorem rec_get {l r:List Nat} {g s:Nat} {o:Op} (h:recordP l = some ((g,s,o),r)):g = getR l 2 4∧s = getR l 6 1∧o = opR l:=by
 unfold recordP at h
 split at h
 rotate_left
 · cases h
 simp only [bnd_some] at h
 obtain ⟨x,l1,h1,g',l2,h2,s',l3,h3,o',l4,h4,h5⟩:=h
 split at h5
 rotate_left
 · cases h5
 simp only [Option.some.injEq,Prod.mk.injEq] at h5
 obtain ⟨⟨rfl,rfl,rfl⟩,rfl⟩:=h5
 have e1:l1 = l.drop 2:=by have:=(letP_rest h1).2.1;rwa [uRE_size] at this
 obtain ⟨rfl,e2⟩:=num_get (b:=6) e1 h2 rfl
 obtain ⟨rfl,e3⟩:=num_get (b:=7) e2 h3 rfl
 exact ⟨rfl,rfl,op_get (a:=0) (b:=0) e3 h4⟩
theorem opR_range {l:List Nat} (hl:Bytes l):OpRange (opR l):=by
 have h1:=fit_get hl 13 4
 have h2:=fit_get hl 34 8
 have h3:=fit_get hl 42 8
 unfold Fit at h1 h2 h3
 exact ⟨⟨h1.1,by have:=h1.2;simp only [opR];omega⟩,⟨h2.1,by have:=h2.2;simp only [opR];omega⟩,⟨h3.1,by have:=h3.2;simp only [opR];omega⟩⟩
theorem recIs_iff {l:List Nat} (hl:Bytes l):RecIs l ↔ ∃ x r,recordP l = some (x,r):=by
 constructor
 · rintro ⟨h1,h2⟩
   have hb:=record_back h1 (opR_range hl)
   rw [<- h2] at hb
   exact ⟨_,_,hb⟩
 · rintro ⟨⟨g,s,o⟩,r,h⟩
   obtain ⟨h1,h2,h3,_⟩:=(recordP_iff hl _ _ _ _).1 h
   obtain ⟨rfl,rfl,rfl⟩:=rec_get h
   exact ⟨h1,h3⟩
theorem record_same {l:List Nat} (hl:Bytes l) {q:Bool} (hq:q = true ↔ RecIs l):gotG (recordP l) = (if q = true then ((getR l 2 4:Int),(getR l 6 1:Int),opR l) else (0,0,noOp))∧gotE (recordP l) = if q = true then 0 else 2:=by
 rw [recIs_iff hl] at hq
 cases hp:recordP l with
 | none =>
   have:¬ q = true:=fun h=>by obtain ⟨_,_,h⟩:=hq.1 h;rw [hp] at h;cases h
   rw [if_neg this,if_neg this]
   exact ⟨rfl,rfl⟩
 | some x =>
   obtain ⟨⟨g,s,o⟩,r⟩:=x
   rw [if_pos (hq.2 ⟨_,r,hp⟩),if_pos (hq.2 ⟨_,r,hp⟩)]
   obtain ⟨rfl,rfl,rfl⟩:=rec_get hp
   exact ⟨rfl,rfl⟩
end Bk
namespace Bk
section
variable (Γ:Nat->Option (List Data))
theorem range_snoc {α:Type} (f:Nat->α) (n:Nat):(List.range (n + 1)).map f = (List.range n).map f++[f n]:=by rw [List.range_succ,List.map_append];rfl
def sessRs (l:List Nat) (a n:Nat):List Sess:=(List.range n).map fun j=>sessR l (a + 42 * j)
def itemRs (l:List Nat) (a n:Nat):List Item:=(List.range n).map fun j=>itemR l (a + 22 * j)
def lockRs (l:List Nat) (a n:Nat):List Lock:=(List.range n).map fun j=>lockR l (a + 22 * j)
theorem sessRs_succ (l:List Nat) (a n:Nat):sessRs l a n++[sessR l (a + 42 * n)] = sessRs l a (n + 1):=(range_snoc _ n).symm
theorem itemRs_succ (l:List Nat) (a n:Nat):itemRs l a n++[itemR l (a + 22 * n)] = itemRs l a (n + 1):=(range_snoc _ n).symm
theorem lockRs_succ (l:List Nat) (a n:Nat):lockRs l a n++[lockR l (a + 22 * n)] = lockRs l a (n + 1):=(range_snoc _ n).symm
theorem sessRs_length (l:List Nat) (a n:Nat):(sessRs l a n).length = n:=by simp [sessRs]
theorem itemRs_length (l:List Nat) (a n:Nat):(itemRs l a n).length = n:=by simp [itemRs]
theorem lockRs_length (l:List Nat) (a n:Nat):(lockRs l a n).length = n:=by simp [lockRs]
theorem sessRs_zero (l:List Nat) (a:Nat):sessRs l a 0 = []:=rfl
theorem itemRs_zero (l:List Nat) (a:Nat):itemRs l a 0 = []:=rfl
theorem lockRs_zero (l:List Nat) (a:Nat):lockRs l a 0 = []:=rfl
set_option maxHeartbeats 32000000 in
theorem rreadBook_pc (l:List Nat) (hl:l.length≤1000000) (hb:Bytes l) {q:Bool} (hq:q = true ↔ BookIs l):PC Tryz.prog Γ 64 [.sl 1 (bys l)] (if q = true then .tup [book (bookR l),.int .i64 0] else .tup [book noBook,.int .i64 2]):=by
 refine pc_by mixed Tryz.func64 rfl (fun args w=>Tryz.call64 args w) ?_
 have hfit:=bookR_fit hb
 obtain ⟨q1,hq1⟩:∃ v:Bool,v = true ↔ RightP (bookR l):=by classical exact ⟨decide (RightP (bookR l)),by simp⟩
 have cb:=rbookBytes_pc Γ (bookR l) hfit.fits hfit.ty hq1
 have hshort:=fun h:RightP (bookR l)=>h.short hfit
 have hbk:book (bookR l) = .agg [.int .i64 (getR l 0 4),.sl 6 (sesss (sessRs l 7 (getR l 4 1))),.sl 5 (items (itemRs l (7 + 42 * getR l 4 1) (getR l 5 1))),.sl 3 (locks (lockRs l (7 + 42 * getR l 4 1 + 22 * getR l 5 1) (getR l 6 1)))]:=rfl
 clear hfit
 unfold BookIs at hq
 rw [hbk] at cb ⊢
 generalize bookR l = B at *
 clear hbk
 have c1:=rget_pc Γ l hl hb 0 4 (by omega) (by omega)
 have b1:getR l 0 4 < 4294967296:=getR_lt hb 0 4
 have c2:=rget_pc Γ l hl hb 4 1 (by omega) (by omega)
 have b2:getR l 4 1 < 256:=getR_lt hb 4 1
 have c3:=rget_pc Γ l hl hb 5 1 (by omega) (by omega)
 have b3:getR l 5 1 < 256:=getR_lt hb 5 1
 have c4:=rget_pc Γ l hl hb 6 1 (by omega) (by omega)
 have b4:getR l 6 1 < 256:=getR_lt hb 6 1
 generalize getR l 0 4 = nx at *
 generalize getR l 4 1 = no at *
 generalize getR l 5 1 = ni at *
 generalize getR l 6 1 = nl at *
 have e1:IntKind.i64.wrap (nx:Int) = nx:=by rw [IntKind.wrap_i64];omega
 have e2:IntKind.i64.wrap (no:Int) = no:=by rw [IntKind.wrap_i64];omega
 have e3:IntKind.i64.wrap (ni:Int) = ni:=by rw [IntKind.wrap_i64];omega
 have e4:IntKind.i64.wrap (nl:Int) = nl:=by rw [IntKind.wrap_i64];omega
 simp -implicitDefEqProofs (disch:=omega) [go_sem]
 refine .inl (call_data c1 (by simp [go_sem]) ?_)
 simp -implicitDefEqProofs (disch:=omega) [go_sem,e1]
 refine .inl (call_data c2 (by simp [go_sem]) ?_)
 simp -implicitDefEqProofs (disch:=omega) [go_sem,e2]
 refine .inl (call_data c3 (by simp [go_sem]) ?_)
 simp -implicitDefEqProofs (disch:=omega) [go_sem,e3]
 refine .inl (call_data c4 (by simp [go_sem]) ?_)
 simp -implicitDefEqProofs (disch:=omega) [go_sem,e4]
 refine loop_ren (σ:={ i:Nat // i≤no }) (fun i=>if i.1 < no then ⟨envL [(0,.data (.sl 1 (bys l))),(2,.ptr 0 0),(4,.ptr 1 0),(5,.data (.int .i64 no)),(6,.data (.int .i64 ni)),(7,.data (.int .i64 nl)),(8,.data (.int .i64 ((7 + 42 * i.1:Nat):Int))),(9,.data (.int .i64 i.1))],hpL [(0,.blk true [.data (.int .i64 0),.emp 0,.emp 0,.emp 0]),(1,.blk true [.data (.int .i64 nx),.ref 2 0 i.1 6,.emp 0,.emp 0]),(2,.blk true ((flat (sesss (sessRs l (7) i.1))).map D.data))],3,0,144⟩ else ⟨envL [(0,.data (.sl 1 (bys l))),(2,.ptr 0 0),(4,.ptr 1 0),(5,.data (.int .i64 no)),(6,.data (.int .i64 ni)),(7,.data (.int .i64 nl)),(8,.data (.int .i64 ((7 + 42 * i.1:Nat):Int))),(9,.data (.int .i64 i.1))],hpL [(0,.blk true [.data (.int .i64 0),.emp 0,.emp 0,.emp 0]),(1,.blk true [.data (.int .i64 nx),.data (.sl 6 (sesss (sessRs l (7) i.1))),.emp 0,.emp 0])],3,0,144⟩) (fun i=>no - i.1) ⟨0,by omega⟩ [] (rhoL [(0,some 0),(1,some 6),(2,none)]) ?_ ?_
 · by_cases h0:0 < no
   · simp only [h0,if_true]
     apply ren_lists <;> simp -implicitDefEqProofs [go_sem,sessRs_zero,sesss,flat]
     all_goals trace_state
     all_goals omega
   · simp only [h0,if_false]
     apply ren_lists <;> simp -implicitDefEqProofs [go_sem,sessRs_zero,sesss]
     all_goals trace_state
     all_goals omega
 rintro ⟨i,hi⟩
 simp only
 by_cases h:i < no
 · rw [if_pos h]
   have hsn:=sesss_flat_snoc (sessRs l (7) i) (sessR l (7 + 42 * i))
   rw [sessRs_succ] at hsn
   have hsl:(sesss (sessRs l (7) i)).length = i:=by rw [sesss_length,sessRs_length]
   have hfl:(flat (sesss (sessRs l (7) i))).length = i * 6:=by rw [flat_len (es:=6) (sesss_cells _),hsl]
   have hsl2:(sesss (sessRs l (7) (i + 1))).length = i + 1:=by rw [sesss_length,sessRs_length]
   have hnext:7 + 42 * (i + 1) = (7 + 42 * i) + 42:=by omega
   have hab:7 + 42 * i≤100000:=by omega
   generalize hXS:(sesss (sessRs l (7) i)) = XS at *
   generalize hYS:(sesss (sessRs l (7) (i + 1))) = YS at *
   generalize 7 + 42 * i = a at *
   have k0:=rget_pc Γ l hl hb a 4 (by omega) (by omega)
   have l0:getR l a 4 < 4294967296:=getR_lt hb a 4
   have k1:=rget_pc Γ l hl hb (a + 4) 1 (by omega) (by omega)
   have l1:getR l (a + 4) 1 < 256:=getR_lt hb (a + 4) 1
   have k2:=rget_pc Γ l hl hb (a + 5) 4 (by omega) (by omega)
   have l2:getR l (a + 5) 4 < 4294967296:=getR_lt hb (a + 5) 4
   have k3:=user_pc Γ l hl hb (a + 9) (by omega)
   have k4:=rget_pc Γ l hl hb (a + 26) 8 (by omega) (by omega)
   have l4:getR l (a + 26) 8 < 18446744073709551616:=getR_lt hb (a + 26) 8
   have k5:=rget_pc Γ l hl hb (a + 34) 8 (by omega) (by omega)
   have l5:getR l (a + 34) 8 < 18446744073709551616:=getR_lt hb (a + 34) 8
   simp only [sessR] at hsn
   generalize getR l a 4 = x0 at *
   have w0:IntKind.i64.wrap (x0:Int) = x0:=by rw [IntKind.wrap_i64];omega
   generalize getR l (a + 4) 1 = x1 at *
   have w1:IntKind.i64.wrap (x1:Int) = x1:=by rw [IntKind.wrap_i64];omega
   generalize getR l (a + 5) 4 = x2 at *
   have w2:IntKind.u32.wrap (x2:Int) = x2:=by rw [IntKind.wrap_u32];omega
   generalize userR l (a + 9) = x3 at *
   generalize getR l (a + 26) 8 = x4 at *
   generalize getR l (a + 34) 8 = x5 at *
   simp -implicitDefEqProofs (disch:=omega) [go_sem,w0,w1,w2]
   refine .inl (call_data k0 (by simp [go_sem]) ?_)
   simp -implicitDefEqProofs (disch:=omega) [go_sem,hfl,w0,w1,w2]
   refine .inl (call_data k1 (by simp [go_sem]) ?_)
   simp -implicitDefEqProofs (disch:=omega) [go_sem,hfl,w0,w1,w2]
   refine .inl (call_data k2 (by simp [go_sem]) ?_)
   simp -implicitDefEqProofs (disch:=omega) [go_sem,hfl,w0,w1,w2]
   refine .inl (call_data k3 (by simp [go_sem]) ?_)
   simp -implicitDefEqProofs (disch:=omega) [go_sem,hfl,w0,w1,w2]
   refine .inl (call_data k4 (by simp [go_sem]) ?_)
   simp -implicitDefEqProofs (disch:=omega) [go_sem,hfl,w0,w1,w2]
   refine .inl (call_data k5 (by simp [go_sem]) ?_)
   simp -implicitDefEqProofs (disch:=omega) [go_sem,hfl,w0,w1,w2]
   refine side (by kernel_rfl) ?_
   simp -implicitDefEqProofs (disch:=omega) [go_sem,w0,w1,w2]
   refine next_ren ⟨i + 1,by omega⟩ (by simp only;omega) (if i + 1 < no then [] else [36]) (rhoL [(0,some 0),(1,some 1),(2,some 36)]) ?_
   by_cases h1:i + 1 < no
   · simp only [h1,if_true]
     apply ren_lists <;> simp -implicitDefEqProofs [go_sem,hsn,hYS]
     all_goals first | omega | exact renCells_plain rfl (by simp [plainD]) | trace_state
   · simp only [h1,if_false]
     apply ren_lists <;> simp -implicitDefEqProofs [go_sem,hYS]
     all_goals first | omega | exact frz_ref (rw:=false) (by rfl) (.inr rfl) hsl2 (by rw [<- hYS];exact sesss_cells _) hsn.symm | trace_state
 obtain rfl:no = i:=by omega
 rw [if_neg h]
 simp -implicitDefEqProofs (disch:=omega) [go_sem]
 refine loop_ren (σ:={ i:Nat // i≤ni }) (fun i=>if i.1 < ni then ⟨envL [(0,.data (.sl 1 (bys l))),(2,.ptr 0 0),(4,.ptr 1 0),(5,.data (.int .i64 no)),(6,.data (.int .i64 ni)),(7,.data (.int .i64 nl)),(8,.data (.int .i64 ((7 + 42 * no + 22 * i.1:Nat):Int))),(10,.data (.int .i64 i.1))],hpL [(0,.blk true [.data (.int .i64 0),.emp 0,.emp 0,.emp 0]),(1,.blk true [.data (.int .i64 nx),.data (.sl 6 (sesss (sessRs l (7) no))),.ref 2 0 i.1 5,.emp 0]),(2,.blk true ((flat (items (itemRs l (7 + 42 * no) i.1))).map D.data))],3,0,144⟩ else ⟨envL [(0,.data (.sl 1 (bys l))),(2,.ptr 0 0),(4,.ptr 1 0),(5,.data (.int .i64 no)),(6,.data (.int .i64 ni)),(7,.data (.int .i64 nl)),(8,.data (.int .i64 ((7 + 42 * no + 22 * i.1:Nat):Int))),(10,.data (.int .i64 i.1))],hpL [(0,.blk true [.data (.int .i64 0),.emp 0,.emp 0,.emp 0]),(1,.blk true [.data (.int .i64 nx),.data (.sl 6 (sesss (sessRs l (7) no))),.data (.sl 5 (items (itemRs l (7 + 42 * no) i.1))),.emp 0])],3,0,144⟩) (fun i=>ni - i.1) ⟨0,by omega⟩ [] (rhoL [(0,some 0),(1,some 1),(2,none)]) ?_ ?_
 · by_cases h0:0 < ni
   · simp only [h0,if_true]
     apply ren_lists <;> simp -implicitDefEqProofs [go_sem,itemRs_zero,items,flat]
     all_goals trace_state
     all_goals omega
   · simp only [h0,if_false]
     apply ren_lists <;> simp -implicitDefEqProofs [go_sem,itemRs_zero,items]
     all_goals trace_state
     all_goals omega
 rintro ⟨i,hi⟩
 simp only
 by_cases h:i < ni
 · rw [if_pos h]
   have hsn:=items_flat_snoc (itemRs l (7 + 42 * no) i) (itemR l (7 + 42 * no + 22 * i))
   rw [itemRs_succ] at hsn
   have hsl:(items (itemRs l (7 + 42 * no) i)).length = i:=by rw [items_length,itemRs_length]
   have hfl:(flat (items (itemRs l (7 + 42 * no) i))).length = i * 5:=by rw [flat_len (es:=5) (items_cells _),hsl]
   have hsl2:(items (itemRs l (7 + 42 * no) (i + 1))).length = i + 1:=by rw [items_length,itemRs_length]
   have hnext:7 + 42 * no + 22 * (i + 1) = (7 + 42 * no + 22 * i) + 22:=by omega
   have hab:7 + 42 * no + 22 * i≤100000:=by omega
   generalize hXS:(items (itemRs l (7 + 42 * no) i)) = XS at *
   generalize hYS:(items (itemRs l (7 + 42 * no) (i + 1))) = YS at *
   generalize 7 + 42 * no + 22 * i = a at *
   have k0:=rget_pc Γ l hl hb a 1 (by omega) (by omega)
   have l0:getR l a 1 < 256:=getR_lt hb a 1
   have k1:=rget_pc Γ l hl hb (a + 1) 4 (by omega) (by omega)
   have l1:getR l (a + 1) 4 < 4294967296:=getR_lt hb (a + 1) 4
   have k2:=rget_pc Γ l hl hb (a + 5) 8 (by omega) (by omega)
   have l2:getR l (a + 5) 8 < 18446744073709551616:=getR_lt hb (a + 5) 8
   have k3:=rget_pc Γ l hl hb (a + 13) 8 (by omega) (by omega)
   have l3:getR l (a + 13) 8 < 18446744073709551616:=getR_lt hb (a + 13) 8
   have k4:=rget_pc Γ l hl hb (a + 21) 1 (by omega) (by omega)
   have l4:getR l (a + 21) 1 < 256:=getR_lt hb (a + 21) 1
   simp only [itemR] at hsn
   generalize getR l a 1 = x0 at *
   have w0:IntKind.i64.wrap (x0:Int) = x0:=by rw [IntKind.wrap_i64];omega
   generalize getR l (a + 1) 4 = x1 at *
   have w1:IntKind.i64.wrap (x1:Int) = x1:=by rw [IntKind.wrap_i64];omega
   generalize getR l (a + 5) 8 = x2 at *
   generalize getR l (a + 13) 8 = x3 at *
   generalize getR l (a + 21) 1 = x4 at *
   have w4:IntKind.i64.wrap (x4:Int) = x4:=by rw [IntKind.wrap_i64];omega
   simp -implicitDefEqProofs (disch:=omega) [go_sem,w0,w1,w4]
   refine .inl (call_data k0 (by simp [go_sem]) ?_)
   simp -implicitDefEqProofs (disch:=omega) [go_sem,hfl,w0,w1,w4]
   refine .inl (call_data k1 (by simp [go_sem]) ?_)
   simp -implicitDefEqProofs (disch:=omega) [go_sem,hfl,w0,w1,w4]
   refine .inl (call_data k2 (by simp [go_sem]) ?_)
   simp -implicitDefEqProofs (disch:=omega) [go_sem,hfl,w0,w1,w4]
   refine .inl (call_data k3 (by simp [go_sem]) ?_)
   simp -implicitDefEqProofs (disch:=omega) [go_sem,hfl,w0,w1,w4]
   refine .inl (call_data k4 (by simp [go_sem]) ?_)
   simp -implicitDefEqProofs (disch:=omega) [go_sem,hfl,w0,w1,w4]
   refine side (by kernel_rfl) ?_
   simp -implicitDefEqProofs (disch:=omega) [go_sem,w0,w1,w4]
   refine next_ren ⟨i + 1,by omega⟩ (by simp only;omega) (if i + 1 < ni then [] else [32]) (rhoL [(0,some 0),(1,some 1),(2,some 32)]) ?_
   by_cases h1:i + 1 < ni
   · simp only [h1,if_true]
     apply ren_lists <;> simp -implicitDefEqProofs [go_sem,hsn,hYS]
     all_goals first | omega | exact renCells_plain rfl (by simp [plainD]) | trace_state
   · simp only [h1,if_false]
     apply ren_lists <;> simp -implicitDefEqProofs [go_sem,hYS]
     all_goals first | omega | exact frz_ref (rw:=false) (by rfl) (.inr rfl) hsl2 (by rw [<- hYS];exact items_cells _) hsn.symm | trace_state
 obtain rfl:ni = i:=by omega
 rw [if_neg h]
 simp -implicitDefEqProofs (disch:=omega) [go_sem]
 refine loop_ren (σ:={ i:Nat // i≤nl }) (fun i=>if i.1 < nl then ⟨envL [(0,.data (.sl 1 (bys l))),(2,.ptr 0 0),(4,.ptr 1 0),(5,.data (.int .i64 no)),(6,.data (.int .i64 ni)),(7,.data (.int .i64 nl)),(8,.data (.int .i64 ((7 + 42 * no + 22 * ni + 22 * i.1:Nat):Int))),(11,.data (.int .i64 i.1))],hpL [(0,.blk true [.data (.int .i64 0),.emp 0,.emp 0,.emp 0]),(1,.blk true [.data (.int .i64 nx),.data (.sl 6 (sesss (sessRs l (7) no))),.data (.sl 5 (items (itemRs l (7 + 42 * no) ni))),.ref 2 0 i.1 3]),(2,.blk true ((flat (locks (lockRs l (7 + 42 * no + 22 * ni) i.1))).map D.data))],3,0,144⟩ else ⟨envL [(0,.data (.sl 1 (bys l))),(2,.ptr 0 0),(4,.ptr 1 0),(5,.data (.int .i64 no)),(6,.data (.int .i64 ni)),(7,.data (.int .i64 nl)),(8,.data (.int .i64 ((7 + 42 * no + 22 * ni + 22 * i.1:Nat):Int))),(11,.data (.int .i64 i.1))],hpL [(0,.blk true [.data (.int .i64 0),.emp 0,.emp 0,.emp 0]),(1,.blk true [.data (.int .i64 nx),.data (.sl 6 (sesss (sessRs l (7) no))),.data (.sl 5 (items (itemRs l (7 + 42 * no) ni))),.data (.sl 3 (locks (lockRs l (7 + 42 * no + 22 * ni) i.1)))])],3,0,144⟩) (fun i=>nl - i.1) ⟨0,by omega⟩ [] (rhoL [(0,some 0),(1,some 1),(2,none)]) ?_ ?_
 · by_cases h0:0 < nl
   · simp only [h0,if_true]
     apply ren_lists <;> simp -implicitDefEqProofs [go_sem,lockRs_zero,locks,flat]
     all_goals trace_state
     all_goals omega
   · simp only [h0,if_false]
     apply ren_lists <;> simp -implicitDefEqProofs [go_sem,lockRs_zero,locks]
     all_goals trace_state
     all_goals omega
 rintro ⟨i,hi⟩
 simp only
 by_cases h:i < nl
 · rw [if_pos h]
   have hsn:=locks_flat_snoc (lockRs l (7 + 42 * no + 22 * ni) i) (lockR l (7 + 42 * no + 22 * ni + 22 * i))
   rw [lockRs_succ] at hsn
   have hsl:(locks (lockRs l (7 + 42 * no + 22 * ni) i)).length = i:=by rw [locks_length,lockRs_length]
   have hfl:(flat (locks (lockRs l (7 + 42 * no + 22 * ni) i))).length = i * 3:=by rw [flat_len (es:=3) (locks_cells _),hsl]
   have hsl2:(locks (lockRs l (7 + 42 * no + 22 * ni) (i + 1))).length = i + 1:=by rw [locks_length,lockRs_length]
   have hnext:7 + 42 * no + 22 * ni + 22 * (i + 1) = (7 + 42 * no + 22 * ni + 22 * i) + 22:=by omega
   have hab:7 + 42 * no + 22 * ni + 22 * i≤100000:=by omega
   generalize hXS:(locks (lockRs l (7 + 42 * no + 22 * ni) i)) = XS at *
   generalize hYS:(locks (lockRs l (7 + 42 * no + 22 * ni) (i + 1))) = YS at *
   generalize 7 + 42 * no + 22 * ni + 22 * i = a at *
   have k0:=user_pc Γ l hl hb a (by omega)
   have k1:=rget_pc Γ l hl hb (a + 17) 1 (by omega) (by omega)
   have l1:getR l (a + 17) 1 < 256:=getR_lt hb (a + 17) 1
   have k2:=rget_pc Γ l hl hb (a + 18) 4 (by omega) (by omega)
   have l2:getR l (a + 18) 4 < 4294967296:=getR_lt hb (a + 18) 4
   simp only [lockR] at hsn
   generalize userR l a = x0 at *
   generalize getR l (a + 17) 1 = x1 at *
   have w1:IntKind.i64.wrap (x1:Int) = x1:=by rw [IntKind.wrap_i64];omega
   generalize getR l (a + 18) 4 = x2 at *
   have w2:IntKind.i64.wrap (x2:Int) = x2:=by rw [IntKind.wrap_i64];omega
   simp -implicitDefEqProofs (disch:=omega) [go_sem,w1,w2]
   refine .inl (call_data k0 (by simp [go_sem]) ?_)
   simp -implicitDefEqProofs (disch:=omega) [go_sem,hfl,w1,w2]
   refine .inl (call_data k1 (by simp [go_sem]) ?_)
   simp -implicitDefEqProofs (disch:=omega) [go_sem,hfl,w1,w2]
   refine .inl (call_data k2 (by simp [go_sem]) ?_)
   simp -implicitDefEqProofs (disch:=omega) [go_sem,hfl,w1,w2]
   refine side (by kernel_rfl) ?_
   simp -implicitDefEqProofs (disch:=omega) [go_sem,w1,w2]
   refine next_ren ⟨i + 1,by omega⟩ (by simp only;omega) (if i + 1 < nl then [] else [23]) (rhoL [(0,some 0),(1,some 1),(2,some 23)]) ?_
   by_cases h1:i + 1 < nl
   · simp only [h1,if_true]
     apply ren_lists <;> simp -implicitDefEqProofs [go_sem,hsn,hYS]
     all_goals first | omega | exact renCells_plain rfl (by simp [plainD]) | trace_state
   · simp only [h1,if_false]
     apply ren_lists <;> simp -implicitDefEqProofs [go_sem,hYS]
     all_goals first | omega | exact frz_ref (rw:=false) (by rfl) (.inr rfl) hsl2 (by rw [<- hYS];exact locks_cells _) hsn.symm | trace_state
 obtain rfl:nl = i:=by omega
 rw [if_neg h]
 simp -implicitDefEqProofs (disch:=omega) [go_sem]
 cases q1 with
 | true =>
   have hR:=hq1.1 rfl
   have hs:=hshort hR
   rw [if_pos rfl] at cb
   have hlen:(padB 2048 (bookB B)).length = 2048:=padB_length hs
   have cr:=row_pc Γ l (padB 2048 (bookB B)) (by omega) (by omega)
   refine .inl (call_data cb (by simp [go_sem]) ?_)
   simp -implicitDefEqProofs (disch:=omega) [go_sem]
   refine .inl (call_data cr (by simp [go_sem]) ?_)
   by_cases h2:l = padB 2048 (bookB B)
   · have hqt:q = true:=hq.2 ⟨hR,h2⟩
     rw [decide_eq_true h2,if_pos hqt]
     simp -implicitDefEqProofs (disch:=omega) [go_sem,Tryz.f64]
   · have hqf:¬ q = true:=fun h=>h2 (hq.1 h).2
     rw [decide_eq_false h2,if_neg hqf]
     simp -implicitDefEqProofs (disch:=omega) [go_sem,Tryz.f64,book,noBook,sesss,items,locks]
     exact ⟨_,⟨_,rfl,frz_aggL (frzL_c ((frz_data _ _ _ _).2 rfl) (frzL_c (.emp 0 6) (frzL_c (.emp 0 5) (frzL_c (.emp 0 3) frzL_n))))⟩,rfl⟩
 | false =>
   have hqf:¬ q = true:=fun h=>by have:=hq1.2 (hq.1 h).1;cases this
   rw [if_neg hqf]
   rw [if_neg (by decide)] at cb
   have cr:=row_pc Γ l [] (by omega) (by simp)
   refine .inl (call_data cb (by simp [go_sem]) ?_)
   simp -implicitDefEqProofs (disch:=omega) [go_sem]
   refine .inl (call_data cr (by simp [go_sem]) ?_)
   simp -implicitDefEqProofs (disch:=omega) [go_sem,Tryz.f64,book,noBook,sesss,items,locks]
   exact ⟨_,⟨_,rfl,frz_aggL (frzL_c ((frz_data _ _ _ _).2 rfl) (frzL_c (.emp 0 6) (frzL_c (.emp 0 5) (frzL_c (.emp 0 3) frzL_n))))⟩,rfl⟩
end
end Bk
namespace Bk
theorem dec_ex (p:Prop):∃ q:Bool,q = true ↔ p:=by
 by_cases h:p
 · exact ⟨true,by simp [h]⟩
 · exact ⟨false,by simp [h]⟩
/-- What stands on a side. -/
def headOf (x:Disk) (i:Int):Int:=if gotE (headP (secAt x i)) = 0∧gotN (headP (secAt x i)) % 2 = i then gotN (headP (secAt x i)) else 0
theorem newTo_two {x:Disk} (h:Dok x.s x.w):newTo x 2 = if headOf x 0 < headOf x 1 then headOf x 1 else headOf x 0:=by
 have h0:=gotN_range (secAt x 0) (secAt_len h (by omega)).2
 have h1:=gotN_range (secAt x 1) (secAt_len h (by omega)).2
 show newTo x (1 + 1) = _
 simp only [newTo,headOf]
 have e0:((0:Nat):Int) = 0:=rfl
 have e1:((1:Nat):Int) = 1:=rfl
 simp only [Nat.zero_add,e0,e1]
 repeat' split
 all_goals omega
section
variable (Γ:Nat->Option (List Data))
theorem rreadHead2_pc (l:List Nat) (hl:l.length≤1000000) (hb:Bytes l):PC Tryz.prog Γ 106 [.sl 1 (bys l)] (.tup [.int .i64 (gotN (headP l)),.int .i64 (gotE (headP l))]):=by
 have c:=rreadHead_pc Γ l hl hb
 have e:=head_same hb
 by_cases hh:HeadIs l
 · rw [if_pos hh] at c e
   rw [Prod.mk.injEq] at e
   rw [<- e.1,<- e.2];exact c
 · rw [if_neg hh] at c e
   rw [Prod.mk.injEq] at e
   rw [<- e.1,<- e.2];exact c
theorem rreadOp2_pc (l:List Nat) (hl:l.length≤1000000) (hb:Bytes l):PC Tryz.prog Γ 65 [.sl 1 (bys l)] (.tup [.int .i64 (gotG (recordP l)).1,.int .i64 (gotG (recordP l)).2.1,op (gotG (recordP l)).2.2,.int .i64 (gotE (recordP l))]):=by
 obtain ⟨q,hq⟩:=dec_ex (RecIs l)
 have c:=rreadOp_pc Γ l hl hb hq
 obtain ⟨e1,e2⟩:=record_same hb hq
 rw [e1,e2]
 cases q with
 | true=>exact c
 | false=>exact c
theorem rreadBook2_pc (l:List Nat) (hl:l.length≤1000000) (hb:Bytes l) (p:Option (Book × List Nat)) (hP:BookPIs l p):PC Tryz.prog Γ 64 [.sl 1 (bys l)] (.tup [book (gotB p),.int .i64 (gotE p)]):=by
 obtain ⟨q,hq⟩:=dec_ex (BookIs l)
 have c:=rreadBook_pc Γ l hl hb hq
 obtain ⟨e1,e2⟩:=book_same hb hP hq
 rw [e1,e2]
 cases q with
 | true=>exact c
 | false=>exact c
theorem rheadOf_pc (x:Disk) (h:Dok x.s x.w) (sd:Int) (hs:0≤sd∧sd≤1):PC Tryz.prog Γ 62 [dk x.s x.w,.int .i64 sd] (.int .i64 (headOf x sd)):=by
 obtain ⟨h1,h2⟩:=secAt_len h (a:=sd) (by omega)
 have hr:=gotN_range (secAt x sd) h2
 exact rhead_pc Γ x h sd hs _ _ ⟨hr.1,hr.2.1⟩ (rreadHead2_pc Γ (secAt x sd) (by omega) h2)
end
end Bk
namespace Bk
/-- The first place,of so many from i on,where it doesn't hold. -/
def upto (P:Nat->Bool):Nat->Nat->Nat
 | 0,i=>i
 | k + 1,i=>if P i = true then upto P k (i + 1) else i
theorem upto_spec (P:Nat->Bool):∀ k i,i≤upto P k i∧upto P k i≤i + k∧(∀ j,i≤j->j < upto P k i->P j = true)∧(upto P k i < i + k->P (upto P k i) = false)
 | 0,i=>⟨Nat.le_refl _,Nat.le_refl _,fun j h1 h2=>absurd h2 (by simp only [upto];omega),fun h=>absurd h (by simp only [upto];omega)⟩
 | k + 1,i=>by
   by_cases h:P i = true
   · have e:upto P (k + 1) i = upto P k (i + 1):=by simp only [upto];rw [if_pos h]
     rw [e]
     obtain ⟨h1,h2,h3,h4⟩:=upto_spec P k (i + 1)
     refine ⟨by omega,by omega,fun j q1 q2=>?_,fun q=>h4 (by omega)⟩
     by_cases hj:j = i
     · rw [hj];exact h
     · exact h3 j (by omega) q2
   · have e:upto P (k + 1) i = i:=by simp only [upto];rw [if_neg h]
     rw [e]
     exact ⟨Nat.le_refl _,by omega,fun j q1 q2=>by omega,fun _=>by simpa using h⟩
/-- What a snapshot's bytes tell. -/
noncomputable def bookPof (l:List Nat):Option (Book × List Nat):=Classical.choose (bookP_ex l)
theorem bookPof_is (l:List Nat):BookPIs l (bookPof l):=Classical.choose_spec (bookP_ex l)
noncomputable def snapOf (x:Disk):Book × Int:=(gotB (bookPof (snapTo x (newTo x 2 % 2) 16)),gotE (bookPof (snapTo x (newTo x 2 % 2) 16)))
/-- How many records count,behind a book. -/
noncomputable def countOf (x:Disk) (gen:Int) (b:Book):Nat:=upto (fun i=>(redoOf x gen i (redoTo x gen b i)).2) 30 0
/-- What is found on a disk. -/
noncomputable def foundOf (x:Disk):Sto × Int :=
 if newTo x 2 = 0 then (noSto,8) else if (snapOf x).2≠0 then (noSto,8) else
  (⟨x,newTo x 2,countOf x (newTo x 2) (snapOf x).1,redoTo x (newTo x 2) (snapOf x).1 (countOf x (newTo x 2) (snapOf x).1),redoTo x (newTo x 2) (snapOf x).1 (countOf x (newTo x 2) (snapOf x).1)⟩,0)
/-- The books that come up while records are read can be worked with. -/
def FineOn (x:Disk):Prop:=∀ i,i≤30->∀ o,Fine (redoTo x (newTo x 2) (snapOf x).1 i) o
theorem gotG_user (l:List Nat) (hb:Bytes l):(gotG (recordP l)).2.2.user.size≤9223372036854775807:=by
 cases h:recordP l with
 | none=>simp [gotG,noOp]
 | some p =>
   obtain ⟨⟨g,s,o⟩,r⟩:=p
   have:=((recordP_iff hb g s o r).1 h).2.1.op.user
   show o.user.size≤_
   omega
section
variable (Γ:Nat->Option (List Data))
theorem found2_pc (x:Disk) (h:Dok x.s x.w) (hF:newTo x 2≠0->(snapOf x).2 = 0->FineOn x):PC Tryz.prog Γ 28 [dk x.s x.w] (.tup [sto (foundOf x).1,.int .i64 (foundOf x).2]):=by
 unfold foundOf
 by_cases h0:newTo x 2 = 0
 · rw [if_pos h0]
   exact foundNone_pc Γ x h h0
 rw [if_neg h0]
 have hr:=newTo_range h 2 (by omega)
 have hsl:=snapTo_len h (side:=newTo x 2 % 2) (by omega) 16 (by omega)
 have cb:=readBook_pc Γ (snapTo x (newTo x 2 % 2) 16) (by rw [hsl.1];omega) hsl.2 _ (bookPof_is _)
 have cs:=snapshotOn_pc Γ x h (newTo x 2 % 2) (by omega) _ cb _ _ rfl
 by_cases h1:(snapOf x).2 = 0
 · rw [if_neg (by simp [h1])]
   have hFx:=hF h0 h1
   obtain ⟨q1,q2,q3,q4⟩:=upto_spec (fun i=>(redoOf x (newTo x 2) i (redoTo x (newTo x 2) (snapOf x).1 i)).2) 30 0
   have cr:=redone_pc Γ x h (newTo x 2) (snapOf x).1 (countOf x (newTo x 2) (snapOf x).1) (by unfold countOf;omega) (fun i hi=>q3 i (Nat.zero_le _) hi) (fun hn=>q4 (by unfold countOf at hn;omega)) (fun i hi o=>hFx i (by unfold countOf at hi;omega) o)
   have h1':gotE (bookPof (snapTo x (newTo x 2 % 2) 16)) = 0:=h1
   rw [h1'] at cs
   exact found_pc Γ x h (newTo x 2) rfl h0 (snapOf x).1 cs _ (hFx _ (by unfold countOf;omega) noOp).s _ cr
 · rw [if_pos h1]
   exact foundBad_pc Γ x h (newTo x 2) rfl h0 _ _ h1 cs
theorem rfound2_pc (x:Disk) (h:Dok x.s x.w) (hF:newTo x 2≠0->(snapOf x).2 = 0->FineOn x∧∀ i,i≤30->Fits (redoTo x (newTo x 2) (snapOf x).1 i)):PC Tryz.prog Γ 29 [dk x.s x.w] (.tup [sto (foundOf x).1,.int .i64 (foundOf x).2]):=by
 unfold foundOf
 have c0:=rheadOf_pc Γ x h 0 (by omega)
 have c1:=rheadOf_pc Γ x h 1 (by omega)
 have hm:=(newTo_two h).symm
 by_cases h0:newTo x 2 = 0
 · rw [if_pos h0]
   exact rfoundNone_pc Γ x _ _ c0 c1 (hm.trans h0)
 rw [if_neg h0]
 have hr:=newTo_range h 2 (by omega)
 have hsl:=snapTo_len h (side:=newTo x 2 % 2) (by omega) 16 (by omega)
 have cb:=rreadBook2_pc Γ (snapTo x (newTo x 2 % 2) 16) (by rw [hsl.1];omega) hsl.2 _ (bookPof_is _)
 by_cases h1:(snapOf x).2 = 0
 · rw [if_neg (by simp [h1])]
   obtain ⟨hFx,hFt⟩:=hF h0 h1
   obtain ⟨q1,q2,q3,q4⟩:=upto_spec (fun i=>(redoOf x (newTo x 2) i (redoTo x (newTo x 2) (snapOf x).1 i)).2) 30 0
   have h1':gotE (bookPof (snapTo x (newTo x 2 % 2) 16)) = 0:=h1
   rw [h1'] at cb
   have hn30:countOf x (newTo x 2) (snapOf x).1≤30:=by unfold countOf;omega
   refine rfound_pc Γ x h _ _ (newTo x 2) c0 c1 hm (by omega) (redoTo x (newTo x 2) (snapOf x).1) (fun i=>(applyOp (redoTo x (newTo x 2) (snapOf x).1 i) (gotG (recordP (secAt x (34 + i)))).2.2).1) cb
    (fun i=>(gotG (recordP (secAt x (34 + i)))).1) (fun i=>(gotG (recordP (secAt x (34 + i)))).2.1) (fun i=>gotE (recordP (secAt x (34 + i)))) (fun i=>(applyOp (redoTo x (newTo x 2) (snapOf x).1 i) (gotG (recordP (secAt x (34 + i)))).2.2).2) (fun i=>(gotG (recordP (secAt x (34 + i)))).2.2)
    (countOf x (newTo x 2) (snapOf x).1) hn30 (fun i hi=>?_) (fun i hi hi2=>?_) (fun i hi=>?_) (fun hn=>?_)
   · obtain ⟨a1,a2⟩:=secAt_len h (a:=34 + i) (by omega)
     exact rreadOp2_pc Γ (secAt x (34 + i)) (by omega) a2
   · obtain ⟨a1,a2⟩:=secAt_len h (a:=34 + i) (by omega)
     have f:=hFx i (by omega) noOp
     exact apply_pc Γ _ _ (hFt i (by omega)) f.n f.s.2.1 f.s.1 f.s.2.2 f.ln (gotG_user _ a2)
   · have hy:=q3 i (Nat.zero_le _) hi
     unfold redoOf at hy
     split at hy
     · rename_i hc
       exact ⟨hc.1,hc.2.1,hc.2.2,by simpa using hy,by
        show (redoOf x (newTo x 2) i (redoTo x (newTo x 2) (snapOf x).1 i)).1 = _
        unfold redoOf
        rw [if_pos hc]⟩
     · simp at hy
   · rintro ⟨a1,a2,a3,a4⟩
     have hz:=q4 (by unfold countOf at hn;omega)
     have hz2:(redoOf x (newTo x 2) (countOf x (newTo x 2) (snapOf x).1) (redoTo x (newTo x 2) (snapOf x).1 (countOf x (newTo x 2) (snapOf x).1))).2 = false:=hz
     unfold redoOf at hz2
     rw [if_pos ⟨a1,a2,a3⟩] at hz2
     simp [a4] at hz2
 · rw [if_pos h1]
   exact rfoundBad_pc Γ x h _ _ (newTo x 2) c0 c1 hm (by omega) _ _ h1 cb
end
end Bk
namespace Bk
def snapB (b:Book):List Nat:=padB 2048 (bookB b)
def headL (g:Int):List Nat:=padB 128 (headB g.toNat)
theorem snap_ok {b:Book} (hr:RightP b) (ht:b.Ty) (g:Int):Snap (g % 2) (snapB b) (headL g) where
 side:=by omega
 len:=padB_length (hr.short (hr.bfit ht))
 lt:=padB_bytes (bookB_bytes (hr.bfit ht))
 hlen:=padB_length (by simp [headB,be_length])
 hlt:=padB_bytes (by unfold headB;simp only [bytes_app];exact ⟨be_bytes _ _,be_bytes _ _,be_bytes _ _⟩)
/-- A store as it may be: its disk,its numbers,its book. -/
structure StoOk (t:Sto):Prop where
 d:Dok t.x.s t.x.w
 w:t.x.w.length≤100
 g:0≤t.gen∧t.gen≤1000000000
 b:RightP t.b
 bt:t.b.Ty
 bs:Short t.b
 bf:Fits t.b
 f:Short t.f
def laidOf (t:Sto):Nat->Disk:=laid t.x ((t.gen + 1) % 2) (snapB t.b) (headL (t.gen + 1))
def checkOf (t:Sto):Sto × Int:=if 1000000000≤t.gen then (t,4) else (⟨laidOf t 19,t.gen + 1,0,t.b,t.b⟩,0)
section
variable (Γ:Nat->Option (List Data))
theorem stepsOk_pc (t:Sto) (h:StoOk t) (hg:t.gen < 1000000000):PC Tryz.prog Γ 47 [sto t] (.tup [.sl 1 (stepsD ((t.gen + 1) % 2) (snapB t.b) (headL (t.gen + 1))),.int .i64 0]):=by
 have cr:=right3_pc Γ t.b h.bf h.bt.i (q:=true) ⟨fun _=>h.b,fun _=>rfl⟩
 have cb:=bookBytes_pc Γ t.b h.bt (q:=true) ⟨fun _=>h.b,fun _=>rfl⟩ cr
 have:=stepsOf_pc Γ t h.g.1 (by have:=h.g.2;omega) true (snapB t.b) (snap_ok h.b h.bt 0).len cb
 unfold ste at this
 rw [if_neg (by omega),if_pos rfl] at this
 exact this
theorem steps2_pc (t:Sto) (h:StoOk t) (hg:t.gen < 1000000000):PC Tryz.prog Γ 20 [sto t] (.sl 2 (disksL (laidOf t) 20)) :=
 steps_pc Γ t h.d h.w _ _ _ (snap_ok h.b h.bt (t.gen + 1)) (stepsOk_pc Γ t h hg)
theorem rsteps2_pc (t:Sto) (h:StoOk t) (hg:t.gen < 1000000000):PC Tryz.prog Γ 21 [sto t] (.sl 2 (disksL (laidOf t) 20)):=by
 have cb:=rbookBytes_pc Γ t.b h.bf h.bt (q:=true) ⟨fun _=>h.b,fun _=>rfl⟩
 rw [if_pos rfl] at cb
 have ch:=rheadBytes_pc Γ (t.gen + 1)
 rw [if_pos (by have:=h.g.1;omega)] at ch
 exact rsteps_pc Γ t h.g.1 hg h.d h.w _ _ _ rfl (snap_ok h.b h.bt (t.gen + 1)) cb ch
theorem check2_pc (t:Sto) (h:StoOk t):PC Tryz.prog Γ 15 [sto t] (.tup [sto (checkOf t).1,.int .i64 (checkOf t).2]):=by
 unfold checkOf
 by_cases hg:1000000000≤t.gen
 · rw [if_pos hg]
   have cr:=right3_pc Γ t.b h.bf h.bt.i (q:=true) ⟨fun _=>h.b,fun _=>rfl⟩
   have cb:=bookBytes_pc Γ t.b h.bt (q:=true) ⟨fun _=>h.b,fun _=>rfl⟩ cr
   have cs:=stepsOf_pc Γ t h.g.1 (by have:=h.g.2;omega) true (snapB t.b) (snap_ok h.b h.bt 0).len cb
   unfold ste at cs
   rw [if_pos hg] at cs
   exact checkNo_pc Γ t h.d h.bs h.f 4 (by omega) cs
 · rw [if_neg hg]
   exact check_pc Γ t h.g.1 (by omega) h.bs h.d h.w _ _ _ (snap_ok h.b h.bt (t.gen + 1)) (stepsOk_pc Γ t h (by omega))
theorem rcheck2_pc (t:Sto) (h:StoOk t):PC Tryz.prog Γ 16 [sto t] (.tup [sto (checkOf t).1,.int .i64 (checkOf t).2]):=by
 unfold checkOf
 by_cases hg:1000000000≤t.gen
 · rw [if_pos hg]
   exact rcheckFull_pc Γ t hg
 · rw [if_neg hg]
   exact rcheck_pc Γ t h.g.1 (by omega) (laidOf t) (rsteps2_pc Γ t h (by omega))
end
end Bk
namespace Bk
noncomputable def doOf (t:Sto) (o:Op):Sto × Int :=
 if 30≤t.seq then (t,4) else if (applyOp t.b o).2≠0 then (t,(applyOp t.b o).2) else
  (⟨wroteTo t.x (34 + t.seq) (padB 128 (recB t.gen t.seq o)),t.gen,t.seq + 1,(applyOp t.b o).1,t.f⟩,0)
def syncOf (t:Sto):Sto:=⟨flushTo t.x,t.gen,t.seq,t.b,t.b⟩
def zeroSto:Sto:=⟨⟨zeroS,[]⟩,0,0,nilBook,nilBook⟩
def formatOf:Sto:=⟨laidOf zeroSto 19,1,0,nilBook,nilBook⟩
/-- A store whose book is closed. -/
def shutOf (t:Sto):Sto:=⟨t.x,t.gen,t.seq,closeOp t.b,closeOp t.f⟩
noncomputable def recoverOf (x:Disk):Sto × Int :=
 if (foundOf x).2≠0 then (noSto,(foundOf x).2) else if (checkOf (shutOf (foundOf x).1)).2≠0 then (noSto,(checkOf (shutOf (foundOf x).1)).2) else checkOf (shutOf (foundOf x).1)
section
variable (Γ:Nat->Option (List Data))
theorem do2_pc (t:Sto) (o:Op) (h:StoOk t) (h0:0≤t.seq) (hF:Fine t.b o) (hr:OpRange o) (hrec:(applyOp t.b o).2 = 0->t.seq < 30->RecP t.gen t.seq o):PC Tryz.prog Γ 13 [sto t,op o] (.tup [sto (doOf t o).1,.int .i64 (doOf t o).2]):=by
 unfold doOf
 by_cases hs:30≤t.seq
 · rw [if_pos hs]
   exact doFull_pc Γ t o h.d h.bs h.f hs
 rw [if_neg hs]
 have ca:=apply2_pc Γ t.b o hF
 unfold out at ca
 by_cases he:(applyOp t.b o).2 = 0
 · rw [if_neg (by simp [he])]
   have hp:=hrec he (by omega)
   have co:=opBytes_pc Γ t.gen t.seq o hr
   rw [if_pos hp] at co
   rw [he] at ca
   exact do_pc Γ t o h.d h.f h0 (by omega) _ ca _ (padB_length (by rw [recB_length (hp.fit hr)];omega)) co
 · rw [if_pos he]
   exact doNo_pc Γ t o h.d h.bs h.f (by omega) _ _ he ca
theorem rdo2_pc (t:Sto) (o:Op) (h:StoOk t) (h0:0≤t.seq) (hF:Fine t.b o) (hr:OpRange o) (hu:o.user.size≤9223372036854775807) (hrec:(applyOp t.b o).2 = 0->t.seq < 30->RecP t.gen t.seq o):PC Tryz.prog Γ 14 [sto t,op o] (.tup [sto (doOf t o).1,.int .i64 (doOf t o).2]):=by
 unfold doOf
 by_cases hs:30≤t.seq
 · rw [if_pos hs]
   exact rdoFull_pc Γ t o hs
 rw [if_neg hs]
 have ca:=apply_pc Γ t.b o h.bf hF.n hF.s.2.1 hF.s.1 hF.s.2.2 hF.ln hu
 unfold out at ca
 by_cases he:(applyOp t.b o).2 = 0
 · rw [if_neg (by simp [he])]
   have hp:=hrec he (by omega)
   have co:=ropBytes_pc Γ t.gen t.seq o hr hu
   rw [if_pos hp] at co
   rw [he] at ca
   exact rdo_pc Γ t o h.d h0 (by omega) _ ca _ (padB_length (by rw [recB_length (hp.fit hr)];omega)) co
 · rw [if_pos he]
   exact rdoNo_pc Γ t o (by omega) _ _ he ca
theorem recover2_pc (x:Disk) (cf:PC Tryz.prog Γ 28 [dk x.s x.w] (.tup [sto (foundOf x).1,.int .i64 (foundOf x).2])) (hok:(foundOf x).2 = 0->StoOk (shutOf (foundOf x).1)) (hb:(foundOf x).2 = 0->PC Tryz.prog Γ 66 [book (foundOf x).1.b] (book (closeOp (foundOf x).1.b)))
 (hf:(foundOf x).2 = 0->PC Tryz.prog Γ 66 [book (foundOf x).1.f] (book (closeOp (foundOf x).1.f))):PC Tryz.prog Γ 30 [dk x.s x.w] (.tup [sto (recoverOf x).1,.int .i64 (recoverOf x).2]):=by
 unfold recoverOf
 by_cases h0:(foundOf x).2 = 0
 · rw [if_neg (by simp [h0])]
   have ck:=check2_pc Γ _ (hok h0)
   rw [h0] at cf
   by_cases h1:(checkOf (shutOf (foundOf x).1)).2 = 0
   · rw [if_neg (by simp [h1])]
     rw [h1] at ck ⊢
     exact recover_pc Γ x _ cf _ _ (hb h0) (hf h0) _ ck
   · rw [if_pos h1]
     exact recoverFull_pc Γ x _ cf _ _ (hb h0) (hf h0) _ _ h1 ck
 · rw [if_pos h0]
   exact recoverNo_pc Γ x _ _ h0 cf
theorem rrecover2_pc (x:Disk) (cf:PC Tryz.prog Γ 29 [dk x.s x.w] (.tup [sto (foundOf x).1,.int .i64 (foundOf x).2])) (hok:(foundOf x).2 = 0->StoOk (shutOf (foundOf x).1)) (hs:(foundOf x).2 = 0->Short (foundOf x).1.f)
 (hb:(foundOf x).2 = 0->PC Tryz.prog Γ 35 [book (foundOf x).1.b] (book (closeOp (foundOf x).1.b))):PC Tryz.prog Γ 31 [dk x.s x.w] (.tup [sto (recoverOf x).1,.int .i64 (recoverOf x).2]):=by
 unfold recoverOf
 by_cases h0:(foundOf x).2 = 0
 · rw [if_neg (by simp [h0])]
   have k:=hok h0
   have hk:StoOk ⟨(foundOf x).1.x,(foundOf x).1.gen,(foundOf x).1.seq,closeOp (foundOf x).1.b,(foundOf x).1.f⟩:=⟨k.d,k.w,k.g,k.b,k.bt,k.bs,k.bf,hs h0⟩
   have ck:=rcheck2_pc Γ _ hk
   rw [h0] at cf
   by_cases hg:1000000000≤(foundOf x).1.gen
   · have e1:checkOf (shutOf (foundOf x).1) = (shutOf (foundOf x).1,4):=if_pos hg
     rw [e1,if_pos (by simp)]
     have e2:checkOf ⟨(foundOf x).1.x,(foundOf x).1.gen,(foundOf x).1.seq,closeOp (foundOf x).1.b,(foundOf x).1.f⟩ = (⟨(foundOf x).1.x,(foundOf x).1.gen,(foundOf x).1.seq,closeOp (foundOf x).1.b,(foundOf x).1.f⟩,4):=if_pos hg
     rw [e2] at ck
     exact rrecoverFull_pc Γ x _ cf _ (hb h0) _ 4 (by omega) ck
   · have e1:checkOf (shutOf (foundOf x).1) = (⟨laidOf (shutOf (foundOf x).1) 19,(foundOf x).1.gen + 1,0,closeOp (foundOf x).1.b,closeOp (foundOf x).1.b⟩,0):=if_neg hg
     rw [e1,if_neg (by simp)]
     have e2:checkOf ⟨(foundOf x).1.x,(foundOf x).1.gen,(foundOf x).1.seq,closeOp (foundOf x).1.b,(foundOf x).1.f⟩ = (⟨laidOf (shutOf (foundOf x).1) 19,(foundOf x).1.gen + 1,0,closeOp (foundOf x).1.b,closeOp (foundOf x).1.b⟩,0):=if_neg hg
     rw [e2] at ck
     exact rrecover_pc Γ x _ cf _ (hb h0) _ ck
 · rw [if_pos h0]
   exact rrecoverNo_pc Γ x _ _ h0 cf
theorem format2_pc (h:StoOk zeroSto):PC Tryz.prog Γ 23 [] (sto formatOf):=format_pc Γ formatOf (check2_pc Γ zeroSto h)
end
end Bk
namespace Bk
theorem renCells_snoc {n:Nat} {ρ:Nat->Option Nat} {H:Nat->Blk} {l:List Data} {x:Data} {d:D} {cs:List D} (e:cs = l.map D.data++[.data x]) (h:Frz false H d x):RenCells n ρ H cs (l.map D.data++[d]):=by
 subst e
 refine ⟨by simp,fun i c e hc he=>?_⟩
 by_cases hi:i < l.length
 · rw [List.getElem?_append_left (by simpa using hi)] at hc he
   rw [hc] at he
   cases he
   rw [List.getElem?_map,Option.map_eq_some_iff] at hc
   obtain ⟨y,_,rfl⟩:=hc
   exact .data y
 · rw [List.getElem?_append_right (by simpa using hi)] at hc he
   cases hk:i - (l.map D.data).length with
   | zero =>
     rw [hk] at hc he
     simp at hc he
     subst hc;subst he
     exact .frz _ _ h
   | succ k=>rw [hk] at hc;simp at hc
section
variable (Γ:Nat->Option (List Data))
set_option maxHeartbeats 2000000 in
theorem rnew_pc:PC Tryz.prog Γ 54 [] (dk zeroS []):=by
 refine pc_by mixed Tryz.func54 rfl (fun args w=>Tryz.call54 args w) ?_
 have h64:zeroS.length = 64:=rfl
 obtain ⟨zs,hzs⟩:∃ zs,zeroS = zs:=⟨_,rfl⟩
 have hget:∀ i,i < 64->zs[i]? = some Go.Proofs.YtjkpeebajibgiaaGreat.noughts:=fun i hi=>by
  rw [<- hzs];show (List.replicate 64 Go.Proofs.YtjkpeebajibgiaaGreat.noughts)[i]? = _;rw [List.getElem?_replicate,if_pos hi]
 rw [hzs] at h64 ⊢
 simp -implicitDefEqProofs (disch:=omega) [go_sem,dk]
 refine loop_ren (σ:={ i:Nat // i≤64 }) (fun i=>⟨envL [(0,.ptr 0 0),(1,.ptr 1 0),(2,.data (.int .i64 i.1))],hpL [(0,.blk true [.emp 0,.emp 0]),(1,.blk true [.ref 2 0 i.1 1,.emp 0]),(2,.blk true (((secs zs).take i.1).map D.data))],3,0,15⟩) (fun i=>64 - i.1) ⟨0,by omega⟩ [] (rhoL [(0,some 0),(1,some 2),(2,none)]) ?_ ?_
 · apply ren_lists <;> simp -implicitDefEqProofs [go_sem]
 · rintro ⟨i,hi⟩
   have hln:((secs zs).take i).length = i:=by simp [secs,h64];omega
   by_cases hlt:i < 64
   · have hs2:(secs zs).take (i + 1) = (secs zs).take i++[sec Go.Proofs.YtjkpeebajibgiaaGreat.noughts]:=by
      rw [List.take_add_one]
      simp [secs,hget i hlt]
     simp -implicitDefEqProofs (disch:=omega) [go_sem,hln,h64]
     refine side (by kernel_rfl) ?_
     simp -implicitDefEqProofs (disch:=omega) [go_sem,hln,h64]
     refine next_ren ⟨i + 1,by omega⟩ (by simp only;omega) [7] (rhoL [(0,some 0),(1,some 1),(2,some 9)]) ?_
     apply ren_lists <;> simp -implicitDefEqProofs [go_sem,hs2]
     rw [<- List.map_take]
     exact renCells_snoc rfl (frz_bys (rw:=false) (l:=Go.Proofs.YtjkpeebajibgiaaGreat.noughts) (by rfl) (.inr rfl) rfl)
   · have:i = 64:=by omega
     subst this
     have ht:(secs zs).take 64 = secs zs:=List.take_of_length_le (by simp [secs,h64])
     simp -implicitDefEqProofs (disch:=omega) [go_sem,ht,Tryz.f54]
     exact ⟨_,⟨_,rfl,frz_aggL (frzL_c (frz_ref (rw:=true) (cells:=(secs zs).map D.data) (by simp [go_sem,ht]) (.inl rfl) (by simp [secs,h64]) (secs_cells _) (by rw [flat_secs])) (frzL_c (.emp 0 2) frzL_n))⟩,rfl⟩
end
end Bk
namespace Bk
theorem nil_right:RightP nilBook:=by
 constructor
 all_goals first
  | (simp [nilBook];done)
  | (unfold OpenOk;simp [nilBook];done)
  | (constructor <;> simp [nilBook])
theorem zero_dok:Dok zeroS [] where
 n:=rfl
 len:=fun b hb=>by rw [List.eq_of_mem_replicate hb];rfl
 lt:=fun b hb x hx=>by
  rw [List.eq_of_mem_replicate hb] at hx
  rw [List.eq_of_mem_replicate hx];omega
 wlen:=fun p hp=>by cases hp
 wat:=fun p hp=>by cases hp
 wlt:=fun p hp=>by cases hp
 wn:=by simp
theorem zero_ok:StoOk zeroSto where
 d:=zero_dok
 w:=by simp [zeroSto]
 g:=by simp [zeroSto]
 b:=nil_right
 bt:=⟨(fun s hs=>by cases hs),(fun s hs=>by cases hs),(fun s hs=>by cases hs)⟩
 bs:=⟨by simp [zeroSto,nilBook],by simp [zeroSto,nilBook],by simp [zeroSto,nilBook]⟩
 bf:=⟨by simp [zeroSto,nilBook],by simp [zeroSto,nilBook],by simp [zeroSto,nilBook],(fun s hs=>by cases hs),fun s hs=>by cases hs⟩
 f:=⟨by simp [zeroSto,nilBook],by simp [zeroSto,nilBook],by simp [zeroSto,nilBook]⟩
section
variable (Γ:Nat->Option (List Data))
theorem format3_pc:PC Tryz.prog Γ 23 [] (sto formatOf):=format2_pc Γ zero_ok
theorem rformat3_pc:PC Tryz.prog Γ 24 [] (sto formatOf):=rformat_pc Γ formatOf (rnew_pc Γ) (rcheck2_pc Γ zeroSto zero_ok)
end
end Bk
namespace Bk
variable (Γ:Nat->Option (List Data))
/-- What closes a session. -/
def clOp (s:Sess):Op:=⟨3,s.id,0,0,s.user,s.inn,s.out,9,0⟩
/-- A book of which so many sessions are closed. -/
noncomputable def closeAt (b:Book):Nat->Book
 | 0=>b
 | i + 1=>(applyOp (closeAt b i) (clOp (b.opn.getD i default))).1
set_option maxHeartbeats 4000000 in
set_option maxRecDepth 100000 in
theorem close2_pc (b:Book) (hs:Short b) (hF:∀ i,i < b.opn.length->Fine (closeAt b i) (clOp (b.opn.getD i default))):PC Tryz.prog Γ 66 [book b] (book (closeAt b b.opn.length)):=by
 refine pc_by mixed Tryz.func66 rfl (fun args w=>Tryz.call66 args w) ?_
 have c0:=copied_oc Γ b hs
 unfold bookD sessBk itemBk lockBk at c0
 obtain ⟨s1,s2,s3⟩:=hs
 simp -implicitDefEqProofs (disch:=omega) [go_sem,book]
 refine .inr (dc_own [] (by simp) c0 (frzL_c ((frz_data _ _ _ _).2 rfl) frzL_n) ?_)
 simp -implicitDefEqProofs (disch:=omega) [go_sem]
 refine loop_ren (σ:={ i:Nat // i≤b.opn.length }) (fun i=>⟨envL [(1,.ptr 0 0),(2,.ptr 1 0),(3,.ptr 2 0),(9,.data (.sl 6 (sesss b.opn))),(10,.data (.int .i64 b.opn.length)),(11,.data (.int .i64 i.1))],hpL [(0,.blk true [.data (.int .i64 b.next),.data (.sl 6 (sesss b.opn)),.data (.sl 5 (items b.items)),.data (.sl 3 (locks b.locks))]),(1,.blk true [.data (.int .i64 0),.emp 0,.emp 0,.emp 0]),(2,.blk true [.data (.int .i64 (closeAt b i.1).next),.data (.sl 6 (sesss (closeAt b i.1).opn)),.data (.sl 5 (items (closeAt b i.1).items)),.data (.sl 3 (locks (closeAt b i.1).locks))])],3,0,31⟩) (fun i=>b.opn.length - i.1) ⟨0,by omega⟩ [3,4,5] (rhoL [(0,some 0),(1,some 1),(2,some 6)]) ?_ ?_
 · apply ren_lists <;> simp -implicitDefEqProofs [go_sem,closeAt]
   exact ⟨fz_sesss (rw:=false) (l:=b.opn) (by simp [go_sem,fz]) (.inr rfl) rfl,fz_items (rw:=false) (l:=b.items) (by simp [go_sem,fz]) (.inr rfl) rfl,fz_locks (rw:=false) (l:=b.locks) (by simp [go_sem,fz]) (.inr rfl) rfl⟩
 rintro ⟨i,hi⟩
 by_cases h:i < b.opn.length
 · have hgd:b.opn.getD i default = b.opn[i]:=by rw [List.getD_eq_getElem?_getD,List.getElem?_eq_getElem h];rfl
   have ha:=apply2_pc Γ (closeAt b i) (clOp (b.opn.getD i default)) (hF i h)
   have hc:closeAt b (i + 1) = (applyOp (closeAt b i) (clOp (b.opn.getD i default))).1:=rfl
   unfold out at ha
   rw [<- hc,hgd] at ha
   generalize (applyOp (closeAt b i) (clOp b.opn[i])).2 = e at ha
   simp -implicitDefEqProofs (disch:=omega) [go_sem]
   refine .inl (call_data ha (by simp [go_sem,book,op,clOp]) ?_)
   simp -implicitDefEqProofs (disch:=omega) [go_sem,book]
   refine next_ren ⟨i + 1,by omega⟩ (by simp only;omega) [] (rhoL [(0,some 0),(1,some 1),(2,some 2)]) ?_
   apply ren_lists <;> simp -implicitDefEqProofs [go_sem]
 obtain rfl:i = b.opn.length:=by omega
 simp -implicitDefEqProofs (disch:=omega) [go_sem,book,Tryz.results66]
end Bk
namespace Bk
theorem ok_u64 {n:Nat} {t:TypeId} {ds:List Data} (hu:Tryz.prog.underlying t = some (.int .u64)) (h:okD Tryz.prog (n + 1) t ds):∃ i:Int,U64 i∧ds = [.int .u64 i]:=by
 obtain ⟨i,h1,h2,rfl⟩:=ok_int hu h
 have e1:IntKind.u64.min = 0:=by decide
 have e2:IntKind.u64.max = 18446744073709551615:=by decide
 exact ⟨i,⟨by omega,by omega⟩,rfl⟩
theorem ok_u32 {n:Nat} {t:TypeId} {ds:List Data} (hu:Tryz.prog.underlying t = some (.int .u32)) (h:okD Tryz.prog (n + 1) t ds):∃ i:Int,(0≤i∧i≤4294967295)∧ds = [.int .u32 i]:=by
 obtain ⟨i,h1,h2,rfl⟩:=ok_int hu h
 have e1:IntKind.u32.min = 0:=by decide
 have e2:IntKind.u32.max = 4294967295:=by decide
 exact ⟨i,⟨by omega,by omega⟩,rfl⟩
theorem ok_text {n:Nat} {t:TypeId} {ds:List Data} (hu:Tryz.prog.underlying t = some .string) (h:okD Tryz.prog (n + 1) t ds):∃ s:ByteArray,s.size≤140737488351232∧ds = [.str s]:=by
 unfold okD at h
 simp only [hu] at h
 obtain ⟨s,rfl,hs⟩:=h
 exact ⟨s,hs,rfl⟩
structure Op.Ty (o:Op):Prop where
 kind:R64 o.kind
 id:R64 o.id
 link:R64 o.link
 addr:0≤o.addr∧o.addr≤4294967295
 user:o.user.size≤140737488351232
 inn:U64 o.inn
 out:U64 o.out
 cause:R64 o.cause
 at_:R64 o.at_
theorem arg_op {n:Nat} {x:Data} (a:argD Tryz.prog (n + 2) 26 x):∃ o:Op,o.Ty∧x = op o:=by
 obtain ⟨ds,rfl,h⟩:=arg_struct Tryz.underlying26 a
 obtain ⟨d1,r1,rfl,h1,h⟩:=okF_cons h
 obtain ⟨d2,r2,rfl,h2,h⟩:=okF_cons h
 obtain ⟨d3,r3,rfl,h3,h⟩:=okF_cons h
 obtain ⟨d4,r4,rfl,h4,h⟩:=okF_cons h
 obtain ⟨d5,r5,rfl,h5,h⟩:=okF_cons h
 obtain ⟨d6,r6,rfl,h6,h⟩:=okF_cons h
 obtain ⟨d7,r7,rfl,h7,h⟩:=okF_cons h
 obtain ⟨d8,r8,rfl,h8,h⟩:=okF_cons h
 obtain ⟨d9,r9,rfl,h9,h⟩:=okF_cons h
 obtain rfl:=okF_nil h
 obtain ⟨i1,a1,b1,rfl⟩:=ok_i64 Tryz.underlying3 h1
 obtain ⟨i2,a2,b2,rfl⟩:=ok_i64 Tryz.underlying3 h2
 obtain ⟨i3,a3,b3,rfl⟩:=ok_i64 Tryz.underlying3 h3
 obtain ⟨i4,a4,rfl⟩:=ok_u32 Tryz.underlying23 h4
 obtain ⟨u,hu,rfl⟩:=ok_text Tryz.underlying9 h5
 obtain ⟨i6,a6,rfl⟩:=ok_u64 Tryz.underlying24 h6
 obtain ⟨i7,a7,rfl⟩:=ok_u64 Tryz.underlying24 h7
 obtain ⟨i8,a8,b8,rfl⟩:=ok_i64 Tryz.underlying3 h8
 obtain ⟨i9,a9,b9,rfl⟩:=ok_i64 Tryz.underlying3 h9
 exact ⟨⟨i1,i2,i3,i4,u,i6,i7,i8,i9⟩,⟨⟨a1,b1⟩,⟨a2,b2⟩,⟨a3,b3⟩,a4,hu,a6,a7,⟨a8,b8⟩,⟨a9,b9⟩⟩,rfl⟩
theorem ok_op {n:Nat} {ds:List Data} (h:okD Tryz.prog (n + 2) 26 ds):∃ o:Op,o.Ty∧ds = (op o).cells:=by
 obtain ⟨o,ho,e⟩:=arg_op (n:=n) (x:=mkE Tryz.prog 26 ds) ⟨ds,rfl,h⟩
 refine ⟨o,ho,?_⟩
 simp only [mkE,Tryz.underlying26] at e
 rw [<- e]
 rfl
end Bk
namespace Bk
variable (Γ:Nat->Option (List Data))
def uU:ByteArray:=⟨#[117]⟩
def s1:Sess:=⟨0,3,167772161,uU,0,0⟩
def b0:Book:=⟨0,[],[],[]⟩
def o0:Op:=⟨1,0,3,167772161,uU,0,0,0,0⟩
def b1:Book:=⟨1,[s1],[⟨1,0,0,0,0⟩],[]⟩
def b2:Book:=⟨1,[],[⟨1,0,0,0,0⟩,⟨3,0,0,0,9⟩],[]⟩
/-- So many are closed. -/
def closedTo (b:Book) (i:Nat):Book:={ b with opn:=b.opn.drop i,items:=b.items++ends (b.opn.take i) }
theorem closeAt_eq {b:Book} (hr:RightP b):∀ i,i≤b.opn.length->closeAt b i = closedTo b i
 | 0,_=>by simp [closeAt,closedTo,ends]
 | i + 1,h=>by
   have hi:i < b.opn.length:=by omega
   have hgd:b.opn.getD i default = b.opn[i]:=by rw [List.getD_eq_getElem?_getD,List.getElem?_eq_getElem hi];rfl
   obtain ⟨⟨q1,q2,_,_,_,qu,_⟩,_⟩:=hr.opens i hi
   have hn:=hr.n1
   unfold nameOk at qu
   have hmay:MayP (clOp b.opn[i]):=by unfold MayP clOp;simp only;omega
   have hd:b.opn.drop i = b.opn[i] :: b.opn.drop (i + 1):=List.drop_eq_getElem_cons hi
   have hid:ofId (closedTo b i) (clOp b.opn[i]).id = 0:=by
    unfold ofId closedTo clOp
    simp only [hd]
    unfold first
    simp
   have hk:(clOp b.opn[i]).kind = 3:=rfl
   unfold closeAt
   rw [closeAt_eq hr i (by omega),hgd]
   unfold applyOp
   rw [if_neg (by simpa using hmay),if_neg (by omega),if_pos (.inr hk)]
   unfold countedOp countedAt
   have e0:(closedTo b i).opn.getD (0:Int).toNat default = b.opn[i]:=by
    show (b.opn.drop i).getD 0 default = b.opn[i]
    rw [hd];rfl
   have e1:¬ (((closedTo b i).opn.getD (0:Int).toNat default).inn > (clOp b.opn[i]).inn ∨ ((closedTo b i).opn.getD (0:Int).toNat default).out > (clOp b.opn[i]).out):=by
    rw [e0]
    show ¬ (b.opn[i].inn > b.opn[i].inn ∨ b.opn[i].out > b.opn[i].out)
    omega
   rw [hid,if_neg (by omega),if_neg e1,if_pos hk]
   simp only [closedTo,hd,clOp,ends_succ _ _ hi]
   simp
theorem fine_close {b:Book} (hr:RightP b) (i:Nat) (h:i < b.opn.length):Fine (closeAt b i) (clOp (b.opn.getD i default)):=by
 have hl:=hr.len
 have hll:=hr.ll
 have h0:=hr.n0
 have h1:=hr.n1
 rw [closeAt_eq hr i (by omega)]
 refine ⟨⟨?_,?_,?_⟩,⟨h0,h1⟩,hll,?_⟩
 · simp [closedTo];omega
 · simp [closedTo,ends];omega
 · simp [closedTo];omega
 · intro l hlk
   obtain ⟨j,hj,rfl⟩:=List.getElem_of_mem (show l∈b.locks from hlk)
   have:=hr.locks j hj
   have h1:=this.n0
   have h2:=this.n1
   omega
theorem close_eq {b:Book} (hr:RightP b):closeAt b b.opn.length = closeOp b:=by
 rw [closeAt_eq hr _ (Nat.le_refl _)]
 simp [closedTo,closeOp]
theorem fine_of {b:Book} (hr:RightP b) (o:Op):Fine b o:=by
 have hl:=hr.len
 refine ⟨⟨by omega,by omega,by have:=hr.ll;omega⟩,⟨hr.n0,hr.n1⟩,hr.ll,fun l hlk=>?_⟩
 obtain ⟨j,hj,rfl⟩:=List.getElem_of_mem hlk
 have:=hr.locks j hj
 have h1:=this.n0
 have h2:=this.n1
 omega
def SessW (s:Sess):Prop:=s.Ty∧s.user.size≤140737488351232
def LockW (s:Lock):Prop:=s.Ty∧s.user.size≤140737488351232
structure WellP (n:Nat) (b:Book):Prop where
 o:b.opn.length≤n
 i:b.items.length≤n
 l:b.locks.length≤n
 os:∀ s∈b.opn,SessW s
 is:∀ x∈b.items,x.Ty
 ls:∀ l∈b.locks,LockW l
theorem WellP.fits {n:Nat} {b:Book} (h:WellP n b) (hn:n≤1000):Fits b:=⟨by have:=h.o;omega,by have:=h.i;omega,by have:=h.l;omega,fun s hs=>(h.os s hs).2,fun s hs=>(h.ls s hs).2⟩
theorem WellP.ty {n:Nat} {b:Book} (h:WellP n b):b.Ty:=⟨fun s hs=>(h.os s hs).1,h.is,fun s hs=>(h.ls s hs).1⟩
theorem WellP.up {n m:Nat} {b:Book} (h:WellP n b) (hn:n≤m):WellP m b:=⟨by have:=h.o;omega,by have:=h.i;omega,by have:=h.l;omega,h.os,h.is,h.ls⟩
theorem app_w {α:Type} {p:α->Prop} {l:List α} {a:α} (h:∀ x∈l,p x) (ha:p a):∀ x∈l++[a],p x:=fun x hx=>by
 rcases List.mem_append.1 hx with hx | hx
 · exact h x hx
 · rw [List.mem_singleton.1 hx];exact ha
theorem cut_w {α:Type} {p:α->Prop} {l:List α} {k:Nat} (h:∀ x∈l,p x):∀ x∈l.take k++l.drop (k + 1),p x:=fun x hx=>by
 rcases List.mem_append.1 hx with hx | hx
 · exact h x (List.mem_of_mem_take hx)
 · exact h x (List.mem_of_mem_drop hx)
theorem set_w {α:Type} {p:α->Prop} {l:List α} {k:Nat} {a:α} (h:∀ x∈l,p x) (ha:p a):∀ x∈l.set k a,p x:=fun x hx=>by
 rcases List.mem_or_eq_of_mem_set hx with hx | rfl
 · exact h x hx
 · exact ha
theorem well_apply {b:Book} {o:Op} (hw:WellP 60 b) (hn:0≤b.next∧b.next≤1000000000) (hln:∀ l∈b.locks,-1000000≤l.n∧l.n≤1000000) (ho:o.Ty):WellP 61 (applyOp b o).1:=by
 have hu:o.user.size≤maxLen:=Nat.le_trans ho.user (by decide)
 have hwu:=hw.up (by omega:60≤61)
 obtain ⟨q1,q2,q3,q4,q5,q6⟩:=hw
 unfold applyOp
 split
 · exact hwu
 split
 · unfold openedOp
   split
   · exact hwu
   split
   · exact hwu
   split
   · exact hwu
   exact ⟨by simp;omega,by simp;omega,by simp;omega,app_w q4 ⟨⟨by constructor <;> simp only <;> omega,ho.link,ho.addr,hu,by constructor <;> simp,by constructor <;> simp⟩,ho.user⟩,app_w q5 ⟨by constructor <;> simp,by constructor <;> simp only <;> omega,by constructor <;> simp,by constructor <;> simp,by constructor <;> simp⟩,q6⟩
 split
 · have hrg:=first_range (fun s:Sess=>decide (s.id = o.id)) b.opn 0
   unfold countedOp countedAt
   change ofId b o.id = -1 ∨ _≤ofId b o.id∧ofId b o.id < _ at hrg
   split
   · exact hwu
   rename_i hk
   have hlt:(ofId b o.id).toNat < b.opn.length:=by omega
   have hgd:b.opn.getD (ofId b o.id).toNat default = b.opn[(ofId b o.id).toNat]:=by rw [List.getD_eq_getElem?_getD,List.getElem?_eq_getElem hlt];rfl
   have hs:=q4 _ (List.getElem_mem hlt)
   split
   · exact hwu
   split
   · exact ⟨by simp;omega,by simp;omega,by simp;omega,cut_w q4,app_w q5 ⟨by constructor <;> simp,ho.id,ho.inn,ho.out,ho.cause⟩,q6⟩
   split
   · exact hwu
   exact ⟨by simp;omega,by simp;omega,by simp;omega,set_w q4 (by rw [hgd];exact ⟨⟨hs.1.id,hs.1.link,hs.1.addr,hs.1.user,ho.inn,ho.out⟩,hs.2⟩),app_w q5 ⟨by constructor <;> simp,ho.id,ho.inn,ho.out,by constructor <;> simp⟩,q6⟩
 split
 · have hrg:=first_range (fun l:Lock=>decide (l.user = o.user)) b.locks 0
   unfold failedOp failedAt
   change failed b o.user = -1 ∨ _≤failed b o.user∧failed b o.user < _ at hrg
   split
   · split
     · exact hwu
     · exact ⟨by simp;omega,by simp;omega,by simp;omega,q4,q5,cut_w q6⟩
   split
   · split
     · exact hwu
     · exact ⟨by simp;omega,by simp;omega,by simp;omega,q4,q5,app_w q6 ⟨⟨hu,by constructor <;> simp,ho.at_⟩,ho.user⟩⟩
   rename_i hk
   have hlt:(failed b o.user).toNat < b.locks.length:=by omega
   have hgd:b.locks.getD (failed b o.user).toNat default = b.locks[(failed b o.user).toNat]:=by rw [List.getD_eq_getElem?_getD,List.getElem?_eq_getElem hlt];rfl
   have hs:=hln _ (List.getElem_mem hlt)
   split
   · exact hwu
   exact ⟨by simp;omega,by simp;omega,by simp;omega,q4,q5,set_w q6 ⟨⟨hu,by rw [hgd];constructor <;> simp only <;> omega,ho.at_⟩,ho.user⟩⟩
 exact ⟨by simp;omega,by have:=List.length_filter_le (fun x:Item=>decide (0≤ofId b x.id)) b.items;simp only [kept];omega,by simp;omega,q4,fun x hx=>q5 x (List.mem_filter.1 hx).1,q6⟩
theorem well_close {b:Book} (hw:WellP 60 b):WellP 120 (closeOp b):=by
 obtain ⟨q1,q2,q3,q4,q5,q6⟩:=hw
 refine ⟨by simp [closeOp],by simp [closeOp,ends];omega,by simp [closeOp];omega,(fun s hs=>by cases hs),fun x hx=>?_,q6⟩
 rcases List.mem_append.1 hx with hx | hx
 · exact q5 x hx
 · obtain ⟨s,hs,rfl⟩:=List.mem_map.1 hx
   have h:=(q4 s hs).1
   exact ⟨by constructor <;> simp,h.id,h.inn,h.out,by constructor <;> simp⟩
end Bk
namespace Bk
/-- What is refused changes nothing. -/
theorem apply_err (b:Book) (o:Op):(applyOp b o).2 = 0 ∨ (applyOp b o).1 = b:=by
 unfold applyOp
 split
 · exact .inr rfl
 split
 · unfold openedOp;repeat' split
   all_goals simp
 split
 · unfold countedOp countedAt;repeat' split
   all_goals simp
 split
 · unfold failedOp failedAt;repeat' split
   all_goals simp
 exact .inl rfl
theorem apply_locks (b:Book) (o:Op) (h:¬ (o.kind = 4 ∨ o.kind = 5)):(applyOp b o).1.locks = b.locks:=by
 unfold applyOp
 split
 · rfl
 split
 · unfold openedOp;repeat' split
   all_goals rfl
 split
 · unfold countedOp countedAt;repeat' split
   all_goals rfl
 first | rfl | exact absurd ‹_› h
theorem failed_is {c:Book} {l:Lock} (hm:l∈c.locks) (hu:∀ x∈c.locks,x.user = l.user->x = l):∃ (k:Nat) (hk:k < c.locks.length),failed c l.user = (k:Int)∧c.locks[k] = l:=by
 rcases first_spec (p:=fun x:Lock=>decide (x.user = l.user)) c.locks 0 with ⟨_,h2⟩ | ⟨j,hj,h1,h2,_⟩
 · exact absurd (h2 l hm) (by simp)
 · exact ⟨j,hj,by unfold failed;rw [h1];simp,hu _ (List.getElem_mem hj) (by simpa using h2)⟩
theorem failed_no {c:Book} {u:ByteArray} (h:∀ x∈c.locks,x.user≠u):failed c u = -1:=first_none fun x hx=>by simpa using h x hx
theorem mem_cut {α:Type} {l:List α} {j:Nat} {x:α} (h:x∈l.take j++l.drop (j + 1)):∃ (m:Nat) (hm:m < l.length),m≠j∧x = l[m]:=by
 rcases List.mem_append.1 h with h | h
 · obtain ⟨i,hi,rfl⟩:=List.getElem_of_mem h
   rw [List.length_take] at hi
   exact ⟨i,by omega,by omega,List.getElem_take⟩
 · obtain ⟨i,hi,rfl⟩:=List.getElem_of_mem h
   rw [List.length_drop] at hi
   exact ⟨j + 1 + i,by omega,by omega,List.getElem_drop⟩
theorem cut_mem {α:Type} {l:List α} {j m:Nat} (hm:m < l.length) (hn:m≠j):l[m]∈l.take j++l.drop (j + 1):=by
 by_cases e:m < j
 · refine List.mem_append_left _ ?_
   rw [show l[m] = (l.take j)[m]'(by rw [List.length_take];omega) from List.getElem_take.symm]
   exact List.getElem_mem _
 · refine List.mem_append_right _ ?_
   have:l[m] = (l.drop (j + 1))[m - (j + 1)]'(by rw [List.length_drop];omega):=by
    rw [List.getElem_drop]
    congr 1
    omega
   rw [this]
   exact List.getElem_mem _
theorem mem_put {α:Type} {l:List α} {j:Nat} {a x:α} (h:x∈l.set j a):x = a ∨ ∃ (m:Nat) (hm:m < l.length),m≠j∧x = l[m]:=by
 obtain ⟨i,hi,rfl⟩:=List.getElem_of_mem h
 rw [List.length_set] at hi
 by_cases e:j = i
 · subst e;exact .inl (List.getElem_set_self _)
 · exact .inr ⟨i,hi,fun h=>e h.symm,List.getElem_set_ne e _⟩
theorem put_mem {α:Type} {l:List α} {j m:Nat} {a:α} (hm:m < l.length) (hn:m≠j):l[m]∈l.set j a:=by
 rw [show l[m] = (l.set j a)[m]'(by rw [List.length_set];omega) from (List.getElem_set_ne (fun h=>hn h.symm) _).symm]
 exact List.getElem_mem _
theorem put_self {α:Type} {l:List α} {j:Nat} {a:α} (hj:j < l.length):a∈l.set j a:=by
 have h:(l.set j a)[j]'(by rw [List.length_set];omega) = a:=List.getElem_set_self _
 exact List.mem_of_getElem h
/-- May a line follow what stood last of its session? -/
def StepOk:Option Item->Item->Prop
 | none,x=>x.kind = 1∧x.inn = 0∧x.out = 0∧x.cause = 0
 | some y,x=>y.kind≠3∧y.inn≤x.inn∧y.out≤x.out∧(x.kind = 2∧x.cause = 0 ∨ x.kind = 3∧0≤x.cause∧x.cause≤255)
/-- The last line of a session. -/
def prev (l:List Item) (id:Int):Option Item:=(l.filter fun x=>decide (x.id = id)).getLast?
theorem prev_snoc (l:List Item) (x:Item) (id:Int):prev (l++[x]) id = if x.id = id then some x else prev l id:=by
 unfold prev
 rw [List.filter_append]
 by_cases h:x.id = id <;> simp [h]
theorem prev_none {l:List Item} {id:Int} (h:∀ x∈l,x.id≠id):prev l id = none:=by
 unfold prev
 rw [List.filter_eq_nil_iff.2 (fun x hx=>by simpa using h x hx)]
 rfl
theorem prev_last (l:List Item) (id:Int):∀ n,n≤l.length->(last l id n = -1∧prev (l.take n) id = none) ∨ ∃ (k:Nat) (hk:k < l.length),k < n∧last l id n = k∧prev (l.take n) id = some l[k]∧l[k].id = id
 | 0,_=>.inl ⟨rfl,rfl⟩
 | n + 1,h=>by
   have hn:n < l.length:=by omega
   rw [last_succ l id n hn,List.take_succ_eq_append_getElem hn,prev_snoc]
   by_cases e:l[n].id = id
   · rw [if_pos e,if_pos e]
     exact .inr ⟨n,hn,by omega,rfl,rfl,e⟩
   · rw [if_neg e,if_neg e]
     rcases prev_last l id n (by omega) with h1 | ⟨k,hk,h1,h2⟩
     · exact .inl h1
     · exact .inr ⟨k,hk,by omega,h2⟩
theorem lineOk_iff (b:Book) (i:Nat) (x:Item) (hi:i≤b.items.length):LineOk b i x ↔ 0≤x.id∧x.id < b.next∧StepOk (prev (b.items.take i) x.id) x:=by
 unfold LineOk LineAt
 rcases prev_last b.items x.id i hi with ⟨h1,h2⟩ | ⟨k,hk,_,h1,h2,_⟩
 · rw [h1,h2]
   unfold StepOk
   constructor
   · rintro ⟨a,c,⟨_,h⟩ | ⟨h,_⟩⟩
     · exact ⟨a,c,h⟩
     · omega
   · rintro ⟨a,c,h⟩
     exact ⟨a,c,.inl ⟨by omega,h⟩⟩
 · rw [h1,h2,Int.toNat_natCast,show b.items.getD k default = b.items[k] by rw [List.getD_eq_getElem?_getD,List.getElem?_eq_getElem hk];rfl]
   unfold StepOk
   constructor
   · rintro ⟨a,c,⟨h,_⟩ | ⟨_,h⟩⟩
     · omega
     · exact ⟨a,c,h⟩
   · rintro ⟨a,c,h⟩
     exact ⟨a,c,.inr ⟨by omega,h⟩⟩
inductive Lines (next:Int):List Item->Prop where
 | nil:Lines next []
 | snoc (l:List Item) (x:Item) (h:Lines next l) (h0:0≤x.id) (h1:x.id < next) (hs:StepOk (prev l x.id) x):Lines next (l++[x])
theorem Lines.up {n m:Int} {l:List Item} (h:Lines n l) (hn:n≤m):Lines m l:=by
 induction h with
 | nil=>exact .nil
 | snoc l x _ h0 h1 hs ih=>exact .snoc l x ih h0 (by omega) hs
theorem Lines.ids {n:Int} {l:List Item} (h:Lines n l):∀ x∈l,0≤x.id∧x.id < n:=by
 induction h with
 | nil=>intro x hx;cases hx
 | snoc l x _ h0 h1 hs ih =>
   intro y hy
   rcases List.mem_append.1 hy with hy | hy
   · exact ih y hy
   · rw [List.mem_singleton.1 hy];exact ⟨h0,h1⟩
theorem Lines.at {n:Int} {l:List Item} (h:Lines n l):∀ (i:Nat) (hi:i < l.length),0≤l[i].id∧l[i].id < n∧StepOk (prev (l.take i) l[i].id) l[i]:=by
 induction h with
 | nil=>intro i hi;simp at hi
 | snoc l x _ h0 h1 hs ih =>
   intro i hi
   by_cases e:i < l.length
   · rw [List.getElem_append_left e,List.take_append_of_le_length (by omega)]
     exact ih i e
   · have:i = l.length:=by simp at hi;omega
     subst this
     rw [List.getElem_append_right (by omega),List.take_append_of_le_length (by omega),List.take_length]
     simpa using ⟨h0,h1,hs⟩
theorem lines_iff (b:Book):(∀ (i:Nat) (h:i < b.items.length),LineOk b i b.items[i]) ↔ Lines b.next b.items:=by
 constructor
 · intro h
   have:∀ n,n≤b.items.length->Lines b.next (b.items.take n):=by
    intro n
    induction n with
    | zero=>intro _;exact .nil
    | succ n ih =>
      intro hn
      have hn2:n < b.items.length:=by omega
      rw [List.take_succ_eq_append_getElem hn2]
      obtain ⟨a,c,d⟩:=(lineOk_iff b n _ (by omega)).1 (h n hn2)
      exact .snoc _ _ (ih (by omega)) a c d
   have:=this b.items.length (Nat.le_refl _)
   rwa [List.take_length] at this
 · intro h i hi
   exact (lineOk_iff b i _ (by omega)).2 (h.at i hi)
structure SessG (next:Int) (s:Sess):Prop where
 id0:0≤s.id
 id1:s.id < next
 l0:0≤s.link
 l1:s.link≤7
 user:nameOk s.user
 addr:poolOk s.addr
structure LockG (l:Lock):Prop where
 user:nameOk l.user
 n0:1≤l.n
 n1:l.n≤255
 t0:0≤l.at_
 t1:l.at_≤1000000000
def SessR (s t:Sess):Prop:=s.id < t.id∧s.link≠t.link∧s.addr≠t.addr
/-- Right,session by session. -/
structure RightL (b:Book):Prop where
 n0:0≤b.next
 n1:b.next≤1000000000
 len:b.items.length + b.opn.length≤60
 ll:b.locks.length≤8
 ord:b.opn.Pairwise SessR
 good:∀ s∈b.opn,SessG b.next s
 lines:Lines b.next b.items
 fin:∀ id y,prev b.items id = some y->(y.kind≠3 ↔ ∃ s∈b.opn,s.id = id)
 opn:∀ s∈b.opn,∃ y,prev b.items s.id = some y∧y.inn = s.inn∧y.out = s.out
 lk:b.locks.Pairwise fun a c=>a.user≠c.user
 lg:∀ l∈b.locks,LockG l
theorem ofId_iff (b:Book) (id:Int):0≤ofId b id ↔ ∃ s∈b.opn,s.id = id:=by
 unfold ofId
 rcases first_spec (p:=fun s:Sess=>decide (s.id = id)) b.opn 0 with ⟨h1,h2⟩ | ⟨j,hj,h1,h2,_⟩
 · rw [h1]
   constructor
   · intro h;omega
   · rintro ⟨s,hs,e⟩
     have:=h2 s hs
     simp [e] at this
 · rw [h1]
   exact ⟨fun _=>⟨_,List.getElem_mem hj,by simpa using h2⟩,fun _=>by omega⟩
theorem ofId_at (b:Book) (id:Int):ofId b id = -1 ∨ ∃ (k:Nat) (hk:k < b.opn.length),ofId b id = k∧b.opn[k].id = id:=by
 unfold ofId
 rcases first_spec (p:=fun s:Sess=>decide (s.id = id)) b.opn 0 with ⟨h1,h2⟩ | ⟨j,hj,h1,h2,_⟩
 · exact .inl h1
 · exact .inr ⟨j,hj,by rw [h1];omega,by simpa using h2⟩
theorem failed_at (b:Book) (u:ByteArray):(failed b u = -1∧∀ l∈b.locks,l.user≠u) ∨ ∃ (k:Nat) (hk:k < b.locks.length),failed b u = k∧b.locks[k].user = u:=by
 unfold failed
 rcases first_spec (p:=fun l:Lock=>decide (l.user = u)) b.locks 0 with ⟨h1,h2⟩ | ⟨j,hj,h1,h2,_⟩
 · exact .inl ⟨h1,fun l hl=>by simpa using h2 l hl⟩
 · exact .inr ⟨j,hj,by rw [h1];omega,by simpa using h2⟩
theorem openOk_ids {b:Book} (h:OpenOk b):∀ (d i:Nat) (hi:i + d + 1 < b.opn.length),(b.opn[i]'(by omega)).id < b.opn[i + d + 1].id
 | 0,i,hi=>by
   have:=(h (i + 1) hi).1.up (by omega)
   rw [Nat.add_sub_cancel,List.getD_eq_getElem?_getD,List.getElem?_eq_getElem (by omega)] at this
   exact this
 | d + 1,i,hi=>by
   have h1:=openOk_ids h d i (by omega)
   have h2:=(h (i + (d + 1) + 1) hi).1.up (by omega)
   rw [Nat.add_sub_cancel,List.getD_eq_getElem?_getD,List.getElem?_eq_getElem (by omega)] at h2
   have e:(b.opn[i + (d + 1)]?.getD default) = b.opn[i + d + 1]'(by omega):=by rw [List.getElem?_eq_getElem (by omega)];rfl
   simp only [Option.getD_some] at h2
   exact Int.lt_trans h1 h2
theorem openOk_iff (b:Book):OpenOk b ↔ b.opn.Pairwise SessR∧∀ s∈b.opn,SessG b.next s:=by
 constructor
 · intro h
   refine ⟨List.pairwise_iff_getElem.2 fun i j hi hj hij=>?_,fun s hs=>?_⟩
   · have h1:=openOk_ids h (j - i - 1) i (by omega)
     have h2:=(h j hj).2 i hij
     have e:i + (j - i - 1) + 1 = j:=by omega
     simp only [e] at h1
     exact ⟨h1,h2⟩
   · obtain ⟨i,hi,rfl⟩:=List.getElem_of_mem hs
     obtain ⟨⟨a1,a2,_,a3,a4,a5,a6⟩,_⟩:=h i hi
     exact ⟨a1,a2,a3,a4,a5,a6⟩
 · rintro ⟨h1,h2⟩ i hi
   rw [List.pairwise_iff_getElem] at h1
   obtain ⟨a1,a2,a3,a4,a5,a6⟩:=h2 _ (List.getElem_mem hi)
   refine ⟨⟨a1,a2,fun h0=>?_,a3,a4,a5,a6⟩,fun k hk=>(h1 k i (by omega) hi hk).2⟩
   rw [List.getD_eq_getElem?_getD,List.getElem?_eq_getElem (by omega)]
   exact (h1 (i - 1) i (by omega) hi (by omega)).1
theorem locks_iff (b:Book):(∀ (i:Nat) (h:i < b.locks.length),LockAt b i h) ↔ (b.locks.Pairwise fun a c=>a.user≠c.user)∧∀ l∈b.locks,LockG l:=by
 constructor
 · intro h
   refine ⟨List.pairwise_iff_getElem.2 fun i j hi hj hij e=>?_,fun l hl=>?_⟩
   · have h1:=(h i hi).f
     have h2:=(h j hj).f
     rw [e,h2] at h1
     omega
   · obtain ⟨i,hi,rfl⟩:=List.getElem_of_mem hl
     obtain ⟨a1,a2,a3,a4,a5,_⟩:=h i hi
     exact ⟨a1,a2,a3,a4,a5⟩
 · rintro ⟨h1,h2⟩ i hi
   rw [List.pairwise_iff_getElem] at h1
   obtain ⟨a1,a2,a3,a4,a5⟩:=h2 _ (List.getElem_mem hi)
   refine ⟨a1,a2,a3,a4,a5,?_⟩
   rcases failed_at b b.locks[i].user with ⟨_,h⟩ | ⟨k,hk,h,e⟩
   · exact absurd rfl (h _ (List.getElem_mem hi))
   · rw [h]
     by_cases c:k < i
     · exact absurd e (h1 k i hk hi c)
     by_cases c2:i < k
     · exact absurd e.symm (h1 i k hi hk c2)
     have:k = i:=by omega
     rw [this]
theorem prev_last_all (b:Book) (id:Int):(last b.items id b.items.length = -1∧prev b.items id = none) ∨ ∃ (k:Nat) (hk:k < b.items.length),last b.items id b.items.length = k∧prev b.items id = some b.items[k]∧b.items[k].id = id:=by
 have:=prev_last b.items id b.items.length (Nat.le_refl _)
 rw [List.take_length] at this
 rcases this with h | ⟨k,hk,_,h⟩
 · exact .inl h
 · exact .inr ⟨k,hk,h⟩
theorem rightL_of {b:Book} (h:RightP b):RightL b:=by
 obtain ⟨o1,o2⟩:=(openOk_iff b).1 h.opens
 obtain ⟨l1,l2⟩:=(locks_iff b).1 h.locks
 refine ⟨h.n0,h.n1,h.len,h.ll,o1,o2,(lines_iff b).1 fun i hi=>(h.items i hi).line,fun id y hy=>?_,fun s hs=>?_,l1,l2⟩
 · rcases prev_last_all b id with ⟨_,e⟩ | ⟨k,hk,e1,e2,e3⟩
   · rw [e] at hy;cases hy
   · rw [e2] at hy
     obtain rfl:=Option.some.inj hy
     have:=(h.items k hk).ends (by rw [e3];exact e1)
     rw [e3,ofId_iff] at this
     by_cases c:b.items[k].kind = 3
     · refine ⟨fun h=>absurd c h,fun h=>absurd ⟨fun _=>c,fun _=>h⟩ this⟩
     · refine ⟨fun _=>?_,fun _=>c⟩
       by_cases g:∃ s∈b.opn,s.id = id
       · exact g
       · exact absurd ⟨fun h=>absurd h g,fun h=>absurd h c⟩ this
 · obtain ⟨i,hi,rfl⟩:=List.getElem_of_mem hs
   obtain ⟨k0,k1,k2⟩:=h.ends i hi
   rcases prev_last_all b b.opn[i].id with ⟨e,_⟩ | ⟨k,hk,e1,e2,e3⟩
   · omega
   · rw [e1,Int.toNat_natCast,List.getD_eq_getElem?_getD,List.getElem?_eq_getElem hk] at k1 k2
     exact ⟨_,e2,k1,k2⟩
theorem rightP_of {b:Book} (h:RightL b):RightP b:=by
 refine ⟨h.n0,h.n1,h.len,h.ll,(openOk_iff b).2 ⟨h.ord,h.good⟩,fun i hi=>⟨(lines_iff b).2 h.lines i hi,fun e=>?_⟩,fun i hi=>?_,(locks_iff b).2 ⟨h.lk,h.lg⟩⟩
 · rcases prev_last_all b b.items[i].id with ⟨c,_⟩ | ⟨k,hk,e1,e2,e3⟩
   · omega
   · rw [e1] at e
     obtain rfl:k = i:=by omega
     have:=h.fin _ _ e2
     rw [ofId_iff]
     rintro ⟨a1,a2⟩
     by_cases c:b.items[k].kind = 3
     · exact this.2 (a2 c) c
     · exact c (a1 (this.1 c))
 · obtain ⟨y,e,q1,q2⟩:=h.opn _ (List.getElem_mem hi)
   rcases prev_last_all b b.opn[i].id with ⟨_,c⟩ | ⟨k,hk,e1,e2,e3⟩
   · rw [e] at c;cases c
   · rw [e] at e2
     obtain rfl:=Option.some.inj e2
     refine ⟨by omega,?_,?_⟩ <;> rw [e1,Int.toNat_natCast,List.getD_eq_getElem?_getD,List.getElem?_eq_getElem hk]
     · exact q1
     · exact q2
theorem right_opened {b:Book} (hr:RightL b) (o:Op) (hm:MayP o):RightL (openedOp b o).1:=by
 unfold openedOp
 split
 · exact hr
 rename_i hp
 split
 · exact hr
 rename_i hb
 split
 · exact hr
 rename_i hf
 dsimp only
 obtain ⟨n0,n1,len,ll,ord,good,lines,fin,opn,lk,lg⟩:=hr
 have hp:poolOk o.addr:=Classical.byContradiction hp
 obtain ⟨_,_,_,_,m5,m6,m7,m8,_⟩:=hm
 have hids:=lines.ids
 have hpn:prev b.items b.next = none:=prev_none fun x hx e=>by have:=(hids x hx).2;omega
 refine ⟨by (try dsimp only);omega,by (try dsimp only);omega,by simp;omega,ll,?_,?_,?_,?_,?_,lk,lg⟩
 · refine List.pairwise_append.2 ⟨ord,List.pairwise_singleton _ _,fun s hs t ht=>?_⟩
   obtain rfl:=List.mem_singleton.1 ht
   obtain ⟨i,hi,rfl⟩:=List.getElem_of_mem hs
   exact ⟨(good _ (List.getElem_mem hi)).id1,fun e=>hb ⟨i,hi,.inl e⟩,fun e=>hb ⟨i,hi,.inr e⟩⟩
 · intro s hs
   rcases List.mem_append.1 hs with hs | hs
   · obtain ⟨a1,a2,a3,a4,a5,a6⟩:=good s hs
     exact ⟨a1,Int.lt_trans a2 (by show b.next < b.next + 1;omega),a3,a4,a5,a6⟩
   · obtain rfl:=List.mem_singleton.1 hs
     exact ⟨n0,by show b.next < b.next + 1;omega,m5,m6,⟨m7,m8⟩,hp⟩
 · refine .snoc _ _ (lines.up (show b.next≤b.next + 1 by omega)) n0 (by show b.next < b.next + 1;omega) ?_
   simp only
   rw [hpn]
   exact ⟨rfl,rfl,rfl,rfl⟩
 · intro id y hy
   simp only [prev_snoc] at hy
   split at hy
   · rename_i e
     obtain rfl:=Option.some.inj hy
     exact ⟨fun _=>⟨_,List.mem_append_right _ (List.mem_singleton_self _),e⟩,fun _=>by simp⟩
   · rename_i e
     rw [fin id y hy]
     constructor
     · rintro ⟨s,hs,e⟩;exact ⟨s,List.mem_append_left _ hs,e⟩
     · rintro ⟨s,hs,e2⟩
       rcases List.mem_append.1 hs with hs | hs
       · exact ⟨s,hs,e2⟩
       · obtain rfl:=List.mem_singleton.1 hs
         exact absurd e2 e
 · intro s hs
   simp only [prev_snoc]
   rcases List.mem_append.1 hs with hs | hs
   · have:=(good s hs).id1
     rw [if_neg (by omega)]
     exact opn s hs
   · obtain rfl:=List.mem_singleton.1 hs
     rw [if_pos rfl]
     exact ⟨_,rfl,rfl,rfl⟩
theorem ord_inj {l:List Sess} (h:l.Pairwise SessR) {i j:Nat} (hi:i < l.length) (hj:j < l.length) (e:l[i].id = l[j].id):i = j:=by
 rw [List.pairwise_iff_getElem] at h
 by_cases c:i < j
 · have:=(h i j hi hj c).1;omega
 by_cases c2:j < i
 · have:=(h j i hj hi c2).1;omega
 omega
theorem right_counted {b:Book} (hr:RightL b) (o:Op) (hm:MayP o) (hk:o.kind = 2 ∨ o.kind = 3):RightL (countedOp b o).1:=by
 unfold countedOp countedAt
 split
 · exact hr
 rename_i hk0
 rcases ofId_at b o.id with h | ⟨k,hlt,hid,hk1⟩
 · omega
 rw [hid] at *
 have hgd:b.opn.getD ((k:Int)).toNat default = b.opn[k]:=by rw [Int.toNat_natCast,List.getD_eq_getElem?_getD,List.getElem?_eq_getElem hlt];rfl
 rw [hgd,Int.toNat_natCast]
 split
 · exact hr
 rename_i hge
 have hr0:=hr
 obtain ⟨n0,n1,len,ll,ord,good,lines,fin,opn,lk,lg⟩:=hr
 have hs:=good _ (List.getElem_mem hlt)
 obtain ⟨y,hy,hy1,hy2⟩:=opn _ (List.getElem_mem hlt)
 have hyk:y.kind≠3:=(fin _ y hy).2 ⟨_,List.getElem_mem hlt,rfl⟩
 rw [hk1] at hy
 obtain ⟨_,_,m3,m4,m5,m6,m7,m8,m9,m10,m11,m12⟩:=hm
 have hother:∀ {s:Sess},s∈b.opn.take k++b.opn.drop (k + 1)->s∈b.opn∧s.id≠o.id:=fun {s} hs=>by
  obtain ⟨m,hm,hne,rfl⟩:=mem_cut hs
  exact ⟨List.getElem_mem hm,fun e=>hne (ord_inj ord hm hlt (by rw [e,hk1]))⟩
 split
 · have hsub:List.Sublist (b.opn.take k++b.opn.drop (k + 1)) b.opn:=by
    rw [<- List.eraseIdx_eq_take_drop_succ];exact List.eraseIdx_sublist _ _
   refine ⟨n0,n1,by simp;omega,ll,ord.sublist hsub,fun s hs=>good s (hsub.subset hs),?_,?_,?_,lk,lg⟩
   · refine .snoc _ _ lines (by (try dsimp only);omega) (by have:=hs.id1;simp only;omega) ?_
     simp only
     rw [hy]
     exact ⟨hyk,by (try dsimp only);omega,by (try dsimp only);omega,.inr ⟨rfl,by (try dsimp only);omega⟩⟩
   · intro id z hz
     simp only [prev_snoc] at hz
     split at hz
     · rename_i e
       obtain rfl:=Option.some.inj hz
       refine ⟨fun h=>absurd rfl h,?_⟩
       rintro ⟨s,hs,e2⟩
       exact absurd (e2.trans e.symm) (hother hs).2
     · rename_i e
       rw [fin id z hz]
       constructor
       · rintro ⟨s,hs,e2⟩
         obtain ⟨j,hj,rfl⟩:=List.getElem_of_mem hs
         exact ⟨_,cut_mem hj (fun c=>by subst c;exact e (by (try dsimp only);omega)),e2⟩
       · rintro ⟨s,hs,e2⟩
         exact ⟨s,(hother hs).1,e2⟩
   · intro s hs
     obtain ⟨h1,h2⟩:=hother hs
     simp only [prev_snoc]
     rw [if_neg (fun e=>h2 e.symm)]
     exact opn s h1
 split
 · exact hr0
 rename_i hne hroom
 have hmap:∀ s:Sess,s∈b.opn.set k { b.opn[k] with inn:=o.inn,out:=o.out }->s = { b.opn[k] with inn:=o.inn,out:=o.out } ∨ (s∈b.opn∧s.id≠o.id):=fun s hs=>by
  rcases mem_put hs with rfl | ⟨m,hm,hne,rfl⟩
  · exact .inl rfl
  · exact .inr ⟨List.getElem_mem hm,fun e=>hne (ord_inj ord hm hlt (by rw [e,hk1]))⟩
 refine ⟨n0,n1,by simp;omega,ll,?_,?_,?_,?_,?_,lk,lg⟩
 · rw [List.pairwise_iff_getElem] at ord ⊢
   intro i j hi hj hij
   rw [List.length_set] at hi hj
   have:=ord i j hi hj hij
   unfold SessR at *
   rw [List.getElem_set,List.getElem_set]
   repeat' split
   all_goals subst_vars
   all_goals exact this
 · intro s hs
   rcases hmap s hs with rfl | ⟨h,_⟩
   · obtain ⟨a1,a2,a3,a4,a5,a6⟩:=good _ (List.getElem_mem hlt)
     exact ⟨a1,a2,a3,a4,a5,a6⟩
   · exact good s h
 · refine .snoc _ _ lines (by (try dsimp only);omega) (by have:=hs.id1;simp only;omega) ?_
   simp only
   rw [hy]
   exact ⟨hyk,by (try dsimp only);omega,by (try dsimp only);omega,.inl ⟨rfl,rfl⟩⟩
 · intro id z hz
   simp only [prev_snoc] at hz
   split at hz
   · rename_i e
     obtain rfl:=Option.some.inj hz
     refine ⟨fun _=>⟨_,put_self hlt,?_⟩,fun _=>by simp⟩
     simp only at e ⊢
     omega
   · rename_i e
     rw [fin id z hz]
     constructor
     · rintro ⟨s,hs,e2⟩
       obtain ⟨j,hj,rfl⟩:=List.getElem_of_mem hs
       exact ⟨_,put_mem hj (fun c=>by subst c;exact e (by (try dsimp only);omega)),e2⟩
     · rintro ⟨s,hs,e2⟩
       rcases hmap s hs with rfl | ⟨h,_⟩
       · simp only at e e2
         exact absurd (by omega) e
       · exact ⟨s,h,e2⟩
 · intro s hs
   simp only [prev_snoc]
   rcases hmap s hs with rfl | ⟨h,h2⟩
   · rw [if_pos (by (try dsimp only);omega)]
     exact ⟨_,rfl,rfl,rfl⟩
   · rw [if_neg (fun e=>h2 e.symm)]
     exact opn s h
theorem right_failed {b:Book} (hr:RightL b) (o:Op) (hm:MayP o):RightL (failedOp b o).1:=by
 unfold failedOp failedAt
 obtain ⟨_,_,m3,m4,m5,m6,m7,m8,m9,m10,m11,m12⟩:=hm
 have hr0:=hr
 obtain ⟨n0,n1,len,ll,ord,good,lines,fin,opn,lk,lg⟩:=hr
 rcases failed_at b o.user with ⟨h,hno⟩ | ⟨k,hlt,hid,hk1⟩
 · rw [h]
   split
   · exact hr0
   rw [if_pos (by omega)]
   split
   · exact hr0
   rename_i hk hf
   refine ⟨n0,n1,len,by simp;omega,ord,good,lines,fin,opn,?_,?_⟩
   · refine List.pairwise_append.2 ⟨lk,List.pairwise_singleton _ _,fun s hs t ht=>?_⟩
     obtain rfl:=List.mem_singleton.1 ht
     exact hno s hs
   · intro l hl
     rcases List.mem_append.1 hl with hl | hl
     · exact lg l hl
     · obtain rfl:=List.mem_singleton.1 hl
       exact ⟨⟨m7,m8⟩,by simp,by simp,m9,m10⟩
 rw [hid]
 split
 · have hsub:List.Sublist (b.locks.take k++b.locks.drop (k + 1)) b.locks:=by
    rw [<- List.eraseIdx_eq_take_drop_succ];exact List.eraseIdx_sublist _ _
   rw [if_neg (by omega),Int.toNat_natCast]
   exact ⟨n0,n1,len,by simp;omega,ord,good,lines,fin,opn,lk.sublist hsub,fun l hl=>lg l (hsub.subset hl)⟩
 rw [if_neg (by omega),Int.toNat_natCast,List.getD_eq_getElem?_getD,List.getElem?_eq_getElem hlt,Option.getD_some]
 split
 · exact hr0
 obtain ⟨a1,a2,a3,a4,a5⟩:=lg _ (List.getElem_mem hlt)
 refine ⟨n0,n1,len,by simpa using ll,ord,good,lines,fin,opn,?_,?_⟩
 · rw [List.pairwise_iff_getElem] at lk ⊢
   intro i j hi hj hij
   rw [List.length_set] at hi hj
   have:=lk i j hi hj hij
   rw [List.getElem_set,List.getElem_set]
   repeat' split
   all_goals subst_vars
   · omega
   · exact fun e=>this (hk1.trans e)
   · exact fun e=>this (e.trans hk1.symm)
   · exact this
 · intro l hl
   rcases mem_put hl with rfl | ⟨m,hm,hne,rfl⟩
   · exact ⟨⟨m7,m8⟩,by (try dsimp only);omega,by (try dsimp only);omega,m9,m10⟩
   · exact lg _ (List.getElem_mem hm)
/-- Lines of some sessions,of all of them. -/
theorem prev_kept (q:Int->Bool) (id:Int):∀ l:List Item,prev (l.filter fun x=>q x.id) id = if q id then prev l id else none:=by
 intro l
 unfold prev
 rw [List.filter_filter]
 by_cases h:q id
 · rw [if_pos h]
   congr 1
   refine List.filter_congr fun x _=>?_
   by_cases e:x.id = id
   · simp [e,h]
   · simp [e]
 · rw [if_neg h,List.filter_eq_nil_iff.2]
   · rfl
   · intro x _
     by_cases e:x.id = id
     · simp [e,h]
     · simp [e]
theorem lines_kept {n:Int} {l:List Item} (q:Int->Bool) (h:Lines n l):Lines n (l.filter fun x=>q x.id):=by
 induction h with
 | nil=>exact .nil
 | snoc l x _ h0 h1 hs ih =>
   rw [List.filter_append]
   by_cases e:q x.id
   · rw [show [x].filter (fun x=>q x.id) = [x] by simp [e]]
     refine .snoc _ _ ih h0 h1 ?_
     rw [prev_kept,if_pos e]
     exact hs
   · rw [show [x].filter (fun x=>q x.id) = [] by simp [e],List.append_nil]
     exact ih
theorem right_trim {b:Book} (hr:RightL b):RightL { b with items:=kept b b.items }:=by
 obtain ⟨n0,n1,len,ll,ord,good,lines,fin,opn,lk,lg⟩:=hr
 refine ⟨n0,n1,?_,ll,ord,good,?_,?_,?_,lk,lg⟩
 · have:(kept b b.items).length≤b.items.length:=List.length_filter_le _ _
   simp only
   omega
 · exact lines_kept (fun id=>decide (0≤ofId b id)) lines
 · intro id y hy
   have hk:=prev_kept (fun id=>decide (0≤ofId b id)) id b.items
   have hy:prev (b.items.filter fun x=>decide (0≤ofId b x.id)) id = some y:=hy
   rw [hk] at hy
   split at hy
   · exact fin id y hy
   · cases hy
 · intro s hs
   have hk:=prev_kept (fun id=>decide (0≤ofId b id)) s.id b.items
   rw [if_pos (by simpa using (ofId_iff b s.id).2 ⟨s,hs,rfl⟩)] at hk
   show ∃ y,prev (b.items.filter fun x=>decide (0≤ofId b x.id)) s.id = some y∧y.inn = s.inn∧y.out = s.out
   rw [hk]
   exact opn s hs
/-- What comes of a right book is right. -/
theorem rightL_apply {b:Book} (hr:RightL b) (o:Op):RightL (applyOp b o).1:=by
 unfold applyOp
 split
 · exact hr
 rename_i hm
 have hm:MayP o:=Classical.byContradiction hm
 split
 · exact right_opened hr o hm
 split
 · exact right_counted hr o hm ‹_›
 split
 · exact right_failed hr o hm
 exact right_trim hr
theorem right_apply {b:Book} (hr:RightP b) (o:Op):RightP (applyOp b o).1:=rightP_of (rightL_apply (rightL_of hr) o)
theorem right_closeAt {b:Book} (hr:RightP b):∀ i,RightP (closeAt b i)
 | 0=>hr
 | i + 1=>right_apply (right_closeAt hr i) _
theorem right_close {b:Book} (hr:RightP b):RightP (closeOp b):=close_eq hr ▸ right_closeAt hr _
/-- How many hold an address below. -/
def below (l:List Sess) (a:Int):Nat:=l.countP fun s=>decide (s.addr < a)
/-- Who had failed,behind an op. -/
theorem counts {b:Book} (hr:RightP b) (o:Op) (i:Nat) (hi:i < b.locks.length) :
 ((applyOp b o).2 = 0∧o.kind = 5∧o.user = b.locks[i].user∧failed (applyOp b o).1 b.locks[i].user = -1) ∨
 ((applyOp b o).2 = 0∧o.kind = 4∧o.user = b.locks[i].user∧∃ (k:Nat) (hk:k < (applyOp b o).1.locks.length),failed (applyOp b o).1 b.locks[i].user = (k:Int)∧(applyOp b o).1.locks[k].n = min (b.locks[i].n + 1) 255∧(applyOp b o).1.locks[k].at_ = o.at_) ∨
 (¬ ((applyOp b o).2 = 0∧o.kind = 5∧o.user = b.locks[i].user)∧¬ ((applyOp b o).2 = 0∧o.kind = 4∧o.user = b.locks[i].user)∧∃ (k:Nat) (hk:k < (applyOp b o).1.locks.length),failed (applyOp b o).1 b.locks[i].user = (k:Int)∧(applyOp b o).1.locks[k] = b.locks[i]):=by
 have hL:=rightL_of hr
 have hR:=rightL_of (right_apply hr o)
 have huni:∀ {l:List Lock} (h:l.Pairwise fun a c=>a.user≠c.user) {x y:Lock},x∈l->y∈l->x.user = y.user->x = y:=fun {l} h {x y} hx hy e=>by
  obtain ⟨m,hm,rfl⟩:=List.getElem_of_mem hx
  obtain ⟨n,hn,rfl⟩:=List.getElem_of_mem hy
  rw [List.pairwise_iff_getElem] at h
  by_cases c:m < n
  · exact absurd e (h m n hm hn c)
  by_cases c2:n < m
  · exact absurd e.symm (h n m hn hm c2)
  have:m = n:=by omega
  subst this;rfl
 have hstays:b.locks[i]∈(applyOp b o).1.locks->∃ (k:Nat) (hk:k < (applyOp b o).1.locks.length),failed (applyOp b o).1 b.locks[i].user = (k:Int)∧(applyOp b o).1.locks[k] = b.locks[i]:=fun hm=>failed_is hm fun x hx e=>huni hR.lk hx hm e
 by_cases hk:o.kind = 4 ∨ o.kind = 5
 rotate_left
 · exact .inr (.inr ⟨fun h=>hk (.inr h.2.1),fun h=>hk (.inl h.2.1),hstays (by rw [apply_locks b o hk];exact List.getElem_mem hi)⟩)
 by_cases he:(applyOp b o).2 = 0
 rotate_left
 · refine .inr (.inr ⟨fun h=>he h.1,fun h=>he h.1,hstays ?_⟩)
   rcases apply_err b o with h | h
   · exact absurd h he
   · rw [h];exact List.getElem_mem hi
 by_cases hu:o.user = b.locks[i].user
 · -- the user's own
   have hmay:MayP o:=Classical.byContradiction fun c=>by
    unfold applyOp at he
    rw [if_pos c] at he
    simp at he
   have hap:applyOp b o = failedOp b o:=by
    unfold applyOp
    rw [if_neg (by simpa using hmay),if_neg (by omega),if_neg (by omega),if_pos hk]
   rcases failed_at b o.user with ⟨h,hno⟩ | ⟨k,hlt,hid,hk1⟩
   · exact absurd hu.symm (hno _ (List.getElem_mem hi))
   have hki:k = i:=by
    have h1:=hL.lk
    rw [List.pairwise_iff_getElem] at h1
    by_cases c:k < i
    · exact absurd (hk1.trans hu) (h1 k i hlt hi c)
    by_cases c2:i < k
    · exact absurd (hk1.trans hu).symm (h1 i k hi hlt c2)
    omega
   subst hki
   rcases hk with hk | hk
   · right;left
     refine ⟨he,hk,hu,?_⟩
     rw [hap] at he hR ⊢
     unfold failedOp failedAt at he hR ⊢
     rw [hid,if_neg (by omega),if_neg (by omega),Int.toNat_natCast,List.getD_eq_getElem?_getD,List.getElem?_eq_getElem hlt,Option.getD_some] at he hR ⊢
     by_cases hg:b.locks[k].at_ > o.at_
     · rw [if_pos hg] at he;simp at he
     rw [if_neg hg] at hR ⊢
     have hm:=put_self (l:=b.locks) (a:=⟨o.user,min 255 (b.locks[k].n + 1),o.at_⟩) hlt
     obtain ⟨j,hj,h1,h2⟩:=failed_is (c:={ b with locks:=b.locks.set k ⟨o.user,min 255 (b.locks[k].n + 1),o.at_⟩ }) hm fun x hx e=>huni hR.lk hx hm e
     refine ⟨j,hj,by rw [<- hu];exact h1,?_,?_⟩
     · simp only
       simp only at h2
       rw [h2]
       simp only
       omega
     · simp only
       simp only at h2
       rw [h2]
   · left
     refine ⟨he,hk,hu,?_⟩
     rw [hap] at he ⊢
     unfold failedOp failedAt at he ⊢
     rw [if_pos hk,hid,if_neg (by omega),Int.toNat_natCast]
     refine failed_no fun x hx e=>?_
     obtain ⟨m,hm,hne,rfl⟩:=mem_cut hx
     have h1:=hL.lk
     rw [List.pairwise_iff_getElem] at h1
     by_cases c:m < k
     · exact h1 m k hm hlt c e
     · exact h1 k m hlt hm (by omega) e.symm
 · refine .inr (.inr ⟨fun h=>hu h.2.2,fun h=>hu h.2.2,hstays ?_⟩)
   unfold applyOp
   split
   · exact List.getElem_mem hi
   split
   · omega
   split
   · omega
   unfold failedOp failedAt
   rcases failed_at b o.user with ⟨h,hno⟩ | ⟨k,hlt,hid,hk1⟩
   · rw [h]
     repeat' split
     all_goals first | exact List.getElem_mem hi | exact List.mem_append_left _ (List.getElem_mem hi) | omega
   have hne:i≠k:=fun c=>by subst c;exact hu hk1.symm
   rw [hid]
   split
   · rw [if_neg (by omega),Int.toNat_natCast]
     exact cut_mem hi hne
   rw [if_neg (by omega),Int.toNat_natCast]
   split
   · exact List.getElem_mem hi
   · exact put_mem hi hne
end Bk
namespace Bk
theorem opfit_ty {o:Op} (h:OpFit o):o.Ty:=by
 obtain ⟨h1,h2,h3,h4,h5,h6,h7,h8,h9⟩:=h
 unfold Fit at h1 h2 h3 h4 h6 h7 h8 h9
 refine ⟨?_,?_,?_,?_,?_,?_,?_,?_,?_⟩
 all_goals first | (unfold R64;omega) | (unfold U64;omega) | (unfold maxLen;omega) | omega
theorem op_range {o:Op} (h:o.Ty):OpRange o:=by
 have h1:=h.addr
 have h2:=h.inn
 have h3:=h.out
 unfold U64 at h2 h3
 exact ⟨⟨h1.1,by omega⟩,⟨h2.1,by omega⟩,⟨h3.1,by omega⟩⟩
theorem noop_ty:noOp.Ty:=by
 refine ⟨?_,?_,?_,?_,?_,?_,?_,?_,?_⟩ <;> first | (unfold R64;decide) | (unfold U64;decide) | decide
/-- A book that is right,and typed. -/
structure GB (b:Book):Prop where
 r:RightP b
 w:WellP 60 b
theorem gb_of {b:Book} (hr:RightP b) {n:Nat} (hw:WellP n b):GB b:=⟨hr,by have:=hr.len;omega,by have:=hr.len;omega,by have:=hr.ll;omega,hw.os,hw.is,hw.ls⟩
theorem GB.fits {b:Book} (h:GB b):Fits b:=h.w.fits (by omega)
theorem GB.ty {b:Book} (h:GB b):b.Ty:=h.w.ty
theorem GB.short {b:Book} (h:GB b):Short b:=⟨by have:=h.w.o;omega,by have:=h.w.i;omega,by have:=h.w.l;omega⟩
theorem GB.fine {b:Book} (h:GB b) (o:Op):Fine b o:=fine_of h.r o
theorem gb_apply {b:Book} (h:GB b) {o:Op} (ho:o.Ty):GB (applyOp b o).1 :=
 gb_of (right_apply h.r o) (well_apply h.w ⟨h.r.n0,h.r.n1⟩ (h.fine o).ln ho)
theorem gb_close {b:Book} (h:GB b):GB (closeOp b):=gb_of (right_close h.r) (well_close h.w)
theorem gb_nil:GB nilBook:=gb_of nil_right (n:=60) ⟨by decide,by decide,by decide,by simp [nilBook],by simp [nilBook],by simp [nilBook]⟩
theorem bookfit_ty {b:Book} (h:BookFit b):WellP 256 b:=by
 refine ⟨by have:=h.nopn;omega,by have:=h.nitems;omega,by have:=h.nlocks;omega,fun s hs=>⟨?_,by have:=(h.opn s hs).user;omega⟩,fun x hx=>?_,fun l hl=>⟨?_,by have:=(h.locks l hl).user;omega⟩⟩
 · obtain ⟨h1,h2,h3,h4,h5,h6⟩:=h.opn s hs
   unfold Fit at h1 h2 h3 h5 h6
   refine ⟨?_,?_,?_,?_,?_,?_⟩
   all_goals first | (unfold R64;omega) | (unfold U64;omega) | (unfold maxLen;omega) | omega
 · obtain ⟨h1,h2,h3,h4,h5⟩:=h.items x hx
   unfold Fit at h1 h2 h3 h4 h5
   refine ⟨?_,?_,?_,?_,?_⟩
   all_goals first | (unfold R64;omega) | (unfold U64;omega) | omega
 · obtain ⟨h1,h2,h3⟩:=h.locks l hl
   unfold Fit at h2 h3
   refine ⟨?_,?_,?_⟩
   all_goals first | (unfold R64;omega) | (unfold maxLen;omega) | omega
theorem gb_snap {l:List Nat} (hb:Bytes l) {p:Option (Book × List Nat)} (hP:BookPIs l p) (he:gotE p = 0):GB (gotB p):=by
 cases p with
 | none=>simp [gotE] at he
 | some x =>
   obtain ⟨b,r⟩:=x
   obtain ⟨h1,h2,h3⟩:=(hP b r).1 rfl
   exact gb_of h2 (bookfit_ty ((bookQ_iff hb b r).1 h1).2.2)
theorem gotG_ty {l:List Nat} (hb:Bytes l):(gotG (recordP l)).2.2.Ty:=by
 cases h:recordP l with
 | none=>exact noop_ty
 | some p =>
   obtain ⟨⟨g,s,o⟩,r⟩:=p
   exact opfit_ty ((recordP_iff hb g s o r).1 h).2.1.op
theorem gb_redo {x:Disk} (h:Dok x.s x.w) (gen:Int) {b:Book} (hb:GB b):∀ i,i≤30->GB (redoTo x gen b i)
 | 0,_=>hb
 | i + 1,hi=>by
   have ih:=gb_redo h gen hb i (by omega)
   obtain ⟨_,hl⟩:=secAt_len h (a:=34 + (i:Int)) (by omega)
   show GB (redoOf x gen i (redoTo x gen b i)).1
   unfold redoOf
   split
   · exact gb_apply ih (gotG_ty hl)
   · exact gb_nil
theorem gb_snapOf {x:Disk} (h:Dok x.s x.w) (h0:newTo x 2≠0) (h1:(snapOf x).2 = 0):GB (snapOf x).1:=by
 have hr:=newTo_range h 2 (by omega)
 have hsl:=snapTo_len h (side:=newTo x 2 % 2) (by omega) 16 (by omega)
 exact gb_snap hsl.2 (bookPof_is _) h1
theorem fineOn {x:Disk} (h:Dok x.s x.w) (h0:newTo x 2≠0) (h1:(snapOf x).2 = 0):FineOn x∧∀ i,i≤30->Fits (redoTo x (newTo x 2) (snapOf x).1 i) :=
 ⟨fun i hi o=>(gb_redo h _ (gb_snapOf h h0 h1) i hi).fine o,fun i hi=>(gb_redo h _ (gb_snapOf h h0 h1) i hi).fits⟩
/-- A store that may be. -/
structure GS (t:Sto):Prop where
 d:Dok t.x.s t.x.w
 w:t.x.w.length≤100
 g:0≤t.gen∧t.gen≤1000000000
 q:0≤t.seq∧t.seq≤30
 b:GB t.b
 f:GB t.f
theorem GS.ok {t:Sto} (h:GS t):StoOk t:=⟨h.d,h.w,h.g,h.b.r,h.b.ty,h.b.short,h.b.fits,h.f.short⟩
theorem gs_found {x:Disk} (h:Dok x.s x.w) (hw:x.w.length≤100) (h0:(foundOf x).2 = 0):GS (foundOf x).1:=by
 unfold foundOf at h0 ⊢
 by_cases h1:newTo x 2 = 0
 · rw [if_pos h1] at h0;simp at h0
 rw [if_neg h1] at h0 ⊢
 by_cases h2:(snapOf x).2 = 0
 · rw [if_neg (by simp [h2])]
   have hr:=newTo_range h 2 (by omega)
   have hc:=(upto_spec (fun i=>(redoOf x (newTo x 2) i (redoTo x (newTo x 2) (snapOf x).1 i)).2) 30 0).2.1
   have hc30:countOf x (newTo x 2) (snapOf x).1≤30:=by unfold countOf;omega
   have hg:=gb_redo h (newTo x 2) (gb_snapOf h h1 h2) (countOf x (newTo x 2) (snapOf x).1) hc30
   exact ⟨h,hw,hr,⟨by simp only;omega,by simp only;omega⟩,hg,hg⟩
 · rw [if_pos h2] at h0;simp at h0
theorem gs_shut {t:Sto} (h:GS t):GS (shutOf t):=⟨h.d,h.w,h.g,h.q,gb_close h.b,gb_close h.f⟩
section
variable (Γ:Nat->Option (List Data))
theorem found3_pc (x:Disk) (h:Dok x.s x.w):PC Tryz.prog Γ 28 [dk x.s x.w] (.tup [sto (foundOf x).1,.int .i64 (foundOf x).2]):=found2_pc Γ x h fun h0 h1=>(fineOn h h0 h1).1
theorem rfound3_pc (x:Disk) (h:Dok x.s x.w):PC Tryz.prog Γ 29 [dk x.s x.w] (.tup [sto (foundOf x).1,.int .i64 (foundOf x).2]):=rfound2_pc Γ x h fun h0 h1=>fineOn h h0 h1
theorem bclose_pc {b:Book} (h:GB b):PC Tryz.prog Γ 66 [book b] (book (closeOp b)):=by
 have:=close2_pc Γ b h.short (fine_close h.r)
 rwa [close_eq h.r] at this
theorem rclose_pc {b:Book} (h:GB b):PC Tryz.prog Γ 35 [book b] (book (closeOp b)):=close_pc Γ b h.fits (by have:=h.w.i;have:=h.w.o;omega)
theorem recover3_pc (x:Disk) (h:Dok x.s x.w) (hw:x.w.length≤100):PC Tryz.prog Γ 30 [dk x.s x.w] (.tup [sto (recoverOf x).1,.int .i64 (recoverOf x).2]) :=
 recover2_pc Γ x (found3_pc Γ x h) (fun h0=>(gs_shut (gs_found h hw h0)).ok) (fun h0=>bclose_pc Γ (gs_found h hw h0).b) (fun h0=>bclose_pc Γ (gs_found h hw h0).f)
theorem rrecover3_pc (x:Disk) (h:Dok x.s x.w) (hw:x.w.length≤100):PC Tryz.prog Γ 31 [dk x.s x.w] (.tup [sto (recoverOf x).1,.int .i64 (recoverOf x).2]) :=
 rrecover2_pc Γ x (rfound3_pc Γ x h) (fun h0=>(gs_shut (gs_found h hw h0)).ok) (fun h0=>(gs_found h hw h0).f.short) (fun h0=>rclose_pc Γ (gs_found h hw h0).b)
end
end Bk
namespace Bk
/-- An act: what kind,what is done,what a crash keeps. -/
structure Act6 where
 kind:Int
 o:Op
 keep:List Bool
def actL (a:Act6):List Data:=.int .i64 a.kind :: (opData a.o++[.sl 1 (bools a.keep)])
def act6 (a:Act6):Data:=.agg (actL a)
def acts6 (l:List Act6):List Data:=l.map act6
@[go_sem] theorem acts6_length (l:List Act6):(acts6 l).length = l.length:=by simp [acts6]
@[go_sem] theorem acts6_get (l:List Act6) (i:Nat):(acts6 l)[i]? = (l[i]?).map act6:=by simp [acts6]
@[go_sem] theorem act6_cells (a:Act6):(act6 a).cells = [.int .i64 a.kind,.int .i64 a.o.kind,.int .i64 a.o.id,.int .i64 a.o.link,.int .u32 a.o.addr,.str a.o.user,.int .u64 a.o.inn,.int .u64 a.o.out,.int .i64 a.o.cause,.int .i64 a.o.at_,.sl 1 (bools a.keep)]:=rfl
section
variable (Γ:Nat->Option (List Data))
theorem oneDo_pc (t u:Sto) (a:Act6) (hk:a.kind = 0) (e:Int) (c:PC Tryz.prog Γ 14 [sto t,op a.o] (.tup [sto u,.int .i64 e])):PC Tryz.prog Γ 37 [sto t,act6 a] (sto u):=by
 refine pc_by mixed Tryz.func37 rfl (fun args w=>Tryz.call37 args w) ?_
 unfold op at c
 unfold act6 actL opData
 unfold sto bookL at *
 simp -implicitDefEqProofs (disch:=omega) [go_sem,hk]
 refine .inl (call_data c (by simp [go_sem]) ?_)
 simp -implicitDefEqProofs (disch:=omega) [go_sem,Tryz.f37]
theorem oneSync_pc (t u:Sto) (a:Act6) (hk:a.kind = 1) (c:PC Tryz.prog Γ 19 [sto t] (sto u)):PC Tryz.prog Γ 37 [sto t,act6 a] (sto u):=by
 refine pc_by mixed Tryz.func37 rfl (fun args w=>Tryz.call37 args w) ?_
 unfold act6 actL opData
 unfold sto bookL at *
 simp -implicitDefEqProofs (disch:=omega) [go_sem,hk]
 refine .inl (call_data c (by simp [go_sem]) ?_)
 simp -implicitDefEqProofs (disch:=omega) [go_sem,Tryz.f37]
theorem oneCheck_pc (t u:Sto) (a:Act6) (hk:a.kind = 2) (e:Int) (c:PC Tryz.prog Γ 16 [sto t] (.tup [sto u,.int .i64 e])):PC Tryz.prog Γ 37 [sto t,act6 a] (sto u):=by
 refine pc_by mixed Tryz.func37 rfl (fun args w=>Tryz.call37 args w) ?_
 unfold act6 actL opData
 unfold sto bookL at *
 simp -implicitDefEqProofs (disch:=omega) [go_sem,hk]
 refine .inl (call_data c (by simp [go_sem]) ?_)
 simp -implicitDefEqProofs (disch:=omega) [go_sem,Tryz.f37]
theorem oneCrash_pc (t u:Sto) (a:Act6) (hk:a.kind = 3) (x:Disk) (e:Int) (c:PC Tryz.prog Γ 33 [dk t.x.s t.x.w,.sl 1 (bools a.keep)] (dk x.s x.w)) (r:PC Tryz.prog Γ 31 [dk x.s x.w] (.tup [sto u,.int .i64 e])):PC Tryz.prog Γ 37 [sto t,act6 a] (if e = 0 then sto u else sto t):=by
 refine pc_by mixed Tryz.func37 rfl (fun args w=>Tryz.call37 args w) ?_
 unfold act6 actL opData
 unfold sto bookL at *
 unfold dk at *
 by_cases he:e = 0
 · rw [if_pos he]
   simp -implicitDefEqProofs (disch:=omega) [go_sem,hk]
   refine .inl (call_data c (by simp [go_sem]) ?_)
   simp -implicitDefEqProofs (disch:=omega) [go_sem]
   refine .inl (call_data r (by simp [go_sem]) ?_)
   simp -implicitDefEqProofs (disch:=omega) [go_sem,he,Tryz.f37]
 · rw [if_neg he]
   simp -implicitDefEqProofs (disch:=omega) [go_sem,hk]
   refine .inl (call_data c (by simp [go_sem]) ?_)
   simp -implicitDefEqProofs (disch:=omega) [go_sem]
   refine .inl (call_data r (by simp [go_sem]) ?_)
   simp -implicitDefEqProofs (disch:=omega) [go_sem,he,Tryz.f37]
theorem oneElse_pc (t:Sto) (a:Act6) (h0:a.kind≠0) (h1:a.kind≠1) (h2:a.kind≠2) (h3:a.kind≠3):PC Tryz.prog Γ 37 [sto t,act6 a] (sto t):=by
 refine pc_by mixed Tryz.func37 rfl (fun args w=>Tryz.call37 args w) ?_
 unfold act6 actL opData
 unfold sto bookL at *
 simp -implicitDefEqProofs (disch:=omega) [go_sem,h0,h1,h2,h3,Tryz.f37]
set_option maxHeartbeats 1000000 in
theorem run6_pc (l:List Act6) (hl:l.length≤1000000) (T:Nat->Sto) (cf:PC Tryz.prog Γ 24 [] (sto (T 0))) (co:∀ (i:Nat) (h:i < l.length),PC Tryz.prog Γ 37 [sto (T i),act6 l[i]] (sto (T (i + 1)))) :
 PC Tryz.prog Γ 12 [.sl 11 (acts6 l)] (sto (T l.length)):=by
 refine pc_by mixed Tryz.func12 rfl (fun args w=>Tryz.call12 args w) ?_
 unfold sto bookL at *
 simp -implicitDefEqProofs (disch:=omega) [go_sem]
 refine .inl (call_data cf (by simp [go_sem]) ?_)
 simp -implicitDefEqProofs (disch:=omega) [go_sem]
 refine loop_ren (σ:={ i:Nat // i≤l.length }) (fun i=>⟨envL [(0,.data (.sl 11 (acts6 l))),(2,.ptr 1 0),(3,.ptr 0 0),(4,.data (.int .i64 i.1))],hpL [(0,.blk true ([.sl 1 (secs (T i.1).x.s),.sl 2 (wrs (T i.1).x.w),.int .i64 (T i.1).gen,.int .i64 (T i.1).seq,.int .i64 (T i.1).b.next,.sl 6 (sesss (T i.1).b.opn),.sl 5 (items (T i.1).b.items),.sl 3 (locks (T i.1).b.locks),.int .i64 (T i.1).f.next,.sl 6 (sesss (T i.1).f.opn),.sl 5 (items (T i.1).f.items),.sl 3 (locks (T i.1).f.locks)].map D.data)),
  (1,.blk true [.emp 0,.emp 0,.data (.int .i64 0),.data (.int .i64 0),.data (.int .i64 0),.emp 0,.emp 0,.emp 0,.data (.int .i64 0),.emp 0,.emp 0,.emp 0])],2,0,19⟩) (fun i=>l.length - i.1) ⟨0,by omega⟩ [] (rhoL [(0,some 2),(1,some 0)]) ?_ ?_
 · apply ren_lists <;> simp -implicitDefEqProofs [go_sem]
 · rintro ⟨i,hi⟩
   by_cases hlt:i < l.length
   · have c:=co i hlt
     unfold act6 actL opData at c
     simp -implicitDefEqProofs (disch:=omega) [go_sem]
     refine .inl (call_data c (by simp [go_sem,act6,actL,opData]) ?_)
     simp -implicitDefEqProofs (disch:=omega) [go_sem]
     refine side (by kernel_rfl) ?_
     simp -implicitDefEqProofs (disch:=omega) [go_sem]
     refine next_ren ⟨i + 1,by omega⟩ (by simp only;omega) [] (rhoL [(0,some 0),(1,some 1)]) ?_
     apply ren_lists <;> simp -implicitDefEqProofs [go_sem]
   · have:i = l.length:=by omega
     subst this
     simp -implicitDefEqProofs (disch:=omega) [go_sem,Tryz.f12]
end
end Bk
namespace Bk
def FewP (l:List Act6) (most:Int):Prop:=(l.length:Int)≤most∧∀ (i:Nat) (h:i < l.length),l[i].o.user.size≤50∧l[i].keep.length≤60
section
variable (Γ:Nat->Option (List Data))
set_option maxHeartbeats 1000000 in
theorem few_pc (l:List Act6) (most:Int) (hl:l.length≤140737488351232) {q:Bool} (hq:q = true ↔ FewP l most):PC Tryz.prog Γ 11 [.sl 11 (acts6 l),.int .i64 most] (.bool q):=by
 refine pc_by mixed Tryz.func11 rfl (fun args w=>Tryz.call11 args w) ?_
 have no:¬ FewP l most->q = false:=fun h=>by
  cases q
  · rfl
  · exact absurd (hq.1 rfl) h
 by_cases h0:most < l.length
 · rw [no fun h=>by have:=h.1;omega]
   simp -implicitDefEqProofs (disch:=omega) [go_sem,Tryz.f11]
 simp -implicitDefEqProofs (disch:=omega) [go_sem]
 refine loop_ren (σ:={ i:Nat // i≤l.length∧∀ (j:Nat) (h:j < l.length),j < i->l[j].o.user.size≤50∧l[j].keep.length≤60 }) (fun i=>⟨envL [(0,.data (.sl 11 (acts6 l))),(5,.data (.int .i64 i.1))],hpL [],0,0,33⟩) (fun i=>l.length - i.1) ⟨0,by omega,fun j _ h=>absurd h (Nat.not_lt_zero _)⟩ [] (rhoL []) ?_ ?_
 · apply ren_lists <;> simp -implicitDefEqProofs [go_sem]
 · rintro ⟨i,hi,hall⟩
   by_cases hlt:i < l.length
   · by_cases c1:l[i].o.user.size≤50
     · by_cases c2:l[i].keep.length≤60
       · simp -implicitDefEqProofs (disch:=omega) [go_sem]
         refine next_ren ⟨i + 1,by omega,fun j h hj=>?_⟩ (by simp only;omega) [] (rhoL []) ?_
         · by_cases e:j = i
           · subst e;exact ⟨c1,c2⟩
           · exact hall j h (by omega)
         apply ren_lists <;> simp -implicitDefEqProofs [go_sem]
       · rw [no fun h=>c2 (h.2 i hlt).2]
         simp -implicitDefEqProofs (disch:=omega) [go_sem,Tryz.f11]
     · rw [no fun h=>c1 (h.2 i hlt).1]
       simp -implicitDefEqProofs (disch:=omega) [go_sem,Tryz.f11]
   · have yes:q = true:=hq.2 ⟨by omega,fun j h=>hall j h (by omega)⟩
     rw [yes]
     simp -implicitDefEqProofs (disch:=omega) [go_sem,Tryz.f11]
/-- How many of the first are true. -/
def leadOf:List Bool->Nat
 | true :: l=>leadOf l + 1
 | _=>0
theorem leadOf_le:∀ l,leadOf l≤l.length
 | []=>Nat.le_refl _
 | true :: l=>by simp only [leadOf,List.length_cons];have:=leadOf_le l;omega
 | false :: l=>by simp [leadOf]
theorem leadOf_yes:∀ (l:List Bool) (i:Nat) (h:i < l.length),i < leadOf l->l[i] = true
 | true :: l,0,_,_=>rfl
 | true :: l,i + 1,h,hi=>by
   simp only [leadOf] at hi
   exact leadOf_yes l i (by simpa using h) (by omega)
 | false :: l,i,_,hi=>by simp [leadOf] at hi
theorem leadOf_no:∀ (l:List Bool) (h:leadOf l < l.length),l[leadOf l] = false
 | true :: l,h=>by
   simp only [leadOf,List.length_cons] at h
   have:=leadOf_no l (by omega)
   simpa [leadOf] using this
 | false :: l,_=>rfl
theorem lead_pc (k:List Bool) (hk:k.length≤140737488351232):PC Tryz.prog Γ 32 [.sl 1 (bools k)] (.int .i64 (leadOf k)):=by
 refine pc_by mixed Tryz.func32 rfl (fun args w=>Tryz.call32 args w) ?_
 have hle:=leadOf_le k
 have hy:=leadOf_yes k
 have hz:=leadOf_no k
 generalize leadOf k = n at *
 simp -implicitDefEqProofs (disch:=omega) [go_sem]
 refine loop_ren (σ:={ i:Nat // i≤n }) (fun i=>⟨envL [(0,.data (.sl 1 (bools k))),(3,.data (.int .i64 i.1))],hpL [],0,0,17⟩) (fun i=>n - i.1) ⟨0,by omega⟩ [] (rhoL []) ?_ ?_
 · apply ren_lists <;> simp -implicitDefEqProofs [go_sem]
 · rintro ⟨i,hi⟩
   by_cases hlt:i < n
   · have e:=hy i (by omega) hlt
     have hik:i < k.length:=by omega
     simp -implicitDefEqProofs (disch:=omega) [go_sem,e]
     refine next_ren ⟨i + 1,by omega⟩ (by simp only;omega) [] (rhoL []) ?_
     apply ren_lists <;> simp -implicitDefEqProofs [go_sem]
   · have:i = n:=by omega
     subst this
     by_cases hik:i < k.length
     · have e:=hz hik
       simp -implicitDefEqProofs (disch:=omega) [go_sem,e,Tryz.f32]
     · simp -implicitDefEqProofs (disch:=omega) [go_sem,Tryz.f32]
end
end Bk
namespace Bk
def recL (g s:Int) (o:Op):List Nat:=padB 128 (recB g s o)
/-- No record of this generation,nor of a later one. -/
def NoRec (g:Int) (l:List Nat):Prop:=∀ (g' s:Nat) (o:Op) (r:List Nat),recordP l = some ((g',s,o),r)->(g':Int) < g
theorem NoRec.up {g g2:Int} {l:List Nat} (h:NoRec g l) (hg:g≤g2):NoRec g2 l:=fun g' s o r e=>by have:=h g' s o r e;omega
theorem noRec_rec {g s:Int} {o:Op} (h:RecP g s o) (hr:OpRange o):NoRec (g + 1) (recL g s o):=fun g' s' o' r e=>by
 unfold recL at e
 rw [record_back h hr] at e
 simp only [Option.some.injEq,Prod.mk.injEq] at e
 have:=h.1.1
 omega
theorem noRec_zero (g:Int):NoRec g (List.replicate 128 0):=fun g' s o r e=>by
 have:recordP (List.replicate 128 0) = none:=by kernel_rfl
 rw [this] at e;cases e
theorem head_back {g:Int} (h:1≤g∧g≤1000000000):headP (headL g) = some (g.toNat,List.replicate 122 0):=by
 have hb:Bytes (headL g):=padB_bytes (by unfold headB;simp only [bytes_app];exact ⟨be_bytes _ _,be_bytes _ _,be_bytes _ _⟩)
 exact (headP_iff hb g.toNat _).2 ⟨by omega,rfl,rfl⟩
theorem headOf_head {x:Disk} {g:Int} (h:1≤g∧g≤1000000000) (e:secAt x (g % 2) = headL g):headOf x (g % 2) = g:=by
 unfold headOf
 rw [e,head_back h]
 simp only [gotN,gotE]
 rw [if_pos ⟨trivial,by omega⟩]
 omega
theorem headOf_congr {x y:Disk} {i:Int} (h:secAt y i = secAt x i):headOf y i = headOf x i:=by unfold headOf;rw [h]
/-- The book behind ops. -/
noncomputable def bookAt (b:Book) (ops:List Op):Book:=ops.foldl (fun b o=>(applyOp b o).1) b
theorem bookAt_snoc (b:Book) (ops:List Op) (o:Op):bookAt b (ops++[o]) = (applyOp (bookAt b ops) o).1:=by simp [bookAt,List.foldl_append]
theorem bookAt_take (b:Book) (ops:List Op) (i:Nat) (h:i < ops.length):bookAt b (ops.take (i + 1)) = (applyOp (bookAt b (ops.take i)) ops[i]).1:=by
 rw [List.take_add_one,List.getElem?_eq_getElem h,Option.toList_some,bookAt_snoc]
/-- Ops that can be done,one behind the other. -/
structure Chain (b:Book) (ops:List Op):Prop where
 ok:∀ (i:Nat) (h:i < ops.length),(applyOp (bookAt b (ops.take i)) ops[i]).2 = 0
 ty:∀ o∈ops,o.Ty
theorem Chain.nil (b:Book):Chain b []:=⟨fun i h=>absurd h (by simp),fun o h=>by cases h⟩
theorem Chain.take {b:Book} {ops:List Op} (h:Chain b ops) (n:Nat):Chain b (ops.take n):=by
 refine ⟨fun i hi=>?_,fun o ho=>h.ty o (List.mem_of_mem_take ho)⟩
 have h1:i < ops.length:=by rw [List.length_take] at hi;omega
 have h2:=h.ok i h1
 rw [List.take_take,Nat.min_eq_left (by rw [List.length_take] at hi;omega),List.getElem_take]
 exact h2
theorem Chain.snoc {b:Book} {ops:List Op} {o:Op} (h:Chain b ops) (h1:(applyOp (bookAt b ops) o).2 = 0) (ho:o.Ty):Chain b (ops++[o]):=by
 refine ⟨fun i hi=>?_,fun x hx=>?_⟩
 · by_cases e:i < ops.length
   · have h2:=h.ok i e
     rw [List.take_append_of_le_length (by omega),List.getElem_append_left e]
     exact h2
   · have e2:i = ops.length:=by rw [List.length_append,List.length_singleton] at hi;omega
     subst e2
     rw [List.take_append_of_le_length (Nat.le_refl _),List.take_length]
     simpa using h1
 · rcases List.mem_append.1 hx with q | q
   · exact h.ty x q
   · rw [List.mem_singleton.1 q];exact ho
theorem may_of_ok {b:Book} {o:Op} (h:(applyOp b o).2 = 0):MayP o:=Classical.byContradiction fun hn=>by
 unfold applyOp at h
 rw [if_pos hn] at h
 simp at h
theorem Chain.may {b:Book} {ops:List Op} (h:Chain b ops) (i:Nat) (hi:i < ops.length):MayP ops[i]:=may_of_ok (h.ok i hi)
theorem gb_bookAt {b:Book} (hb:GB b):∀ {ops:List Op},(∀ o∈ops,o.Ty)->GB (bookAt b ops):=by
 intro ops
 unfold bookAt
 induction ops generalizing b with
 | nil=>intro _;exact hb
 | cons o l ih=>intro h;exact ih (gb_apply hb (h o (by simp))) fun x hx=>h x (by simp [hx])
/-- What stands on a disk: this generation's snapshot,and so many records behind it. -/
structure On (x:Disk) (g:Int) (b:Book) (ops:List Op):Prop where
 d:Dok x.s x.w
 gg:1≤g∧g≤1000000000
 n:ops.length≤30
 head:secAt x (g % 2) = headL g
 other:headOf x ((g + 1) % 2) < g
 snap:∀ i:Nat,i < 16->secAt x (2 + g % 2 * 16 + i) = chunk (snapB b) i
 recs:∀ (i:Nat) (h:i < ops.length),secAt x (34 + (i:Int)) = recL g i ops[i]
 stop:ops.length < 30->NoRec g (secAt x (34 + (ops.length:Int)))
 old:∀ i:Nat,i < 30->NoRec (g + 1) (secAt x (34 + (i:Int)))
theorem On.congr {x y:Disk} {g:Int} {b:Book} {ops:List Op} (h:On x g b ops) (hd:Dok y.s y.w) (e:∀ a:Int,0≤a->a < 64->(a < 2 + (g + 1) % 2 * 16 ∨ 18 + (g + 1) % 2 * 16≤a)->secAt y a = secAt x a):On y g b ops where
 d:=hd
 gg:=h.gg
 n:=h.n
 head:=by rw [e _ (by omega) (by omega) (by omega)];exact h.head
 other:=by rw [headOf_congr (e _ (by omega) (by omega) (by omega))];exact h.other
 snap:=fun i hi=>by rw [e _ (by omega) (by omega) (by omega)];exact h.snap i hi
 recs:=fun i hi=>by have:=h.n;rw [e _ (by omega) (by omega) (by omega)];exact h.recs i hi
 stop:=fun hi=>by rw [e _ (by omega) (by omega) (by omega)];exact h.stop hi
 old:=fun i hi=>by rw [e _ (by omega) (by omega) (by omega)];exact h.old i hi
theorem On.newTo {x:Disk} {g:Int} {b:Book} {ops:List Op} (h:On x g b ops):Bk.newTo x 2 = g:=by
 have h1:=headOf_head h.gg h.head
 have h2:=h.other
 rw [newTo_two h.d]
 have hg:=h.gg
 rcases (by omega:g % 2 = 0 ∨ g % 2 = 1) with e | e
 · have e2:(g + 1) % 2 = 1:=by omega
   rw [e] at h1;rw [e2] at h2
   rw [if_neg (by omega)];exact h1
 · have e2:(g + 1) % 2 = 0:=by omega
   rw [e] at h1;rw [e2] at h2
   rw [if_pos (by omega)];exact h1
theorem snap_all {x:Disk} {side:Int} {l:List Nat} (h:∀ i:Nat,i < 16->secAt x (2 + side * 16 + i) = chunk l i):∀ i,i≤16->snapTo x side i = l.take (i * 128)
 | 0,_=>by simp [snapTo]
 | i + 1,hi=>by
   show snapTo x side i++secAt x (2 + side * 16 + i) = _
   rw [snap_all h i (by omega),h i (by omega)]
   unfold chunk
   have:=List.take_append_drop (i * 128) (l.take ((i + 1) * 128))
   rw [List.take_take,Nat.min_eq_left (by omega)] at this
   exact this
theorem snapB_len {b:Book} (h:GB b):(snapB b).length = 2048:=padB_length (h.r.short (h.r.bfit h.ty))
theorem bookPof_snap {b:Book} (h:GB b):bookPof (snapB b) = some (b,List.replicate (2048 - (bookB b).length) 0):=by
 have hf:=h.r.bfit h.ty
 exact (bookPof_is (snapB b) b _).2 ⟨book_back hf (h.r.short hf),h.r,fun x hx=>List.eq_of_mem_replicate hx⟩
theorem On.snapOf {x:Disk} {g:Int} {b:Book} {ops:List Op} (h:On x g b ops) (hb:GB b):Bk.snapOf x = (b,0):=by
 unfold Bk.snapOf
 rw [h.newTo,snap_all h.snap 16 (Nat.le_refl _),List.take_of_length_le (by rw [snapB_len hb];omega),bookPof_snap hb]
 rfl
theorem rec_at {x:Disk} {g:Int} {b:Book} {ops:List Op} (h:On x g b ops) (hc:Chain b ops) (i:Nat) (hi:i < ops.length):recordP (secAt x (34 + (i:Int))) = some ((g.toNat,i,ops[i]),List.replicate 73 0):=by
 rw [h.recs i hi]
 have hn:=h.n
 have:=record_back (g:=g) (s:=(i:Int)) (o:=ops[i]) ⟨h.gg,by omega,hc.may i hi⟩ (op_range (hc.ty _ (List.getElem_mem hi)))
 rw [Int.toNat_natCast] at this
 exact this
theorem redo_take {x:Disk} {g:Int} {b:Book} {ops:List Op} (h:On x g b ops) (hc:Chain b ops):∀ i,i≤ops.length->redoTo x g b i = bookAt b (ops.take i)
 | 0,_=>by simp [redoTo,bookAt]
 | i + 1,hi=>by
   have ih:=redo_take h hc i (by omega)
   have hg:=h.gg
   show (redoOf x g i (redoTo x g b i)).1 = _
   unfold redoOf
   rw [rec_at h hc i (by omega)]
   simp only [gotE,gotG]
   rw [if_pos ⟨trivial,by omega,trivial⟩,ih,bookAt_take b ops i (by omega)]
theorem redo_yes {x:Disk} {g:Int} {b:Book} {ops:List Op} (h:On x g b ops) (hc:Chain b ops) (i:Nat) (hi:i < ops.length):(redoOf x g i (redoTo x g b i)).2 = true:=by
 have hg:=h.gg
 rw [redo_take h hc i (by omega)]
 unfold redoOf
 rw [rec_at h hc i hi]
 simp only [gotE,gotG]
 rw [if_pos ⟨trivial,by omega,trivial⟩]
 exact decide_eq_true (hc.ok i hi)
theorem redo_no {x:Disk} {g:Int} {c:Book} {i:Nat} (h:NoRec g (secAt x (34 + (i:Int)))):(redoOf x g i c).2 = false:=by
 unfold redoOf
 cases hr:recordP (secAt x (34 + (i:Int))) with
 | none=>rw [if_neg (by simp [gotE])]
 | some p =>
   obtain ⟨⟨g',s,o⟩,r⟩:=p
   have:=h g' s o r hr
   simp only [gotE,gotG]
   rw [if_neg (by omega)]
theorem upto_is {P:Nat->Bool} {m:Nat} (hm:m≤30) (h1:∀ i,i < m->P i = true) (h2:m < 30->P m = false):upto P 30 0 = m:=by
 obtain ⟨q1,q2,q3,q4⟩:=upto_spec P 30 0
 rcases Nat.lt_trichotomy (upto P 30 0) m with e | e | e
 · have:=q4 (by omega)
   rw [h1 _ e] at this;cases this
 · exact e
 · have:=q3 m (Nat.zero_le _) e
   rw [h2 (by omega)] at this;cases this
/-- What is found where this stands. -/
theorem On.found {x:Disk} {g:Int} {b:Book} {ops:List Op} (h:On x g b ops) (hb:GB b) (hc:Chain b ops):foundOf x = (⟨x,g,ops.length,bookAt b ops,bookAt b ops⟩,0):=by
 have hg:=h.gg
 have hcount:countOf x g b = ops.length:=upto_is h.n (fun i hi=>redo_yes h hc i hi) (fun hn=>redo_no (h.stop hn))
 unfold foundOf
 rw [h.newTo,h.snapOf hb]
 simp only
 rw [if_neg (by omega),if_neg (by simp),hcount,redo_take h hc ops.length (Nat.le_refl _),List.take_length]
end Bk
end Go.Proofs.YtjkpeebajibgiaaGreat
