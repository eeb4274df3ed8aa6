/- Books: what is done to one, and what closes all, of the document Books: the program's own small functions; what is found among sessions and users. Books: what the program asks of a book's sessions and users. (By genY.py.) Books: the last lines of all sessions, as a map has them; the ledger of a right book. Calls in operations whose order is open that hand back rows of their own, or that write rows of the caller's. Books: the program's own small steps (beginning, counting, stopping, failing, passing, trimming) Books: an element taken out of a row. Books: the ledger trimmed. Books: the program's rows held against each other; its books that are the same; ops that may be done; the address that is free. Books: what is done, by the ops' kinds; Apply. Books: the program's Close. Books: the program's Right, of a right book; the document's example; books as they come in; what closes all; BookDoes. Books: what an op does to a right book (mathematics): who has failed; right again, closed, free, counted, trimmed. Gate: the mathematics of the laws. Regions whose order is open, that fill a map of their own: its entries come in whatever order. Walks that part, and meet again in one state. A state told otherwise at a statement's beginning; a row that has room behind it, or hasn't. Gate: what the program's functions answer (told as a premise); the document's example. Gate: may a name be asked about; GateTime. Gate: GateTime. Gate: GateTells. Gate: books that ops are done to; GateOps. Gate: GateOthers, GateRight. Gate: GateLocks. Gate: GateKnown. Gate: the laws, of whatever answers as ProgG says, from arguments as they come in. Functions that may panic, on plain data; functions that are lent a row of the caller's. A row of the caller's, lent to a call: the call is looked at with this row alone. Functions that may panic: what the walk needs. A function with a deferred call that recovers, on plain data. What a walk through a deferred call needs. A row of the caller's, lent to a call: by any of its arguments. A call that is handed a nil row, looked at as one that is handed a row of nothing. Ranges over functions, on plain data: the relation under other live blocks; the walk of an iterator, or of a round. Ranges over functions, on plain data: what an iterator hands to the rounds; the loop's rule; functions that hold one. Ranges over functions, on plain data: the loop's rule holds. -/
import Derived.Test.YtndnlfgchmjbjaaPk4
import Derived.Recover
import Derived.RangeFuncFrom
import Derived.RangeFuncLeaves
import Derived.RangeFuncBound
import Derived.RangeFuncCalls
import Derived.OwnWalkIn
namespace Go.Proofs.Ytndnlfgchmjbjaa
open Go.RowKit
set_option linter.unusedSimpArgs false
set_option linter.unusedVariables false
set_option maxRecDepth 100000
namespace Bk
theorem flat_sess1 (x:Sess):flat (sesss [x])=[.int .i64 x.id,.int .i64 x.link,.int .u32 x.addr,.str x.user,.int .u64 x.inn,.int .u64 x.out]:=rfl
def Busy (b:Book) (o:Op):Prop:=∃ (i:Nat) (h:i<b.opn.length),b.opn[i].link=o.link \/ b.opn[i].addr=o.addr
open Classical in
noncomputable def openedOp (b:Book) (o:Op):Book×Int :=
 if ¬ poolOk o.addr then (b,1)
 else if Busy b o then (b,6)
 else if (b.items.length:Int)+b.opn.length+2 > 60 \/ b.next=1000000000 then (b,4)
 else ({ next:=b.next+1,opn:=b.opn++[⟨b.next,o.link,o.addr,o.user,0,0⟩],items:=b.items++[⟨1,b.next,0,0,0⟩],locks:=b.locks },0)
def out (r:Book×Int):Data:=.tup [book r.1,.int .i64 r.2]
set_option maxHeartbeats 4000000 in
set_option maxRecDepth 100000 in
theorem opened_pc (Γ:Nat->Option (List Data)) (b:Book) (o:Op) (hb:Fits b) (h0:0<=b.next/\b.next<=1000000000):PC Try.prog Γ 23 [book b,op o] (out (openedOp b o)):=by
 refine pc_by mixed Try.func23 rfl (fun args w=>Try.call23 args w) ?_;obtain⟨bo,bi,bl,-,-⟩:=hb;have hp:=pool_pc Γ o.addr;simp -implicitDefEqProofs (disch:=omega) [go_sem,book,op];refine .inl (call_data hp (by simp[go_sem]) ?_);by_cases g1:poolOk o.addr;rotate_left
 . have hr:openedOp b o=(b,1):=by unfold openedOp;rw[if_pos g1]
   simp -implicitDefEqProofs (disch:=omega) [go_sem,g1,hr,out,book,Try.results23]
 simp -implicitDefEqProofs (disch:=omega) [go_sem,g1]
 refine loop_ren (σ:={ i:Nat // i<=b.opn.length/\∀ (j:Nat) (h:j<b.opn.length),j<i->b.opn[j].link≠o.link/\b.opn[j].addr≠o.addr }) (fun i=>⟨envL [(2,.ptr 0 0),(3,.ptr 1 0),(4,.ptr 2 0),(5,.data (.int .i64 0)),(7,.data (.int .i64 i.1))],hpL [(0,.blk true [.data (.int .i64 b.next),.data (.sl 6 (sesss b.opn)),.data (.sl 5 (items b.items)),.data (.sl 3 (locks b.locks))]),(1,.blk true [.data (.int .i64 o.kind),.data (.int .i64 o.id),.data (.int .i64 o.link),.data (.int .u32 o.addr),.data (.str o.user),.data (.int .u64 o.inn),.data (.int .u64 o.out),.data (.int .i64 o.cause),.data (.int .i64 o.at_)]),(2,.blk true [.data (.int .i64 0),.emp 0,.emp 0,.emp 0])],3,0,84⟩) (fun i=>b.opn.length-i.1) ⟨0,by omega,by omega⟩ [] (rhoL [(0,some 0),(1,some 1),(2,some 2)]) ?_ ?_
 . apply ren_lists<;>simp -implicitDefEqProofs [go_sem]
 rintro⟨i,hi,hall⟩;by_cases h:i<b.opn.length
 . by_cases he:b.opn[i].link=o.link
   . have hr:openedOp b o=(b,6):=by unfold openedOp;rw[if_neg (by simpa using g1),if_pos ⟨i,h,.inl he⟩]
     simp -implicitDefEqProofs (disch:=omega) [go_sem,he];refine side (by kernel_rfl) ?_;simp -implicitDefEqProofs (disch:=omega) [go_sem,hr,out,book,Try.results23]
   . by_cases ha:b.opn[i].addr=o.addr
     . have hr:openedOp b o=(b,6):=by unfold openedOp;rw[if_neg (by simpa using g1),if_pos ⟨i,h,.inr ha⟩]
       simp -implicitDefEqProofs (disch:=omega) [go_sem,he,ha];refine side (by kernel_rfl) ?_;simp -implicitDefEqProofs (disch:=omega) [go_sem,hr,out,book,Try.results23]
     . simp -implicitDefEqProofs (disch:=omega) [go_sem,he,ha];refine side (by kernel_rfl) ?_;simp -implicitDefEqProofs (disch:=omega) [go_sem];refine next_ren ⟨i+1,by omega,fun j hj hl=>if e:j=i then by subst e;exact⟨he,ha⟩ else hall j hj (by omega)⟩ (by simp only;omega) [] (rhoL [(0,some 0),(1,some 1),(2,some 2)]) ?_;apply ren_lists<;>simp -implicitDefEqProofs [go_sem]
 have hfree:¬ Busy b o:=by
  rintro⟨j,hj,hk⟩;have:=hall j hj (by omega);rcases hk with hk|hk
  . exact this.1 hk
  . exact this.2 hk
 by_cases g2:(b.items.length:Int)+b.opn.length+2 > 60
 . have hr:openedOp b o=(b,4):=by unfold openedOp;rw[if_neg (by simpa using g1),if_neg hfree,if_pos (.inl g2)]
   simp -implicitDefEqProofs (disch:=omega) [go_sem,hr,out,book,Try.results23]
 by_cases g3:b.next=1000000000
 . have hr:openedOp b o=(b,4):=by unfold openedOp;rw[if_neg (by simpa using g1),if_neg hfree,if_pos (.inr g3)]
   simp -implicitDefEqProofs (disch:=omega) [go_sem,hr,out,book,Try.results23]
 have hr:openedOp b o=({ next:=b.next+1,opn:=b.opn++[⟨b.next,o.link,o.addr,o.user,0,0⟩],items:=b.items++[⟨1,b.next,0,0,0⟩],locks:=b.locks },0):=by unfold openedOp;rw[if_neg (by simpa using g1),if_neg hfree,if_neg (by simp[g3];omega)]
 have hw:=with_pc Γ b (by omega) ⟨1,b.next,0,0,0⟩;simp -implicitDefEqProofs (disch:=omega) [go_sem];refine .inl (call_data hw (by simp[go_sem,book,item]) ?_);simp -implicitDefEqProofs (disch:=omega) [go_sem,book,withLine];refine side (by kernel_rfl) ?_;simp -implicitDefEqProofs (disch:=omega) [go_sem,hr,out,book,Try.results23]
 refine⟨_,⟨_,rfl,frz_aggL (frzL_c ((frz_data _ _ _ _).2 rfl) (frzL_c (fz_sesss (rw:=true) (l:=b.opn++[⟨b.next,o.link,o.addr,o.user,0,0⟩]) (by simp[go_sem,<- sesss_append,flat_sess1]) (.inl rfl) (by simp)) (frzL_c ((frz_data _ _ _ _).2 rfl) (frzL_c ((frz_data _ _ _ _).2 rfl) frzL_n))))⟩,?_⟩;rfl
theorem first_range {α:Type} (p:α->Bool):∀ (l:List α) (n:Nat),first p n l = -1 \/ (n:Int)<=first p n l/\first p n l<n+l.length
 | [],n=>.inl rfl
 | a::l,n=>by
   have ih:=first_range p l (n+1);simp only[first,List.length_cons];split
   . right;omega
   . rcases ih with h|h
     . exact .inl h
     . right;omega
@[go_sem] theorem sesss_take (l:List Sess) (n:Nat):List.take n (sesss l)=sesss (l.take n):=by simp[sesss]
@[go_sem] theorem sesss_drop (l:List Sess) (n:Nat):List.drop n (sesss l)=sesss (l.drop n):=by simp[sesss]
theorem sess_cut (l:List Sess) (n:Nat) (h:n<l.length):List.take 6 (List.drop (n*6) ((flat (sesss l)).map D.data))=[.data (.int .i64 l[n].id),.data (.int .i64 l[n].link),.data (.int .u32 l[n].addr),.data (.str l[n].user),.data (.int .u64 l[n].inn),.data (.int .u64 l[n].out)]:=by
 rw[<- List.map_drop,<- flat_drop (sesss_cells l) n (by rw[sesss_length];omega),sesss_drop,List.drop_eq_getElem_cons h];rfl
theorem sess_set (l:List Sess) (n:Nat) (h:n<l.length) (x:Sess):List.take (n*6) ((flat (sesss l)).map D.data)++.data (.int .i64 x.id) :: .data (.int .i64 x.link) :: .data (.int .u32 x.addr) :: .data (.str x.user) :: .data (.int .u64 x.inn) :: .data (.int .u64 x.out)::List.drop (n*6+6) ((flat (sesss l)).map D.data)=(flat (sesss (l.set n x))).map D.data:=by
 have e:n*6+6=(n+1)*6:=by omega
 rw[e,<- List.map_take,<- List.map_drop,<- flat_take (sesss_cells l) n (by rw[sesss_length];omega),<- flat_drop (sesss_cells l) (n+1) (by rw[sesss_length];omega),sesss_take,sesss_drop,List.set_eq_take_append_cons_drop,if_pos h,<- sesss_append,List.map_append];rfl
def countedAt (b:Book) (o:Op) (k:Int):Book×Int :=
 if k<0 then (b,5)
 else if (b.opn.getD k.toNat default).inn > o.inn \/ (b.opn.getD k.toNat default).out > o.out then (b,7)
 else if o.kind=3 then ({ b with items:=b.items++[⟨3,o.id,o.inn,o.out,o.cause⟩],opn:=b.opn.take k.toNat++b.opn.drop (k.toNat+1) },0)
 else if (b.items.length:Int)+b.opn.length+1 > 60 then (b,4)
 else ({ b with items:=b.items++[⟨2,o.id,o.inn,o.out,0⟩],opn:=b.opn.set k.toNat { b.opn.getD k.toNat default with inn:=o.inn,out:=o.out } },0)
def countedOp (b:Book) (o:Op):Book×Int:=countedAt b o (ofId b o.id)
set_option maxHeartbeats 4000000 in
set_option maxRecDepth 100000 in
theorem counted_pc (Γ:Nat->Option (List Data)) (b:Book) (o:Op) (hb:Fits b) (hi:b.items.length<=1000000) (ho:b.opn.length<=1000000):PC Try.prog Γ 24 [book b,op o] (out (countedOp b o)):=by
 refine pc_by mixed Try.func24 rfl (fun args w=>Try.call24 args w) ?_;have hk:=of_pc Γ b hb o.id;have hrg:=first_range (fun s:Sess=>decide (s.id=o.id)) b.opn 0;obtain⟨bo,bi,bl,-,-⟩:=hb;have hr0:countedOp b o=countedAt b o (ofId b o.id):=rfl;rw[hr0];clear hr0;change ofId b o.id = -1 \/ _<=ofId b o.id/\ofId b o.id<_ at hrg;generalize ofId b o.id=k at *;simp -implicitDefEqProofs (disch:=omega) [go_sem,book,op];refine .inl (call_data hk (by simp[go_sem,book]) ?_);by_cases g1:k<0
 . have hr:countedAt b o k=(b,5):=by unfold countedAt;rw[if_pos g1]
   simp -implicitDefEqProofs (disch:=omega) [go_sem,hr,out,book,Try.results24]
 obtain⟨n,rfl⟩:∃ n:Nat,k=n:=⟨k.toNat,by omega⟩;have hn:n<b.opn.length:=by omega
 have hgd:b.opn.getD ((n:Int)).toNat default=b.opn[n]:=by rw[Int.toNat_natCast,List.getD_eq_getElem?_getD,List.getElem?_eq_getElem hn];rfl
 by_cases g2:b.opn[n].inn > o.inn
 . have hr:countedAt b o n=(b,7):=by unfold countedAt;rw[if_neg g1,hgd,if_pos (.inl g2)]
   simp -implicitDefEqProofs (disch:=omega) [go_sem];refine side (by kernel_rfl) ?_;simp -implicitDefEqProofs (disch:=omega) [go_sem,hr,out,book,Try.results24]
 by_cases g3:b.opn[n].out > o.out
 . have hr:countedAt b o n=(b,7):=by unfold countedAt;rw[if_neg g1,hgd,if_pos (.inr g3)]
   simp -implicitDefEqProofs (disch:=omega) [go_sem];refine side (by kernel_rfl) ?_;simp -implicitDefEqProofs (disch:=omega) [go_sem,hr,out,book,Try.results24]
 have g23:¬ (b.opn[n].inn > o.inn \/ b.opn[n].out > o.out):=by omega
 simp -implicitDefEqProofs (disch:=omega) [go_sem];refine side (by kernel_rfl) ?_;by_cases g4:o.kind=3
 . have hr:countedAt b o n=({ b with items:=b.items++[⟨3,o.id,o.inn,o.out,o.cause⟩],opn:=b.opn.take n++b.opn.drop (n+1) },0):=by unfold countedAt;rw[if_neg g1,hgd,if_neg g23,if_pos g4,Int.toNat_natCast]
   have hw:=with_pc Γ b hi ⟨3,o.id,o.inn,o.out,o.cause⟩;simp -implicitDefEqProofs (disch:=omega) [go_sem,g4];refine .inl (call_data hw (by simp[go_sem,book,item]) ?_);simp -implicitDefEqProofs (disch:=omega) [go_sem,book,withLine];refine side (by kernel_rfl) ?_;simp -implicitDefEqProofs (disch:=omega) [go_sem,hr,out,book,Try.results24]
   refine⟨_,⟨_,rfl,frz_aggL (frzL_c ((frz_data _ _ _ _).2 rfl) (frzL_c (fz_sesss (rw:=true) (l:=b.opn.take n++b.opn.drop (n+1)) (by simp[go_sem,<- sesss_append]) (.inl rfl) (by simp;omega)) (frzL_c ((frz_data _ _ _ _).2 rfl) (frzL_c ((frz_data _ _ _ _).2 rfl) frzL_n))))⟩,?_⟩;rfl
 by_cases g5:(b.items.length:Int)+b.opn.length+1 > 60
 . have hr:countedAt b o n=(b,4):=by unfold countedAt;rw[if_neg g1,hgd,if_neg g23,if_neg g4,if_pos g5]
   simp -implicitDefEqProofs (disch:=omega) [go_sem,g4,hr,out,book,Try.results24]
 have hr:countedAt b o n=({ b with items:=b.items++[⟨2,o.id,o.inn,o.out,0⟩],opn:=b.opn.set n { b.opn[n] with inn:=o.inn,out:=o.out } },0):=by unfold countedAt;rw[if_neg g1,hgd,if_neg g23,if_neg g4,if_neg g5,Int.toNat_natCast]
 have hw:=with_pc Γ b hi ⟨2,o.id,o.inn,o.out,0⟩;simp -implicitDefEqProofs (disch:=omega) [go_sem,g4];refine .inl (call_data hw (by simp[go_sem,book,item]) ?_);simp -implicitDefEqProofs (disch:=omega) [go_sem,book,withLine,sess_cut b.opn n hn];simp only[hr,out,book]
 refine⟨_,⟨_,rfl,frz_aggL (frzL_c ((frz_data _ _ _ _).2 rfl) (frzL_c (fz_sesss (rw:=true) (l:=b.opn.set n { b.opn[n] with inn:=o.inn,out:=o.out }) (by have:=sess_set b.opn n hn { b.opn[n] with inn:=o.inn,out:=o.out };simp[go_sem,<- this]) (.inl rfl) (by simp)) (frzL_c ((frz_data _ _ _ _).2 rfl) (frzL_c ((frz_data _ _ _ _).2 rfl) frzL_n))))⟩,?_⟩;rfl
@[go_sem] theorem locks_take (l:List Lock) (n:Nat):List.take n (locks l)=locks (l.take n):=by simp[locks]
@[go_sem] theorem locks_drop (l:List Lock) (n:Nat):List.drop n (locks l)=locks (l.drop n):=by simp[locks]
theorem flat_lock1 (x:Lock):flat (locks [x])=[.str x.user,.int .i64 x.n,.int .i64 x.at_]:=rfl
theorem lock_set (l:List Lock) (n:Nat) (h:n<l.length) (x:Lock):List.take (n*3) ((flat (locks l)).map D.data)++.data (.str x.user) :: .data (.int .i64 x.n) :: .data (.int .i64 x.at_)::List.drop (n*3+3) ((flat (locks l)).map D.data)=(flat (locks (l.set n x))).map D.data:=by
 have e:n*3+3=(n+1)*3:=by omega
 rw[e,<- List.map_take,<- List.map_drop,<- flat_take (locks_cells l) n (by rw[locks_length];omega),<- flat_drop (locks_cells l) (n+1) (by rw[locks_length];omega),locks_take,locks_drop,List.set_eq_take_append_cons_drop,if_pos h,<- locks_append,List.map_append];rfl
def failedAt (b:Book) (o:Op) (k:Int):Book×Int :=
 if o.kind=5 then (if k<0 then (b,5) else ({ b with locks:=b.locks.take k.toNat++b.locks.drop (k.toNat+1) },0))
 else if k<0 then (if (b.locks.length:Int)=8 then (b,4) else ({ b with locks:=b.locks++[⟨o.user,1,o.at_⟩] },0))
 else if (b.locks.getD k.toNat default).at_ > o.at_ then (b,7)
 else ({ b with locks:=b.locks.set k.toNat ⟨o.user,min 255 ((b.locks.getD k.toNat default).n+1),o.at_⟩ },0)
def failedOp (b:Book) (o:Op):Book×Int:=failedAt b o (failed b o.user)
set_option maxHeartbeats 4000000 in
set_option maxRecDepth 100000 in
theorem failedOp_pc (Γ:Nat->Option (List Data)) (b:Book) (o:Op) (hb:Fits b) (hl:b.locks.length<=1000000) (hn0:∀ l∈b.locks,-1000000<=l.n/\l.n<=1000000):PC Try.prog Γ 25 [book b,op o] (out (failedOp b o)):=by
 refine pc_by mixed Try.func25 rfl (fun args w=>Try.call25 args w) ?_;have hk:=failed_pc Γ b hb o.user;have hrg:=first_range (fun l:Lock=>decide (l.user=o.user)) b.locks 0;obtain⟨bo,bi,bl,-,-⟩:=hb;have hr0:failedOp b o=failedAt b o (failed b o.user):=rfl;rw[hr0];clear hr0;change failed b o.user = -1 \/ _<=failed b o.user/\failed b o.user<_ at hrg;generalize failed b o.user=k at *;simp -implicitDefEqProofs (disch:=omega) [go_sem,book,op];refine .inl (call_data hk (by simp[go_sem,book]) ?_);by_cases g0:o.kind=5
 . by_cases g1:k<0
   . have hr:failedAt b o k=(b,5):=by unfold failedAt;rw[if_pos g0,if_pos g1]
     simp -implicitDefEqProofs (disch:=omega) [go_sem,g0,hr,out,book,Try.results25]
   obtain⟨n,rfl⟩:∃ n:Nat,k=n:=⟨k.toNat,by omega⟩;have hn:n<b.locks.length:=by omega
   have hr:failedAt b o n=({ b with locks:=b.locks.take n++b.locks.drop (n+1) },0):=by unfold failedAt;rw[if_pos g0,if_neg g1,Int.toNat_natCast]
   simp -implicitDefEqProofs (disch:=omega) [go_sem,g0];refine side (by kernel_rfl) ?_;simp -implicitDefEqProofs (disch:=omega) [go_sem,hr,out,book,Try.results25];refine⟨_,⟨_,rfl,frz_aggL (frzL_c ((frz_data _ _ _ _).2 rfl) (frzL_c ((frz_data _ _ _ _).2 rfl) (frzL_c ((frz_data _ _ _ _).2 rfl) (frzL_c (fz_locks (rw:=true) (l:=b.locks.take n++b.locks.drop (n+1)) (by simp[go_sem,<- locks_append]) (.inl rfl) (by simp;omega)) frzL_n))))⟩,?_⟩;rfl
 by_cases g1:k<0
 . by_cases g2:(b.locks.length:Int)=8
   . have hr:failedAt b o k=(b,4):=by unfold failedAt;rw[if_neg g0,if_pos g1,if_pos g2]
     simp -implicitDefEqProofs (disch:=omega) [go_sem,g0,g2,hr,out,book,Try.results25]
   have hr:failedAt b o k=({ b with locks:=b.locks++[⟨o.user,1,o.at_⟩] },0):=by unfold failedAt;rw[if_neg g0,if_pos g1,if_neg g2]
   simp -implicitDefEqProofs (disch:=omega) [go_sem,g0,g2,hr,out,book,Try.results25];refine⟨_,⟨_,rfl,frz_aggL (frzL_c ((frz_data _ _ _ _).2 rfl) (frzL_c ((frz_data _ _ _ _).2 rfl) (frzL_c ((frz_data _ _ _ _).2 rfl) (frzL_c (fz_locks (rw:=true) (l:=b.locks++[⟨o.user,1,o.at_⟩]) (by simp[go_sem,<- locks_append,flat_lock1]) (.inl rfl) (by simp)) frzL_n))))⟩,?_⟩;rfl
 obtain⟨n,rfl⟩:∃ n:Nat,k=n:=⟨k.toNat,by omega⟩;have hn:n<b.locks.length:=by omega
 have hgd:b.locks.getD ((n:Int)).toNat default=b.locks[n]:=by rw[Int.toNat_natCast,List.getD_eq_getElem?_getD,List.getElem?_eq_getElem hn];rfl
 have hnn:=hn0 _ (List.getElem_mem hn);by_cases g3:b.locks[n].at_ > o.at_
 . have hr:failedAt b o n=(b,7):=by unfold failedAt;rw[if_neg g0,if_neg g1,hgd,if_pos g3]
   simp -implicitDefEqProofs (disch:=omega) [go_sem,g0];refine side (by kernel_rfl) ?_;simp -implicitDefEqProofs (disch:=omega) [go_sem,hr,out,book,Try.results25]
 have hr:failedAt b o n=({ b with locks:=b.locks.set n ⟨o.user,min 255 (b.locks[n].n+1),o.at_⟩ },0):=by unfold failedAt;rw[if_neg g0,if_neg g1,hgd,if_neg g3,Int.toNat_natCast]
 simp -implicitDefEqProofs (disch:=omega) [go_sem,g0];refine side (by kernel_rfl) ?_;simp -implicitDefEqProofs (disch:=omega) [go_sem];refine side (by kernel_rfl) ?_;simp -implicitDefEqProofs (disch:=omega) [go_sem,hr,out,book,Try.results25];refine⟨_,⟨_,rfl,frz_aggL (frzL_c ((frz_data _ _ _ _).2 rfl) (frzL_c ((frz_data _ _ _ _).2 rfl) (frzL_c ((frz_data _ _ _ _).2 rfl) (frzL_c (fz_locks (rw:=true) (l:=b.locks.set n ⟨o.user,min 255 (b.locks[n].n+1),o.at_⟩) (by have:=lock_set b.locks n hn ⟨o.user,min 255 (b.locks[n].n+1),o.at_⟩;simp[go_sem,<- this];omega) (.inl rfl) (by simp)) frzL_n))))⟩,?_⟩;rfl
def kept (b:Book) (l:List Item):List Item:=l.filter fun x=>decide (0<=ofId b x.id)
theorem kept_succ (b:Book) (i:Nat) (h:i<b.items.length):kept b (b.items.take (i+1))=kept b (b.items.take i)++(if 0<=ofId b b.items[i].id then [b.items[i]] else []):=by
 rw[List.take_succ_eq_append_getElem h];unfold kept;rw[List.filter_append];by_cases g:0<=ofId b b.items[i].id<;>simp[g]
open Classical in
noncomputable def applyOp (b:Book) (o:Op):Book×Int :=
 if ¬ MayP o then (b,1)
 else if o.kind=1 then openedOp b o
 else if o.kind=2 \/ o.kind=3 then countedOp b o
 else if o.kind=4 \/ o.kind=5 then failedOp b o
 else ({ b with items:=kept b b.items },0)
set_option maxHeartbeats 4000000 in
set_option maxRecDepth 100000 in
theorem apply_pc (Γ:Nat->Option (List Data)) (b:Book) (o:Op) (hb:Fits b) (h0:0<=b.next/\b.next<=1000000000) (hi:b.items.length<=1000000) (ho:b.opn.length<=1000000) (hl:b.locks.length<=1000000) (hn0:∀ l∈b.locks,-1000000<=l.n/\l.n<=1000000) (hu:o.user.size<=9223372036854775807):PC Try.prog Γ 14 [book b,op o] (out (applyOp b o)):=by
 refine pc_by mixed Try.func14 rfl (fun args w=>Try.call14 args w) ?_;have c0:=may_pc Γ o hu;have c1:=opened_pc Γ b o hb h0;have c2:=counted_pc Γ b o hb hi ho;have c3:=failedOp_pc Γ b o hb hl hn0;have c4:=fun id=>of_pc Γ b hb id;simp -implicitDefEqProofs (disch:=omega) [go_sem,book,op];refine .inl (call_data c0 (by simp[go_sem,op]) ?_);by_cases g0:MayP o;rotate_left
 . have hr:applyOp b o=(b,1):=by unfold applyOp;rw[if_pos g0]
   simp -implicitDefEqProofs (disch:=omega) [go_sem,g0,hr,out,book,Try.results14]
 by_cases g1:o.kind=1
 . have hr:applyOp b o=openedOp b o:=by unfold applyOp;rw[if_neg (by simpa using g0),if_pos g1]
   simp -implicitDefEqProofs (disch:=omega) [go_sem,g0,g1];refine .inl (call_data c1 (by simp[go_sem,book,op,g1]) ?_);simp -implicitDefEqProofs (disch:=omega) [go_sem,hr,out,book,Try.results14]
 by_cases g2:o.kind=2
 . have hr:applyOp b o=countedOp b o:=by unfold applyOp;rw[if_neg (by simpa using g0),if_neg g1,if_pos (.inl g2)]
   simp -implicitDefEqProofs (disch:=omega) [go_sem,g0,g2];refine .inl (call_data c2 (by simp[go_sem,book,op,g2]) ?_);simp -implicitDefEqProofs (disch:=omega) [go_sem,hr,out,book,Try.results14]
 by_cases g3:o.kind=3
 . have hr:applyOp b o=countedOp b o:=by unfold applyOp;rw[if_neg (by simpa using g0),if_neg g1,if_pos (.inr g3)]
   simp -implicitDefEqProofs (disch:=omega) [go_sem,g0,g3];refine .inl (call_data c2 (by simp[go_sem,book,op,g3]) ?_);simp -implicitDefEqProofs (disch:=omega) [go_sem,hr,out,book,Try.results14]
 by_cases g4:o.kind=4
 . have hr:applyOp b o=failedOp b o:=by unfold applyOp;rw[if_neg (by simpa using g0),if_neg g1,if_neg (by omega),if_pos (.inl g4)]
   simp -implicitDefEqProofs (disch:=omega) [go_sem,g0,g4];refine .inl (call_data c3 (by simp[go_sem,book,op,g4]) ?_);simp -implicitDefEqProofs (disch:=omega) [go_sem,hr,out,book,Try.results14]
 by_cases g5:o.kind=5
 . have hr:applyOp b o=failedOp b o:=by unfold applyOp;rw[if_neg (by simpa using g0),if_neg g1,if_neg (by omega),if_pos (.inr g5)]
   simp -implicitDefEqProofs (disch:=omega) [go_sem,g0,g5];refine .inl (call_data c3 (by simp[go_sem,book,op,g5]) ?_);simp -implicitDefEqProofs (disch:=omega) [go_sem,hr,out,book,Try.results14]
 have hr:applyOp b o=({ b with items:=kept b b.items },0):=by unfold applyOp;rw[if_neg (by simpa using g0),if_neg g1,if_neg (by omega),if_neg (by omega)]
 obtain⟨bo,bi,bl,-,-⟩:=hb;simp -implicitDefEqProofs (disch:=omega) [go_sem,g0,g1,g2,g3,g4,g5]
 refine loop_ren (σ:={ i:Nat // i<=b.items.length }) (fun i=>⟨envL [(2,.ptr 0 0),(4,.ptr 2 0),(7,.ptr 3 0),(8,.data (.int .i64 i.1))],hpL [(0,.blk true [.data (.int .i64 b.next),.data (.sl 6 (sesss b.opn)),.data (.sl 5 (items b.items)),.data (.sl 3 (locks b.locks))]),(1,.blk true [.data (.int .i64 o.kind),.data (.int .i64 o.id),.data (.int .i64 o.link),.data (.int .u32 o.addr),.data (.str o.user),.data (.int .u64 o.inn),.data (.int .u64 o.out),.data (.int .i64 o.cause),.data (.int .i64 o.at_)]),(2,.blk true [.data (.int .i64 0),.emp 0,.emp 0,.emp 0]),(3,.blk true [.data (.int .i64 b.next),.data (.sl 6 (sesss b.opn)),.ref 4 0 (kept b (b.items.take i.1)).length 5,.data (.sl 3 (locks b.locks))]),(4,.blk true ((flat (items (kept b (b.items.take i.1)))).map .data))],5,0,68⟩) (fun i=>b.items.length-i.1) ⟨0,by omega⟩ [] (rhoL [(0,some 0),(1,some 1),(2,some 2),(3,some 22),(4,none)]) ?_ ?_
 . apply ren_lists<;>simp -implicitDefEqProofs [go_sem,kept,items,flat]
 rintro⟨i,hi2⟩;by_cases h:i<b.items.length
 . have hs:=kept_succ b i h;have hkl:(kept b (b.items.take i)).length<=i:=by unfold kept;exact Nat.le_trans (List.length_filter_le _ _) (by simp;omega)
   simp -implicitDefEqProofs (disch:=omega) [go_sem];refine .inl (call_data (c4 b.items[i].id) (by simp[go_sem,book]) ?_);by_cases g:0<=ofId b b.items[i].id
   . rw[if_pos g] at hs;simp -implicitDefEqProofs (disch:=omega) [go_sem,g];refine side (by kernel_rfl) ?_;simp -implicitDefEqProofs (disch:=omega) [go_sem,g];refine side (by kernel_rfl) ?_;simp -implicitDefEqProofs (disch:=omega) [go_sem];refine next_ren ⟨i+1,by omega⟩ (by simp only;omega) [] (rhoL [(0,some 0),(1,some 1),(2,some 2),(3,some 3),(4,some 27)]) ?_;apply ren_lists<;>simp -implicitDefEqProofs [go_sem,hs,<- items_append,flat_item1];exact renCells_plain rfl (by simp[plainD])
   . rw[if_neg g,List.append_nil] at hs;simp -implicitDefEqProofs (disch:=omega) [go_sem,g];refine side (by kernel_rfl) ?_;simp -implicitDefEqProofs (disch:=omega) [go_sem,g];refine next_ren ⟨i+1,by omega⟩ (by simp only;omega) [] (rhoL [(0,some 0),(1,some 1),(2,some 2),(3,some 3),(4,some 4)]) ?_;apply ren_lists<;>simp -implicitDefEqProofs [go_sem,hs]
 have hi3:i=b.items.length:=by omega
 subst hi3;simp -implicitDefEqProofs (disch:=omega) [go_sem,hr,out,book,Try.results14,List.take_length];refine⟨_,⟨_,rfl,frz_aggL (frzL_c ((frz_data _ _ _ _).2 rfl) (frzL_c ((frz_data _ _ _ _).2 rfl) (frzL_c (fz_items (rw:=true) (l:=kept b b.items) (by simp[go_sem]) (.inl rfl) (by simp)) (frzL_c ((frz_data _ _ _ _).2 rfl) frzL_n))))⟩,?_⟩;rfl
def ends (l:List Sess):List Item:=l.map fun s=>⟨3,s.id,s.inn,s.out,9⟩
end Bk
namespace Bk
variable (Γ:Nat->Option (List Data))
end Bk
namespace Bk
variable (Γ:Nat->Option (List Data))
def FirstOk (x:Item):Prop:=x.kind=1/\x.inn=0/\x.out=0/\x.cause=0
instance (x:Item):Decidable (FirstOk x):=by unfold FirstOk;exact inferInstance
def NextOk (y x:Item):Prop:=y.kind≠3/\y.inn<=x.inn/\y.out<=x.out/\(x.kind=2/\x.cause=0 \/ x.kind=3/\0<=x.cause/\x.cause<=255)
instance (y x:Item):Decidable (NextOk y x):=by unfold NextOk;exact inferInstance
end Bk
namespace Bk
variable (Γ:Nat->Option (List Data))
theorem first_spec {α:Type} {p:α->Bool}:∀ (l:List α) (n:Nat),(first p n l = -1/\∀ a∈l,p a=false) \/ ∃ (j:Nat) (hj:j<l.length),first p n l=((n+j:Nat):Int)/\p l[j]=true/\∀ (k:Nat) (hk:k<j),p (l[k]'(by omega))=false
 | [],n=>.inl ⟨rfl,fun a ha=>by cases ha⟩
 | a::t,n=>by
   unfold first
   by_cases e:p a=true
   . exact .inr ⟨0,by simp,by rw[if_pos e];simp,by simpa using e,fun k hk=>absurd hk (by omega)⟩
   . rw[if_neg e];rcases first_spec (p:=p) t (n+1) with⟨h1,h2⟩|⟨j,hj,h1,h2,h3⟩
     . exact .inl ⟨h1,fun x hx=>by
        rcases List.mem_cons.1 hx with rfl|hx
        . simpa using e
        . exact h2 x hx⟩
     . refine .inr ⟨j+1,by simp;omega,by rw[h1];omega,by simpa using h2,fun k hk=>?_⟩;cases k with
       | zero=>simpa using e
       | succ k=>simpa using h3 k (by omega)
theorem last_succ (l:List Item) (id:Int) (i:Nat) (h:i<l.length):last l id (i+1)=if l[i].id=id then (i:Int) else last l id i:=by
 have hg:l.getD i ⟨0,0,0,0,0⟩=l[i]:=by simp[List.getD_eq_getElem?_getD,h]
 simp only[last,hg]
end Bk
@[go_sem] theorem ren_yld {n:Nat} {ρ:Nat->Option Nat} {H:Nat->Blk} (l l':Nat):Ren n ρ H (.yld l) (.yld l') ↔ l=l':=by
 constructor
 . intro h;cases h;rfl
 . rintro rfl;exact .yld l
@[go_sem] theorem coe_tp (P:Program) (t:TypeId) (cs:List D):coe P t (.tp cs) = .tp cs:=rfl
@[go_sem] theorem coe_yld (P:Program) (t:TypeId) (l:Nat):coe P t (.yld l) = .yld l:=rfl
namespace Bk
section
variable (Γ:Nat->Option (List Data))
def Short (b:Book):Prop:=b.opn.length<=1000000/\b.items.length<=1000000/\b.locks.length<=1000000
end
section
variable (Γ:Nat->Option (List Data))
def appM (c b:Book) (o:Op):List (Nat×Blk):=[
 (10,.blk true [.data (.int .i64 c.next),.data (.sl 6 (sesss c.opn)),.data (.sl 5 (items c.items)),.data (.sl 3 (locks c.locks)),.data (.int .i64 o.kind),.data (.int .i64 o.id),.data (.int .i64 o.link),.data (.int .u32 o.addr),.data (.str o.user),.data (.int .u64 o.inn),.data (.int .u64 o.out),.data (.int .i64 o.cause),.data (.int .i64 o.at_)]),
 (2,.blk true [.data (.int .i64 0),.emp 0,.emp 0,.emp 0]),
 (1,.blk true [.data (.int .i64 o.kind),.data (.int .i64 o.id),.data (.int .i64 o.link),.data (.int .u32 o.addr),.data (.str o.user),.data (.int .u64 o.inn),.data (.int .u64 o.out),.data (.int .i64 o.cause),.data (.int .i64 o.at_)]),
 (0,.blk true [.data (.int .i64 b.next),.data (.sl 6 (sesss b.opn)),.data (.sl 5 (items b.items)),.data (.sl 3 (locks b.locks))])]
def Ends (c b:Book) (o:Op) (e:Int) (d0:D) (H1:Nat->Blk) (nx1:Nat):Prop:=∃ F,WeakR F (rhoL []) ⟨envL [(0,d0)],H1,nx1,83,1⟩ ⟨envL [(0,.data (.int .i64 e))],hpL (appM c b o),83,83,1⟩
@[congr] theorem Ends_congr {n0:Nat} (tk:tick=n0) (c b:Book) (o:Op) (e:Int) {d0 d1:D} (hd:d0=d1) {H1 H2:Nat->Blk} (hH:H1=H2) {nx1 nx2:Nat} (hn:nx1=nx2):Ends c b o e d0 H1 nx1=Ends c b o e d1 H2 nx2:=by rw[hd,hH,hn]
end
end Bk
namespace Bk
variable (Γ:Nat->Option (List Data))
end Bk
namespace Bk
variable (Γ:Nat->Option (List Data))
end Bk
namespace Bk
variable (Γ:Nat->Option (List Data))
end Bk
namespace Bk
variable (Γ:Nat->Option (List Data))
structure Fine (b:Book) (o:Op):Prop where
 s:Short b
 n:0<=b.next/\b.next<=1000000000
 l:b.locks.length<=8
 ln:∀ l∈b.locks,-1000000<=l.n/\l.n<=1000000
end Bk
namespace Bk
variable (Γ:Nat->Option (List Data))
end Bk
namespace Bk
variable (Γ:Nat->Option (List Data))
def uU:ByteArray:=⟨#[117]⟩
def s1:Sess:=⟨0,3,167772161,uU,0,0⟩
def b1:Book:=⟨1,[s1],[⟨1,0,0,0,0⟩],[]⟩
def b2:Book:=⟨1,[],[⟨1,0,0,0,0⟩,⟨3,0,0,0,9⟩],[]⟩
theorem fine_of {b:Book} (hr:RightP b) (o:Op):Fine b o:=by
 have hl:=hr.len;refine⟨⟨by omega,by omega,by have:=hr.ll;omega⟩,⟨hr.n0,hr.n1⟩,hr.ll,fun l hlk=>?_⟩;obtain⟨j,hj,rfl⟩:=List.getElem_of_mem hlk;have:=hr.locks j hj;have h1:=this.n0;have h2:=this.n1;omega
def SessW (s:Sess):Prop:=s.Ty/\s.user.size<=140737488351232
def LockW (s:Lock):Prop:=s.Ty/\s.user.size<=140737488351232
structure WellP (n:Nat) (b:Book):Prop where
 o:b.opn.length<=n
 i:b.items.length<=n
 l:b.locks.length<=n
 os:∀ s∈b.opn,SessW s
 is:∀ x∈b.items,x.Ty
 ls:∀ l∈b.locks,LockW l
theorem WellP.fits {n:Nat} {b:Book} (h:WellP n b) (hn:n<=1000):Fits b:=⟨by have:=h.o;omega,by have:=h.i;omega,by have:=h.l;omega,fun s hs=>(h.os s hs).2,fun s hs=>(h.ls s hs).2⟩
theorem WellP.ty {n:Nat} {b:Book} (h:WellP n b):b.Ty:=⟨fun s hs=>(h.os s hs).1,h.is,fun s hs=>(h.ls s hs).1⟩
theorem well_of {b:Book} (hf:Fits b) (ht:b.Ty) (hr:RightP b):WellP 60 b:=⟨by have:=hr.len;omega,by have:=hr.len;omega,by have:=hr.ll;omega,fun s hs=>⟨ht.o s hs,hf.ou s hs⟩,ht.i,fun s hs=>⟨ht.l s hs,hf.lu s hs⟩⟩
theorem WellP.up {n m:Nat} {b:Book} (h:WellP n b) (hn:n<=m):WellP m b:=⟨by have:=h.o;omega,by have:=h.i;omega,by have:=h.l;omega,h.os,h.is,h.ls⟩
theorem app_w {α:Type} {p:α->Prop} {l:List α} {a:α} (h:∀ x∈l,p x) (ha:p a):∀ x∈l++[a],p x:=fun x hx=>by
 rcases List.mem_append.1 hx with hx|hx
 . exact h x hx
 . rw[List.mem_singleton.1 hx];exact ha
theorem cut_w {α:Type} {p:α->Prop} {l:List α} {k:Nat} (h:∀ x∈l,p x):∀ x∈l.take k++l.drop (k+1),p x:=fun x hx=>by
 rcases List.mem_append.1 hx with hx|hx
 . exact h x (List.mem_of_mem_take hx)
 . exact h x (List.mem_of_mem_drop hx)
theorem set_w {α:Type} {p:α->Prop} {l:List α} {k:Nat} {a:α} (h:∀ x∈l,p x) (ha:p a):∀ x∈l.set k a,p x:=fun x hx=>by
 rcases List.mem_or_eq_of_mem_set hx with hx|rfl
 . exact h x hx
 . exact ha
theorem well_apply {b:Book} {o:Op} (hw:WellP 60 b) (hn:0<=b.next/\b.next<=1000000000) (hln:∀ l∈b.locks,-1000000<=l.n/\l.n<=1000000) (ho:o.Ty):WellP 61 (applyOp b o).1:=by
 have hu:o.user.size<=maxLen:=Nat.le_trans ho.user (by decide);have hwu:=hw.up (by omega:60<=61);obtain⟨q1,q2,q3,q4,q5,q6⟩:=hw;unfold applyOp;split
 . exact hwu
 split
 . unfold openedOp;split
   . exact hwu
   split
   . exact hwu
   split
   . exact hwu
   exact⟨by simp;omega,by simp;omega,by simp;omega,app_w q4 ⟨⟨by constructor<;>simp only<;>omega,ho.link,ho.addr,hu,by constructor<;>simp,by constructor<;>simp⟩,ho.user⟩,app_w q5 ⟨by constructor<;>simp,by constructor<;>simp only<;>omega,by constructor<;>simp,by constructor<;>simp,by constructor<;>simp⟩,q6⟩
 split
 . have hrg:=first_range (fun s:Sess=>decide (s.id=o.id)) b.opn 0;unfold countedOp countedAt;change ofId b o.id = -1 \/ _<=ofId b o.id/\ofId b o.id<_ at hrg;split
   . exact hwu
   rename_i hk;have hlt:(ofId b o.id).toNat<b.opn.length:=by omega
   have hgd:b.opn.getD (ofId b o.id).toNat default=b.opn[(ofId b o.id).toNat]:=by rw[List.getD_eq_getElem?_getD,List.getElem?_eq_getElem hlt];rfl
   have hs:=q4 _ (List.getElem_mem hlt);split
   . exact hwu
   split
   . exact⟨by simp;omega,by simp;omega,by simp;omega,cut_w q4,app_w q5 ⟨by constructor<;>simp,ho.id,ho.inn,ho.out,ho.cause⟩,q6⟩
   split
   . exact hwu
   exact⟨by simp;omega,by simp;omega,by simp;omega,set_w q4 (by rw[hgd];exact⟨⟨hs.1.id,hs.1.link,hs.1.addr,hs.1.user,ho.inn,ho.out⟩,hs.2⟩),app_w q5 ⟨by constructor<;>simp,ho.id,ho.inn,ho.out,by constructor<;>simp⟩,q6⟩
 split
 . have hrg:=first_range (fun l:Lock=>decide (l.user=o.user)) b.locks 0;unfold failedOp failedAt;change failed b o.user = -1 \/ _<=failed b o.user/\failed b o.user<_ at hrg;split
   . split
     . exact hwu
     . exact⟨by simp;omega,by simp;omega,by simp;omega,q4,q5,cut_w q6⟩
   split
   . split
     . exact hwu
     . exact⟨by simp;omega,by simp;omega,by simp;omega,q4,q5,app_w q6 ⟨⟨hu,by constructor<;>simp,ho.at_⟩,ho.user⟩⟩
   rename_i hk;have hlt:(failed b o.user).toNat<b.locks.length:=by omega
   have hgd:b.locks.getD (failed b o.user).toNat default=b.locks[(failed b o.user).toNat]:=by rw[List.getD_eq_getElem?_getD,List.getElem?_eq_getElem hlt];rfl
   have hs:=hln _ (List.getElem_mem hlt);split
   . exact hwu
   exact⟨by simp;omega,by simp;omega,by simp;omega,q4,q5,set_w q6 ⟨⟨hu,by rw[hgd];constructor<;>simp only<;>omega,ho.at_⟩,ho.user⟩⟩
 exact⟨by simp;omega,by have:=List.length_filter_le (fun x:Item=>decide (0<=ofId b x.id)) b.items;simp only[kept];omega,by simp;omega,q4,fun x hx=>q5 x (List.mem_filter.1 hx).1,q6⟩
end Bk
namespace Bk
theorem mem_cut {α:Type} {l:List α} {j:Nat} {x:α} (h:x∈l.take j++l.drop (j+1)):∃ (m:Nat) (hm:m<l.length),m≠j/\x=l[m]:=by
 rcases List.mem_append.1 h with h|h
 . obtain⟨i,hi,rfl⟩:=List.getElem_of_mem h;rw[List.length_take] at hi;exact⟨i,by omega,by omega,List.getElem_take⟩
 . obtain⟨i,hi,rfl⟩:=List.getElem_of_mem h;rw[List.length_drop] at hi;exact⟨j+1+i,by omega,by omega,List.getElem_drop⟩
theorem cut_mem {α:Type} {l:List α} {j m:Nat} (hm:m<l.length) (hn:m≠j):l[m]∈l.take j++l.drop (j+1):=by
 by_cases e:m<j
 . refine List.mem_append_left _ ?_;rw[show l[m]=(l.take j)[m]'(by rw[List.length_take];omega) from List.getElem_take.symm];exact List.getElem_mem _
 . refine List.mem_append_right _ ?_;have:l[m]=(l.drop (j+1))[m-(j+1)]'(by rw[List.length_drop];omega):=by
    rw[List.getElem_drop];congr 1;omega
   rw[this];exact List.getElem_mem _
theorem mem_put {α:Type} {l:List α} {j:Nat} {a x:α} (h:x∈l.set j a):x=a \/ ∃ (m:Nat) (hm:m<l.length),m≠j/\x=l[m]:=by
 obtain⟨i,hi,rfl⟩:=List.getElem_of_mem h;rw[List.length_set] at hi;by_cases e:j=i
 . subst e;exact .inl (List.getElem_set_self _)
 . exact .inr ⟨i,hi,fun h=>e h.symm,List.getElem_set_ne e _⟩
theorem put_mem {α:Type} {l:List α} {j m:Nat} {a:α} (hm:m<l.length) (hn:m≠j):l[m]∈l.set j a:=by
 rw[show l[m]=(l.set j a)[m]'(by rw[List.length_set];omega) from (List.getElem_set_ne (fun h=>hn h.symm) _).symm];exact List.getElem_mem _
theorem put_self {α:Type} {l:List α} {j:Nat} {a:α} (hj:j<l.length):a∈l.set j a:=by
 have h:(l.set j a)[j]'(by rw[List.length_set];omega)=a:=List.getElem_set_self _;exact List.mem_of_getElem h
def StepOk:Option Item->Item->Prop
 | none,x=>x.kind=1/\x.inn=0/\x.out=0/\x.cause=0
 | some y,x=>y.kind≠3/\y.inn<=x.inn/\y.out<=x.out/\(x.kind=2/\x.cause=0 \/ x.kind=3/\0<=x.cause/\x.cause<=255)
def prev (l:List Item) (id:Int):Option Item:=(l.filter fun x=>decide (x.id=id)).getLast?
theorem prev_snoc (l:List Item) (x:Item) (id:Int):prev (l++[x]) id=if x.id=id then some x else prev l id:=by
 unfold prev;rw[List.filter_append];by_cases h:x.id=id<;>simp[h]
theorem prev_none {l:List Item} {id:Int} (h:∀ x∈l,x.id≠id):prev l id=none:=by
 unfold prev;rw[List.filter_eq_nil_iff.2 (fun x hx=>by simpa using h x hx)];rfl
theorem prev_last (l:List Item) (id:Int):∀ n,n<=l.length->(last l id n = -1/\prev (l.take n) id=none) \/ ∃ (k:Nat) (hk:k<l.length),k<n/\last l id n=k/\prev (l.take n) id=some l[k]/\l[k].id=id
 | 0,_=>.inl ⟨rfl,rfl⟩
 | n+1,h=>by
   have hn:n<l.length:=by omega
   rw[last_succ l id n hn,List.take_succ_eq_append_getElem hn,prev_snoc];by_cases e:l[n].id=id
   . rw[if_pos e,if_pos e];exact .inr ⟨n,hn,by omega,rfl,rfl,e⟩
   . rw[if_neg e,if_neg e];rcases prev_last l id n (by omega) with h1|⟨k,hk,h1,h2⟩
     . exact .inl h1
     . exact .inr ⟨k,hk,by omega,h2⟩
theorem lineOk_iff (b:Book) (i:Nat) (x:Item) (hi:i<=b.items.length):LineOk b i x ↔ 0<=x.id/\x.id<b.next/\StepOk (prev (b.items.take i) x.id) x:=by
 unfold LineOk LineAt;rcases prev_last b.items x.id i hi with⟨h1,h2⟩|⟨k,hk,_,h1,h2,_⟩
 . rw[h1,h2];unfold StepOk;constructor
   . rintro⟨a,c,⟨_,h⟩|⟨h,_⟩⟩
     . exact⟨a,c,h⟩
     . omega
   . rintro⟨a,c,h⟩;exact⟨a,c,.inl ⟨by omega,h⟩⟩
 . rw[h1,h2,Int.toNat_natCast,show b.items.getD k default=b.items[k] by rw[List.getD_eq_getElem?_getD,List.getElem?_eq_getElem hk];rfl];unfold StepOk;constructor
   . rintro⟨a,c,⟨h,_⟩|⟨_,h⟩⟩
     . omega
     . exact⟨a,c,h⟩
   . rintro⟨a,c,h⟩;exact⟨a,c,.inr ⟨by omega,h⟩⟩
inductive Lines (next:Int):List Item->Prop where
 | nil:Lines next []
 | snoc (l:List Item) (x:Item) (h:Lines next l) (h0:0<=x.id) (h1:x.id<next) (hs:StepOk (prev l x.id) x):Lines next (l++[x])
theorem Lines.up {n m:Int} {l:List Item} (h:Lines n l) (hn:n<=m):Lines m l:=by
 induction h with
 | nil=>exact .nil
 | snoc l x _ h0 h1 hs ih=>exact .snoc l x ih h0 (by omega) hs
theorem Lines.ids {n:Int} {l:List Item} (h:Lines n l):∀ x∈l,0<=x.id/\x.id<n:=by
 induction h with
 | nil=>intro x hx;cases hx
 | snoc l x _ h0 h1 hs ih =>
   intro y hy;rcases List.mem_append.1 hy with hy|hy
   . exact ih y hy
   . rw[List.mem_singleton.1 hy];exact⟨h0,h1⟩
theorem Lines.at {n:Int} {l:List Item} (h:Lines n l):∀ (i:Nat) (hi:i<l.length),0<=l[i].id/\l[i].id<n/\StepOk (prev (l.take i) l[i].id) l[i]:=by
 induction h with
 | nil=>intro i hi;simp at hi
 | snoc l x _ h0 h1 hs ih =>
   intro i hi;by_cases e:i<l.length
   . rw[List.getElem_append_left e,List.take_append_of_le_length (by omega)];exact ih i e
   . have:i=l.length:=by simp at hi;omega
     subst this;rw[List.getElem_append_right (by omega),List.take_append_of_le_length (by omega),List.take_length];simpa using ⟨h0,h1,hs⟩
theorem lines_iff (b:Book):(∀ (i:Nat) (h:i<b.items.length),LineOk b i b.items[i]) ↔ Lines b.next b.items:=by
 constructor
 . intro h;have:∀ n,n<=b.items.length->Lines b.next (b.items.take n):=by
    intro n
    induction n with
    | zero=>intro _;exact .nil
    | succ n ih =>
      intro hn;have hn2:n<b.items.length:=by omega
      rw[List.take_succ_eq_append_getElem hn2];obtain⟨a,c,d⟩:=(lineOk_iff b n _ (by omega)).1 (h n hn2);exact .snoc _ _ (ih (by omega)) a c d
   have:=this b.items.length (Nat.le_refl _);rwa[List.take_length] at this
 . intro h i hi;exact (lineOk_iff b i _ (by omega)).2 (h.at i hi)
structure SessG (next:Int) (s:Sess):Prop where
 id0:0<=s.id
 id1:s.id<next
 l0:0<=s.link
 l1:s.link<=7
 user:nameOk s.user
 addr:poolOk s.addr
structure LockG (l:Lock):Prop where
 user:nameOk l.user
 n0:1<=l.n
 n1:l.n<=255
 t0:0<=l.at_
 t1:l.at_<=1000000000
def SessR (s t:Sess):Prop:=s.id<t.id/\s.link≠t.link/\s.addr≠t.addr
structure RightL (b:Book):Prop where
 n0:0<=b.next
 n1:b.next<=1000000000
 len:b.items.length+b.opn.length<=60
 ll:b.locks.length<=8
 ord:b.opn.Pairwise SessR
 good:∀ s∈b.opn,SessG b.next s
 lines:Lines b.next b.items
 fin:∀ id y,prev b.items id=some y->(y.kind≠3 ↔ ∃ s∈b.opn,s.id=id)
 opn:∀ s∈b.opn,∃ y,prev b.items s.id=some y/\y.inn=s.inn/\y.out=s.out
 lk:b.locks.Pairwise fun a c=>a.user≠c.user
 lg:∀ l∈b.locks,LockG l
theorem ofId_iff (b:Book) (id:Int):0<=ofId b id ↔ ∃ s∈b.opn,s.id=id:=by
 unfold ofId;rcases first_spec (p:=fun s:Sess=>decide (s.id=id)) b.opn 0 with⟨h1,h2⟩|⟨j,hj,h1,h2,_⟩
 . rw[h1];constructor
   . intro h;omega
   . rintro⟨s,hs,e⟩;have:=h2 s hs;simp[e] at this
 . rw[h1];exact⟨fun _=>⟨_,List.getElem_mem hj,by simpa using h2⟩,fun _=>by omega⟩
theorem ofId_at (b:Book) (id:Int):ofId b id = -1 \/ ∃ (k:Nat) (hk:k<b.opn.length),ofId b id=k/\b.opn[k].id=id:=by
 unfold ofId;rcases first_spec (p:=fun s:Sess=>decide (s.id=id)) b.opn 0 with⟨h1,h2⟩|⟨j,hj,h1,h2,_⟩
 . exact .inl h1
 . exact .inr ⟨j,hj,by rw[h1];omega,by simpa using h2⟩
theorem failed_at (b:Book) (u:ByteArray):(failed b u = -1/\∀ l∈b.locks,l.user≠u) \/ ∃ (k:Nat) (hk:k<b.locks.length),failed b u=k/\b.locks[k].user=u:=by
 unfold failed;rcases first_spec (p:=fun l:Lock=>decide (l.user=u)) b.locks 0 with⟨h1,h2⟩|⟨j,hj,h1,h2,_⟩
 . exact .inl ⟨h1,fun l hl=>by simpa using h2 l hl⟩
 . exact .inr ⟨j,hj,by rw[h1];omega,by simpa using h2⟩
theorem openOk_ids {b:Book} (h:OpenOk b):∀ (d i:Nat) (hi:i+d+1<b.opn.length),(b.opn[i]'(by omega)).id<b.opn[i+d+1].id
 | 0,i,hi=>by
   have:=(h (i+1) hi).1.up (by omega);rw[Nat.add_sub_cancel,List.getD_eq_getElem?_getD,List.getElem?_eq_getElem (by omega)] at this;exact this
 | d+1,i,hi=>by
   have h1:=openOk_ids h d i (by omega);have h2:=(h (i+(d+1)+1) hi).1.up (by omega);rw[Nat.add_sub_cancel,List.getD_eq_getElem?_getD,List.getElem?_eq_getElem (by omega)] at h2;have e:(b.opn[i+(d+1)]?.getD default)=b.opn[i+d+1]'(by omega):=by rw[List.getElem?_eq_getElem (by omega)];rfl
   simp only[Option.getD_some] at h2;exact Int.lt_trans h1 h2
theorem openOk_iff (b:Book):OpenOk b ↔ b.opn.Pairwise SessR/\∀ s∈b.opn,SessG b.next s:=by
 constructor
 . intro h;refine⟨List.pairwise_iff_getElem.2 fun i j hi hj hij=>?_,fun s hs=>?_⟩
   . have h1:=openOk_ids h (j-i-1) i (by omega);have h2:=(h j hj).2 i hij;have e:i+(j-i-1)+1=j:=by omega
     simp only[e] at h1;exact⟨h1,h2⟩
   . obtain⟨i,hi,rfl⟩:=List.getElem_of_mem hs;obtain⟨⟨a1,a2,_,a3,a4,a5,a6⟩,_⟩:=h i hi;exact⟨a1,a2,a3,a4,a5,a6⟩
 . rintro⟨h1,h2⟩ i hi;rw[List.pairwise_iff_getElem] at h1;obtain⟨a1,a2,a3,a4,a5,a6⟩:=h2 _ (List.getElem_mem hi);refine⟨⟨a1,a2,fun h0=>?_,a3,a4,a5,a6⟩,fun k hk=>(h1 k i (by omega) hi hk).2⟩;rw[List.getD_eq_getElem?_getD,List.getElem?_eq_getElem (by omega)];exact (h1 (i-1) i (by omega) hi (by omega)).1
theorem locks_iff (b:Book):(∀ (i:Nat) (h:i<b.locks.length),LockAt b i h) ↔ (b.locks.Pairwise fun a c=>a.user≠c.user)/\∀ l∈b.locks,LockG l:=by
 constructor
 . intro h;refine⟨List.pairwise_iff_getElem.2 fun i j hi hj hij e=>?_,fun l hl=>?_⟩
   . have h1:=(h i hi).f;have h2:=(h j hj).f;rw[e,h2] at h1;omega
   . obtain⟨i,hi,rfl⟩:=List.getElem_of_mem hl;obtain⟨a1,a2,a3,a4,a5,_⟩:=h i hi;exact⟨a1,a2,a3,a4,a5⟩
 . rintro⟨h1,h2⟩ i hi;rw[List.pairwise_iff_getElem] at h1;obtain⟨a1,a2,a3,a4,a5⟩:=h2 _ (List.getElem_mem hi);refine⟨a1,a2,a3,a4,a5,?_⟩;rcases failed_at b b.locks[i].user with⟨_,h⟩|⟨k,hk,h,e⟩
   . exact absurd rfl (h _ (List.getElem_mem hi))
   . rw[h];by_cases c:k<i
     . exact absurd e (h1 k i hk hi c)
     by_cases c2:i<k
     . exact absurd e.symm (h1 i k hi hk c2)
     have:k=i:=by omega
     rw[this]
theorem prev_last_all (b:Book) (id:Int):(last b.items id b.items.length = -1/\prev b.items id=none) \/ ∃ (k:Nat) (hk:k<b.items.length),last b.items id b.items.length=k/\prev b.items id=some b.items[k]/\b.items[k].id=id:=by
 have:=prev_last b.items id b.items.length (Nat.le_refl _);rw[List.take_length] at this;rcases this with h|⟨k,hk,_,h⟩
 . exact .inl h
 . exact .inr ⟨k,hk,h⟩
theorem rightL_of {b:Book} (h:RightP b):RightL b:=by
 obtain⟨o1,o2⟩:=(openOk_iff b).1 h.opens;obtain⟨l1,l2⟩:=(locks_iff b).1 h.locks;refine⟨h.n0,h.n1,h.len,h.ll,o1,o2,(lines_iff b).1 fun i hi=>(h.items i hi).line,fun id y hy=>?_,fun s hs=>?_,l1,l2⟩
 . rcases prev_last_all b id with⟨_,e⟩|⟨k,hk,e1,e2,e3⟩
   . rw[e] at hy;cases hy
   . rw[e2] at hy;obtain rfl:=Option.some.inj hy;have:=(h.items k hk).ends (by rw[e3];exact e1);rw[e3,ofId_iff] at this;by_cases c:b.items[k].kind=3
     . refine⟨fun h=>absurd c h,fun h=>absurd ⟨fun _=>c,fun _=>h⟩ this⟩
     . refine⟨fun _=>?_,fun _=>c⟩;by_cases g:∃ s∈b.opn,s.id=id
       . exact g
       . exact absurd ⟨fun h=>absurd h g,fun h=>absurd h c⟩ this
 . obtain⟨i,hi,rfl⟩:=List.getElem_of_mem hs;obtain⟨k0,k1,k2⟩:=h.ends i hi;rcases prev_last_all b b.opn[i].id with⟨e,_⟩|⟨k,hk,e1,e2,e3⟩
   . omega
   . rw[e1,Int.toNat_natCast,List.getD_eq_getElem?_getD,List.getElem?_eq_getElem hk] at k1 k2;exact⟨_,e2,k1,k2⟩
theorem rightP_of {b:Book} (h:RightL b):RightP b:=by
 refine⟨h.n0,h.n1,h.len,h.ll,(openOk_iff b).2 ⟨h.ord,h.good⟩,fun i hi=>⟨(lines_iff b).2 h.lines i hi,fun e=>?_⟩,fun i hi=>?_,(locks_iff b).2 ⟨h.lk,h.lg⟩⟩
 . rcases prev_last_all b b.items[i].id with⟨c,_⟩|⟨k,hk,e1,e2,e3⟩
   . omega
   . rw[e1] at e;obtain rfl:k=i:=by omega
     have:=h.fin _ _ e2;rw[ofId_iff];rintro⟨a1,a2⟩;by_cases c:b.items[k].kind=3
     . exact this.2 (a2 c) c
     . exact c (a1 (this.1 c))
 . obtain⟨y,e,q1,q2⟩:=h.opn _ (List.getElem_mem hi);rcases prev_last_all b b.opn[i].id with⟨_,c⟩|⟨k,hk,e1,e2,e3⟩
   . rw[e] at c;cases c
   . rw[e] at e2;obtain rfl:=Option.some.inj e2;refine⟨by omega,?_,?_⟩<;>rw[e1,Int.toNat_natCast,List.getD_eq_getElem?_getD,List.getElem?_eq_getElem hk]
     . exact q1
     . exact q2
theorem right_opened {b:Book} (hr:RightL b) (o:Op) (hm:MayP o):RightL (openedOp b o).1:=by
 unfold openedOp;split
 . exact hr
 rename_i hp;split
 . exact hr
 rename_i hb;split
 . exact hr
 rename_i hf;dsimp only;obtain⟨n0,n1,len,ll,ord,good,lines,fin,opn,lk,lg⟩:=hr;have hp:poolOk o.addr:=Classical.byContradiction hp;obtain⟨_,_,_,_,m5,m6,m7,m8,_⟩:=hm;have hids:=lines.ids;have hpn:prev b.items b.next=none:=prev_none fun x hx e=>by have:=(hids x hx).2;omega
 refine⟨by (try dsimp only);omega,by (try dsimp only);omega,by simp;omega,ll,?_,?_,?_,?_,?_,lk,lg⟩
 . refine List.pairwise_append.2 ⟨ord,List.pairwise_singleton _ _,fun s hs t ht=>?_⟩;obtain rfl:=List.mem_singleton.1 ht;obtain⟨i,hi,rfl⟩:=List.getElem_of_mem hs;exact⟨(good _ (List.getElem_mem hi)).id1,fun e=>hb ⟨i,hi,.inl e⟩,fun e=>hb ⟨i,hi,.inr e⟩⟩
 . intro s hs;rcases List.mem_append.1 hs with hs|hs
   . obtain⟨a1,a2,a3,a4,a5,a6⟩:=good s hs;exact⟨a1,Int.lt_trans a2 (by show b.next<b.next+1;omega),a3,a4,a5,a6⟩
   . obtain rfl:=List.mem_singleton.1 hs;exact⟨n0,by show b.next<b.next+1;omega,m5,m6,⟨m7,m8⟩,hp⟩
 . refine .snoc _ _ (lines.up (show b.next<=b.next+1 by omega)) n0 (by show b.next<b.next+1;omega) ?_;simp only;rw[hpn];exact⟨rfl,rfl,rfl,rfl⟩
 . intro id y hy;simp only[prev_snoc] at hy;split at hy
   . rename_i e;obtain rfl:=Option.some.inj hy;exact⟨fun _=>⟨_,List.mem_append_right _ (List.mem_singleton_self _),e⟩,fun _=>by simp⟩
   . rename_i e;rw[fin id y hy];constructor
     . rintro⟨s,hs,e⟩;exact⟨s,List.mem_append_left _ hs,e⟩
     . rintro⟨s,hs,e2⟩;rcases List.mem_append.1 hs with hs|hs
       . exact⟨s,hs,e2⟩
       . obtain rfl:=List.mem_singleton.1 hs;exact absurd e2 e
 . intro s hs;simp only[prev_snoc];rcases List.mem_append.1 hs with hs|hs
   . have:=(good s hs).id1;rw[if_neg (by omega)];exact opn s hs
   . obtain rfl:=List.mem_singleton.1 hs;rw[if_pos rfl];exact⟨_,rfl,rfl,rfl⟩
theorem ord_inj {l:List Sess} (h:l.Pairwise SessR) {i j:Nat} (hi:i<l.length) (hj:j<l.length) (e:l[i].id=l[j].id):i=j:=by
 rw[List.pairwise_iff_getElem] at h;by_cases c:i<j
 . have:=(h i j hi hj c).1;omega
 by_cases c2:j<i
 . have:=(h j i hj hi c2).1;omega
 omega
theorem right_counted {b:Book} (hr:RightL b) (o:Op) (hm:MayP o) (hk:o.kind=2 \/ o.kind=3):RightL (countedOp b o).1:=by
 unfold countedOp countedAt;split
 . exact hr
 rename_i hk0;rcases ofId_at b o.id with h|⟨k,hlt,hid,hk1⟩
 . omega
 rw[hid] at *;have hgd:b.opn.getD ((k:Int)).toNat default=b.opn[k]:=by rw[Int.toNat_natCast,List.getD_eq_getElem?_getD,List.getElem?_eq_getElem hlt];rfl
 rw[hgd,Int.toNat_natCast];split
 . exact hr
 rename_i hge;have hr0:=hr;obtain⟨n0,n1,len,ll,ord,good,lines,fin,opn,lk,lg⟩:=hr;have hs:=good _ (List.getElem_mem hlt);obtain⟨y,hy,hy1,hy2⟩:=opn _ (List.getElem_mem hlt);have hyk:y.kind≠3:=(fin _ y hy).2 ⟨_,List.getElem_mem hlt,rfl⟩;rw[hk1] at hy;obtain⟨_,_,m3,m4,m5,m6,m7,m8,m9,m10,m11,m12⟩:=hm;have hother:∀ {s:Sess},s∈b.opn.take k++b.opn.drop (k+1)->s∈b.opn/\s.id≠o.id:=fun {s} hs=>by
  obtain⟨m,hm,hne,rfl⟩:=mem_cut hs;exact⟨List.getElem_mem hm,fun e=>hne (ord_inj ord hm hlt (by rw[e,hk1]))⟩
 split
 . have hsub:List.Sublist (b.opn.take k++b.opn.drop (k+1)) b.opn:=by
    rw[<- List.eraseIdx_eq_take_drop_succ];exact List.eraseIdx_sublist _ _
   refine⟨n0,n1,by simp;omega,ll,ord.sublist hsub,fun s hs=>good s (hsub.subset hs),?_,?_,?_,lk,lg⟩
   . refine .snoc _ _ lines (by (try dsimp only);omega) (by have:=hs.id1;simp only;omega) ?_;simp only;rw[hy];exact⟨hyk,by (try dsimp only);omega,by (try dsimp only);omega,.inr ⟨rfl,by (try dsimp only);omega⟩⟩
   . intro id z hz;simp only[prev_snoc] at hz;split at hz
     . rename_i e;obtain rfl:=Option.some.inj hz;refine⟨fun h=>absurd rfl h,?_⟩;rintro⟨s,hs,e2⟩;exact absurd (e2.trans e.symm) (hother hs).2
     . rename_i e;rw[fin id z hz];constructor
       . rintro⟨s,hs,e2⟩;obtain⟨j,hj,rfl⟩:=List.getElem_of_mem hs;exact⟨_,cut_mem hj (fun c=>by subst c;exact e (by (try dsimp only);omega)),e2⟩
       . rintro⟨s,hs,e2⟩;exact⟨s,(hother hs).1,e2⟩
   . intro s hs;obtain⟨h1,h2⟩:=hother hs;simp only[prev_snoc];rw[if_neg (fun e=>h2 e.symm)];exact opn s h1
 split
 . exact hr0
 rename_i hne hroom;have hmap:∀ s:Sess,s∈b.opn.set k { b.opn[k] with inn:=o.inn,out:=o.out }->s={ b.opn[k] with inn:=o.inn,out:=o.out } \/ (s∈b.opn/\s.id≠o.id):=fun s hs=>by
  rcases mem_put hs with rfl|⟨m,hm,hne,rfl⟩
  . exact .inl rfl
  . exact .inr ⟨List.getElem_mem hm,fun e=>hne (ord_inj ord hm hlt (by rw[e,hk1]))⟩
 refine⟨n0,n1,by simp;omega,ll,?_,?_,?_,?_,?_,lk,lg⟩
 . rw[List.pairwise_iff_getElem] at ord ⊢;intro i j hi hj hij;rw[List.length_set] at hi hj;have:=ord i j hi hj hij;unfold SessR at *;rw[List.getElem_set,List.getElem_set]
   repeat' split
   all_goals subst_vars
   all_goals exact this
 . intro s hs;rcases hmap s hs with rfl|⟨h,_⟩
   . obtain⟨a1,a2,a3,a4,a5,a6⟩:=good _ (List.getElem_mem hlt);exact⟨a1,a2,a3,a4,a5,a6⟩
   . exact good s h
 . refine .snoc _ _ lines (by (try dsimp only);omega) (by have:=hs.id1;simp only;omega) ?_;simp only;rw[hy];exact⟨hyk,by (try dsimp only);omega,by (try dsimp only);omega,.inl ⟨rfl,rfl⟩⟩
 . intro id z hz;simp only[prev_snoc] at hz;split at hz
   . rename_i e;obtain rfl:=Option.some.inj hz;refine⟨fun _=>⟨_,put_self hlt,?_⟩,fun _=>by simp⟩;simp only at e ⊢;omega
   . rename_i e;rw[fin id z hz];constructor
     . rintro⟨s,hs,e2⟩;obtain⟨j,hj,rfl⟩:=List.getElem_of_mem hs;exact⟨_,put_mem hj (fun c=>by subst c;exact e (by (try dsimp only);omega)),e2⟩
     . rintro⟨s,hs,e2⟩;rcases hmap s hs with rfl|⟨h,_⟩
       . simp only at e e2;exact absurd (by omega) e
       . exact⟨s,h,e2⟩
 . intro s hs;simp only[prev_snoc];rcases hmap s hs with rfl|⟨h,h2⟩
   . rw[if_pos (by (try dsimp only);omega)];exact⟨_,rfl,rfl,rfl⟩
   . rw[if_neg (fun e=>h2 e.symm)];exact opn s h
theorem right_failed {b:Book} (hr:RightL b) (o:Op) (hm:MayP o):RightL (failedOp b o).1:=by
 unfold failedOp failedAt;obtain⟨_,_,m3,m4,m5,m6,m7,m8,m9,m10,m11,m12⟩:=hm;have hr0:=hr;obtain⟨n0,n1,len,ll,ord,good,lines,fin,opn,lk,lg⟩:=hr;rcases failed_at b o.user with⟨h,hno⟩|⟨k,hlt,hid,hk1⟩
 . rw[h];split
   . exact hr0
   rw[if_pos (by omega)];split
   . exact hr0
   rename_i hk hf;refine⟨n0,n1,len,by simp;omega,ord,good,lines,fin,opn,?_,?_⟩
   . refine List.pairwise_append.2 ⟨lk,List.pairwise_singleton _ _,fun s hs t ht=>?_⟩;obtain rfl:=List.mem_singleton.1 ht;exact hno s hs
   . intro l hl;rcases List.mem_append.1 hl with hl|hl
     . exact lg l hl
     . obtain rfl:=List.mem_singleton.1 hl;exact⟨⟨m7,m8⟩,by simp,by simp,m9,m10⟩
 rw[hid];split
 . have hsub:List.Sublist (b.locks.take k++b.locks.drop (k+1)) b.locks:=by
    rw[<- List.eraseIdx_eq_take_drop_succ];exact List.eraseIdx_sublist _ _
   rw[if_neg (by omega),Int.toNat_natCast];exact⟨n0,n1,len,by simp;omega,ord,good,lines,fin,opn,lk.sublist hsub,fun l hl=>lg l (hsub.subset hl)⟩
 rw[if_neg (by omega),Int.toNat_natCast,List.getD_eq_getElem?_getD,List.getElem?_eq_getElem hlt,Option.getD_some];split
 . exact hr0
 obtain⟨a1,a2,a3,a4,a5⟩:=lg _ (List.getElem_mem hlt);refine⟨n0,n1,len,by simpa using ll,ord,good,lines,fin,opn,?_,?_⟩
 . rw[List.pairwise_iff_getElem] at lk ⊢;intro i j hi hj hij;rw[List.length_set] at hi hj;have:=lk i j hi hj hij;rw[List.getElem_set,List.getElem_set]
   repeat' split
   all_goals subst_vars
   . omega
   . exact fun e=>this (hk1.trans e)
   . exact fun e=>this (e.trans hk1.symm)
   . exact this
 . intro l hl;rcases mem_put hl with rfl|⟨m,hm,hne,rfl⟩
   . exact⟨⟨m7,m8⟩,by (try dsimp only);omega,by (try dsimp only);omega,m9,m10⟩
   . exact lg _ (List.getElem_mem hm)
theorem prev_kept (q:Int->Bool) (id:Int):∀ l:List Item,prev (l.filter fun x=>q x.id) id=if q id then prev l id else none:=by
 intro l;unfold prev;rw[List.filter_filter];by_cases h:q id
 . rw[if_pos h];congr 1;refine List.filter_congr fun x _=>?_;by_cases e:x.id=id
   . simp[e,h]
   . simp[e]
 . rw[if_neg h,List.filter_eq_nil_iff.2]
   . rfl
   . intro x _;by_cases e:x.id=id
     . simp[e,h]
     . simp[e]
theorem lines_kept {n:Int} {l:List Item} (q:Int->Bool) (h:Lines n l):Lines n (l.filter fun x=>q x.id):=by
 induction h with
 | nil=>exact .nil
 | snoc l x _ h0 h1 hs ih =>
   rw[List.filter_append];by_cases e:q x.id
   . rw[show [x].filter (fun x=>q x.id)=[x] by simp[e]];refine .snoc _ _ ih h0 h1 ?_;rw[prev_kept,if_pos e];exact hs
   . rw[show [x].filter (fun x=>q x.id)=[] by simp[e],List.append_nil];exact ih
theorem right_trim {b:Book} (hr:RightL b):RightL { b with items:=kept b b.items }:=by
 obtain⟨n0,n1,len,ll,ord,good,lines,fin,opn,lk,lg⟩:=hr;refine⟨n0,n1,?_,ll,ord,good,?_,?_,?_,lk,lg⟩
 . have:(kept b b.items).length<=b.items.length:=List.length_filter_le _ _;simp only;omega
 . exact lines_kept (fun id=>decide (0<=ofId b id)) lines
 . intro id y hy;have hk:=prev_kept (fun id=>decide (0<=ofId b id)) id b.items;have hy:prev (b.items.filter fun x=>decide (0<=ofId b x.id)) id=some y:=hy;rw[hk] at hy;split at hy
   . exact fin id y hy
   . cases hy
 . intro s hs;have hk:=prev_kept (fun id=>decide (0<=ofId b id)) s.id b.items;rw[if_pos (by simpa using (ofId_iff b s.id).2 ⟨s,hs,rfl⟩)] at hk;show ∃ y,prev (b.items.filter fun x=>decide (0<=ofId b x.id)) s.id=some y/\y.inn=s.inn/\y.out=s.out;rw[hk];exact opn s hs
theorem rightL_apply {b:Book} (hr:RightL b) (o:Op):RightL (applyOp b o).1:=by
 unfold applyOp;split
 . exact hr
 rename_i hm;have hm:MayP o:=Classical.byContradiction hm;split
 . exact right_opened hr o hm
 split
 . exact right_counted hr o hm ‹_›
 split
 . exact right_failed hr o hm
 exact right_trim hr
end Bk
namespace Gt
open Bk
def passO (u:ByteArray):Bk.Op:=⟨5,0,0,0,u,0,0,0,0⟩
def failO (u:ByteArray) (t:Int):Bk.Op:=⟨4,0,0,0,u,0,0,0,t⟩
theorem may_pass {u:ByteArray} (hu:nameOk u):MayP (passO u):=by
 unfold nameOk at hu;unfold MayP passO;simp only;omega
theorem may_fail {u:ByteArray} (hu:nameOk u) {t:Int} (h0:0<=t) (h1:t<=1000000000):MayP (failO u t):=by
 unfold nameOk at hu;unfold MayP failO;simp only;omega
theorem apply_pass_eq {b:Book} {u:ByteArray} (hu:nameOk u):applyOp b (passO u)=failedAt b (passO u) (failed b u):=by
 unfold applyOp;rw[if_neg (fun k=>k (may_pass hu)),if_neg (show ¬ (passO u).kind=1 by show ¬ (5:Int)=1;decide),if_neg (show ¬ ((passO u).kind=2 \/ (passO u).kind=3) by show ¬ ((5:Int)=2 \/ (5:Int)=3);decide),if_pos (show ((passO u).kind=4 \/ (passO u).kind=5) by show ((5:Int)=4 \/ (5:Int)=5);decide)];rfl
theorem apply_fail_eq {b:Book} {u:ByteArray} (hu:nameOk u) {t:Int} (h0:0<=t) (h1:t<=1000000000):applyOp b (failO u t)=failedAt b (failO u t) (failed b u):=by
 unfold applyOp;rw[if_neg (fun k=>k (may_fail hu h0 h1)),if_neg (show ¬ (failO u t).kind=1 by show ¬ (4:Int)=1;decide),if_neg (show ¬ ((failO u t).kind=2 \/ (failO u t).kind=3) by show ¬ ((4:Int)=2 \/ (4:Int)=3);decide),if_pos (show ((failO u t).kind=4 \/ (failO u t).kind=5) by show ((4:Int)=4 \/ (4:Int)=5);decide)];rfl
theorem lock_none {b:Book} {u:ByteArray}:lockU b u=none ↔ ∀ l∈b.locks,l.user≠u:=by
 unfold lockU;rw[List.find?_eq_none];simp
theorem lock_some {b:Book} (hr:b.locks.Pairwise fun a c=>a.user≠c.user) {l:Lock} (hl:l∈b.locks):lockU b l.user=some l:=by
 unfold lockU;obtain⟨i,hi,rfl⟩:=List.getElem_of_mem hl;rw[List.find?_eq_some_iff_getElem];refine⟨by simp,i,hi,rfl,fun j hj=>?_⟩;rw[List.pairwise_iff_getElem] at hr;simpa using hr j i (by omega) hi hj
theorem failedN_zero {b:Book} (hr:RightL b) {u:ByteArray}:(failedN b u).1=0 ↔ ∀ l∈b.locks,l.user≠u:=by
 rw[<- lock_none];unfold failedN;cases h:lockU b u with
 | none=>simp
 | some l =>
   have hm:l∈b.locks:=List.mem_of_find?_eq_some h;have:=(hr.lg l hm).n0;simp only[reduceCtorEq,iff_false];omega
theorem failedN_fits {b:Book} (hr:RightL b) (u:ByteArray):0<=(failedN b u).1/\(failedN b u).1<=255/\0<=(failedN b u).2/\(failedN b u).2<=1000000000:=by
 unfold failedN;cases h:lockU b u with
 | none=>simp
 | some l =>
   have hm:l∈b.locks:=List.mem_of_find?_eq_some h;have g:=hr.lg l hm;have:=g.n0;have:=g.n1;have:=g.t0;have:=g.t1;simp only;omega
theorem failedN_of {b:Book} (hr:b.locks.Pairwise fun a c=>a.user≠c.user) {l:Lock} (hl:l∈b.locks):failedN b l.user=(l.n,l.at_):=by
 unfold failedN;rw[lock_some hr hl]
theorem failedN_no {b:Book} {u:ByteArray} (h:∀ l∈b.locks,l.user≠u):failedN b u=(0,0):=by
 unfold failedN;rw[lock_none.2 h]
theorem failedN_same {b c:Book} (hb:b.locks.Pairwise fun a c=>a.user≠c.user) (hc:c.locks.Pairwise fun a c=>a.user≠c.user) {v:ByteArray} (h:∀ l,l.user=v->(l∈b.locks ↔ l∈c.locks)):failedN c v=failedN b v:=by
 by_cases hn:∀ l∈b.locks,l.user≠v
 . rw[failedN_no hn,failedN_no fun l hl e=>hn l ((h l e).2 hl) e]
 . simp only[Classical.not_forall] at hn;obtain⟨l,hl,e⟩:=hn;have e:l.user=v:=Classical.not_not.1 e;subst e;rw[failedN_of hb hl,failedN_of hc ((h l rfl).1 hl)]
theorem apply_pass {b:Book} (hr:RightL b) {u:ByteArray} (hu:nameOk u):((failedN b u).1=0/\applyOp b (passO u)=(b,5)) \/ ((failedN b u).1≠0/\(applyOp b (passO u)).2=0/\failedN (applyOp b (passO u)).1 u=(0,0)/\∀ v,v≠u->failedN (applyOp b (passO u)).1 v=failedN b v):=by
 have hR:=rightL_apply hr (passO u);rw[apply_pass_eq hu] at hR ⊢;unfold failedAt at hR ⊢;rw[if_pos (show (passO u).kind=5 from rfl)] at hR ⊢;rcases failed_at b u with⟨h1,h2⟩|⟨k,hk,h1,h2⟩
 . rw[h1,if_pos (by decide)];exact .inl ⟨(failedN_zero hr).2 h2,rfl⟩
 . rw[h1] at hR ⊢;rw[if_neg (by omega)] at hR ⊢;simp only[Int.toNat_natCast] at hR ⊢;refine .inr ⟨fun h=>(failedN_zero hr).1 h _ (List.getElem_mem hk) h2,trivial,?_,fun v hv=>?_⟩
   . refine failedN_no fun l hl e=>?_;obtain⟨m,hm,hne,rfl⟩:=mem_cut hl;have:=hr.lk;rw[List.pairwise_iff_getElem] at this;rcases Nat.lt_or_ge m k with q|q
     . exact this m k hm hk q (by rw[e,h2])
     . exact this k m hk hm (by omega) (by rw[e,h2])
   . refine failedN_same hr.lk hR.lk fun l hl=>⟨fun h=>?_,fun h=>?_⟩
     . obtain⟨m,hm,rfl⟩:=List.getElem_of_mem h;exact cut_mem hm fun e=>hv (by subst e;exact hl.symm.trans h2)
     . obtain⟨m,hm,-,rfl⟩:=mem_cut h;exact List.getElem_mem hm
theorem apply_fail {b:Book} (hr:RightL b) {u:ByteArray} (hu:nameOk u) {t:Int} (h0:0<=t) (h1:t<=1000000000) (ht:(failedN b u).2<=t):((failedN b u).1=0/\b.locks.length=8/\applyOp b (failO u t)=(b,4)) \/ ((applyOp b (failO u t)).2=0/\failedN (applyOp b (failO u t)).1 u=(min 255 ((failedN b u).1+1),t)/\∀ v,v≠u->failedN (applyOp b (failO u t)).1 v=failedN b v):=by
 have hR:=rightL_apply hr (failO u t);rw[apply_fail_eq hu h0 h1] at hR ⊢;unfold failedAt at hR ⊢;rw[if_neg (show ¬ (failO u t).kind=5 by show ¬ (4:Int)=5;decide)] at hR ⊢;rcases failed_at b u with⟨e1,e2⟩|⟨k,hk,e1,e2⟩
 . rw[e1,if_pos (by decide)] at hR ⊢;by_cases h8:(b.locks.length:Int)=8
   . rw[if_pos h8];exact .inl ⟨(failedN_zero hr).2 e2,by omega,rfl⟩
   . rw[if_neg h8] at hR ⊢;have z:=failedN_no e2;refine .inr ⟨rfl,?_,fun v hv=>?_⟩
     . rw[z];exact failedN_of (l:=⟨u,1,t⟩) hR.lk (by simp[failO])
     . refine failedN_same hr.lk hR.lk fun l hl=>⟨fun h=>by simp[h],fun h=>?_⟩;rcases List.mem_append.1 h with h|h
       . exact h
       . rw[List.mem_singleton.1 h] at hl;exact absurd hl.symm hv
 . rw[e1] at hR ⊢;rw[if_neg (by omega)] at hR ⊢;have hg:b.locks.getD k default=b.locks[k]:=by simp[hk]
   have hf:=failedN_of hr.lk (List.getElem_mem hk);rw[e2] at hf;simp only[Int.toNat_natCast,hg] at hR ⊢;rw[hf] at ht ⊢;simp only at ht ⊢;rw[if_neg (show ¬ b.locks[k].at_ > (failO u t).at_ by show ¬ b.locks[k].at_ > t;omega)] at hR ⊢;refine .inr ⟨rfl,?_,fun v hv=>?_⟩
   . exact failedN_of (l:=⟨u,min 255 (b.locks[k].n+1),t⟩) hR.lk (put_self hk)
   . refine failedN_same hr.lk hR.lk fun l hl=>⟨fun h=>?_,fun h=>?_⟩
     . obtain⟨m,hm,rfl⟩:=List.getElem_of_mem h;exact put_mem hm fun e=>hv (by subst e;exact hl.symm.trans e2)
     . rcases mem_put h with h|⟨m,hm,-,rfl⟩
       . rw[h] at hl;exact absurd hl.symm hv
       . exact List.getElem_mem hm
theorem verdict_ops {b:Book} {u:ByteArray} {known good:Bool} {now:Int}:(verdictN b u known good now=(false,[])/\(known=false \/ lockedN b u now=true)) \/ ((known=true/\lockedN b u now=false)/\((good=true/\(failedN b u).1=0/\verdictN b u known good now=(true,[])) \/ (good=true/\(failedN b u).1≠0/\verdictN b u known good now=(true,[passO u])) \/ (good=false/\verdictN b u known good now=(false,[failO u (max (failedN b u).2 now)])))):=by
 unfold verdictN;by_cases c:known=false \/ lockedN b u now=true
 . rw[if_pos c];exact .inl ⟨rfl,c⟩
 . rw[if_neg c];have c1:known=true:=by cases known<;>simp_all
   have c2:lockedN b u now=false:=by cases h:lockedN b u now<;>simp_all
   refine .inr ⟨⟨c1,c2⟩,?_⟩;cases good
   . exact .inr (.inr ⟨rfl,rfl⟩)
   . rw[if_pos rfl];by_cases z:(failedN b u).1=0
     . rw[if_pos z];exact .inl ⟨rfl,z,rfl⟩
     . rw[if_neg z];exact .inr (.inl ⟨rfl,z,rfl⟩)
noncomputable def behind (b:Book) (l:List Bk.Op):Book:=l.foldl (fun c o=>(applyOp c o).1) b
theorem apply_lock_only {b:Book} {o:Bk.Op} (h:o.kind=4 \/ o.kind=5):(applyOp b o).1={ b with locks:=(applyOp b o).1.locks }:=by
 unfold applyOp;split
 . rfl
 rw[if_neg (show ¬ o.kind=1 by omega),if_neg (show ¬ (o.kind=2 \/ o.kind=3) by omega)];unfold failedOp failedAt
 repeat' split
 all_goals rfl
theorem verdict_behind {b:Book} (hr:RightL b) {u:ByteArray} (hu:nameOk u) {known good:Bool} {now:Int} (h0:0<=now) (h1:now<=1000000000):(verdictN b u known good now).2.length<=1/\behind b (verdictN b u known good now).2={ b with locks:=(behind b (verdictN b u known good now).2).locks }/\∀ v,v≠u->failedN (behind b (verdictN b u known good now).2) v=failedN b v:=by
 obtain⟨f1,f2,f3,f4⟩:=failedN_fits hr u;rcases verdict_ops (b:=b) (u:=u) (known:=known) (good:=good) (now:=now) with⟨e,-⟩|⟨-,⟨-,-,e⟩|⟨-,z,e⟩|⟨-,e⟩⟩
 . rw[e];exact⟨by simp,rfl,fun _ _=>rfl⟩
 . rw[e];exact⟨by simp,rfl,fun _ _=>rfl⟩
 . rw[e];refine⟨by simp,apply_lock_only (.inr rfl),fun v hv=>?_⟩;rcases apply_pass hr hu with⟨-,q⟩|⟨-,-,-,q⟩
   . show failedN (applyOp b (passO u)).1 v=_;rw[q]
   . exact q v hv
 . rw[e];refine⟨by simp,apply_lock_only (.inl rfl),fun v hv=>?_⟩;rcases apply_fail hr hu (t:=max (failedN b u).2 now) (by omega) (by omega) (by omega) with⟨-,-,q⟩|⟨-,-,q⟩
   . show failedN (applyOp b (failO u _)).1 v=_;rw[q]
   . exact q v hv
theorem verdict_same {b c:Book} {v:ByteArray} (h:failedN c v=failedN b v) (known good:Bool) (now:Int):verdictN c v known good now=verdictN b v known good now:=by
 unfold verdictN lockedN;rw[h]
theorem tryFail_n {b:Book} (hr:RightL b) {u:ByteArray} (hu:nameOk u) {now:Int} (h0:0<=now) (h1:now<=1000000000):((verdictN b u true false now).2=[]/\3<=(failedN b u).1) \/ (∃ t,(verdictN b u true false now).2=[failO u t]/\(((applyOp b (failO u t)).2≠0/\b.locks.length=8) \/ ((applyOp b (failO u t)).2=0/\(failedN (applyOp b (failO u t)).1 u).1=min 255 ((failedN b u).1+1)))):=by
 obtain⟨f1,f2,f3,f4⟩:=failedN_fits hr u;rcases verdict_ops (b:=b) (u:=u) (known:=true) (good:=false) (now:=now) with⟨e,q⟩|⟨-,⟨q,-,e⟩|⟨q,z,e⟩|⟨-,e⟩⟩
 . rcases q with q|q
   . cases q
   . unfold lockedN at q;simp only[Bool.and_eq_true,decide_eq_true_eq] at q;exact .inl ⟨by rw[e],q.1⟩
 . cases q
 . cases q
 . refine .inr ⟨_,by rw[e],?_⟩;rcases apply_fail hr hu (t:=max (failedN b u).2 now) (by omega) (by omega) (by omega) with⟨-,k,q⟩|⟨k,q,-⟩
   . exact .inl ⟨by rw[q];show (4:Int)≠0;decide,k⟩
   . exact .inr ⟨k,by rw[q]⟩
theorem locked_until (b:Book) (u:ByteArray) (now:Int) (h0:0<=now):lockedN b u now=decide (now<untilN b u):=by
 unfold lockedN untilN;by_cases h:3<=(failedN b u).1
 . rw[if_pos h,decide_eq_true h,Bool.true_and]
 . rw[if_neg h,decide_eq_false h,Bool.false_and,decide_eq_false (by omega)]
theorem locked_later (b:Book) (u:ByteArray) (now:Int) (k:Nat):lockedN b u (now+k)=true->lockedN b u now=true:=by
 unfold lockedN;simp only[Bool.and_eq_true,decide_eq_true_eq];omega
end Gt
section
variable (P:Program) (Γ:Nat->Option (List Data))
def WP (c:Code) (Q:Exit->St->Prop) (s:St):Prop:=∀ (L0:Nat->Prop) (w0:W0) (m:Nat->MB) (a:Act) (w:World),Rel Γ L0 w0 m s a w->c.wp P (Lifts Γ L0 w0 m s w Q) a w
end
section
variable {P:Program} {Γ:Nat->Option (List Data)} {L0:Nat->Prop} {w0:W0}
theorem WP.code (hm:P.follows .mixedOrders=true) {c:Code} {Q:Exit->St->Prop} {s:St} (h:wpF P Γ c Q s):WP P Γ c Q s:=fun L0 w0 m a w hr=>wp_sound hm c Q m s a w hr h
theorem WP.seq (hm:P.follows .mixedOrders=true) {x y:Code} {Q:Exit->St->Prop} {s:St} (h:wpF P Γ x (thenW (WP P Γ y Q) Q) s):WP P Γ (.seq x y) Q s:=fun L0 w0 m a w hr=>by
 refine wp_seq (wp_mono (wp_sound hm x _ m s a w hr h) fun e a' w' ⟨m',s',h1,h2,h3⟩=>?_);cases e with
 | normal=>exact wp_mono (h3 L0 w0 m' a' w' h1) fun e a'' w'' ⟨m'',s'',h4,h5,h6⟩=>⟨m'',s'',h4,h2.trans h5,h6⟩
 | exit id=>exact⟨m',s',h1,h2,h3⟩
 | goto l=>exact⟨m',s',h1,h2,h3⟩
 | ret=>exact⟨m',s',h1,h2,h3⟩
 | panic ch=>exact⟨m',s',h1,h2,h3⟩
 | outgrown=>exact⟨m',s',h1,h2,h3⟩
end
def JoinX (S s:St):Prop:=WeakX s S
def joinW (S:St) (Q:Exit->St->Prop):Exit->St->Prop
 | .normal,s=>JoinX S s
 | e,s=>Q e s
@[go_sem] theorem joinW_normal (S:St) (Q:Exit->St->Prop) (s:St):joinW S Q .normal s=JoinX S s:=rfl
@[go_sem] theorem joinW_exit (S:St) (Q:Exit->St->Prop) (s:St) (id:Nat):joinW S Q (.exit id) s=Q (.exit id) s:=rfl
@[go_sem] theorem joinW_ret (S:St) (Q:Exit->St->Prop) (s:St):joinW S Q .ret s=Q .ret s:=rfl
@[congr] theorem joinW_congr {n0:Nat} (tk:tick=n0) (S:St) (Q:Exit->St->Prop) (x:Exit) (s:St):joinW S Q x s=joinW S Q x s:=rfl
@[congr] theorem JoinX_congr {n0:Nat} (tk:tick=n0) (S s:St):JoinX S s=JoinX S s:=rfl
@[congr] theorem WP_congr {n0:Nat} (tk:tick=n0) (P:Program) (Γ:Nat->Option (List Data)) (c:Code) (Q:Exit->St->Prop) (s:St):WP P Γ c Q s=WP P Γ c Q s:=rfl
theorem join_ren {S s:St} (F:List Nat) (ρ:Nat->Option Nat) (h:WeakR F ρ s S):JoinX S s:=.inr ⟨F,ρ,h⟩
section
variable {P:Program} {Γ:Nat->Option (List Data)}
theorem pc_ofW {f:FuncId} {fn:Func} {c:Code} {xs:List Data} {r:Data} (hf:P.funcs[f]?=some fn) (hb:fn.body=some c) (hc:CallOk P f)
 (h:WP P Γ c (retQ P fn r) ⟨envArgs (xs.map toD),fun _=>.dead,0,0,xs.length+(fn.ntmps-xs.length)⟩):PC P Γ f xs r:=by
 refine⟨hc,fun L w vs hg hL hl hv=>calls_of_wp hf hb ?_⟩;have hlive:∀ b,Live L (fun _=>.res) (fun _=>Blk.dead) b ↔ L b:=fun b=>⟨(fun h=>by
  rcases h with h|⟨g,sz,hg,_⟩
  . exact h
  . cases hg),.inl⟩
 have hrel:Rel Γ L (W0.of w) (fun _=>.res) ⟨envArgs (xs.map toD),fun _=>.dead,0,0,xs.length+(fn.ntmps-xs.length)⟩ { tmps:=vs++Array.replicate (fn.ntmps-vs.size) undef,defers:=[] } w:=by
  refine⟨rfl,fun t=>?_,⟨(fun g rw cells hg=>by cases hg),(fun g g' cells rw' cells' b sz sz' hg=>by cases hg),(fun g o hg=>by cases hg),(fun g g' o o' b sz sz' hg=>by cases hg)⟩,fun _ _=>rfl,fun _ _=>rfl,Below.refl _ _,(fun b hb=>⟨hL b hb,rfl⟩),hg.mono (Grow.less w fun b hb=>(hlive b).1 hb),Nat.le_refl _,by simp[hl]⟩;refine args_env (by simpa using hl) (fun i d v hd hvi=>?_) t;rw[List.getElem?_map,Option.map_eq_some_iff] at hd;obtain⟨x,hx,rfl⟩:=hd;exact toD_ok ((hv i x v hx hvi).mono (Grow.less w fun b hb=>(hlive b).1 hb))
 refine wp_mono (h _ _ _ _ _ hrel) fun e a' w' ⟨m',s',h1,h2,h3⟩=>?_;have key:(resK P fn.results.toList s' fun ds=>∃ xs,FrzL true s'.hp ds xs/\r=tupD xs)->a'.defers=[]/\∃ v,(results fn a'.tmps).run P w' = .ok v w'/\∃ v',Ending.returned v = .returned v'/\VD L w' r v'/\Below w.heap.size w w':=by
  intro hk;obtain⟨ds,us,⟨ys,⟨hyl,hyf⟩,hr⟩,k1,k2,k3⟩:=res_ok h1 _ _ hk;subst hr;refine⟨h1.defers,_,results_run k3,_,rfl,?_,h1.below⟩;have each:∀ (i:Nat) (y:Data) (u:Value),ys[i]?=some y->us[i]?=some u->VD L w' y u:=fun i y u hy hu=>by
   have hi:i<ds.length:=by rw[hyl];exact (List.getElem?_eq_some_iff.1 hy).1
   refine (hyf i _ y (List.getElem?_eq_getElem hi) hy).vd (m:=m') (L:=Live L m' s'.hp) (fun b hb=>.inl hb) (fun g rw cells b sz hg _ hm=>?_) (fun g rw cells hg hm=>?_) (fun _ g o b hg hm=>?_) (k2 i _ u (List.getElem?_eq_getElem hi) hu);rotate_left 2
   . obtain⟨b',v',q1,q2,q3,q4⟩:=h1.heap.obj g o hg;rw[q1] at hm;cases hm;exact⟨h1.wr.ltO hg q1,fun hb=>by have:=hL b hb;have:w.heap.size<=_:=q2.1;omega,v',q3,q4⟩
   . obtain⟨vs,ty,e1,e2,e3,_,e5⟩:=at_of h1.wr hg hm;have hbase:w.heap.size<=b:=by
      rcases h1.heap.blk g rw cells hg with⟨q,_⟩|⟨b',sz',_,_,q1,q2,_⟩
      . rw[q] at hm;cases hm
      . rw[q1] at hm;cases hm;exact q2.1
     exact⟨h1.wr.lt hg hm,fun hb=>by have:=hL b hb;omega,vs,ty,e1,fun i d hd=>by obtain⟨v,a1,_,a3⟩:=e5 i d hd;exact⟨v,a1,a3⟩⟩
   . rcases h1.heap.blk g rw cells hg with⟨_,q⟩|⟨_,_,_,_,q,_⟩
     . exact q
     . rw[hm] at q;cases q
  have hly:ys.length=us.length:=by omega
  match ys,us,hly,each with
  | [],[],_,_=>exact .tup [] #[] rfl (fun i x v hx=>by simp at hx)
  | [y],[u],_,each=>exact each 0 y u rfl rfl
  | y::y2::ys,u::u2::us,hly,each=>exact .tup _ _ (by simp at hly ⊢;omega) (fun i x v hx hv=>each i x v hx (by simpa using hv))
  | [],u::us,hly,_=>simp at hly
  | [y],[],hly,_=>simp at hly
  | [y],u::u2::us,hly,_=>simp at hly
  | y::y2::ys,[],hly,_=>simp at hly
  | y::y2::ys,[u],hly,_=>simp at hly
 cases e with
 | normal=>exact key h3
 | ret=>exact key h3
 | _=>exact h3.elim
theorem pc_byW {f:FuncId} {fn:Func} {c:Code} {xs:List Data} {r:Data} (hf:P.funcs[f]?=some fn) (hb:fn.body=some c) (hc:CallOk P f)
 (h:startK (xs.map toD) (xs.length+(fn.ntmps-xs.length)) fun ds n=>WP P Γ c (retQ P fn r) ⟨envArgs ds,fun _=>.dead,0,0,n⟩):PC P Γ f xs r:=pc_ofW hf hb hc h
end
section
variable {P:Program} {Γ:Nat->Option (List Data)}
theorem WP.weak {c:Code} {Q:Exit->St->Prop} {s S:St} (hj:JoinX S s) (h:WP P Γ c Q S):WP P Γ c Q s:=fun L0 w0 m a w hr=>by
 obtain⟨m2,k1,k2⟩:=weakX_rel hr hj;exact wp_mono (h L0 w0 m2 a w k1) fun e a'' w'' ⟨m'',s'',h4,h5,h6⟩=>⟨m'',s'',h4,k2.trans h5,h6⟩
end
namespace Gt
open Bk
structure ProgG (Γ:Nat->Option (List Data)):Prop where
 failed:∀ (b:Book) (u:ByteArray),Fits b->b.Ty->RightL b->nameOk u->PC Try.prog Γ 12 [book b,.str u] (.tup [.int .i64 (failedN b u).1,.int .i64 (failedN b u).2])
 locked:∀ (b:Book) (u:ByteArray) (now:Int),Fits b->b.Ty->RightL b->nameOk u->0<=now->now<=1000000000->PC Try.prog Γ 13 [book b,.str u,.int .i64 now] (.bool (lockedN b u now))
 until_:∀ (b:Book) (u:ByteArray),Fits b->b.Ty->RightL b->nameOk u->PC Try.prog Γ 15 [book b,.str u] (.int .i64 (untilN b u))
 verdict:∀ (b:Book) (u:ByteArray) (known good:Bool) (now:Int),Fits b->b.Ty->RightL b->nameOk u->0<=now->now<=1000000000->PC Try.prog Γ 11 [book b,.str u,.bool known,.bool good,.int .i64 now] (.tup [.bool (verdictN b u known good now).1,.sl 9 (ops (verdictN b u known good now).2)])
def exG:Book:=⟨0,[],[],[⟨⟨#[117]⟩,3,7⟩]⟩
theorem exG_right:RightL exG where
 n0:=by decide
 n1:=by decide
 len:=by decide
 ll:=by decide
 ord:=.nil
 good:=fun s hs=>by cases hs
 lines:=.nil
 fin:=fun id y h=>by cases h
 opn:=fun s hs=>by cases hs
 lk:=List.pairwise_singleton _ _
 lg:=fun l hl=>by
  rw[List.mem_singleton.1 hl];exact⟨by decide,by decide,by decide,by decide,by decide⟩
theorem exG_one {l:Lock} (hl:l∈exG.locks):l=⟨⟨#[117]⟩,3,7⟩:=List.mem_singleton.1 hl
theorem exG_fits:Fits exG:=⟨by decide,by decide,by decide,(fun s hs=>by cases hs),(fun l hl=>by rw[exG_one hl];decide)⟩
theorem exG_ty:exG.Ty:=⟨(fun s hs=>by cases hs),(fun s hs=>by cases hs),(fun l hl=>by
 rw[exG_one hl];exact⟨by decide,⟨by decide,by decide⟩,⟨by decide,by decide⟩⟩)⟩
section
variable (Γ:Nat->Option (List Data))
set_option maxHeartbeats 8000000 in
theorem shown16_pc (hp:ProgG Γ):PC Try.prog Γ 9 [] (.bool true):=by
 refine pc_byW Try.func9 rfl (fun args w=>Try.call9 args w) ?_;simp only[startK];have hn:nameOk ⟨#[117]⟩:=by decide
 have c1:=hp.failed exG ⟨#[117]⟩ exG_fits exG_ty exG_right hn;have c2:=hp.verdict exG ⟨#[117]⟩ true true 27 exG_fits exG_ty exG_right hn (by decide) (by decide);have c3:=hp.verdict exG ⟨#[117]⟩ true true 26 exG_fits exG_ty exG_right hn (by decide) (by decide);have c4:=hp.until_ exG ⟨#[117]⟩ exG_fits exG_ty exG_right hn;have c5:=hp.locked exG ⟨#[117]⟩ 26 exG_fits exG_ty exG_right hn (by decide) (by decide);have c6:=hp.locked exG ⟨#[117]⟩ 27 exG_fits exG_ty exG_right hn (by decide) (by decide);rw[show failedN exG ⟨#[117]⟩=(3,7) by decide] at c1
 rw[show verdictN exG ⟨#[117]⟩ true true 27=(true,[passO ⟨#[117]⟩]) by decide] at c2;rw[show verdictN exG ⟨#[117]⟩ true true 26=(false,[]) by decide] at c3;rw[show untilN exG ⟨#[117]⟩=27 by decide] at c4;rw[show lockedN exG ⟨#[117]⟩ 26=true by decide] at c5;rw[show lockedN exG ⟨#[117]⟩ 27=false by decide] at c6;unfold book exG at c1 c2 c3 c4 c5 c6;refine WP.seq mixed ?_;simp -implicitDefEqProofs (disch:=omega) [go_sem];refine WP.seq mixed ?_;simp -implicitDefEqProofs (disch:=omega) [go_sem]
 refine WP.weak (S:=⟨envL [(1,.ptr 0 0)],hpL [(0,.blk true [.data (.int .i64 0),.data (.sl 6 []),.data (.sl 5 []),.data (.sl 3 [.agg [.str ⟨#[117]⟩,.int .i64 3,.int .i64 7]])])],1,0,70⟩) (join_ren [2] (rhoL [(0,some 4)]) ?_) ?_
 . apply ren_lists<;>simp -implicitDefEqProofs [go_sem];exact frz_ref (rw:=false) rfl (.inr rfl) rfl (by simp[Data.cells]) rfl
 refine WP.code mixed ?_;simp -implicitDefEqProofs (disch:=omega) [go_sem];refine .inl (call_data c1 rfl ?_);simp -implicitDefEqProofs (disch:=omega) [go_sem];refine .inl (call_data c2 rfl ?_);simp -implicitDefEqProofs (disch:=omega) [go_sem];refine .inl (call_data c3 rfl ?_);simp -implicitDefEqProofs (disch:=omega) [go_sem];refine .inl (call_data c4 rfl ?_);simp -implicitDefEqProofs (disch:=omega) [go_sem];refine .inl (call_data c5 rfl ?_);simp -implicitDefEqProofs (disch:=omega) [go_sem];refine .inl (call_data c6 rfl ?_);simp -implicitDefEqProofs (disch:=omega) [go_sem,Bk.op,passO,ops,Try.f9]
end
end Gt
namespace Gt
open Bk
def MayG (b:Book) (u:ByteArray) (now:Int):Prop:=RightL b/\nameOk u/\0<=now/\now<=1000000000
section
variable (Γ:Nat->Option (List Data))
set_option maxHeartbeats 8000000 in
theorem may16_pc (b:Book) (u:ByteArray) (now:Int) (hb:Fits b) (hu:u.size<=140737488351232):∃ q:Bool,(q=true ↔ MayG b u now)/\PC Try.prog Γ 10 [book b,.str u,.int .i64 now] (.bool q):=by
 refine⟨@decide _ (Classical.propDecidable (MayG b u now)),by simp,?_⟩;have hq:@decide _ (Classical.propDecidable (MayG b u now))=true ↔ MayG b u now:=by simp
 have hd:∃ d:Bool,d=true ↔ RightL b:=⟨@decide (RightL b) (Classical.propDecidable _),by simp⟩;generalize @decide _ (Classical.propDecidable (MayG b u now))=q at *;have no:¬ MayG b u now->q=false:=fun h=>by
  cases q
  . rfl
  . exact absurd (hq.1 rfl) h
 refine pc_by mixed Try.func10 rfl (fun args w=>Try.call10 args w) ?_;obtain⟨d,hd⟩:=hd;have c1:=right_pc Γ b hb (hd.trans ⟨rightP_of,rightL_of⟩);unfold book at c1 ⊢;simp -implicitDefEqProofs (disch:=omega) [go_sem];refine .inl (call_data c1 rfl ?_);by_cases g1:RightL b;rotate_left
 . rw[no fun k=>g1 k.1];have hd:d=false:=by
    cases d
    . rfl
    . exact absurd (hd.1 rfl) g1
   subst hd;simp -implicitDefEqProofs (disch:=omega) [go_sem,g1,Try.f10]
 have hd:=hd.2 g1;subst hd;by_cases g2:1<=u.size;rotate_left
 . rw[no fun k=>g2 k.2.1.1];simp -implicitDefEqProofs (disch:=omega) [go_sem,g1,g2,Try.f10]
 by_cases g3:u.size<=16;rotate_left
 . rw[no fun k=>g3 k.2.1.2];simp -implicitDefEqProofs (disch:=omega) [go_sem,g1,g2,g3,Try.f10]
 by_cases g4:0<=now;rotate_left
 . rw[no fun k=>g4 k.2.2.1];simp -implicitDefEqProofs (disch:=omega) [go_sem,g1,g2,g3,g4,Try.f10]
 by_cases g5:now<=1000000000;rotate_left
 . rw[no fun k=>g5 k.2.2.2];simp -implicitDefEqProofs (disch:=omega) [go_sem,g1,g2,g3,g4,g5,Try.f10]
 rw[hq.2 ⟨g1,⟨g2,g3⟩,g4,g5⟩];simp -implicitDefEqProofs (disch:=omega) [go_sem,g1,g2,g3,g4,g5,Try.f10]
end
end Gt
namespace Gt
open Bk
theorem locked_n {b:Book} {u:ByteArray} {now:Int} (h:lockedN b u now=true):3<=(failedN b u).1:=by
 unfold lockedN at h;simp only[Bool.and_eq_true,decide_eq_true_eq] at h;exact h.1
section
variable (Γ:Nat->Option (List Data))
set_option maxHeartbeats 8000000 in
theorem gtime_pc (hp:ProgG Γ) (b:Book) (u:ByteArray) (now:Int) (k:Nat) (hb:Fits b) (tb:b.Ty) (hu:u.size<=140737488351232) (hk:k<65536):PC Try.prog Γ 5 [.agg [.int .i64 b.next,.sl 6 (sesss b.opn),.sl 5 (items b.items),.sl 3 (locks b.locks),.str u,.int .i64 now,.int .u16 k]] (.bool true):=by
 refine pc_by mixed Try.func5 rfl (fun args w=>Try.call5 args w) ?_;obtain⟨q,hq,c0⟩:=may16_pc Γ b u now hb hu;unfold book at c0;simp -implicitDefEqProofs (disch:=omega) [go_sem];refine .inl (call_data (shown16_pc Γ hp) (by simp[go_sem]) ?_);simp -implicitDefEqProofs (disch:=omega) [go_sem];refine .inl (call_data c0 rfl ?_);cases q with
 | false=>simp -implicitDefEqProofs (disch:=omega) [go_sem,Try.f5]
 | true =>
 by_cases g:999930000<now
 . simp -implicitDefEqProofs (disch:=omega) [go_sem,g,Try.f5]
 obtain⟨m1,m2,m3,m4⟩:=hq.1 rfl;have c1:=hp.failed b u hb tb m1 m2;have c2:=hp.locked b u now hb tb m1 m2 m3 m4;have c3:=hp.locked b u (now+k) hb tb m1 m2 (by omega) (by omega);have c4:=hp.until_ b u hb tb m1 m2;have h1:=locked_until b u now m3;have h2:=locked_later b u now k;have h3:lockedN b u now=true->3<=(failedN b u).1:=locked_n;generalize lockedN b u now=x at *;generalize lockedN b u (now+k)=y at *;generalize untilN b u=t at *;generalize (failedN b u).1=n at *;generalize (failedN b u).2=at_ at *;unfold book at c1 c2 c3 c4;simp -implicitDefEqProofs (disch:=omega) [go_sem,g]
 refine .inl (call_data c1 rfl ?_);simp -implicitDefEqProofs (disch:=omega) [go_sem];refine .inl (call_data c2 rfl ?_);simp -implicitDefEqProofs (disch:=omega) [go_sem];refine .inl (call_data c3 rfl ?_);cases x with
 | true =>
   have h4:=h3 rfl;have h5:now<t:=of_decide_eq_true h1.symm;simp -implicitDefEqProofs (disch:=omega) [go_sem,h4];refine .inl (call_data c4 rfl ?_);simp -implicitDefEqProofs (disch:=omega) [go_sem,h4,h5,Try.f5]
 | false =>
   have h5:¬ now<t:=of_decide_eq_false h1.symm;cases y with
   | true=>exact absurd (h2 rfl) (by decide)
   | false =>
   by_cases h4:3<=n
   . simp -implicitDefEqProofs (disch:=omega) [go_sem,h4];refine .inl (call_data c4 rfl ?_);simp -implicitDefEqProofs (disch:=omega) [go_sem,h4,h5,Try.f5]
   . simp -implicitDefEqProofs (disch:=omega) [go_sem,h4];refine .inl (call_data c4 rfl ?_);simp -implicitDefEqProofs (disch:=omega) [go_sem,h4,h5,Try.f5]
end
end Gt
namespace Gt
open Bk
theorem zero_r:R64 0:=⟨by decide,by decide⟩
theorem zero_u:U64 0:=⟨by decide,by decide⟩
theorem op_ty {k t:Int} {u:ByteArray} (hk:R64 k) (ht:R64 t) (hu:u.size<=140737488351232):(⟨k,0,0,0,u,0,0,0,t⟩:Bk.Op).Ty :=
 ⟨hk,zero_r,zero_r,⟨Int.le_refl 0,(by decide:(0:Int)<=4294967295)⟩,hu,zero_u,zero_u,zero_r,ht⟩
theorem verdict_few {b:Book} (hr:RightL b) {u:ByteArray} (hu:nameOk u) (known good:Bool) {now:Int} (h0:0<=now) (h1:now<=1000000000):(verdictN b u known good now).2.length<=1/\∀ o∈(verdictN b u known good now).2,o.Ty:=by
 have f:=failedN_fits hr u;have us:u.size<=140737488351232:=by have:=hu.2;omega
 unfold verdictN;split
 . exact⟨Nat.zero_le _,fun o ho=>by cases ho⟩
 split
 . split
   . exact⟨Nat.zero_le _,fun o ho=>by cases ho⟩
   . exact⟨Nat.le_refl _,fun o ho=>by rw[List.mem_singleton.1 ho];exact op_ty ⟨by decide,by decide⟩ ⟨by decide,by decide⟩ us⟩
 . refine⟨Nat.le_refl _,fun o ho=>?_⟩;rw[List.mem_singleton.1 ho];have m0:0<=max (failedN b u).2 now:=by omega
   have m1:max (failedN b u).2 now<=1000000000:=by omega
   generalize max (failedN b u).2 now=m at *;refine op_ty ⟨by decide,by decide⟩ ⟨?_,?_⟩ us
   . exact Int.le_trans (by decide) m0
   . exact Int.le_trans m1 (by decide)
end Gt
namespace Gt
open Bk
structure OkB (b:Book):Prop where
 right:RightL b
 fits:Fits b
 ty:b.Ty
theorem OkB.well {b:Book} (h:OkB b):WellP 60 b:=well_of h.fits h.ty (rightP_of h.right)
theorem OkB.apply {b:Book} (h:OkB b) {o:Bk.Op} (ho:o.Ty):OkB (applyOp b o).1:=by
 have hf:=fine_of (rightP_of h.right) o;have hw:=well_apply h.well hf.n hf.ln ho;exact⟨rightL_apply h.right o,hw.fits (by omega),hw.ty⟩
theorem pass_ty {u:ByteArray} (hu:nameOk u):(passO u).Ty:=op_ty ⟨by decide,by decide⟩ ⟨by decide,by decide⟩ (by have:=hu.2;omega)
theorem fail_ty {u:ByteArray} (hu:nameOk u) {t:Int} (h0:0<=t) (h1:t<=1000000000):(failO u t).Ty:=op_ty ⟨by decide,by decide⟩ ⟨Int.le_trans (by decide) h0,Int.le_trans h1 (by decide)⟩ (by have:=hu.2;omega)
section
variable (Γ:Nat->Option (List Data))
theorem rapply16 {b:Book} (h:OkB b) {o:Bk.Op} (ho:o.Ty):PC Try.prog Γ 14 [book b,op o] (out (applyOp b o)):=by
 have hf:=fine_of (rightP_of h.right) o;have hw:=h.well;exact apply_pc Γ b o h.fits hf.n (by have:=hw.i;omega) (by have:=hw.o;omega) (by have:=hw.l;omega) hf.ln (Nat.le_trans ho.user (by decide))
set_option maxHeartbeats 8000000 in
theorem gops_pc (hp:ProgG Γ) (b:Book) (u:ByteArray) (known good:Bool) (now:Int) (hb:Fits b) (tb:b.Ty) (hu:u.size<=140737488351232):PC Try.prog Γ 3 [.agg [.int .i64 b.next,.sl 6 (sesss b.opn),.sl 5 (items b.items),.sl 3 (locks b.locks),.str u,.bool known,.bool good,.int .i64 now]] (.bool true):=by
 refine pc_by mixed Try.func3 rfl (fun args w=>Try.call3 args w) ?_;obtain⟨q,hq,c0⟩:=may16_pc Γ b u now hb hu;unfold book at c0;simp -implicitDefEqProofs (disch:=omega) [go_sem];refine .inl (call_data (shown16_pc Γ hp) (by simp[go_sem]) ?_);simp -implicitDefEqProofs (disch:=omega) [go_sem];refine .inl (call_data c0 rfl ?_);cases q with
 | false=>simp -implicitDefEqProofs (disch:=omega) [go_sem,Try.f3]
 | true =>
 obtain⟨m1,m2,m3,m4⟩:=hq.1 rfl;have ok:OkB b:=⟨m1,hb,tb⟩;have ff:=failedN_fits m1 u;have c1:=hp.verdict b u known good now hb tb m1 m2 m3 m4;have c2:=hp.failed b u hb tb m1 m2;have c3:=hp.locked b u now hb tb m1 m2 m3 m4;rcases verdict_ops (b:=b) (u:=u) (known:=known) (good:=good) (now:=now) with⟨e,q⟩|⟨⟨k1,k2⟩,⟨g,z,e⟩|⟨g,z,e⟩|⟨g,e⟩⟩
 . rw[e] at c1;generalize (failedN b u).1=n at *;generalize (failedN b u).2=at_ at *;generalize lockedN b u now=x at *;unfold book at c1 c2 c3;simp -implicitDefEqProofs (disch:=omega) [go_sem];refine .inl (call_data c1 rfl ?_);simp -implicitDefEqProofs (disch:=omega) [go_sem];refine .inl (call_data c2 rfl ?_);cases known
   . simp -implicitDefEqProofs (disch:=omega) [go_sem,ops,Try.f3]
   . have q:x=true:=q.resolve_left (by decide);subst q;simp -implicitDefEqProofs (disch:=omega) [go_sem,ops];refine .inl (call_data c3 rfl ?_);simp -implicitDefEqProofs (disch:=omega) [go_sem,Try.f3]
 . rw[e] at c1;rw[z] at c2;generalize (failedN b u).2=at_ at *;unfold book at c1 c2;simp -implicitDefEqProofs (disch:=omega) [go_sem];refine .inl (call_data c1 rfl ?_);simp -implicitDefEqProofs (disch:=omega) [go_sem];refine .inl (call_data c2 rfl ?_);simp -implicitDefEqProofs (disch:=omega) [go_sem,ops,Try.f3]
 . rw[e] at c1;have c4:=rapply16 Γ ok (pass_ty m2);have okc:=ok.apply (pass_ty m2);rcases apply_pass m1 m2 with⟨z2,-⟩|⟨-,e0,e1,-⟩
   . exact absurd z2 z
   have c5:=hp.failed (applyOp b (passO u)).1 u okc.fits okc.ty okc.right m2;rw[e1] at c5;unfold out at c4;rw[e0] at c4;generalize (applyOp b (passO u)).1=c at *;generalize (failedN b u).1=n at *;generalize (failedN b u).2=at_ at *;subst g;unfold book at c1 c2 c4 c5;simp -implicitDefEqProofs (disch:=omega) [go_sem];refine .inl (call_data c1 rfl ?_);simp -implicitDefEqProofs (disch:=omega) [go_sem];refine .inl (call_data c2 rfl ?_);simp -implicitDefEqProofs (disch:=omega) [go_sem,ops,Bk.op,passO];refine .inl (call_data c4 rfl ?_);simp -implicitDefEqProofs (disch:=omega) [go_sem]
   refine side (by kernel_rfl) ?_;simp -implicitDefEqProofs (disch:=omega) [go_sem];refine .inl (call_data c5 rfl ?_);simp -implicitDefEqProofs (disch:=omega) [go_sem,Try.f3]
 . rw[e] at c1;have t0:0<=max (failedN b u).2 now:=by omega
   have t1:max (failedN b u).2 now<=1000000000:=by omega
   have t2:(failedN b u).2<=max (failedN b u).2 now:=by omega
   generalize max (failedN b u).2 now=t at *;have c4:=rapply16 Γ ok (fail_ty m2 t0 t1);have okc:=ok.apply (fail_ty m2 t0 t1);subst g;rcases apply_fail m1 m2 t0 t1 t2 with⟨z,h8,e0⟩|⟨e0,e1,-⟩
   . unfold out at c4;rw[e0] at c4;rw[z] at c2;generalize (failedN b u).2=at_ at *;unfold book at c1 c2 c4;simp -implicitDefEqProofs (disch:=omega) [go_sem];refine .inl (call_data c1 rfl ?_);simp -implicitDefEqProofs (disch:=omega) [go_sem];refine .inl (call_data c2 rfl ?_);simp -implicitDefEqProofs (disch:=omega) [go_sem,ops,Bk.op,failO];refine .inl (call_data c4 rfl ?_);simp -implicitDefEqProofs (disch:=omega) [go_sem];refine side (by kernel_rfl) ?_;simp -implicitDefEqProofs (disch:=omega) [go_sem];refine .inl (call_data c2 rfl ?_);simp -implicitDefEqProofs (disch:=omega) [go_sem,h8,Try.f3]
   . have c5:=hp.failed (applyOp b (failO u t)).1 u okc.fits okc.ty okc.right m2;rw[e1] at c5;unfold out at c4;rw[e0] at c4;generalize (applyOp b (failO u t)).1=c at *;generalize (failedN b u).1=n at *;generalize (failedN b u).2=at_ at *;have hm:min 255 (n+1)=min (n+1) 255:=by omega
     unfold book at c1 c2 c4 c5;simp -implicitDefEqProofs (disch:=omega) [go_sem];refine .inl (call_data c1 rfl ?_);simp -implicitDefEqProofs (disch:=omega) [go_sem];refine .inl (call_data c2 rfl ?_);simp -implicitDefEqProofs (disch:=omega) [go_sem,ops,Bk.op,failO];refine .inl (call_data c4 rfl ?_);simp -implicitDefEqProofs (disch:=omega) [go_sem];refine side (by kernel_rfl) ?_;simp -implicitDefEqProofs (disch:=omega) [go_sem];refine .inl (call_data c5 rfl ?_);simp -implicitDefEqProofs (disch:=omega) [go_sem,hm,Try.f3]
end
end Gt
namespace Gt
open Bk
theorem behind_take (b:Book) (l:List Bk.Op) (i:Nat) (h:i<l.length):behind b (l.take (i+1))=(applyOp (behind b (l.take i)) l[i]).1:=by
 unfold behind;rw[List.take_add_one,List.getElem?_eq_getElem h,Option.toList_some,List.foldl_append];rfl
theorem OkB.behind {b:Book} (h:OkB b):∀ {l:List Bk.Op},(∀ o∈l,o.Ty)->OkB (Gt.behind b l):=by
 intro l hl;unfold Gt.behind
 induction l generalizing b with
 | nil=>exact h
 | cons o l ih=>exact ih (h.apply (hl o List.mem_cons_self)) fun x hx=>hl x (List.mem_cons_of_mem _ hx)
def bookC (b:Book):List D:=[.data (.int .i64 b.next),.data (.sl 6 (sesss b.opn)),.data (.sl 5 (items b.items)),.data (.sl 3 (locks b.locks))]
section
variable (Γ:Nat->Option (List Data))
set_option maxHeartbeats 8000000 in
theorem gothers_pc (hp:ProgG Γ) (b:Book) (u v:ByteArray) (good:Bool) (now:Int) (hb:Fits b) (tb:b.Ty) (hu:u.size<=140737488351232) (hv:v.size<=140737488351232):PC Try.prog Γ 6 [.agg [.int .i64 b.next,.sl 6 (sesss b.opn),.sl 5 (items b.items),.sl 3 (locks b.locks),.str u,.str v,.bool good,.int .i64 now]] (.bool true):=by
 refine pc_by mixed Try.func6 rfl (fun args w=>Try.call6 args w) ?_;obtain⟨q,hq,c0⟩:=may16_pc Γ b u now hb hu;obtain⟨q2,hq2,d0⟩:=may16_pc Γ b v now hb hv;unfold book at c0 d0;simp -implicitDefEqProofs (disch:=omega) [go_sem];refine .inl (call_data (shown16_pc Γ hp) (by simp[go_sem]) ?_);simp -implicitDefEqProofs (disch:=omega) [go_sem];refine .inl (call_data c0 rfl ?_);cases q with
 | false=>simp -implicitDefEqProofs (disch:=omega) [go_sem,Try.f6]
 | true =>
 simp -implicitDefEqProofs (disch:=omega) [go_sem];refine .inl (call_data d0 rfl ?_);cases q2 with
 | false=>simp -implicitDefEqProofs (disch:=omega) [go_sem,Try.f6]
 | true =>
 by_cases huv:u=v
 . simp -implicitDefEqProofs (disch:=omega) [go_sem,huv,Try.f6]
 obtain⟨m1,m2,m3,m4⟩:=hq.1 rfl;obtain⟨-,n2,-,-⟩:=hq2.1 rfl;have ok:OkB b:=⟨m1,hb,tb⟩;have c1:=hp.verdict b u true good now hb tb m1 m2 m3 m4;have vf:=verdict_few m1 m2 true good m3 m4;obtain⟨vl,-,vo⟩:=verdict_behind m1 m2 (known:=true) (good:=good) m3 m4;have hoth:=vo v (fun e=>huv e.symm);generalize (verdictN b u true good now).1=vin at *;generalize (verdictN b u true good now).2=l at *;have okl:=fun i=>ok.behind (l:=l.take i) fun o ho=>vf.2 o (List.mem_of_mem_take ho);unfold book at c1;simp -implicitDefEqProofs (disch:=omega) [go_sem,huv];refine .inl (call_data c1 rfl ?_)
 simp -implicitDefEqProofs (disch:=omega) [go_sem];refine loop_ren (σ:={ i:Nat // i<=l.length }) (fun i=>⟨envL [(3,.ptr 0 0),(5,.data (.str v)),(7,.data (.int .i64 now)),(8,.data (.bool true)),(10,.data (.sl 9 (ops l))),(11,.ptr 1 0),(12,.data (.int .i64 i.1))],hpL [(0,.blk true (bookC b)),(1,.blk true (bookC (behind b (l.take i.1))))],2,0,124⟩) (fun i=>l.length-i.1) ⟨0,by omega⟩ [] (rhoL [(0,some 4),(1,some 48)]) ?_ ?_
 . apply ren_lists<;>simp -implicitDefEqProofs [go_sem,bookC,behind]
 rintro⟨i,hi⟩;have okc:=okl i;by_cases h:i<l.length
 . have c2:=rapply16 Γ okc (vf.2 _ (List.getElem_mem h));rw[show applyOp (behind b (l.take i)) l[i]=(behind b (l.take (i+1)),(applyOp (behind b (l.take i)) l[i]).2) by rw[behind_take b l i h]] at c2;generalize (applyOp (behind b (l.take i)) l[i]).2=e at *;generalize hc':behind b (l.take (i+1))=c' at *;generalize behind b (l.take i)=c at *;unfold out book Bk.op at c2;unfold bookC;simp -implicitDefEqProofs (disch:=omega) [go_sem,Bk.op];refine .inl (call_data c2 (by simp[go_sem]) ?_);simp -implicitDefEqProofs (disch:=omega) [go_sem];refine side (by kernel_rfl) ?_
   simp -implicitDefEqProofs (disch:=omega) [go_sem];refine next_ren ⟨i+1,by omega⟩ (by simp only;omega) [] (rhoL []) ?_;apply ren_lists<;>simp -implicitDefEqProofs [go_sem,bookC,hc']
 . have:i=l.length:=by omega
   subst this;rw[List.take_length] at *;have c3:=hp.failed b v hb tb m1 n2;have c4:=hp.failed (behind b l) v okc.fits okc.ty okc.right n2;have c5:=hp.verdict b v true true now hb tb m1 n2 m3 m4;have c6:=hp.verdict (behind b l) v true true now okc.fits okc.ty okc.right n2 m3 m4;have vf2:=verdict_few m1 n2 true true m3 m4;have c7:=rops_pc Γ (verdictN b v true true now).2 (verdictN b v true true now).2 (by omega) (by omega) vf2.2 vf2.2;rw[decide_eq_true rfl] at c7;rw[hoth] at c4;rw[verdict_same hoth] at c6;generalize verdictN b v true true now=V at *;obtain⟨vi,vl2⟩:=V;generalize failedN b v=F at *
   obtain⟨fn,fa⟩:=F;simp only at *;generalize behind b l=c at *;unfold book at c3 c4 c5 c6;unfold bookC;simp -implicitDefEqProofs (disch:=omega) [go_sem];refine .inl (call_data c3 rfl ?_);simp -implicitDefEqProofs (disch:=omega) [go_sem];refine .inl (call_data c4 rfl ?_);simp -implicitDefEqProofs (disch:=omega) [go_sem];refine .inl (call_data c5 rfl ?_);simp -implicitDefEqProofs (disch:=omega) [go_sem];refine .inl (call_data c6 rfl ?_);simp -implicitDefEqProofs (disch:=omega) [go_sem];refine .inl (call_data c7 rfl ?_);simp -implicitDefEqProofs (disch:=omega) [go_sem,Try.f6]
set_option maxHeartbeats 8000000 in
theorem gright_pc (hp:ProgG Γ) (b:Book) (u:ByteArray) (good:Bool) (now:Int) (hb:Fits b) (tb:b.Ty) (hu:u.size<=140737488351232):PC Try.prog Γ 8 [.agg [.int .i64 b.next,.sl 6 (sesss b.opn),.sl 5 (items b.items),.sl 3 (locks b.locks),.str u,.bool good,.int .i64 now]] (.bool true):=by
 refine pc_by mixed Try.func8 rfl (fun args w=>Try.call8 args w) ?_;obtain⟨q,hq,c0⟩:=may16_pc Γ b u now hb hu;unfold book at c0;simp -implicitDefEqProofs (disch:=omega) [go_sem];refine .inl (call_data (shown16_pc Γ hp) (by simp[go_sem]) ?_);simp -implicitDefEqProofs (disch:=omega) [go_sem];refine .inl (call_data c0 rfl ?_);cases q with
 | false=>simp -implicitDefEqProofs (disch:=omega) [go_sem,Try.f8]
 | true =>
 obtain⟨m1,m2,m3,m4⟩:=hq.1 rfl;have ok:OkB b:=⟨m1,hb,tb⟩;have c1:=hp.verdict b u true good now hb tb m1 m2 m3 m4;have vf:=verdict_few m1 m2 true good m3 m4;obtain⟨vl,ve,-⟩:=verdict_behind m1 m2 (known:=true) (good:=good) m3 m4;generalize (verdictN b u true good now).1=vin at *;generalize (verdictN b u true good now).2=l at *;have okl:=fun i=>ok.behind (l:=l.take i) fun o ho=>vf.2 o (List.mem_of_mem_take ho);unfold book at c1;simp -implicitDefEqProofs (disch:=omega) [go_sem];refine .inl (call_data c1 rfl ?_);simp -implicitDefEqProofs (disch:=omega) [go_sem]
 refine loop_ren (σ:={ i:Nat // i<=l.length }) (fun i=>⟨envL [(3,.ptr 0 0),(7,.data (.bool true)),(9,.data (.sl 9 (ops l))),(10,.ptr 1 0),(11,.data (.int .i64 i.1))],hpL [(0,.blk true (bookC b)),(1,.blk true (bookC (behind b (l.take i.1))))],2,0,74⟩) (fun i=>l.length-i.1) ⟨0,by omega⟩ [] (rhoL [(0,some 4),(1,some 33)]) ?_ ?_
 . apply ren_lists<;>simp -implicitDefEqProofs [go_sem,bookC,behind]
 rintro⟨i,hi⟩;have okc:=okl i;by_cases h:i<l.length
 . have c2:=rapply16 Γ okc (vf.2 _ (List.getElem_mem h));rw[show applyOp (behind b (l.take i)) l[i]=(behind b (l.take (i+1)),(applyOp (behind b (l.take i)) l[i]).2) by rw[behind_take b l i h]] at c2;generalize (applyOp (behind b (l.take i)) l[i]).2=e at *;generalize hc':behind b (l.take (i+1))=c' at *;generalize behind b (l.take i)=c at *;unfold out book Bk.op at c2;unfold bookC;simp -implicitDefEqProofs (disch:=omega) [go_sem,Bk.op];refine .inl (call_data c2 (by simp[go_sem]) ?_);simp -implicitDefEqProofs (disch:=omega) [go_sem];refine side (by kernel_rfl) ?_
   simp -implicitDefEqProofs (disch:=omega) [go_sem];refine next_ren ⟨i+1,by omega⟩ (by simp only;omega) [] (rhoL []) ?_;apply ren_lists<;>simp -implicitDefEqProofs [go_sem,bookC,hc']
 . have:i=l.length:=by omega
   subst this;rw[List.take_length] at *;have c3:=right_pc Γ (behind b l) okc.fits (q:=true) ⟨fun _=>rightP_of okc.right,fun _=>rfl⟩;have c4:=same_pc Γ (behind b l) (behind b l) okc.fits okc.fits okc.ty okc.ty;rw[decide_eq_true rfl] at c4;rw[ve] at c3 c4 ⊢;generalize (behind b l).locks=K at *;unfold book at c3 c4;unfold bookC;simp -implicitDefEqProofs (disch:=omega) [go_sem];refine .inl (call_data c3 (by simp[go_sem]) ?_);simp -implicitDefEqProofs (disch:=omega) [go_sem];refine .inl (call_data c4 (by simp[go_sem]) ?_);simp -implicitDefEqProofs (disch:=omega) [go_sem,Try.f8]
end
end Gt
namespace Gt
open Bk
theorem Ru_ne {c k:Int} (h:c≠k):(c == k)=false:=beq_eq_false_iff_ne.2 h
theorem enters (b:Book) (u:ByteArray) (t:Int):(verdictN b u true true t).1 = !lockedN b u t:=by
 unfold verdictN;cases h:lockedN b u t
 . rw[if_neg (by simp),if_pos rfl];split<;>rfl
 . rw[if_pos (.inr rfl)];rfl
section
variable (Γ:Nat->Option (List Data))
set_option maxHeartbeats 16000000 in
theorem glocks_pc (hp:ProgG Γ) (b:Book) (u:ByteArray) (now:Int) (k:Nat) (hb:Fits b) (tb:b.Ty) (hu:u.size<=140737488351232) (hk:k<256):PC Try.prog Γ 4 [.agg [.int .i64 b.next,.sl 6 (sesss b.opn),.sl 5 (items b.items),.sl 3 (locks b.locks),.str u,.int .i64 now,.int .u8 k]] (.bool true):=by
 refine pc_by mixed Try.func4 rfl (fun args w=>Try.call4 args w) ?_;obtain⟨q,hq,c0⟩:=may16_pc Γ b u now hb hu;unfold book at c0;simp -implicitDefEqProofs (disch:=omega) [go_sem];refine .inl (call_data (shown16_pc Γ hp) (by simp[go_sem]) ?_);simp -implicitDefEqProofs (disch:=omega) [go_sem];refine .inl (call_data c0 rfl ?_);cases q with
 | false=>simp -implicitDefEqProofs (disch:=omega) [go_sem,Try.f4]
 | true =>
 by_cases g:999999700<now
 . simp -implicitDefEqProofs (disch:=omega) [go_sem,g,Try.f4]
 obtain⟨m1,m2,m3,m4⟩:=hq.1 rfl;have ok:OkB b:=⟨m1,hb,tb⟩;clear c0 hq hb tb m1;simp -implicitDefEqProofs (disch:=omega) [go_sem,g];refine loop_ren (σ:={ p:Nat×Book // p.1<=3/\OkB p.2/\(p.1:Int)<=(failedN p.2 u).1 }) (fun p=>⟨envL [(3,.ptr 0 0),(4,.data (.str u)),(5,.data (.int .i64 now)),(6,.data (.int .u8 k)),(7,.data (.bool true)),(8,.data (.int .i64 p.1.1))],hpL [(0,.blk true (bookC p.1.2))],1,0,123⟩) (fun p=>3-p.1.1) ⟨(0,b),by omega,ok,(failedN_fits ok.right u).1⟩ [] (rhoL [(0,some 4)]) ?_ ?_
 . apply ren_lists<;>simp -implicitDefEqProofs [go_sem,bookC]
 clear ok;clear b;rintro⟨⟨i,b⟩,hi,ok,hn⟩;simp only at hi ok hn;have ff:=failedN_fits ok.right u;by_cases h:i<3
 . have c1:=hp.verdict b u true false now ok.fits ok.ty ok.right m2 m3 m4;have vf:=verdict_few ok.right m2 true false m3 m4;have tf:=tryFail_n ok.right m2 m3 m4;generalize (verdictN b u true false now).1=vin at *;generalize (verdictN b u true false now).2=l at *;have okl:=fun i=>ok.behind (l:=l.take i) fun o ho=>vf.2 o (List.mem_of_mem_take ho);unfold book at c1;unfold bookC;simp -implicitDefEqProofs (disch:=omega) [go_sem];refine .inl (call_data c1 rfl ?_);simp -implicitDefEqProofs (disch:=omega) [go_sem]
   refine loop_ren (σ:={ j:Nat // j<=l.length/\(j=1->(i:Int)+1<=(failedN (behind b (l.take j)) u).1) }) (fun j=>⟨envL [(3,.ptr 0 0),(4,.data (.str u)),(5,.data (.int .i64 now)),(6,.data (.int .u8 k)),(7,.data (.bool true)),(8,.data (.int .i64 i)),(10,.data (.sl 9 (ops l))),(11,.data (.int .i64 j.1))],hpL [(0,.blk true (bookC (behind b (l.take j.1))))],1,0,123⟩) (fun j=>l.length-j.1) ⟨0,by omega,by omega⟩ [] (rhoL [(0,some 0)]) ?_ ?_
   . apply ren_lists<;>simp -implicitDefEqProofs [go_sem,bookC,behind]
   rintro⟨j,hj,hj1⟩;have okc:=okl j;by_cases hjl:j<l.length
   . have hj0:j=0:=by omega
     subst hj0;rcases tf with⟨e,-⟩|⟨t,e,hap⟩
     . rw[e] at hjl;simp at hjl
     have c2:=rapply16 Γ okc (vf.2 _ (List.getElem_mem hjl));have hb1:behind b (l.take (0+1))=(applyOp b l[0]).1:=behind_take b l 0 hjl;have hl0:l[0]=failO u t:=by simp[e]
     rw[hl0] at c2 hb1;have c2:PC Try.prog Γ 14 [book (behind b (l.take 0)),Bk.op (failO u t)] (out (applyOp b (failO u t))):=c2;have hll:(l.length:Int)=1:=by rw[e];rfl
     rcases hap with⟨e1,e2⟩|⟨e1,e2⟩
     . have h8:(behind b (l.take 0)).locks.length=8:=e2;generalize (applyOp b (failO u t))=R at *;obtain⟨c,er⟩:=R;simp only at e1;unfold out book Bk.op at c2;unfold bookC;simp -implicitDefEqProofs (disch:=omega) [go_sem,Bk.op,hl0];refine .inl (call_data c2 (by simp[go_sem]) ?_);simp -implicitDefEqProofs (disch:=omega) [go_sem];refine side (by kernel_rfl) ?_;simp -implicitDefEqProofs (disch:=omega) [go_sem,e1,Ru_ne e1,h8,Try.f4];show (b.locks.length:Int)=8;omega
     . rw[<- hb1] at e2;have hc':applyOp b (failO u t)=(behind b (l.take (0+1)),0):=by rw[hb1,<- e1]
       rw[hc'] at c2;have hn1:(i:Int)+1<=(failedN (behind b (l.take (0+1))) u).1:=by rw[e2];omega
       unfold out book Bk.op at c2;unfold bookC;simp -implicitDefEqProofs (disch:=omega) [go_sem,Bk.op,hl0];refine .inl (call_data c2 (by simp[go_sem]) ?_);simp -implicitDefEqProofs (disch:=omega) [go_sem];refine side (by kernel_rfl) ?_;simp -implicitDefEqProofs (disch:=omega) [go_sem];refine next_ren ⟨0+1,by omega,fun _=>hn1⟩ (by simp only;omega) [] (rhoL []) ?_;apply ren_lists<;>simp -implicitDefEqProofs [go_sem,bookC]
   . have hje:j=l.length:=by omega
     subst hje;rw[List.take_length] at *;have hnn:((i+1:Nat):Int)<=(failedN (behind b l) u).1:=by
      rcases tf with⟨e,h3⟩|⟨t,e,-⟩
      . rw[e];show ((i+1:Nat):Int)<=(failedN b u).1;omega
      . have:=hj1 (by rw[e];rfl);omega
     simp -implicitDefEqProofs (disch:=omega) [go_sem];refine next_ren ⟨(i+1,behind b l),by simp only;omega,okc,hnn⟩ (by simp only;omega) [] (rhoL [(0,some 0)]) ?_;apply ren_lists<;>simp -implicitDefEqProofs [go_sem,List.take_length,bookC]
 . have hi3:i=3:=by omega
   subst hi3;have hn3:3<=(failedN b u).1:=hn;have c1:=hp.failed b u ok.fits ok.ty ok.right m2;have c2:=hp.until_ b u ok.fits ok.ty ok.right m2;have c3:=hp.verdict b u true true (now+k) ok.fits ok.ty ok.right m2 (by omega) (by omega);have c4:=hp.locked b u (now+k) ok.fits ok.ty ok.right m2 (by omega) (by omega);rw[enters] at c3;rw[show untilN b u=(failedN b u).2+20 from if_pos hn3] at c2;rw[show lockedN b u (now+k)=decide (now+k<(failedN b u).2+20) by unfold lockedN;rw[decide_eq_true hn3,Bool.true_and]] at c3 c4;generalize (verdictN b u true true (now+k)).2=l at *
   obtain⟨n,at_,hF⟩:∃ n at_,failedN b u=(n,at_):=⟨_,_,rfl⟩;rw[hF] at c1 c2 c3 c4 hn3;have hF2:(failedN b u).2=at_:=by rw[hF]
   simp only at c1 c2 c3 c4 hn3;unfold book at c1 c2 c3 c4;unfold bookC;simp -implicitDefEqProofs (disch:=omega) [go_sem];refine .inl (call_data c1 rfl ?_);simp -implicitDefEqProofs (disch:=omega) [go_sem];refine .inl (call_data c2 rfl ?_);simp -implicitDefEqProofs (disch:=omega) [go_sem];refine .inl (call_data c3 rfl ?_);by_cases ht:now+k<at_+20
   . rw[decide_eq_true ht] at c4 ⊢;simp -implicitDefEqProofs (disch:=omega) [go_sem];refine .inl (call_data c4 rfl ?_);simp -implicitDefEqProofs (disch:=omega) [go_sem,ht,Try.f4]
   . rw[decide_eq_false ht] at c4 ⊢;simp -implicitDefEqProofs (disch:=omega) [go_sem];refine .inl (call_data c4 rfl ?_);simp -implicitDefEqProofs (disch:=omega) [go_sem,ht,Try.f4]
end
end Gt
namespace Gt
open Bk
section
variable (Γ:Nat->Option (List Data))
set_option maxHeartbeats 8000000 in
theorem gknown_pc (hp:ProgG Γ) (b:Book) (u:ByteArray) (known:Bool) (now:Int) (hb:Fits b) (tb:b.Ty) (hu:u.size<=140737488351232):PC Try.prog Γ 7 [.agg [.int .i64 b.next,.sl 6 (sesss b.opn),.sl 5 (items b.items),.sl 3 (locks b.locks),.str u,.bool known,.int .i64 now]] (.bool true):=by
 refine pc_by mixed Try.func7 rfl (fun args w=>Try.call7 args w) ?_;obtain⟨q,hq,c0⟩:=may16_pc Γ b u now hb hu;unfold book at c0;simp -implicitDefEqProofs (disch:=omega) [go_sem];refine .inl (call_data (shown16_pc Γ hp) (by simp[go_sem]) ?_);simp -implicitDefEqProofs (disch:=omega) [go_sem];refine .inl (call_data c0 rfl ?_);cases q with
 | false=>simp -implicitDefEqProofs (disch:=omega) [go_sem,Try.f7]
 | true =>
 obtain⟨m1,m2,m3,m4⟩:=hq.1 rfl;have c1:=hp.verdict b u known true now hb tb m1 m2 m3 m4;have c2:=hp.verdict b u known false now hb tb m1 m2 m3 m4;have c3:=hp.locked b u now hb tb m1 m2 m3 m4;by_cases g:known=false \/ lockedN b u now=true
 . rw[show verdictN b u known true now=(false,[]) by unfold verdictN;rw[if_pos g]] at c1;rw[show verdictN b u known false now=(false,[]) by unfold verdictN;rw[if_pos g]] at c2;unfold book at c1 c2 c3;simp -implicitDefEqProofs (disch:=omega) [go_sem];refine .inl (call_data c1 rfl ?_);simp -implicitDefEqProofs (disch:=omega) [go_sem];refine .inl (call_data c2 rfl ?_);cases known with
   | false=>simp -implicitDefEqProofs (disch:=omega) [go_sem,Try.f7]
   | true =>
     have g:lockedN b u now=true:=by simpa using g
     rw[g] at c3;simp -implicitDefEqProofs (disch:=omega) [go_sem];refine .inl (call_data c3 rfl ?_);simp -implicitDefEqProofs (disch:=omega) [go_sem,Try.f7]
 . have k1:known=true:=by cases known<;>simp_all
   have k2:lockedN b u now=false:=by
    cases h:lockedN b u now
    . rfl
    . exact absurd (.inr h) g
   subst k1;have e1:(verdictN b u true true now).1=true:=by
    unfold verdictN;rw[if_neg g,if_pos rfl];split<;>rfl
   rw[show verdictN b u true false now=(false,[failO u (max (failedN b u).2 now)]) by unfold verdictN;rw[if_neg g,if_neg (by decide)];rfl] at c2;have hm:now<=max (failedN b u).2 now:=by omega
   generalize max (failedN b u).2 now=m at *;rw[e1] at c1;rw[k2] at c3;generalize (verdictN b u true true now).2=l1 at *;unfold book at c1 c2 c3;simp -implicitDefEqProofs (disch:=omega) [go_sem];refine .inl (call_data c1 rfl ?_);simp -implicitDefEqProofs (disch:=omega) [go_sem];refine .inl (call_data c2 rfl ?_);simp -implicitDefEqProofs (disch:=omega) [go_sem];refine .inl (call_data c3 rfl ?_);simp -implicitDefEqProofs (disch:=omega) [go_sem,ops,Bk.op,failO,hm,Try.f7]
end
end Gt
namespace Gt
open Bk
theorem okg_str {P:Program} {n:Nat} {t:TypeId} {ds:List Data} (hu:P.underlying t=some .string) (h:okD P (n+1) t ds):∃ s:ByteArray,s.size<=140737488351232/\ds=[.str s]:=by
 unfold okD at h;simp only[hu] at h;obtain⟨s,rfl,hs⟩:=h;exact⟨s,hs,rfl⟩
theorem okg_bol {P:Program} {n:Nat} {t:TypeId} {ds:List Data} (hu:P.underlying t=some .bool) (h:okD P (n+1) t ds):∃ b:Bool,ds=[.bool b]:=by
 unfold okD at h;simp only[hu] at h;obtain⟨b,rfl⟩:=h;exact⟨b,rfl⟩
section
variable (Γ:Nat->Option (List Data))
theorem at_GateOps (hp:ProgG Γ) {x0:Data} (a0:argD Try.prog 8 28 x0):PC Try.prog Γ 3 [x0] (.bool true):=by
 obtain⟨ds,rfl,h⟩:=arg_struct Try.underlying28 a0;obtain⟨d1,r1,rfl,h1,h⟩:=okF_cons h;obtain⟨d2,r2,rfl,h2,h⟩:=okF_cons h;obtain⟨d3,r3,rfl,h3,h⟩:=okF_cons h;obtain⟨d4,r4,rfl,h4,h⟩:=okF_cons h;obtain⟨d5,r5,rfl,h5,h⟩:=okF_cons h;obtain rfl:=okF_nil h;obtain⟨b,hf,ht,rfl⟩:=ok_book h1;obtain⟨u,hu,rfl⟩:=okg_str Try.underlying9 h2;obtain⟨known,rfl⟩:=okg_bol Try.underlying4 h3;obtain⟨good,rfl⟩:=okg_bol Try.underlying4 h4;obtain⟨now,_,_,rfl⟩:=ok_i64 Try.underlying3 h5;exact gops_pc Γ hp b u known good now hf ht hu
theorem at_GateLocks (hp:ProgG Γ) {x0:Data} (a0:argD Try.prog 8 44 x0):PC Try.prog Γ 4 [x0] (.bool true):=by
 obtain⟨ds,rfl,h⟩:=arg_struct Try.underlying44 a0;obtain⟨d1,r1,rfl,h1,h⟩:=okF_cons h;obtain⟨d2,r2,rfl,h2,h⟩:=okF_cons h;obtain⟨d3,r3,rfl,h3,h⟩:=okF_cons h;obtain⟨d4,r4,rfl,h4,h⟩:=okF_cons h;obtain rfl:=okF_nil h;obtain⟨b,hf,ht,rfl⟩:=ok_book h1;obtain⟨u,hu,rfl⟩:=okg_str Try.underlying9 h2;obtain⟨now,_,_,rfl⟩:=ok_i64 Try.underlying3 h3;obtain⟨k,k0,k1,rfl⟩:=ok_int Try.underlying5 h4;have e1:IntKind.u8.min=0:=by decide
 have e2:IntKind.u8.max=255:=by decide
 obtain⟨m,rfl⟩:∃ m:Nat,k=m:=⟨k.toNat,by omega⟩;exact glocks_pc Γ hp b u now m hf ht hu (by omega)
theorem at_GateTime (hp:ProgG Γ) {x0:Data} (a0:argD Try.prog 8 49 x0):PC Try.prog Γ 5 [x0] (.bool true):=by
 obtain⟨ds,rfl,h⟩:=arg_struct Try.underlying49 a0;obtain⟨d1,r1,rfl,h1,h⟩:=okF_cons h;obtain⟨d2,r2,rfl,h2,h⟩:=okF_cons h;obtain⟨d3,r3,rfl,h3,h⟩:=okF_cons h;obtain⟨d4,r4,rfl,h4,h⟩:=okF_cons h;obtain rfl:=okF_nil h;obtain⟨b,hf,ht,rfl⟩:=ok_book h1;obtain⟨u,hu,rfl⟩:=okg_str Try.underlying9 h2;obtain⟨now,_,_,rfl⟩:=ok_i64 Try.underlying3 h3;obtain⟨k,k0,k1,rfl⟩:=ok_int Try.underlying47 h4;have e1:IntKind.u16.min=0:=by decide
 have e2:IntKind.u16.max=65535:=by decide
 obtain⟨m,rfl⟩:∃ m:Nat,k=m:=⟨k.toNat,by omega⟩;exact gtime_pc Γ hp b u now m hf ht hu (by omega)
theorem at_GateOthers (hp:ProgG Γ) {x0:Data} (a0:argD Try.prog 8 52 x0):PC Try.prog Γ 6 [x0] (.bool true):=by
 obtain⟨ds,rfl,h⟩:=arg_struct Try.underlying52 a0;obtain⟨d1,r1,rfl,h1,h⟩:=okF_cons h;obtain⟨d2,r2,rfl,h2,h⟩:=okF_cons h;obtain⟨d3,r3,rfl,h3,h⟩:=okF_cons h;obtain⟨d4,r4,rfl,h4,h⟩:=okF_cons h;obtain⟨d5,r5,rfl,h5,h⟩:=okF_cons h;obtain rfl:=okF_nil h;obtain⟨b,hf,ht,rfl⟩:=ok_book h1;obtain⟨u,hu,rfl⟩:=okg_str Try.underlying9 h2;obtain⟨v,hv,rfl⟩:=okg_str Try.underlying9 h3;obtain⟨good,rfl⟩:=okg_bol Try.underlying4 h4;obtain⟨now,_,_,rfl⟩:=ok_i64 Try.underlying3 h5;exact gothers_pc Γ hp b u v good now hf ht hu hv
theorem at_GateKnown (hp:ProgG Γ) {x0:Data} (a0:argD Try.prog 8 56 x0):PC Try.prog Γ 7 [x0] (.bool true):=by
 obtain⟨ds,rfl,h⟩:=arg_struct Try.underlying56 a0;obtain⟨d1,r1,rfl,h1,h⟩:=okF_cons h;obtain⟨d2,r2,rfl,h2,h⟩:=okF_cons h;obtain⟨d3,r3,rfl,h3,h⟩:=okF_cons h;obtain⟨d4,r4,rfl,h4,h⟩:=okF_cons h;obtain rfl:=okF_nil h;obtain⟨b,hf,ht,rfl⟩:=ok_book h1;obtain⟨u,hu,rfl⟩:=okg_str Try.underlying9 h2;obtain⟨known,rfl⟩:=okg_bol Try.underlying4 h3;obtain⟨now,_,_,rfl⟩:=ok_i64 Try.underlying3 h4;exact gknown_pc Γ hp b u known now hf ht hu
theorem at_GateRight (hp:ProgG Γ) {x0:Data} (a0:argD Try.prog 8 59 x0):PC Try.prog Γ 8 [x0] (.bool true):=by
 obtain⟨ds,rfl,h⟩:=arg_struct Try.underlying59 a0;obtain⟨d1,r1,rfl,h1,h⟩:=okF_cons h;obtain⟨d2,r2,rfl,h2,h⟩:=okF_cons h;obtain⟨d3,r3,rfl,h3,h⟩:=okF_cons h;obtain⟨d4,r4,rfl,h4,h⟩:=okF_cons h;obtain rfl:=okF_nil h;obtain⟨b,hf,ht,rfl⟩:=ok_book h1;obtain⟨u,hu,rfl⟩:=okg_str Try.underlying9 h2;obtain⟨good,rfl⟩:=okg_bol Try.underlying4 h3;obtain⟨now,_,_,rfl⟩:=ok_i64 Try.underlying3 h4;exact gright_pc Γ hp b u good now hf ht hu
end
end Gt
def pan (x:Value):List PanicEntry:=[{ v:=x,recovered:=false }]
def litV:Data->Option Value
 | .bool b=>some (.bool b)
 | .int k n=>some (.int k n)
 | .str s=>some (.string s)
 | .ifc t d=>(litV d).map (.iface t)
 | _=>none
def DX (P:Program) (Γ:Nat->Option (List Data)) (f:FuncId) (ds:List D) (H:Nat->Blk) (nx:Nat) (K:D->(Nat->Blk)->Nat->Prop) (X:Value->(Nat->Blk)->Nat->Prop):Prop :=
 CallOk P f/\∀ (L0:Nat->Prop) (w0:W0) (m:Nat->MB) (w:World) (vs:Array Value),WR Γ L0 w0 m H w->(∀ g,nx<=g->m g = .res)->(∀ g,nx<=g->H g = .dead)->ds.length=vs.size->(∀ (i:Nat) (d:D) (v:Value),ds[i]?=some d->vs[i]?=some v->VV (Live L0 m H) w m d v) →
  Calls P f vs w fun e w'=>∃ H' nx' m',WR Γ L0 w0 m' H' w'/\Grow (Live L0 m H) w (Live L0 m' H') w'/\(∀ g,g<nx->m' g=m g)/\(∀ g,nx'<=g->m' g = .res)/\nx<=nx' /\
   ((∃ v d,e = .returned v/\VV (Live L0 m' H') w' m' d v/\K d H' nx') \/ ∃ x,e = .panicked (pan x)/\X x H' nx')
def dxK (P:Program) (Γ:Nat->Option (List Data)) (o:Oper) (e:Nat->D) (H:Nat->Blk) (nx:Nat) (K:D->(Nat->Blk)->Nat->Prop) (X:Value->(Nat->Blk)->Nat->Prop):Prop:=match o.op with
 | .call c=>(match c.callee with
   | .value x=>(match fnD (evalD Γ e x) with
     | some (f,pre,caps)=>DX P Γ f (pre++(c.args.toList.map (evalD Γ e)++caps)) H nx K X
     | none=>False)
   | _=>False)
 | _=>False
def isPan (o:Oper):Bool:=match o.op with
 | .panic _=>true
 | _=>false
def panD (Γ:Nat->Option (List Data)) (o:Oper) (e:Nat->D):D:=match o.op with
 | .panic x=>evalD Γ e x
 | _=>.junk
def panK (x:D) (X:Value->Prop):Prop:=match x with
 | .data (.ifc t d)=>∃ v,litV d=some v/\X (.iface t v)
 | _=>False
section
variable (P:Program) (Γ:Nat->Option (List Data))
def opsX (ops:Array Oper):List Oper->St->(Exit->St->Prop)->Prop
 | [],s,Q=>Q .normal s
 | o::rest,s,Q=>dstOk o s.nt=true/\(match wantedD ops s.env o with
   | some b=>ifW b (ifW (isPan o) (panK (panD Γ o s.env) fun v=>Q (.panic (pan v)) s) (ifW (isCall o)
      ((opK P Γ o s.env s.hp s.nx fun d _ u=>opsX ops rest (stepSt s o d u) Q) \/ (dcK P Γ o s.env s.hp s.nx fun d H' nx'=>opsX ops rest ⟨Env.dst s.env o.dst d,H',nx',s.lo,s.nt⟩ Q) \/
        dxK P Γ o s.env s.hp s.nx (fun d H' nx'=>opsX ops rest ⟨Env.dst s.env o.dst d,H',nx',s.lo,s.nt⟩ Q) fun v H' nx'=>Q (.panic (pan v)) ⟨s.env,H',nx',s.lo,s.nt⟩)
      (opK P Γ o s.env s.hp s.nx fun d _ u=>opsX ops rest (stepSt s o d u) Q))) (opsX ops rest (stepSt s o undefD []) Q)
   | none=>False)
def wpX:Code->(Exit->St->Prop)->St->Prop
 | .skip,Q,s=>Q .normal s
 | .region _ ops draw,Q,s=>ifW draw (drawW P Γ ops ops.toList s [] (fun s' tr=>drawOk2 ops tr s.nx s'.nx=true/\Q .normal s')) (opsX P Γ ops ops.toList s Q)
 | .seq x y,Q,s=>wpX x (thenW (wpX y Q) Q) s
 | .cond c x y,Q,s=>(match evalD Γ s.env c with
   | .data (.bool b)=>ifW b (wpX x Q s) (wpX y Q s)
   | _=>False)
 | .block id b,Q,s=>wpX b (blockW id Q) s
 | .loop b,Q,s=>LoopW (wpX b) Q s
 | .exit id,Q,s=>Q (.exit id) s
 | .ret,Q,s=>Q .ret s
 | .label _,Q,s=>Q .normal s
 | _,_,_=>False
def retXQ (fn:Func) (K:D->(Nat->Blk)->Nat->Prop) (X:Value->(Nat->Blk)->Nat->Prop):Exit->St->Prop
 | .normal,s | .ret,s=>resK P fn.results.toList s fun ds=>∃ d,tupDD ds=some d/\K d s.hp s.nx
 | .panic ch,s=>∃ v,ch=pan v/\X v s.hp s.nx
 | _,_=>False
end
section
variable (P:Program) (Γ:Nat->Option (List Data))
@[go_sem] theorem wpX_skip (Q:Exit->St->Prop) (s:St):wpX P Γ .skip Q s=Q .normal s:=rfl
@[go_sem] theorem wpX_draw (i:Nat) (ops:List Oper) (Q:Exit->St->Prop) (s:St):wpX P Γ (.region i ops.toArray true) Q s=drawW P Γ ops.toArray ops s [] (fun s' tr=>sideK (drawOk2 ops.toArray tr s.nx s'.nx=true) (Q .normal s')):=rfl
@[go_sem] theorem wpX_row (i:Nat) (ops:List Oper) (Q:Exit->St->Prop) (s:St):wpX P Γ (.region i ops.toArray false) Q s=opsX P Γ ops.toArray ops s Q:=rfl
@[go_sem] theorem wpX_seq (x y:Code) (Q:Exit->St->Prop) (s:St):wpX P Γ (.seq x y) Q s=wpX P Γ x (thenW (wpX P Γ y Q) Q) s:=rfl
@[go_sem] theorem wpX_cond (c:Operand) (x y:Code) (Q:Exit->St->Prop) (s:St):wpX P Γ (.cond c x y) Q s=condK (evalD Γ s.env c) (wpX P Γ x Q s) (wpX P Γ y Q s):=rfl
@[go_sem] theorem wpX_block (id:Nat) (b:Code) (Q:Exit->St->Prop) (s:St):wpX P Γ (.block id b) Q s=wpX P Γ b (blockW id Q) s:=rfl
@[go_sem] theorem wpX_loop (b:Code) (Q:Exit->St->Prop) (s:St):wpX P Γ (.loop b) Q s=LoopW (wpX P Γ b) Q s:=rfl
@[go_sem] theorem wpX_exit (id:Nat) (Q:Exit->St->Prop) (s:St):wpX P Γ (.exit id) Q s=Q (.exit id) s:=rfl
@[go_sem] theorem wpX_ret (Q:Exit->St->Prop) (s:St):wpX P Γ .ret Q s=Q .ret s:=rfl
@[go_sem] theorem thenW_panic (n:St->Prop) (Q:Exit->St->Prop) (s:St) (ch:List PanicEntry):thenW n Q (.panic ch) s=Q (.panic ch) s:=rfl
@[go_sem] theorem blockW_panic (id:Nat) (Q:Exit->St->Prop) (s:St) (ch:List PanicEntry):blockW id Q (.panic ch) s=Q (.panic ch) s:=rfl
@[congr] theorem retXQ_congr {n0:Nat} (tk:tick=n0) (fn:Func) (K:D->(Nat->Blk)->Nat->Prop) (X:Value->(Nat->Blk)->Nat->Prop) (x:Exit) (s:St):retXQ P fn K X x s=retXQ P fn K X x s:=rfl
@[go_sem] theorem retXQ_ret (fn:Func) (K:D->(Nat->Blk)->Nat->Prop) (X:Value->(Nat->Blk)->Nat->Prop) (s:St):retXQ P fn K X .ret s=resK P fn.results.toList s fun ds=>∃ d,tupDD ds=some d/\K d s.hp s.nx:=rfl
@[go_sem] theorem retXQ_normal (fn:Func) (K:D->(Nat->Blk)->Nat->Prop) (X:Value->(Nat->Blk)->Nat->Prop) (s:St):retXQ P fn K X .normal s=resK P fn.results.toList s fun ds=>∃ d,tupDD ds=some d/\K d s.hp s.nx:=rfl
@[congr] theorem panK_congr {n0:Nat} (tk:tick=n0) {x x':D} (h:x=x') (X:Value->Prop):panK x X=panK x' X:=by rw[h]
@[go_sem] theorem panD_eq (dst:Option Nat) (x:Operand) (ty:TypeId) (pos:String) (af:Array Edge) (gd:Option (Nat×Bool)) (e:Nat->D):panD Γ ⟨dst,.panic x,ty,pos,af,gd⟩ e=evalD Γ e x:=rfl
attribute [go_sem] isPan
@[go_sem] theorem opsX_nil (ops:Array Oper) (s:St) (Q:Exit->St->Prop):opsX P Γ ops [] s Q=Q .normal s:=rfl
@[congr] theorem opsX_congr {n0:Nat} (tk:tick=n0) (ops:Array Oper) (l:List Oper) (s:St) (Q:Exit->St->Prop):opsX P Γ ops l s Q=opsX P Γ ops l s Q:=rfl
@[congr] theorem wpX_congr {n0:Nat} (tk:tick=n0) (c:Code) (Q:Exit->St->Prop) (s:St):wpX P Γ c Q s=wpX P Γ c Q s:=rfl
@[congr] theorem dxK_congr' {n0:Nat} (tk:tick=n0) (o:Oper) (e:Nat->D) (H:Nat->Blk) (fr:Nat) (K:D->(Nat->Blk)->Nat->Prop) (X:Value->(Nat->Blk)->Nat->Prop):dxK P Γ o e H fr K X=dxK P Γ o e H fr K X:=rfl
@[congr] theorem DX_congr {n0:Nat} (tk:tick=n0) (f:FuncId) {ds ds':List D} (h:ds=ds') (H:Nat->Blk) (nx:Nat) (K:D->(Nat->Blk)->Nat->Prop) (X:Value->(Nat->Blk)->Nat->Prop):DX P Γ f ds H nx K X=DX P Γ f ds' H nx K X:=by rw[h]
end
def shA (ds:List Deferred) (a:Act):Act:={ a with defers:=a.defers++ds }
theorem shA_eval (ds:List Deferred) (a:Act):(shA ds a).eval=a.eval:=by
 funext x
 cases x<;>rfl
theorem shA_put (ds:List Deferred) (a:Act) (dst:Option Tmp) (v:Value):(shA ds a).put dst v=shA ds (a.put dst v):=by cases dst<;>rfl
section
variable {P:Program} {Γ:Nat->Option (List Data)}
theorem upon_shift {ds:List Deferred} {o:Oper} {a:Act} {next:Act->World->Prop} {next':Act->World->Prop} {Q:Exit->Act->World->Prop} {r:Result Next} (hn:∀ a w,next a w->next' (shA ds a) w)
 (h:o.upon P a next (fun e a' w'=>Q e (shA ds a') w') r):o.upon P (shA ds a) next' Q r:=by
 unfold Oper.upon at h ⊢;split at h
 . rw[shA_put];exact hn _ _ h
 . rw[shA_put];exact hn _ _ h
 . rename_i d w';show next' ((shA ds { a with defers:=d::a.defers }).put o.dst undef) w';rw[shA_put];exact hn _ _ h
 . refine h.mono fun e w' he=>?_;cases e with
   | returned v=>simp only at he ⊢;rw[shA_put];exact hn _ _ he
   | panicked chain=>exact he
   | outgrown =>
     obtain⟨a0,w0,hq⟩:=he;exact⟨_,w0,hq⟩
 . intro fr cs;obtain⟨v,w',hR,hs⟩:=h fr cs;refine⟨v,w',?_,hs⟩;show next' ((shA ds a).put o.dst v) w';rw[shA_put];exact hn _ _ hR
 . exact h
 . exact h.elim
theorem wpList_shift {ds:List Deferred} {ops:Array Oper} {Q:Exit->Act->World->Prop}:∀ (l:List Oper) (a:Act) (w:World),wpList P ops (fun e a' w'=>Q e (shA ds a') w') l a w->wpList P ops Q l (shA ds a) w
 | [],a,w,h=>h
 | o::rest,a,w,h=>by
   unfold wpList at h ⊢;have e1:(shA ds a).tmps=a.tmps:=rfl;rw[e1];split at h
   . rename_i hw;rw[if_pos hw];rcases h with h|⟨h1,a0,w0,h2⟩
     . left;unfold Oper.wp at h ⊢;rw[shA_eval];exact upon_shift (fun a w h=>wpList_shift rest a w h) h
     . right;refine⟨?_,_,w0,h2⟩;unfold Oper.asks at h1 ⊢;rw[shA_eval];exact h1
   . rename_i hw;rw[if_neg hw,shA_put];exact wpList_shift rest _ _ h
def Recd (u:FrameMode) (d:Data):Prop:=(u = .returning/\d = .nili) \/ ∃ t x v,u = .panicking (pan (.iface t v))/\litV x=some v/\d = .ifc t x
def DR (P:Program) (Γ:Nat->Option (List Data)) (g:FuncId) (ds:List D) (d:Data) (H:Nat->Blk) (nx:Nat) (K:(Nat->Blk)->Nat->Prop):Prop :=
 CallOk P g/\∀ (L0:Nat->Prop) (w0:W0) (m:Nat->MB) (w:World) (vs:Array Value) (u:FrameMode),WR Γ L0 w0 m H w->(∀ g,nx<=g->m g = .res)->(∀ g,nx<=g->H g = .dead)->ds.length=vs.size->(∀ (i:Nat) (d:D) (v:Value),ds[i]?=some d->vs[i]?=some v->VV (Live L0 m H) w m d v)->Recd u d →
  CallsD P g vs u w fun e u' w'=>∃ v0 H' nx' m',e = .returned v0/\settle u' = .returning/\WR Γ L0 w0 m' H' w'/\Grow (Live L0 m H) w (Live L0 m' H') w'/\(∀ g,g<nx->m' g=m g)/\(∀ g,nx'<=g->m' g = .res)/\nx<=nx'/\K H' nx'
def closQ (K:(Nat->Blk)->Nat->Prop):Exit->St->Prop
 | .normal,s | .ret,s=>K s.hp s.nx
 | _,_=>False
def endR (P:Program) (Γ:Nat->Option (List Data)) (fn:Func) (g:FuncId) (dte:D) (r:Data) (d:Data) (s:St):Prop :=
 DR P Γ g [dte] d s.hp s.nx fun H' nx'=>resK P fn.results.toList ⟨s.env,H',nx',s.lo,s.nt⟩ fun ds=>∃ xs,FrzL true H' ds xs/\r=tupD xs
def bodyR (P:Program) (Γ:Nat->Option (List Data)) (fn:Func) (g:FuncId) (dte:D) (r:Data):Exit->St->Prop
 | .normal,s=>endR P Γ fn g dte r .nili s
 | .panic ch,s=>∃ t v x,ch=pan (.iface t v)/\litV x=some v/\endR P Γ fn g dte r (.ifc t x) s
 | _,_=>False
end
section
variable {P:Program} {Γ:Nat->Option (List Data)}
@[go_sem] theorem cells_ifc (t:TypeId) (d:Data):Data.cells (.ifc t d)=[.ifc t d]:=rfl
variable (P)
@[go_sem] theorem closQ_ret (K:(Nat->Blk)->Nat->Prop) (s:St):closQ K .ret s=K s.hp s.nx:=rfl
@[go_sem] theorem closQ_normal (K:(Nat->Blk)->Nat->Prop) (s:St):closQ K .normal s=K s.hp s.nx:=rfl
@[congr] theorem closQ_congr {n0:Nat} (tk:tick=n0) (K:(Nat->Blk)->Nat->Prop) (e:Exit) (s:St):closQ K e s=closQ K e s:=rfl
variable {P}
@[congr] theorem bodyR_congr {n0:Nat} (tk:tick=n0) (fn:Func) (g:FuncId) (dte:D) (r:Data) (e:Exit) (s:St):bodyR P Γ fn g dte r e s=bodyR P Γ fn g dte r e s:=rfl
@[go_sem] theorem bodyR_normal (fn:Func) (g:FuncId) (dte:D) (r:Data) (s:St):bodyR P Γ fn g dte r .normal s=DR P Γ g [dte] .nili s.hp s.nx fun H' nx'=>resK P fn.results.toList ⟨s.env,H',nx',s.lo,s.nt⟩ fun ds=>∃ xs,FrzL true H' ds xs/\r=tupD xs:=rfl
@[congr] theorem DR_congr {n0:Nat} (tk:tick=n0) (g:FuncId) {ds ds':List D} (h:ds=ds') (d:Data) (H:Nat->Blk) (nx:Nat) (K:(Nat->Blk)->Nat->Prop):DR P Γ g ds d H nx K=DR P Γ g ds' d H nx K:=by rw[h]
end
def Liv (m:Nat->MB) (H:Nat->Blk):Nat->Prop:=fun b=>∃ g sz,(H g).rw=true/\m g = .at b sz
theorem below_zero {B:Nat} {w w':World} (h:Below B w w'):Below 0 w w':=⟨h.os,h.tape,h.output,h.size,fun k hk=>absurd hk (Nat.not_lt_zero _)⟩
theorem below_comp {w w' w'':World} (h:Below 0 w w') (k:Below 0 w' w''):Below 0 w w'':=⟨k.os.trans h.os,k.tape.trans h.tape,k.output.trans h.output,Nat.le_trans h.size k.size,fun _ hk=>absurd hk (Nat.not_lt_zero _)⟩
section
variable {P:Program} {Γ:Nat->Option (List Data)} {L0:Nat->Prop} {w0:W0}
theorem Rel.liv {m:Nat->MB} {s:St} {a:Act} {w:World} (h:Rel Γ L0 w0 m s a w) {b:Nat} (hb:Liv m s.hp b):w0.base<=b/\¬ L0 b/\b<w.heap.size:=by
 obtain⟨g,sz,hg,hm⟩:=hb;rcases Blk.rw_inv hg with⟨cells,hg⟩|⟨o,hg⟩
 . rcases h.heap.blk g true cells hg with⟨k,_⟩|⟨b',sz',vs,ty,k1,k2,_⟩
   . rw[k] at hm;cases hm
   . have:=h.wr.lt hg hm;rw[k1] at hm;cases hm;exact⟨k2.1,k2.2,this⟩
 . obtain⟨b',v,k1,k2,_⟩:=h.heap.obj g o hg;have:=h.wr.ltO hg hm;rw[k1] at hm;cases hm;exact⟨k2.1,k2.2,this⟩
theorem Rel.rebase {m:Nat->MB} {s:St} {a:Act} {w:World} (h:Rel Γ L0 w0 m s a w):Rel Γ L0 ⟨w,w0.base,h.size⟩ m s a w :=
 ⟨h.defers,h.vals,h.heap,h.res,h.dead,Below.refl _ _,fun b hb=>⟨(h.l0 b hb).1,rfl⟩,h.glob,h.lo,h.slots⟩
theorem Rel.others {m m':Nat->MB} {s s':St} {a a':Act} {w w':World} (h:Rel Γ L0 w0 m s a w) (h':Rel Γ L0 w0 m' s' a' w') (hg:Grow (Live L0 m s.hp) w (Live L0 m' s'.hp) w') :
 Grow (Liv m s.hp) w (Liv m' s'.hp) w'/\∀ b,L0 b->w'.heap[b]?=w.heap[b]?:=by
 have e:∀ b,L0 b->w'.heap[b]?=w.heap[b]?:=fun b hb=>(h'.l0 b hb).2.trans (h.l0 b hb).2.symm;refine⟨⟨hg.size,fun b hb hL=>?_⟩,e⟩;by_cases hl:L0 b
 . exact⟨e b hl,fun k=>(h'.liv k).2.1 hl⟩
 . obtain⟨h1,h2⟩:=hg.keep b hb fun k=>by
    rcases k with k|k
    . exact hl k
    . exact hL k
   exact⟨h1,fun k=>h2 (.inr k)⟩
theorem Rel.after {L1:Nat->Prop} {m:Nat->MB} {s:St} {a:Act} {w w':World} (h:Rel Γ L0 w0 m s a w) (hg:Grow L0 w L1 w') (hl:∀ b,L1 b->b<w'.heap.size):Rel Γ L1 ⟨w',w0.base,Nat.le_trans h.size hg.size⟩ m s a w':=by
 have own:∀ b,b<w.heap.size->¬ L0 b->w'.heap[b]?=w.heap[b]?/\¬ L1 b:=fun b hb hn=>hg.keep b hb hn;have gr:Grow (Live L0 m s.hp) w (Live L1 m s.hp) w':=⟨hg.size,fun b hb hn=>by
  obtain⟨h1,h2⟩:=own b hb fun k=>hn (.inl k);exact⟨h1,fun k=>by
   rcases k with k|k
   . exact h2 k
   . exact hn (.inr k)⟩⟩
 refine⟨h.defers,fun t=>(h.vals t).mono gr fun _ _=>rfl,⟨?_,h.heap.inj,?_,h.heap.injO⟩,h.res,h.dead,Below.refl _ _,fun b hb=>⟨hl b hb,rfl⟩,h.glob.mono gr,h.lo,h.slots⟩
 . intro g rw cells hgb;rcases h.heap.blk g rw cells hgb with k|⟨b,sz,vs,ty,k1,k2,k3,k4,k5,k6,k7⟩
   . exact .inl k
   . have hb:b<w.heap.size:=(Array.getElem?_eq_some_iff.1 k4).1;obtain⟨e1,e2⟩:=own b hb k2.2;exact .inr ⟨b,sz,vs,ty,k1,⟨k2.1,e2⟩,fun hrw=>(gr.keep b hb (k3 hrw)).2,e1.trans k4,k5,k6,fun i d hd=>by
      obtain⟨v,q1,q2,q3⟩:=k7 i d hd;exact⟨v,q1,q2,q3.mono gr fun _ _=>rfl⟩⟩
 . intro g o hgo;obtain⟨b,v,k1,k2,k3,k4⟩:=h.heap.obj g o hgo;have hb:b<w.heap.size:=(Array.getElem?_eq_some_iff.1 k3).1;obtain⟨e1,e2⟩:=own b hb k2.2;exact⟨b,v,k1,⟨k2.1,e2⟩,e1.trans k3,k4.mono gr fun _ _=>rfl⟩
theorem Rel.back {L1:Nat->Prop} {w1:W0} {m:Nat->MB} {s:St} {a:Act} {w:World} (h:Rel Γ L1 w1 m s a w) (hL:∀ b,L0 b->L1 b) (hb:w1.base=w0.base) (hw:Below w0.base w0.w w) (h0:∀ b,L0 b->w.heap[b]?=w0.w.heap[b]?):Rel Γ L0 w0 m s a w:=by
 have lv:∀ b,Live L0 m s.hp b->Live L1 m s.hp b:=fun b k=>by
  rcases k with k|k
  . exact .inl (hL b k)
  . exact .inr k
 have gr:Grow (Live L1 m s.hp) w (Live L0 m s.hp) w:=Grow.less w lv;refine⟨h.defers,fun t=>(h.vals t).mono gr fun _ _=>rfl,⟨?_,h.heap.inj,?_,h.heap.injO⟩,h.res,h.dead,hw,fun b hb=>⟨(h.l0 b (hL b hb)).1,h0 b hb⟩,h.glob.mono gr,h.lo,h.slots⟩
 . intro g rw cells hgb;rcases h.heap.blk g rw cells hgb with k|⟨b,sz,vs,ty,k1,k2,k3,k4,k5,k6,k7⟩
   . exact .inl k
   . exact .inr ⟨b,sz,vs,ty,k1,⟨hb ▸ k2.1,fun k=>k2.2 (hL b k)⟩,fun hrw k=>k3 hrw (lv b k),k4,k5,k6,fun i d hd=>by
      obtain⟨v,q1,q2,q3⟩:=k7 i d hd;exact⟨v,q1,q2,q3.mono gr fun _ _=>rfl⟩⟩
 . intro g o hgo;obtain⟨b,v,k1,k2,k3,k4⟩:=h.heap.obj g o hgo;exact⟨b,v,k1,⟨hb ▸ k2.1,fun k=>k2.2 (hL b k)⟩,k3,k4.mono gr fun _ _=>rfl⟩
end
def FW (F:Fence):Prop:=F=Fence.wide \/ ∃ l,F=Fence.wide.inRound l
theorem FW.fn {F:Fence} (h:FW F) (f:FuncId):F.fn f:=by
 rcases h with rfl|⟨l,rfl⟩<;>exact trivial
theorem FW.depth {F:Fence} (h:FW F) {n:Nat}:F.depth.isSome=true->1<=n:=by
 rcases h with rfl|⟨l,rfl⟩<;>(intro h;cases h)
theorem FW.calls {F:Fence} (h:FW F) {n:Nat} {P:Program} {f:FuncId} {args:Array Value} {w:World} {R:Ending->World->Prop} (hc:Calls P f args w R):CallsIn F n P f args w R:=by
 rcases h with rfl|⟨l,rfl⟩
 . exact callsIn_wide.2 hc
 . exact CallsIn.inRound l (callsIn_wide.2 hc)
theorem Runs.wpIn {F:Fence} (hF:FW F) {n:Nat} {P:Program} {o:Oper} {a:Act} {w:World} {φ:Value->World->Prop} {next:Act->World->Prop} {Q:Exit->Act->World->Prop} (hd:∀ c,o.op≠.defer c) (h:Runs P o a w φ) (hn:∀ v w',φ v w'->next (a.put o.dst v) w'):o.wpIn F n P a w next Q:=by
 refine⟨fun f _=>hF.fn f,?_⟩;rw[Oper.semAt_plain F a.eval o hd];rcases h with⟨v,w',h1,h2⟩|⟨w',h1,h2⟩|⟨f,args,w1,h1,h2⟩
 . rw[h1];exact hn v w' h2
 . rw[h1];exact hn undef w' h2
 . rw[h1,Oper.uponIn_enter];exact⟨hF.depth,(hF.calls h2).mono fun e w' ⟨v,he,hv⟩=>by subst he;exact hn v w' hv⟩
def yieldK (Γ:Nat->Option (List Data)) (l:Nat) (ys:List Data) (o:Oper) (e:Nat->D) (k:Nat) (K:Prop):Prop:=match o.op with
 | .call c=>(match c.callee with
   | .value x=>(match evalD Γ e x with
     | .yld l'=>l'=l/\(match c.args.toList.map (evalD Γ e) with
       | [.data y]=>ys[k]?=some y/\K
       | _=>False)
     | _=>False)
   | _=>False)
 | _=>False
def thenY (next:St->Nat->Prop) (Q:Exit->St->Nat->Prop):Exit->St->Nat->Prop
 | .normal,s,k=>next s k
 | e,s,k=>Q e s k
def blockY (id:Nat) (Q:Exit->St->Nat->Prop):Exit->St->Nat->Prop
 | .exit i,s,k=>if i=id then Q .normal s k else Q (.exit i) s k
 | e,s,k=>Q e s k
def LoopY (body:(Exit->St->Nat->Prop)->St->Nat->Prop) (Q:Exit->St->Nat->Prop) (s:St) (k:Nat):Prop :=
 ∃ (σ:Type) (st:σ->St) (κ:σ->Nat) (μ:σ->Nat) (x0:σ),WeakX s (st x0)/\κ x0=k/\∀ x,body (thenY (fun s' k'=>∃ y,WeakX s' (st y)/\κ y=k'/\μ y<μ x) Q) (st x) (κ x)
section
variable (P:Program) (Γ:Nat->Option (List Data)) (l:Nat) (ys:List Data)
def opsY (ops:Array Oper):List Oper->St->Nat->(St->Nat->Prop)->Prop
 | [],s,k,Q=>Q s k
 | o::rest,s,k,Q=>dstOk o s.nt=true/\(match wantedD ops s.env o with
   | some b=>ifW b (ifW (isCall o)
      ((opK P Γ o s.env s.hp s.nx fun d _ u=>opsY ops rest (stepSt s o d u) k Q) \/ yieldK Γ l ys o s.env k (opsY ops rest (stepSt s o (.data (.bool true)) []) (k+1) Q))
      (opK P Γ o s.env s.hp s.nx fun d _ u=>opsY ops rest (stepSt s o d u) k Q)) (opsY ops rest (stepSt s o undefD []) k Q)
   | none=>False)
def wpY:Code->(Exit->St->Nat->Prop)->St->Nat->Prop
 | .skip,Q,s,k=>Q .normal s k
 | .region _ ops draw,Q,s,k=>ifW draw False (opsY P Γ l ys ops ops.toList s k (Q .normal))
 | .seq x y,Q,s,k=>wpY x (thenY (wpY y Q) Q) s k
 | .cond c x y,Q,s,k=>(match evalD Γ s.env c with
   | .data (.bool b)=>ifW b (wpY x Q s k) (wpY y Q s k)
   | _=>False)
 | .block id b,Q,s,k=>wpY b (blockY id Q) s k
 | .loop b,Q,s,k=>LoopY (wpY b) Q s k
 | .exit id,Q,s,k=>Q (.exit id) s k
 | .ret,Q,s,k=>Q .ret s k
 | _,_,_,_=>False
end
structure Moves (P:Program) (Γ:Nat->Option (List Data)) (F:Fence) (l:Nat) (ys:List Data) (RR:Nat->(Nat->MB)->St->Act->World->Prop):Prop where
 rel:∀ k m s a w,RR k m s a w->∃ L0 w0,Rel Γ L0 w0 m s a w/\∀ m' s' a' w',Rel Γ L0 w0 m' s' a' w'->Ext L0 m s w m' s' w'->RR k m' s' a' w'
 yld:∀ n k m s a w y v,RR k m s a w->ys[k]?=some y->(∀ L0 w0,Rel Γ L0 w0 m s a w->VD (Live L0 m s.hp) w y v)->YieldAt F n P l #[v] w fun e w'=>e = .returned (.bool true)/\RR (k+1) m s a w'
section
variable {P:Program} {Γ:Nat->Option (List Data)}
theorem opK_plain {o:Oper} {e:Nat->D} {H:Nat->Blk} {nx:Nat} {K:D->List Nat->List (Nat×Blk)->Prop} (h:opK P Γ o e H nx K):∀ c,o.op≠.defer c:=by
 intro c hc;unfold opK at h;rw[hc] at h;exact h
theorem yield_run {dst:Option Nat} {x:Operand} {args:Array Operand} {ts:Array TypeId} {ty:TypeId} {pos:String} {af:Array Edge} {gd:Option (Nat×Bool)} {a:Act} {w:World} {l:Nat} {r:Next} {v:Value} (hx:a.eval x = .func (.yield l) #[] #[]) (ha:args.map a.eval = #[v])
 (h:(Instr.yield l #[v]).run P w = .ok r w):(execOp a.eval ⟨dst,.call ⟨.value x,args,ts⟩,ty,pos,af,gd⟩).run P w = .ok r w:=by
 simp only[execOp,resolve,Sem.run_bind,hx,Deferred.ofValue,Sem.run_pure,Result.andThen_ok,invoke,ha];simpa using h
theorem opsY_sound {F:Fence} (hF:FW F) {n l:Nat} {ys:List Data} {RR:Nat->(Nat->MB)->St->Act->World->Prop} (hM:Moves P Γ F l ys RR) {ops:Array Oper} {Q:Exit->Act->World->Prop} {Qs:St->Nat->Prop} :
 ∀ (lst:List Oper) (k:Nat) (m:Nat->MB) (s:St) (a:Act) (w:World),RR k m s a w->opsY P Γ l ys ops lst s k Qs →
 (∀ k' m' s' a' w',RR k' m' s' a' w'->Qs s' k'->Q .normal a' w')->wpListIn F n P ops Q lst a w
 | [],k,m,s,a,w,h,hk,hQ=>hQ k m s a w h hk
 | o::rest,k,m,s,a,w,h,hk,hQ=>by
   obtain⟨hd,hk⟩:=hk;obtain⟨L0,w0,hr,hstep⟩:=hM.rel k m s a w h;have viaOp:(opK P Γ o s.env s.hp s.nx fun d _ u=>opsY P Γ l ys ops rest (stepSt s o d u) k Qs)->o.wpIn F n P a w (wpListIn F n P ops Q rest) Q:=fun hk=>by
    have hpl:=opK_plain hk;obtain⟨d,rd,u,hk,hrun⟩:=op_sound hr.wr (hr.res _ (Nat.le_refl _)) (hr.dead _ (Nat.le_refl _)) hr.vals hk;refine hrun.wpIn hF hpl fun v w' ha=>?_;obtain⟨m',h1,h2⟩:=step_rel hr hd ha;exact opsY_sound hF hM rest k m' _ _ _ (hstep _ _ _ _ h1 h2) hk hQ
   have viaY:yieldK Γ l ys o s.env k (opsY P Γ l ys ops rest (stepSt s o (.data (.bool true)) []) (k+1) Qs)->o.wpIn F n P a w (wpListIn F n P ops Q rest) Q:=fun hkY=>by
    clear hk;obtain⟨dst,op,type,pos,after,guard⟩:=o;unfold yieldK at hkY;cases op<;>simp only at hkY
    case call c =>
     obtain⟨callee,args,argTypes⟩:=c;cases callee<;>simp only at hkY
     case value x =>
      split at hkY
      . rename_i l' hx;obtain⟨rfl,hk⟩:=hkY;split at hk
        . rename_i y hargs;obtain⟨hy,hk⟩:=hk;have hρ:∀ x,VV (Live L0 m s.hp) w m (evalD Γ s.env x) (a.eval x):=fun x=>eval_ok hr.glob hr.vals x;have hxv:=hρ x;rw[hx] at hxv;have hce:a.eval x = .func (.yield l') #[] #[]:=by
           generalize a.eval x=vx at hxv;cases hxv;rfl
          obtain⟨z,hz,hzy⟩:∃ z,args = #[z]/\evalD Γ s.env z = .data y:=by
           obtain⟨al⟩:=args
           match al,hargs with
           | [z],hargs=>exact⟨z,rfl,by simpa using hargs⟩
           | [],hargs=>simp at hargs
           | _::_::_,hargs=>simp at hargs
          subst hz;have hY:=hM.yld (n-1) k m s a w y (a.eval z) h hy fun L1 w1 h1=>by
           have:=eval_ok h1.glob h1.vals z;rw[hzy] at this;exact this.data_inv
          obtain⟨fn,tmps,assign,body,hyl,hR⟩:=hY;refine⟨fun f _=>hF.fn f,?_⟩;rw[Oper.semAt_plain F a.eval _ (fun c hc=>by cases hc),yield_run hce (by simp) hyl,Oper.uponIn_round];refine⟨hF.depth,hR.mono ?_⟩;rintro e w' ⟨rfl,h'⟩;obtain⟨L1,w1,hr1,hstep1⟩:=hM.rel (k+1) m s a w' h';obtain⟨m2,h2,h3⟩:=step_rel (o:=⟨dst,.call ⟨.value x,#[z],argTypes⟩,type,pos,after,guard⟩) (d:=.data (.bool true)) (u:=[]) (v:=.bool true) (w':=w') hr1 hd ⟨m,hr1.wr,.data _ _ (.bool true),Grow.refl _ _,fun _ _=>rfl⟩;exact opsY_sound hF hM rest (k+1) m2 _ _ _ (hstep1 _ _ _ _ h2 h3) hk hQ
        . exact hk.elim
      . exact hkY.elim
     all_goals exact hkY.elim
    all_goals exact hkY.elim
   unfold wpListIn;cases hw:wantedD ops s.env o with
   | none=>rw[hw] at hk;exact hk.elim
   | some b =>
     rw[hw] at hk;rw[wanted_ok hr.vals hw];cases b with
     | true =>
       simp only[ifW] at hk;rw[if_pos rfl];split at hk
       . rcases hk with hk|hk
         . exact viaOp hk
         . exact viaY hk
       . exact viaOp hk
     | false =>
       simp only[ifW] at hk;rw[if_neg (by simp)];obtain⟨m',h1,h2⟩:=step_rel (d:=undefD) (u:=[]) (v:=undef) (w':=w) hr hd ⟨m,hr.wr,undef_ok _ _ _,Grow.refl _ _,fun _ _=>rfl⟩;exact⟨fun f _=>hF.fn f,opsY_sound hF hM rest k m' _ _ _ (hstep _ _ _ _ h1 h2) hk hQ⟩
theorem loop_soundIn {F:Fence} {n:Nat} {c:Code} {Q:Exit->Act->World->Prop} {σ:Type} (R:σ->Act->World->Prop) (μ:σ->Nat) {x0:σ} {a:Act} {w:World} (h0:R x0 a w)
 (round:∀ x a w,R x a w->c.wpIn F n P (Exit.then (fun a' w'=>∃ y,R y a' w'/\μ y<μ x) Q) a w):(Code.loop c).wpIn F n P Q a w:=by
 intro b k cs hro hb hr;have key:∀ j x a w,μ x=j->R x a w →
  ∃ e a' w',Q e a' w'/\ArrivesIn (Machine.fenced P F) P (lone (b.atR a (.code c :: .inLoop c::k)) cs w) b k cs e a' w':=by
  intro j
  induction j using Nat.strongRecOn with
  | _ j ih =>
    intro x a w hn hI;obtain⟨e,a₁,w₁,hq,harr⟩:=round x a w hI b (.inLoop c::k) cs hro hb hr;cases e with
    | normal =>
      obtain⟨y,hI₁,hlt⟩:=hq;obtain⟨e₂,a₂,w₂,hq₂,harr₂⟩:=ih (μ y) (hn ▸ hlt) y a₁ w₁ rfl hI₁;exact⟨e₂,a₂,w₂,hq₂,.of_steps (StepsIn.trans harr (.one (fenced_calm hb hr rfl) stepR_inLoop)) harr₂⟩
    | exit id=>exact⟨_,a₁,w₁,hq,.pass (x:=.inLoop c) rfl (fun _ _=>.inl (by simp)) harr⟩
    | goto l=>exact⟨_,a₁,w₁,hq,.pass (x:=.inLoop c) rfl (fun _ _=>.inl (by simp)) harr⟩
    | ret=>exact⟨_,a₁,w₁,hq,.pass (x:=.inLoop c) rfl (fun _ _=>.inl (by simp)) harr⟩
    | panic ch=>exact⟨_,a₁,w₁,hq,.pass (x:=.inLoop c) rfl (fun _ _=>.inl (by simp)) harr⟩
    | outgrown=>exact⟨_,a₁,w₁,hq,.pass (x:=.inLoop c) rfl (fun _ _=>.inl (by simp)) harr⟩
 obtain⟨e,a',w',hq,harr⟩:=key _ x0 a w rfl h0;exact⟨e,a',w',hq,.of_steps (.one (fenced_calm hb hr rfl) stepR_loop) harr⟩
def LiftY (RR:Nat->(Nat->MB)->St->Act->World->Prop) (Q:Exit->St->Nat->Prop) (e:Exit) (a':Act) (w':World):Prop:=∃ m' s' k',RR k' m' s' a' w'/\Q e s' k'
theorem wpY_sound {F:Fence} (hF:FW F) {n l:Nat} {ys:List Data} {RR:Nat->(Nat->MB)->St->Act->World->Prop} (hM:Moves P Γ F l ys RR) :
 ∀ (c:Code) (Q:Exit->St->Nat->Prop) (k:Nat) (m:Nat->MB) (s:St) (a:Act) (w:World),RR k m s a w->wpY P Γ l ys c Q s k->c.wpIn F n P (LiftY RR Q) a w
 | .skip,Q,k,m,s,a,w,h,hk=>wpIn_skip ⟨m,s,k,h,hk⟩
 | .exit id,Q,k,m,s,a,w,h,hk=>wpIn_exit ⟨m,s,k,h,hk⟩
 | .ret,Q,k,m,s,a,w,h,hk=>wpIn_ret ⟨m,s,k,h,hk⟩
 | .region id ops draw,Q,k,m,s,a,w,h,hk=>by
   cases draw with
   | true=>exact hk.elim
   | false=>exact wpIn_region_list (opsY_sound hF hM ops.toList k m s a w h (by simpa[wpY,ifW] using hk) fun k' m' s' a' w' h1 h2=>⟨m',s',k',h1,h2⟩)
 | .seq x y,Q,k,m,s,a,w,h,hk=>by
   refine wpIn_seq (wpIn_mono (wpY_sound hF hM x _ k m s a w h hk) fun e a' w' ⟨m',s',k',h1,h2⟩=>?_);cases e with
   | normal=>exact wpY_sound hF hM y Q k' m' s' a' w' h1 h2
   | exit id=>exact⟨m',s',k',h1,h2⟩
   | goto l=>exact⟨m',s',k',h1,h2⟩
   | ret=>exact⟨m',s',k',h1,h2⟩
   | panic ch=>exact⟨m',s',k',h1,h2⟩
   | outgrown=>exact⟨m',s',k',h1,h2⟩
 | .cond c x y,Q,k,m,s,a,w,h,hk=>by
   simp only[wpY] at hk;split at hk
   . rename_i b hc;obtain⟨L0,w0,hr,_⟩:=hM.rel k m s a w h;have hcv:=eval_ok hr.glob hr.vals c;rw[hc] at hcv;have:=hcv.data_inv;generalize hce:a.eval c=vc at this;cases this;refine wpIn_cond hce ?_;cases b with
     | true=>exact wpY_sound hF hM x Q k m s a w h hk
     | false=>exact wpY_sound hF hM y Q k m s a w h hk
   . exact hk.elim
 | .block id b,Q,k,m,s,a,w,h,hk=>by
   refine wpIn_block (wpIn_mono (wpY_sound hF hM b _ k m s a w h hk) fun e a' w' ⟨m',s',k',h1,h2⟩=>?_);cases e with
   | exit i =>
     simp only[Exit.inBlock,blockY] at h2 ⊢;split at h2
     . rename_i e;rw[if_pos e];exact⟨m',s',k',h1,h2⟩
     . rename_i e;rw[if_neg e];exact⟨m',s',k',h1,h2⟩
   | normal=>exact⟨m',s',k',h1,h2⟩
   | goto l=>exact⟨m',s',k',h1,h2⟩
   | ret=>exact⟨m',s',k',h1,h2⟩
   | panic ch=>exact⟨m',s',k',h1,h2⟩
   | outgrown=>exact⟨m',s',k',h1,h2⟩
 | .loop b,Q,k,m,s,a,w,h,hk=>by
   obtain⟨σ,st,κ,μ,x0,hw,hk0,hr⟩:=hk;have weak:∀ {k m s s2 a w},RR k m s a w->WeakX s s2->∃ m2,RR k m2 s2 a w:=fun {k m s s2 a w} h hw=>by
    obtain⟨L0,w0,hr,hstep⟩:=hM.rel k m s a w h;obtain⟨m2,h1,h2⟩:=weakX_rel hr hw;exact⟨m2,hstep _ _ _ _ h1 h2⟩
   refine loop_soundIn (fun x a' w'=>∃ m',RR (κ x) m' (st x) a' w') μ (x0:=x0) (by rw[hk0];exact weak h hw) ?_;rintro x a' w' ⟨m',h1⟩;refine wpIn_mono (wpY_sound hF hM b _ (κ x) m' (st x) a' w' h1 (hr x)) fun e a'' w'' ⟨m'',s'',k'',h3,h5⟩=>?_;cases e with
   | normal =>
     obtain⟨y,hwy,hky,hlt⟩:=h5;exact⟨y,by rw[hky];exact weak h3 hwy,hlt⟩
   | exit id=>exact⟨m'',s'',k'',h3,h5⟩
   | goto l=>exact⟨m'',s'',k'',h3,h5⟩
   | ret=>exact⟨m'',s'',k'',h3,h5⟩
   | panic ch=>exact⟨m'',s'',k'',h3,h5⟩
   | outgrown=>exact⟨m'',s'',k'',h3,h5⟩
 | .label _,Q,k,m,s,a,w,h,hk=>hk.elim
 | .rangeFunc ..,Q,k,m,s,a,w,h,hk=>hk.elim
 | .scope _,Q,k,m,s,a,w,h,hk=>hk.elim
 | .goto _,Q,k,m,s,a,w,h,hk=>hk.elim
 | .refuse _,Q,k,m,s,a,w,h,hk=>hk.elim
end
def Stable (C:Nat->(Nat->Prop)->(Nat->Prop)->World->Prop):Prop :=
 ∀ k Li Lc W Li' W',C k Li Lc W->Grow Li W Li' W'->(∀ b,Lc b->¬ Li' b/\W'.heap[b]?=W.heap[b]?)->(∀ b,Li' b->b<W'.heap.size)->Below 0 W W'->C k Li' Lc W'
def Rounds (P:Program) (l:Nat) (ys:List Data) (C:Nat->(Nat->Prop)->(Nat->Prop)->World->Prop):Prop :=
 ∀ n k Li Lc W y v,C k Li Lc W->ys[k]?=some y->VD (fun b=>Lc b \/ Li b) W y v->(∀ b,Li b->b<W.heap.size/\¬ Lc b) →
  YieldAt Fence.wide n P l #[v] W fun e W'=>e = .returned (.bool true)/\∃ Lc',C (k+1) Li Lc' W'/\Grow Lc W Lc' W'/\∀ b,Lc' b->b<W'.heap.size
def IT (P:Program) (Γ:Nat->Option (List Data)) (f:FuncId) (caps:List Data) (ys:List Data):Prop :=
 CallOk P f/\∀ (n l:Nat) (L:Nat->Prop) (W:World) (vs:Array Value) (C:Nat->(Nat->Prop)->(Nat->Prop)->World->Prop),Glob Γ L W->(∀ b,L b->b<W.heap.size)->caps.length=vs.size →
  (∀ (i:Nat) (x:Data) (v:Value),caps[i]?=some x->vs[i]?=some v->VD L W x v)->Stable C->Rounds P l ys C->C 0 (fun _=>False) L W →
  CallsIn Fence.wide n P f (#[.func (.yield l) #[] #[]]++vs) W fun e W'=>(∃ v,e = .returned v)/\∃ Li Lc,C ys.length Li Lc W'
def endY (n:Nat):Exit->St->Nat->Prop
 | .normal,_,k | .ret,_,k=>k=n
 | _,_,_=>False
section
variable {P:Program} {Γ:Nat->Option (List Data)}
def RngW (P:Program) (Γ:Nat->Option (List Data)) (g:Operand) (ps:Array Tmp) (assign body:Code) (K:St->Prop) (s:St):Prop :=
 ∃ (f:FuncId) (caps ys:List Data) (p:Tmp) (st:Nat->St),evalD Γ s.env g = .data (.fn f caps)/\IT P Γ f caps ys/\ps = #[p]/\p<s.nt/\WeakX s (st 0)/\(∀ k,(st k).env=(st 0).env/\(st k).lo=s.lo/\(st k).nt=s.nt) /\
  (∀ k y,ys[k]?=some y->wpY P Γ 0 [] assign (fun e s1 _=>e = .normal/\wpY P Γ 0 [] body (fun e s2 _=>e = .normal/\WeakX ⟨(st k).env,s2.hp,s2.nx,(st k).lo,(st k).nt⟩ (st (k+1))) s1 0)
    ⟨Env.set (st k).env p (.data y),(st k).hp,(st k).nx,(st k).nx,(st k).nt⟩ 0)/\K (st ys.length)
end
def Ex (L0:Nat->Prop) (D:Nat) (Li:Nat->Prop):Nat->Prop:=fun b=>(L0 b \/ b=D+1 \/ b=D) \/ Li b
structure Betw (Γ:Nat->Option (List Data)) (L0:Nat->Prop) (base:Nat) (m:Nat->MB) (s:St) (a:Act) (w:World) (D:Nat) (rec:Loop) (sk:St) (Li Lc:Nat->Prop) (W:World) (m':Nat->MB) (w1:W0):Prop where
 rel:Rel Γ (Ex L0 D Li) w1 m' sk a W
 base:w1.base=base
 lc:∀ b,Lc b ↔ (L0 b \/ b=D+1 \/ b=D) \/ Liv m' sk.hp b
 keep:∀ g,g<s.lo->m' g=m g
 loop:W.heap[D+1]?=some (.loop rec)
 defd:W.heap[D]?=some (.deferred (some []))
 l0:∀ b,L0 b->W.heap[b]?=w.heap[b]?
 grow:Grow (Live L0 m s.hp) w (Live L0 m' sk.hp) W
 li:∀ b,Li b->D+2<=b
 below:Below 0 w W
section
variable {P:Program} {Γ:Nat->Option (List Data)} {L0:Nat->Prop} {w0:W0}
theorem poke_grow {L:Nat->Prop} {W:World} {l:Nat} (o:Obj) (hl:L l):Grow L W L (W.putObj l o) :=
 ⟨by simp,fun b hb hn=>⟨World.putObj_heap_other fun e=>hn (e ▸ hl),hn⟩⟩
theorem poke_below (W:World) (l:Nat) (o:Obj):Below 0 W (W.putObj l o):=⟨rfl,rfl,rfl,by simp,fun _ hk=>absurd hk (Nat.not_lt_zero _)⟩
theorem Rel.poke {m:Nat->MB} {s:St} {a:Act} {w:World} {l:Nat} (h:Rel Γ L0 w0 m s a w) (o:Obj) (hl:L0 l):Rel Γ L0 ⟨w.putObj l o,w0.base,by simpa using h.size⟩ m s a (w.putObj l o) :=
 h.after (poke_grow o hl) fun b hb=>by simpa using (h.l0 b hb).1
theorem mid_stable {base:Nat} {m:Nat->MB} {s:St} {a:Act} {w:World} {rec:Loop} {st:Nat->St}:Stable fun k Li Lc W=>∃ m' w1,Betw Γ L0 base m s a w w.heap.size rec (st k) Li Lc W m' w1:=by
 rintro k Li Lc W Li' W' ⟨m',w1,hC⟩ hg hlc hlt hbel;have hsz:w.heap.size+1<W.heap.size:=(Array.getElem?_eq_some_iff.1 hC.loop).1;have hli':∀ b,Li' b->w.heap.size+2<=b:=fun b hb=>Nat.le_of_not_lt fun hlt'=>(hg.keep b (by omega) fun k=>by have:=hC.li b k;omega).2 hb;have hX:∀ b,(L0 b \/ b=w.heap.size+1 \/ b=w.heap.size)->W'.heap[b]?=W.heap[b]?:=fun b hb=>(hlc b ((hC.lc b).2 (.inl hb))).2;have gr:Grow (Ex L0 w.heap.size Li) W (Ex L0 w.heap.size Li') W':=⟨hg.size,fun b hb hn=>by
  obtain⟨h1,h2⟩:=hg.keep b hb fun k=>hn (.inr k);exact⟨h1,fun k=>k.elim (fun q=>hn (.inl q)) h2⟩⟩
 refine⟨m',_,⟨hC.rel.after gr ?_,hC.base,hC.lc,hC.keep,(hX _ (.inr (.inl rfl))).trans hC.loop,(hX _ (.inr (.inr rfl))).trans hC.defd,fun b hb=>(hX b (.inl hb)).trans (hC.l0 b hb),⟨Nat.le_trans hC.grow.size hg.size,fun b hb hn=>?_⟩,hli',below_comp hC.below hbel⟩⟩
 . intro b hb;rcases hb with hb|hb
   . exact Nat.lt_of_lt_of_le (hC.rel.l0 b (.inl hb)).1 hg.size
   . exact hlt b hb
 . obtain⟨h1,h2⟩:=hC.grow.keep b hb hn;have h3:=hg.keep b (Nat.lt_of_lt_of_le hb hC.grow.size) fun k=>by have:=hC.li b k;omega
   exact⟨h3.1.trans h1,h2⟩
theorem mid_rounds {base:Nat} {m:Nat->MB} {s:St} {a:Act} {w:World} {fn:FuncId} {assign body:Code} {p:Tmp} {rec:LoopState->Option Code->Loop} {st:Nat->St} {ys:List Data} (hrec:rec=fun x pe=>{ state:=x,pending:=pe,fn,tmps:=a.tmps,params:=#[p],assign,body,defers:=w.heap.size })
 (hp:p<s.nt) (hst:∀ k,(st k).env=(st 0).env/\(st k).lo=s.lo/\(st k).nt=s.nt)
 (hw:∀ k y,ys[k]?=some y->wpY P Γ 0 [] assign (fun e s1 _=>e = .normal/\wpY P Γ 0 [] body (fun e s2 _=>e = .normal/\WeakX ⟨(st k).env,s2.hp,s2.nx,(st k).lo,(st k).nt⟩ (st (k+1))) s1 0) ⟨Env.set (st k).env p (.data y),(st k).hp,(st k).nx,(st k).nx,(st k).nt⟩ 0) :
 Rounds P (w.heap.size+1) ys fun k Li Lc W=>∃ m' w1,Betw Γ L0 base m s a w w.heap.size (rec .ready none) (st k) Li Lc W m' w1:=by
 rintro n k Li Lc W y v ⟨m',w1,hC⟩ hy hv hLi;have hlX:Ex L0 w.heap.size Li (w.heap.size+1):=.inl (.inr (.inl rfl));have hdX:Ex L0 w.heap.size Li w.heap.size:=.inl (.inr (.inr rfl));have hyl:=run_yield (P:=P) (args:=#[v]) hC.loop (by rw[hrec];rfl);rw[hrec] at hyl;refine⟨fn,_,assign,body,hyl,roundIn_of_wpIn trivial ?_⟩;have haR:({ tmps:=((#[p]:Array Tmp).zip #[v]).foldl (fun tmps (t,a)=>tmps.setIfInBounds t a) a.tmps,defers:=[] }:Act)=a.put (some p) v:=by
  have hd:a.defers=[]:=hC.rel.defers;obtain⟨T,d⟩:=a;subst hd;simp[Act.put]
 have hgoal:∀ {Q:Exit->Act->World->Prop},assign.wpIn (Fence.wide.inRound (w.heap.size+1)) n P Q (a.put (some p) v) W->assign.wpIn (Fence.wide.inRound (w.heap.size+1)) n P Q { tmps:=((#[p]:Array Tmp).zip #[v]).foldl (fun tmps (t,a)=>tmps.setIfInBounds t a) a.tmps,defers:=[] } W:=fun h=>by rw[haR];exact h
 refine hgoal ?_;have hvd:VD (Live (Ex L0 w.heap.size Li) m' (st k).hp) W y v:=hv.mono (Grow.less W fun b hb=>by
  rcases hb with (hb|hb)|hb
  . exact .inl ((hC.lc b).2 (.inl hb))
  . exact .inr hb
  . exact .inl ((hC.lc b).2 (.inr hb)))
 have hr0:=hC.rel.rebase;have hrelR:Rel Γ (Ex L0 w.heap.size Li) ⟨W,w1.base,hC.rel.size⟩ m' ⟨Env.set (st k).env p (.data y),(st k).hp,(st k).nx,(st k).nx,(st k).nt⟩ (a.put (some p) v) W :=
  ⟨hr0.defers,fun t=>dst_get (e:=(st k).env) (dst:=some p) (d:=.data y) (fun t ht=>by cases ht;rw[hr0.slots,(hst k).2.2];exact hp) (.data _ _ hvd) hr0.vals t,hr0.heap,hr0.res,hr0.dead,hr0.below,hr0.l0,hr0.glob,Nat.le_refl _,by rw[put_slots];exact hr0.slots⟩
 have mk:∀ (w2:W0) (mst:Nat->MB) (sst:St) (wst:World),Moves P Γ (Fence.wide.inRound (w.heap.size+1)) 0 [] (fun _ m2 s2 a2 w3=>Rel Γ (Ex L0 w.heap.size Li) w2 m2 s2 a2 w3/\Ext (Ex L0 w.heap.size Li) mst sst wst m2 s2 w3):=fun w2 mst sst wst =>
  ⟨fun k m s a w ⟨h,he⟩=>⟨_,w2,h,fun m' s' a' w' h' he'=>⟨h',he.trans he'⟩⟩,fun n k m s a w y v _ hy=>by simp at hy⟩
 refine wpIn_mono (wpY_sound (.inr ⟨_,rfl⟩) (mk _ m' _ W) assign _ 0 m' _ (a.put (some p) v) W ⟨hrelR,Ext.refl _ _ _ _⟩ (hw k y hy)) ?_;rintro e a1 W1 ⟨m2,s2,k2,⟨h2,x2⟩,rfl,hbody⟩;have hl2:W1.heap[w.heap.size+1]?=some (.loop (rec .ready none)):=(h2.l0 _ hlX).2.trans hC.loop;refine⟨_,run_beginRound hl2 (by rw[hrec]),?_⟩;have h2':=h2.poke (.loop { rec .ready none with state:=.busy }) hlX;refine wpIn_mono (wpY_sound (.inr ⟨_,rfl⟩) (mk _ m2 s2 _) body _ 0 m2 s2 a1 _ ⟨h2',Ext.refl _ _ _ _⟩ hbody) ?_;rintro e a3 W3 ⟨m3,s3,k3,⟨h3,x3⟩,rfl,hweak⟩
 have hlt1:w.heap.size+1<W1.heap.size:=(Array.getElem?_eq_some_iff.1 hl2).1;have hl3:W3.heap[w.heap.size+1]?=some (.loop { rec .ready none with state:=.busy }):=(h3.l0 _ hlX).2.trans (World.putObj_heap_same hlt1);have hlt3:w.heap.size+1<W3.heap.size:=(Array.getElem?_eq_some_iff.1 hl3).1;have hend:=run_endRound (P:=P) none hl3;have hend':(Instr.endRound (w.heap.size+1) none).run P W3 = .ok (.bool true) (W3.putObj (w.heap.size+1) (.loop (rec .ready none))):=by
  rw[hrec] at hend ⊢;exact hend
 refine⟨_,_,hend',rfl,?_⟩;have h4:=h3.poke (.loop (rec .ready none)) hlX;have hX4:∀ b,Ex L0 w.heap.size Li b->(W3.putObj (w.heap.size+1) (.loop (rec .ready none))).heap[b]?=W.heap[b]?:=by
  intro b hb;by_cases e:b=w.heap.size+1
  . rw[e,World.putObj_heap_same hlt3];exact hC.loop.symm
  . rw[World.putObj_heap_other e];refine (h3.l0 b hb).2.trans ?_;show (W1.putObj (w.heap.size+1) _).heap[b]?=_;rw[World.putObj_heap_other e];exact (h2.l0 b hb).2
 have gall:Grow (Live (Ex L0 w.heap.size Li) m' (st k).hp) W (Live (Ex L0 w.heap.size Li) m3 s3.hp) (W3.putObj (w.heap.size+1) (.loop (rec .ready none))) :=
  ((x2.grow.trans (poke_grow _ (.inl hlX))).trans x3.grow).trans (poke_grow _ (.inl hlX))
 have keepm:∀ g,g<(st k).nx->m3 g=m' g:=fun g hg=>(x3.keep g (by rw[x2.lo];exact hg)).trans (x2.keep g hg);have h5:Rel Γ (Ex L0 w.heap.size Li) _ m3 ⟨(st k).env,s3.hp,s3.nx,(st k).lo,(st k).nt⟩ a (W3.putObj (w.heap.size+1) (.loop (rec .ready none))) :=
  ⟨hC.rel.defers,fun t=>(hC.rel.vals t).mono gall fun g hg=>keepm g (Nat.lt_of_not_le fun hle=>hg (hC.rel.res g hle)),h4.heap,h4.res,h4.dead,h4.below,h4.l0,h4.glob,
   Nat.le_trans hC.rel.lo (by have:=h4.lo;rw[x3.lo,x2.lo] at this;exact this),hC.rel.slots⟩
 obtain⟨m5,h6,x6⟩:=weakX_rel h5 hweak;have gtot:=gall.trans x6.grow;have hbel:Below 0 W (W3.putObj (w.heap.size+1) (.loop (rec .ready none))) :=
  below_comp (below_comp (below_comp (below_zero h2.below) (poke_below _ _ _)) (below_zero h3.below)) (poke_below _ _ _)
 refine⟨fun b=>(L0 b \/ b=w.heap.size+1 \/ b=w.heap.size) \/ Liv m5 (st (k+1)).hp b,⟨m5,_,⟨h6,hC.base,fun b=>Iff.rfl,?_,World.putObj_heap_same hlt3,(hX4 _ hdX).trans hC.defd,fun b hb=>(hX4 b (.inl (.inl hb))).trans (hC.l0 b hb),hC.grow.trans ⟨gtot.size,?_⟩,hC.li,below_comp hC.below hbel⟩⟩,⟨gtot.size,?_⟩,?_⟩
 . intro g hg;have h7:g<(st k).lo:=by rw[(hst k).2.1];exact hg
   exact (x6.keep g h7).trans ((keepm g (Nat.lt_of_lt_of_le h7 hC.rel.lo)).trans (hC.keep g hg))
 . intro b hb hn;by_cases hx:Ex L0 w.heap.size Li b
   . exact⟨hX4 b hx,fun q=>q.elim (fun q=>hn (.inl q)) fun q=>(h6.liv q).2.1 hx⟩
   . obtain⟨q1,q2⟩:=gtot.keep b hb fun q=>q.elim hx fun q=>hn (.inr q);exact⟨q1,fun q=>q2 (q.elim (fun q=>.inl (.inl (.inl q))) .inr)⟩
 . intro b hb hn;by_cases hx:Ex L0 w.heap.size Li b
   . refine⟨hX4 b hx,fun q=>q.elim (fun q=>hn ((hC.lc b).2 (.inl q))) fun q=>(h6.liv q).2.1 hx⟩
   . obtain⟨q1,q2⟩:=gtot.keep b hb fun q=>q.elim hx fun q=>hn ((hC.lc b).2 (.inr q));exact⟨q1,fun q=>q2 (q.elim (fun q=>.inl (.inl q)) .inr)⟩
 . intro b hb;rcases hb with hb|hb
   . exact (h6.l0 b (.inl hb)).1
   . exact (h6.liv hb).2.2
theorem rng_sound {n:Nat} {g:Operand} {ps:Array Tmp} {assign body:Code} {K:St->Prop} {m:Nat->MB} {s:St} {a:Act} {w:World} (h:Rel Γ L0 w0 m s a w) (hk:RngW P Γ g ps assign body K s) :
 (Code.rangeFunc g ps assign body).wpIn Fence.wide n P (fun e a' w'=>e = .normal/\a'={ a with defers:=[{ target:=.collected w.heap.size,args:=#[] }] }/\∃ m' s' w1,K s'/\w'.heap[w.heap.size]?=some (.deferred (some []))/\w1.base=w0.base /\
   Rel Γ (fun b=>L0 b \/ b=w.heap.size) w1 m' s' a w'/\Below 0 w w'/\(∀ b,L0 b->w'.heap[b]?=w.heap[b]?)/\Grow (Live L0 m s.hp) w (Live L0 m' s'.hp) w'/\(∀ g,g<s.lo->m' g=m g)/\s'.lo=s.lo/\s'.nt=s.nt) a w:=by
 obtain⟨f,caps,ys,p,st,hg,hit,rfl,hp,hw0,hst,hround,hK⟩:=hk;obtain⟨m0,r0,x0⟩:=weakX_rel h hw0;have hgv:=eval_ok h.glob h.vals g;rw[hg] at hgv;have hgv:=hgv.data_inv;generalize hce:a.eval g=vg at hgv;cases hgv with
 | fn _ _ vs hl hvs =>
 refine wpIn_rangeFunc ?_;intro fn hfn;obtain⟨rec,hrec⟩:∃ rec:LoopState->Option Code->Loop,rec=fun x pe=>{ state:=x,pending:=pe,fn,tmps:=a.tmps,params:=#[p],assign,body,defers:=w.heap.size }:=⟨_,rfl⟩;obtain⟨W1,hW1⟩:∃ W1,(w.alloc (.deferred (some []))).alloc (.loop (rec .ready none))=W1:=⟨_,rfl⟩;have hL1:W1.heap[w.heap.size+1]?=some (.loop (rec .ready none)):=by
  rw[<- hW1];have:=World.alloc_heap_new (w.alloc (.deferred (some []))) (.loop (rec .ready none));rwa[World.size_alloc] at this
 have hD1:W1.heap[w.heap.size]?=some (.deferred (some [])):=by
  rw[<- hW1];exact (Below.heap_alloc _ _ _ (by simp)).trans (World.alloc_heap_new w _)
 have hB1:Below w.heap.size w W1:=by
  rw[<- hW1];exact ((Below.refl _ w).alloc (Nat.le_refl _) _).alloc (by simp) _
 have hz1:W1.heap.size=w.heap.size+2:=by rw[<- hW1];simp
 refine⟨w.heap.size+1,[{ target:=.collected w.heap.size,args:=#[] }],W1,{ target:=.fn (.func f) vs,args:=#[.func (.yield (w.heap.size+1)) #[] #[]] },W1,f,
  #[.func (.yield (w.heap.size+1)) #[] #[]]++vs,W1,?_,?_,fun _ _=>trivial,?_,(fun e=>by cases e),?_⟩
 . rw[<- hW1,hrec];exact run_enterLoop_outer _ _ _ _ _
 . simp only[resolve,hce];simp[go_sem]
 . simp only[invoke];exact hit.1 _ _
 . let L:Nat->Prop:=fun b=>(L0 b \/ b=w.heap.size+1 \/ b=w.heap.size) \/ Liv m0 (st 0).hp b
   have gr0:Grow L0 w (Ex L0 w.heap.size fun _=>False) W1:=⟨by omega,fun b hb hn=>⟨hB1.block b hb,fun q=>by
    rcases q with (q|q|q)|q
    . exact hn q
    . omega
    . omega
    . exact q⟩⟩
   have grL:Grow (Live L0 m0 (st 0).hp) w L W1:=⟨by omega,fun b hb hn=>⟨hB1.block b hb,fun q=>by
    rcases q with (q|q|q)|q
    . exact hn (.inl q)
    . omega
    . omega
    . exact hn (.inr q)⟩⟩
   have r1:=r0.after gr0 (fun b hb=>by
    rcases hb with (q|q|q)|q
    . have:=(h.l0 b q).1;omega
    . omega
    . omega
    . exact q.elim)
   refine (hit.2 (n-1) (w.heap.size+1) L W1 vs (fun k Li Lc W=>∃ m' w1,Betw Γ L0 w0.base m s a w w.heap.size (rec .ready none) (st k) Li Lc W m' w1) (r0.glob.mono grL) ?_ hl (fun i x v hx hv=>((hvs i x v hx hv).mono x0.grow).mono grL) mid_stable (mid_rounds hrec hp hst hround) ?_).mono ?_
   . intro b hb;rcases hb with (q|q|q)|q
     . have:=(h.l0 b q).1;omega
     . omega
     . omega
     . have:=(r0.liv q).2.2;omega
   . exact⟨m0,_,⟨r1,rfl,fun b=>Iff.rfl,x0.keep,hL1,hD1,fun b hb=>hB1.block b (h.l0 b hb).1,⟨by omega,fun b hb hn=>by
      obtain⟨q1,q2⟩:=x0.grow.keep b hb hn;exact⟨(hB1.block b hb),q2⟩⟩,fun b q=>q.elim,below_zero hB1⟩⟩
   . rintro e W2 ⟨⟨v,rfl⟩,Li,Lc,m',w1,hC⟩;have hlt:w.heap.size+1<W2.heap.size:=(Array.getElem?_eq_some_iff.1 hC.loop).1;have hpend:(rec .ready none).pending=none:=by rw[hrec]
     obtain⟨o,ho⟩:∃ o,(Instr.endLoop (w.heap.size+1)).run P W2 = .ok none (W2.putObj (w.heap.size+1) o):=⟨_,by have:=run_endLoop (P:=P) hC.loop (by rw[hrec];simp);rw[hpend] at this;exact this⟩;refine⟨none,_,ho,?_⟩;have r2:=hC.rel.poke o (.inl (.inr (.inl rfl)));have hne:w.heap.size≠w.heap.size+1:=by omega
     refine⟨rfl,by simp[h.defers],m',st ys.length,⟨W2.putObj (w.heap.size+1) o,w1.base,by simpa using hC.rel.size⟩,hK,(World.putObj_heap_other hne).trans hC.defd,hC.base,r2.back (fun b hb=>?_) rfl (Below.refl _ _) (fun b _=>rfl),below_comp hC.below (poke_below _ _ _),fun b hb=>?_,⟨by have:=hC.grow.size;simpa using this,fun b hb hn=>⟨?_,(hC.grow.keep b hb hn).2⟩⟩,hC.keep,(hst _).2.1,(hst _).2.2⟩
     . exact .inl (hb.elim .inl fun q=>.inr (.inr q))
     . have:=(h.l0 b hb).1;exact (World.putObj_heap_other (by omega)).trans (hC.l0 b hb)
     . exact (World.putObj_heap_other (by omega)).trans (hC.grow.keep b hb hn).1
end
end Go.Proofs.Ytndnlfgchmjbjaa
