/- Protocols that negotiate: answers, packets taken. Structs of numbers, truth values and strings, held against each other. Automata held against each other, and as they come in. Protocols that negotiate: which are right, which are small, which are the same, what came out. Rules: the mathematics of the laws: what is refused, put right, is agreed to; what is asked for, learnt, turned. Nego: the mathematics of the laws: what comes out is right; acknowledgements, unknown codes, echoes. Nego: the mathematics of the laws: acknowledgements, unknown codes, echoes. Protocols: bytes are bytes, numbers are numbers; what is sent may be sent (the mathematics). Nego: the mathematics of the laws: two that agree. Packets: the program's own functions. Packets: what comes in, the document's example, PackTells, PackCodes, PackApart. Options: the program's own functions, all but reading. Functions that may panic: what the walk needs. A function with a deferred call that recovers, on plain data. What a walk through a deferred call needs. A row of the caller's, lent to a call: by any of its arguments. A call that is handed a nil row, looked at as one that is handed a row of nothing. -/
import Derived.Test.YtlfhkplbjgcpiaaGreatDoorPk6
import Derived.DeepKeys
import Derived.Laws.StructEq
import Derived.Recover
namespace Go.Proofs.YtlfhkplbjgcpiaaGreatDoor
open Go.RowKit
set_option linter.unusedSimpArgs false
set_option linter.unusedVariables false
set_option maxRecDepth 100000
namespace Ne
open Op9 Ru Fs Pa
/-- Options of ours,as they may come. -/
def OursR (n:Ng):Prop:=n.ours.length≤100000∧∀ o∈n.ours,(∀ x∈o.d,x < 256)∧o.d.length≤253
theorem ours_fine {n:Ng} (hr:n.r.Ty) (h:OursR n):FineN n:=⟨hr,by have:=h.1;omega,fun o ho=>by have:=(h.2 o ho).2;omega⟩
def echoD (n:Ng) (p:Pk):List Nat:=fourO (magicN n)++p.d.drop 4
def firstB (d:List Nat):Bool:=match d with
 | x :: _=>decide (1≤x∧x≤7)
 | []=>false
def lcpB (d:List Nat):Bool:=match d with
 | x :: y :: _=>decide (x = 192∧y = 33)
 | _=>false
def oddC (n:Ng) (p:Pk):Prop:=p.c < 1 ∨ 11 < p.c ∨ (n.r.ip = true∧7 < p.c)
instance (n:Ng) (p:Pk):Decidable (oddC n p):=by unfold oddC;infer_instance
def takeN (n:Ng) (p:Pk):OutN :=
 if n.a.s < 2 then none4 n else if oddC n p then eventN n 12 (rejP p n.a.id) p.i
 else if p.c = 1 then requestN n p
 else if p.c = 2 then (if optB n.ours = p.d∧p.i = n.a.id then eventN n 8 noP p.i else none4 n)
 else if p.c = 3 ∨ p.c = 4 then answeredN n p
 else if p.c = 5 then eventN n 10 noP p.i
 else if p.c = 6 then eventN n 11 noP p.i
 else if p.c = 7 then (if firstB p.d = true then eventN n 14 noP p.i else eventN n 13 noP p.i)
 else if p.c = 8 then (if lcpB p.d = true then eventN n 14 noP p.i else eventN n 13 noP p.i)
 else if p.c = 9 then (if 4≤p.d.length then eventN n 15 ⟨10,p.i,echoD n p⟩ p.i else none4 n)
 else none4 n
section
variable (Γ:Nat->Option (List Data))
set_option maxHeartbeats 8000000 in
theorem ranswered_pc (n:Ng) (p:Pk) (hr:n.r.Ty) (ho:OursR n) (ha:AuR n.a) (hp:∀ x∈p.d,x < 256) (hpn:p.d.length≤100000):PC Tryz.prog Γ 47 [ng n,pk p] (outN (answeredN n p)):=by
 refine pc_by mixed Tryz.func47 rfl (fun args w=>Tryz.call47 args w) ?_
 have c1:=roread_pc Γ p.d (by omega) hp
 obtain ⟨g1,g2⟩:=got_fine hp
 unfold answeredN
 generalize gotO p.d = l at *
 by_cases he:errO p.d = 0
 rotate_left
 · rw [if_neg fun h=>he h.1]
   generalize errO p.d = e at *
   simp -implicitDefEqProofs (disch:=omega) [go_sem,ng,ngL,pk]
   refine .inl (call_data c1 (by simp [go_sem]) ?_)
   simp -implicitDefEqProofs (disch:=omega) [go_sem,he,Tryz.f47]
   exact none4_frz n _
 rw [he] at c1 ⊢
 by_cases hi:p.i = n.a.id
 rotate_left
 · rw [if_neg fun h=>hi h.2]
   have hi2:¬ (p.i:Int) = n.a.id:=by omega
   simp -implicitDefEqProofs (disch:=omega) [go_sem,ng,ngL,pk]
   refine .inl (call_data c1 (by simp [go_sem]) ?_)
   simp -implicitDefEqProofs (disch:=omega) [go_sem,hi2,Tryz.f47]
   exact none4_frz n _
 rw [if_pos ⟨rfl,hi⟩]
 have hi2:(p.i:Int) = n.a.id:=by omega
 have c2:=rturn_pc Γ n.r n.ours p.c l hr ⟨by have:=ho.1;omega,fun o h=>⟨(ho.2 o h).1,by have:=(ho.2 o h).2;omega⟩⟩ ⟨by omega,fun o h=>⟨(g2 o h).1,by have:=(g2 o h).2;omega⟩⟩
 obtain ⟨t1,t2⟩:=turn_fine n.r p.c l ho.1 ho.2 hr
 have hf:=ours_fine hr ho
 generalize turnR n.r n.ours p.c l = T at *
 obtain ⟨to,tb⟩:=T
 simp only at t1 t2 c2 ⊢
 unfold rul at c2
 cases tb
 · have c3:=revent_pc Γ n 3 noP p.i hf ha
   rw [if_neg (by simp)]
   generalize eventN n 3 noP p.i = R at *
   unfold ng ngL pk outN ngL at c3
   unfold outN ngL
   simp only [List.cons_append,List.nil_append] at c3 ⊢
   simp -implicitDefEqProofs (disch:=omega) [go_sem,ng,ngL,pk]
   refine .inl (call_data c1 (by simp [go_sem]) ?_)
   simp -implicitDefEqProofs (disch:=omega) [go_sem,hi2]
   refine .inl (call_data c2 (by simp [go_sem]) ?_)
   simp -implicitDefEqProofs (disch:=omega) [go_sem]
   refine .inl (call_frz [] [] (by simp) c3 (fun H' hH'=>frzL_c (.data _) (frzL_c (.data _) (frzL_c (frz_aggL (frzL_c (.data _) (frzL_c (.data _) (frzL_c (.emp 0 1) frzL_n)))) (frzL_c (.data _) frzL_n)))) ?_)
   simp -implicitDefEqProofs (disch:=omega) [go_sem,nums_is,Tryz.f47]
 · have c3:=revent_pc Γ { n with ours:=to } 9 noP p.i ⟨hr,by have:=ho.1;show to.length≤_;omega,fun o h=>by have:=(t2 o h).2;omega⟩ ha
   rw [if_pos rfl]
   generalize eventN { n with ours:=to } 9 noP p.i = R at *
   unfold ng ngL pk outN ngL at c3
   unfold outN ngL
   simp only [List.cons_append,List.nil_append] at c3 ⊢
   simp -implicitDefEqProofs (disch:=omega) [go_sem,ng,ngL,pk]
   refine .inl (call_data c1 (by simp [go_sem]) ?_)
   simp -implicitDefEqProofs (disch:=omega) [go_sem,hi2]
   refine .inl (call_data c2 (by simp [go_sem]) ?_)
   simp -implicitDefEqProofs (disch:=omega) [go_sem]
   refine .inl (call_frz [] [] (by simp) c3 (fun H' hH'=>frzL_c (.data _) (frzL_c (.data _) (frzL_c (frz_aggL (frzL_c (.data _) (frzL_c (.data _) (frzL_c (.emp 0 1) frzL_n)))) (frzL_c (.data _) frzL_n)))) ?_)
   simp -implicitDefEqProofs (disch:=omega) [go_sem,nums_is,Tryz.f47]
theorem none4_frz2 (n:Ng) {b:Bool} (h:n.r.ip = b) (H:Nat->Blk):∃ xs,(∃ y,xs = [y]∧Frz true H (.agg [.data (.int .i64 n.a.s),.data (.int .i64 n.a.c),.data (.int .i64 n.a.l),.data (.int .u8 n.a.id),.data (.bool b),.data (.int .u32 n.r.magic),.data (.int .u32 n.r.other),.data (.int .u32 n.r.addr),.data (.int .u32 n.r.ours),.data (.sl 2 (ots n.ours)),.data (.int .i64 n.naks),.data (.sl 2 (ots n.peer)),.emp 0,.emp 0,.emp 0]) y)∧outN (none4 n) = tupD xs :=
 h ▸ none4_frz n H
theorem magicN_lt {n:Ng} (ho:∀ o∈n.ours,∀ x∈o.d,x < 256):magicN n < 4294967296:=by
 unfold magicN
 split
 · omega
 split
 · rename_i o h
   exact numO_lt (ho o (List.mem_of_find?_eq_some h))
 · omega
theorem optB_le (l:List Ot):(optB l).length≤1496:=by
 unfold optB
 split
 · rename_i h;exact h.2
 · simp
set_option maxHeartbeats 4000000 in
theorem rfour_oc (n:Nat) (hn:n < 4294967296):OC Tryz.prog Γ 48 [.int .u32 n] (.ref 0 0 4 1) [(0,.blk true ((bys (fourO n)).map D.data))] 1:=by
 refine oc_by mixed Tryz.func48 rfl (fun args w=>Tryz.call48 args w) ?_
 simp -implicitDefEqProofs (disch:=omega) [go_sem,Tryz.f48]
 refine own_of [] [(0,some 15)] ?_
 apply ren_lists <;> simp -implicitDefEqProofs [go_sem]
 refine renCells_plain ?_ (by simp [plainD])
 simp [go_sem,bys,u8,fourO]
 omega
set_option maxHeartbeats 16000000 in
theorem rtake_odd (n:Ng) (p:Pk) (hr:n.r.Ty) (ho:OursR n) (ha:AuR n.a) (hk:0≤n.naks∧n.naks≤1000) (hp:∀ x∈p.d,x < 256) (hpn:p.d.length≤100000) (hx:n.a.s < 2 ∨ oddC n p):PC Tryz.prog Γ 18 [ng n,pk p] (outN (takeN n p)):=by
 refine pc_by mixed Tryz.func18 rfl (fun args w=>Tryz.call18 args w) ?_
 have hf:=ours_fine hr ho
 unfold takeN
 by_cases hs:n.a.s < 2
 · rw [if_pos hs]
   simp -implicitDefEqProofs (disch:=omega) [go_sem,ng,ngL,pk,hs,Tryz.f18]
   exact none4_frz n _
 rw [if_neg hs]
 by_cases hodd:oddC n p
 · rw [if_pos hodd]
   have c1:=rreject_pc Γ p n.a.id (by omega)
   have c3:=revent_pc Γ n 12 (rejP p n.a.id) p.i hf ha
   generalize eventN n 12 (rejP p n.a.id) p.i = R at *
   generalize rejP p n.a.id = q at *
   unfold ng ngL pk outN ngL at c3
   unfold pk at c1
   unfold outN ngL
   simp only [List.cons_append,List.nil_append] at c3 ⊢
   have hc:p.c < 1 ∨ (1≤p.c∧11 < p.c) ∨ (1≤p.c∧p.c≤11∧n.r.ip = true∧7 < p.c):=by
    by_cases a1:p.c < 1
    · exact .inl a1
    by_cases a2:11 < p.c
    · exact .inr (.inl ⟨by omega,a2⟩)
    rcases hodd with h | h | ⟨h3,h4⟩
    · exact absurd h a1
    · exact absurd h a2
    · exact .inr (.inr ⟨by omega,by omega,h3,h4⟩)
   rcases hc with hc | ⟨h1,hc⟩ | ⟨h1,h2,h3,h4⟩
   · have e0:(p.c:Int) < 1:=by omega
     simp -implicitDefEqProofs (disch:=omega) [go_sem,ng,ngL,pk,e0]
     refine .inl (call_data c1 (by simp [go_sem]) ?_)
     simp -implicitDefEqProofs (disch:=omega) [go_sem]
     refine .inl (call_data c3 (by simp [go_sem]) ?_)
     simp -implicitDefEqProofs (disch:=omega) [go_sem,nums_is]
     refine side ?_ ?_
     · kernel_rfl
     simp -implicitDefEqProofs (disch:=omega) [go_sem,nums_is,Tryz.f18]
   · simp -implicitDefEqProofs (disch:=omega) [go_sem,ng,ngL,pk]
     refine .inl (call_data c1 (by simp [go_sem]) ?_)
     simp -implicitDefEqProofs (disch:=omega) [go_sem]
     refine .inl (call_data c3 (by simp [go_sem]) ?_)
     simp -implicitDefEqProofs (disch:=omega) [go_sem,nums_is]
     refine side ?_ ?_
     · kernel_rfl
     simp -implicitDefEqProofs (disch:=omega) [go_sem,nums_is,Tryz.f18]
   · simp -implicitDefEqProofs (disch:=omega) [go_sem,ng,ngL,pk,h3]
     refine .inl (call_data c1 (by simp [go_sem]) ?_)
     simp -implicitDefEqProofs (disch:=omega) [go_sem,h3]
     refine .inl (call_data c3 (by simp [go_sem,h3]) ?_)
     simp -implicitDefEqProofs (disch:=omega) [go_sem,nums_is]
     refine side ?_ ?_
     · kernel_rfl
     simp -implicitDefEqProofs (disch:=omega) [go_sem,nums_is,Tryz.f18]
 rcases hx with h | h
 · exact absurd h hs
 · exact absurd h hodd
set_option maxHeartbeats 16000000 in
theorem rtake_1f (n:Ng) (p:Pk) (hr:n.r.Ty) (ho:OursR n) (ha:AuR n.a) (hk:0≤n.naks∧n.naks≤1000) (hp:∀ x∈p.d,x < 256) (hpn:p.d.length≤100000) (hs:¬ n.a.s < 2) (hodd:¬ oddC n p) (hc:p.c = 1) (hip:n.r.ip = false):PC Tryz.prog Γ 18 [ng n,pk p] (outN (takeN n p)):=by
 refine pc_by mixed Tryz.func18 rfl (fun args w=>Tryz.call18 args w) ?_
 have hf:=ours_fine hr ho
 rw [show takeN n p = requestN n p by simp [takeN,hs,hodd,hc]]
 have c3:=rrequest_pc Γ n p hf ha hk hp hpn
 generalize requestN n p = R at *
 unfold ng ngL pk outN ngL at c3
 unfold outN ngL
 simp only [List.cons_append,List.nil_append] at c3 ⊢
 rw [hc,hip] at c3
 simp -implicitDefEqProofs (disch:=omega) [go_sem,ng,ngL,pk,hs,hc,hip]
 refine .inl (call_data c3 (by simp [go_sem,hc,hip]) ?_)
 simp -implicitDefEqProofs (disch:=omega) [go_sem,nums_is,Tryz.f18]
set_option maxHeartbeats 16000000 in
theorem rtake_1t (n:Ng) (p:Pk) (hr:n.r.Ty) (ho:OursR n) (ha:AuR n.a) (hk:0≤n.naks∧n.naks≤1000) (hp:∀ x∈p.d,x < 256) (hpn:p.d.length≤100000) (hs:¬ n.a.s < 2) (hodd:¬ oddC n p) (hc:p.c = 1) (hip:n.r.ip = true):PC Tryz.prog Γ 18 [ng n,pk p] (outN (takeN n p)):=by
 refine pc_by mixed Tryz.func18 rfl (fun args w=>Tryz.call18 args w) ?_
 have hf:=ours_fine hr ho
 rw [show takeN n p = requestN n p by simp [takeN,hs,hodd,hc]]
 have c3:=rrequest_pc Γ n p hf ha hk hp hpn
 generalize requestN n p = R at *
 unfold ng ngL pk outN ngL at c3
 unfold outN ngL
 simp only [List.cons_append,List.nil_append] at c3 ⊢
 rw [hc,hip] at c3
 simp -implicitDefEqProofs (disch:=omega) [go_sem,ng,ngL,pk,hs,hc,hip]
 refine .inl (call_data c3 (by simp [go_sem,hc,hip]) ?_)
 simp -implicitDefEqProofs (disch:=omega) [go_sem,nums_is,Tryz.f18]
set_option maxHeartbeats 16000000 in
theorem rtake_2f (n:Ng) (p:Pk) (hr:n.r.Ty) (ho:OursR n) (ha:AuR n.a) (hk:0≤n.naks∧n.naks≤1000) (hp:∀ x∈p.d,x < 256) (hpn:p.d.length≤100000) (hs:¬ n.a.s < 2) (hodd:¬ oddC n p) (hc:p.c = 2) (hip:n.r.ip = false):PC Tryz.prog Γ 18 [ng n,pk p] (outN (takeN n p)):=by
 refine pc_by mixed Tryz.func18 rfl (fun args w=>Tryz.call18 args w) ?_
 have hf:=ours_fine hr ho
 have c1:=robytes_pc Γ n.ours (by have:=ho.1;omega) (fun o h=>by have:=(ho.2 o h).2;omega)
 have hbl:=optB_le n.ours
 have c2:=row_pc Γ (optB n.ours) p.d (by omega) (by omega)
 by_cases hb:optB n.ours = p.d
 rotate_left
 · rw [show takeN n p = none4 n by simp [takeN,hs,hodd,hc,hb]]
   rw [decide_eq_false hb] at c2
   generalize optB n.ours = ob at *
   simp -implicitDefEqProofs (disch:=omega) [go_sem,ng,ngL,pk,hs,hc,hip]
   refine .inl (call_data c1 (by simp [go_sem]) ?_)
   simp -implicitDefEqProofs (disch:=omega) [go_sem]
   refine .inl (call_data c2 (by simp [go_sem]) ?_)
   simp -implicitDefEqProofs (disch:=omega) [go_sem,Tryz.f18]
   exact none4_frz2 n hip _
 by_cases hi:p.i = n.a.id
 rotate_left
 · rw [show takeN n p = none4 n by simp [takeN,hs,hodd,hc,hi]]
   have hi2:¬ (p.i:Int) = n.a.id:=by omega
   rw [decide_eq_true hb] at c2
   generalize optB n.ours = ob at *
   simp -implicitDefEqProofs (disch:=omega) [go_sem,ng,ngL,pk,hs,hc,hip]
   refine .inl (call_data c1 (by simp [go_sem]) ?_)
   simp -implicitDefEqProofs (disch:=omega) [go_sem]
   refine .inl (call_data c2 (by simp [go_sem]) ?_)
   simp -implicitDefEqProofs (disch:=omega) [go_sem,hi2,Tryz.f18]
   exact none4_frz2 n hip _
 rw [show takeN n p = eventN n 8 noP p.i by simp [takeN,hs,hodd,hc,hb,hi]]
 have hi2:(p.i:Int) = n.a.id:=by omega
 rw [decide_eq_true hb] at c2
 generalize optB n.ours = ob at *
 have c3:=revent_pc Γ n 8 noP p.i hf ha
 generalize eventN n 8 noP p.i = R at *
 unfold ng ngL pk outN ngL at c3
 unfold outN ngL
 simp only [List.cons_append,List.nil_append] at c3 ⊢
 rw [hip,hi2] at c3
 simp -implicitDefEqProofs (disch:=omega) [go_sem,ng,ngL,pk,hs,hc,hip]
 refine .inl (call_data c1 (by simp [go_sem]) ?_)
 simp -implicitDefEqProofs (disch:=omega) [go_sem]
 refine .inl (call_data c2 (by simp [go_sem]) ?_)
 simp -implicitDefEqProofs (disch:=omega) [go_sem,hi2]
 refine .inl (call_frz [] [] (by simp) c3 (fun H' hH'=>(frzL_c (.data _) (frzL_c (.data _) (frzL_c (frz_aggL (frzL_c (.data _) (frzL_c (.data _) (frzL_c (.emp 0 1) frzL_n)))) (frzL_c (.data _) frzL_n))))) ?_)
 simp -implicitDefEqProofs (disch:=omega) [go_sem,nums_is,Tryz.f18]
set_option maxHeartbeats 16000000 in
theorem rtake_2t (n:Ng) (p:Pk) (hr:n.r.Ty) (ho:OursR n) (ha:AuR n.a) (hk:0≤n.naks∧n.naks≤1000) (hp:∀ x∈p.d,x < 256) (hpn:p.d.length≤100000) (hs:¬ n.a.s < 2) (hodd:¬ oddC n p) (hc:p.c = 2) (hip:n.r.ip = true):PC Tryz.prog Γ 18 [ng n,pk p] (outN (takeN n p)):=by
 refine pc_by mixed Tryz.func18 rfl (fun args w=>Tryz.call18 args w) ?_
 have hf:=ours_fine hr ho
 have c1:=robytes_pc Γ n.ours (by have:=ho.1;omega) (fun o h=>by have:=(ho.2 o h).2;omega)
 have hbl:=optB_le n.ours
 have c2:=row_pc Γ (optB n.ours) p.d (by omega) (by omega)
 by_cases hb:optB n.ours = p.d
 rotate_left
 · rw [show takeN n p = none4 n by simp [takeN,hs,hodd,hc,hb]]
   rw [decide_eq_false hb] at c2
   generalize optB n.ours = ob at *
   simp -implicitDefEqProofs (disch:=omega) [go_sem,ng,ngL,pk,hs,hc,hip]
   refine .inl (call_data c1 (by simp [go_sem]) ?_)
   simp -implicitDefEqProofs (disch:=omega) [go_sem]
   refine .inl (call_data c2 (by simp [go_sem]) ?_)
   simp -implicitDefEqProofs (disch:=omega) [go_sem,Tryz.f18]
   exact none4_frz2 n hip _
 by_cases hi:p.i = n.a.id
 rotate_left
 · rw [show takeN n p = none4 n by simp [takeN,hs,hodd,hc,hi]]
   have hi2:¬ (p.i:Int) = n.a.id:=by omega
   rw [decide_eq_true hb] at c2
   generalize optB n.ours = ob at *
   simp -implicitDefEqProofs (disch:=omega) [go_sem,ng,ngL,pk,hs,hc,hip]
   refine .inl (call_data c1 (by simp [go_sem]) ?_)
   simp -implicitDefEqProofs (disch:=omega) [go_sem]
   refine .inl (call_data c2 (by simp [go_sem]) ?_)
   simp -implicitDefEqProofs (disch:=omega) [go_sem,hi2,Tryz.f18]
   exact none4_frz2 n hip _
 rw [show takeN n p = eventN n 8 noP p.i by simp [takeN,hs,hodd,hc,hb,hi]]
 have hi2:(p.i:Int) = n.a.id:=by omega
 rw [decide_eq_true hb] at c2
 generalize optB n.ours = ob at *
 have c3:=revent_pc Γ n 8 noP p.i hf ha
 generalize eventN n 8 noP p.i = R at *
 unfold ng ngL pk outN ngL at c3
 unfold outN ngL
 simp only [List.cons_append,List.nil_append] at c3 ⊢
 rw [hip,hi2] at c3
 simp -implicitDefEqProofs (disch:=omega) [go_sem,ng,ngL,pk,hs,hc,hip]
 refine .inl (call_data c1 (by simp [go_sem]) ?_)
 simp -implicitDefEqProofs (disch:=omega) [go_sem]
 refine .inl (call_data c2 (by simp [go_sem]) ?_)
 simp -implicitDefEqProofs (disch:=omega) [go_sem,hi2]
 refine .inl (call_frz [] [] (by simp) c3 (fun H' hH'=>(frzL_c (.data _) (frzL_c (.data _) (frzL_c (frz_aggL (frzL_c (.data _) (frzL_c (.data _) (frzL_c (.emp 0 1) frzL_n)))) (frzL_c (.data _) frzL_n))))) ?_)
 simp -implicitDefEqProofs (disch:=omega) [go_sem,nums_is,Tryz.f18]
set_option maxHeartbeats 16000000 in
theorem rtake_3f (n:Ng) (p:Pk) (hr:n.r.Ty) (ho:OursR n) (ha:AuR n.a) (hk:0≤n.naks∧n.naks≤1000) (hp:∀ x∈p.d,x < 256) (hpn:p.d.length≤100000) (hs:¬ n.a.s < 2) (hodd:¬ oddC n p) (hc:p.c = 3) (hip:n.r.ip = false):PC Tryz.prog Γ 18 [ng n,pk p] (outN (takeN n p)):=by
 refine pc_by mixed Tryz.func18 rfl (fun args w=>Tryz.call18 args w) ?_
 have hf:=ours_fine hr ho
 rw [show takeN n p = answeredN n p by simp [takeN,hs,hodd,hc]]
 have c3:=ranswered_pc Γ n p hr ho ha hp hpn
 generalize answeredN n p = R at *
 unfold ng ngL pk outN ngL at c3
 unfold outN ngL
 simp only [List.cons_append,List.nil_append] at c3 ⊢
 rw [hc,hip] at c3
 simp -implicitDefEqProofs (disch:=omega) [go_sem,ng,ngL,pk,hs,hc,hip]
 refine .inl (call_data c3 (by simp [go_sem,hc,hip]) ?_)
 simp -implicitDefEqProofs (disch:=omega) [go_sem,nums_is,Tryz.f18]
set_option maxHeartbeats 16000000 in
theorem rtake_3t (n:Ng) (p:Pk) (hr:n.r.Ty) (ho:OursR n) (ha:AuR n.a) (hk:0≤n.naks∧n.naks≤1000) (hp:∀ x∈p.d,x < 256) (hpn:p.d.length≤100000) (hs:¬ n.a.s < 2) (hodd:¬ oddC n p) (hc:p.c = 3) (hip:n.r.ip = true):PC Tryz.prog Γ 18 [ng n,pk p] (outN (takeN n p)):=by
 refine pc_by mixed Tryz.func18 rfl (fun args w=>Tryz.call18 args w) ?_
 have hf:=ours_fine hr ho
 rw [show takeN n p = answeredN n p by simp [takeN,hs,hodd,hc]]
 have c3:=ranswered_pc Γ n p hr ho ha hp hpn
 generalize answeredN n p = R at *
 unfold ng ngL pk outN ngL at c3
 unfold outN ngL
 simp only [List.cons_append,List.nil_append] at c3 ⊢
 rw [hc,hip] at c3
 simp -implicitDefEqProofs (disch:=omega) [go_sem,ng,ngL,pk,hs,hc,hip]
 refine .inl (call_data c3 (by simp [go_sem,hc,hip]) ?_)
 simp -implicitDefEqProofs (disch:=omega) [go_sem,nums_is,Tryz.f18]
set_option maxHeartbeats 16000000 in
theorem rtake_4f (n:Ng) (p:Pk) (hr:n.r.Ty) (ho:OursR n) (ha:AuR n.a) (hk:0≤n.naks∧n.naks≤1000) (hp:∀ x∈p.d,x < 256) (hpn:p.d.length≤100000) (hs:¬ n.a.s < 2) (hodd:¬ oddC n p) (hc:p.c = 4) (hip:n.r.ip = false):PC Tryz.prog Γ 18 [ng n,pk p] (outN (takeN n p)):=by
 refine pc_by mixed Tryz.func18 rfl (fun args w=>Tryz.call18 args w) ?_
 have hf:=ours_fine hr ho
 rw [show takeN n p = answeredN n p by simp [takeN,hs,hodd,hc]]
 have c3:=ranswered_pc Γ n p hr ho ha hp hpn
 generalize answeredN n p = R at *
 unfold ng ngL pk outN ngL at c3
 unfold outN ngL
 simp only [List.cons_append,List.nil_append] at c3 ⊢
 rw [hc,hip] at c3
 simp -implicitDefEqProofs (disch:=omega) [go_sem,ng,ngL,pk,hs,hc,hip]
 refine .inl (call_data c3 (by simp [go_sem,hc,hip]) ?_)
 simp -implicitDefEqProofs (disch:=omega) [go_sem,nums_is,Tryz.f18]
set_option maxHeartbeats 16000000 in
theorem rtake_4t (n:Ng) (p:Pk) (hr:n.r.Ty) (ho:OursR n) (ha:AuR n.a) (hk:0≤n.naks∧n.naks≤1000) (hp:∀ x∈p.d,x < 256) (hpn:p.d.length≤100000) (hs:¬ n.a.s < 2) (hodd:¬ oddC n p) (hc:p.c = 4) (hip:n.r.ip = true):PC Tryz.prog Γ 18 [ng n,pk p] (outN (takeN n p)):=by
 refine pc_by mixed Tryz.func18 rfl (fun args w=>Tryz.call18 args w) ?_
 have hf:=ours_fine hr ho
 rw [show takeN n p = answeredN n p by simp [takeN,hs,hodd,hc]]
 have c3:=ranswered_pc Γ n p hr ho ha hp hpn
 generalize answeredN n p = R at *
 unfold ng ngL pk outN ngL at c3
 unfold outN ngL
 simp only [List.cons_append,List.nil_append] at c3 ⊢
 rw [hc,hip] at c3
 simp -implicitDefEqProofs (disch:=omega) [go_sem,ng,ngL,pk,hs,hc,hip]
 refine .inl (call_data c3 (by simp [go_sem,hc,hip]) ?_)
 simp -implicitDefEqProofs (disch:=omega) [go_sem,nums_is,Tryz.f18]
set_option maxHeartbeats 16000000 in
theorem rtake_5f (n:Ng) (p:Pk) (hr:n.r.Ty) (ho:OursR n) (ha:AuR n.a) (hk:0≤n.naks∧n.naks≤1000) (hp:∀ x∈p.d,x < 256) (hpn:p.d.length≤100000) (hs:¬ n.a.s < 2) (hodd:¬ oddC n p) (hc:p.c = 5) (hip:n.r.ip = false):PC Tryz.prog Γ 18 [ng n,pk p] (outN (takeN n p)):=by
 refine pc_by mixed Tryz.func18 rfl (fun args w=>Tryz.call18 args w) ?_
 have hf:=ours_fine hr ho
 rw [show takeN n p = eventN n 10 noP p.i by simp [takeN,hs,hodd,hc]]
 have c3:=revent_pc Γ n 10 noP p.i hf ha
 generalize eventN n 10 noP p.i = R at *
 unfold ng ngL pk outN ngL at c3
 unfold outN ngL
 simp only [List.cons_append,List.nil_append] at c3 ⊢
 rw [hip] at c3
 simp -implicitDefEqProofs (disch:=omega) [go_sem,ng,ngL,pk,hs,hc,hip]
 refine .inl (call_frz [] [] (by simp) c3 (fun H' hH'=>(frzL_c (.data _) (frzL_c (.data _) (frzL_c (frz_aggL (frzL_c (.data _) (frzL_c (.data _) (frzL_c (.emp 0 1) frzL_n)))) (frzL_c (.data _) frzL_n))))) ?_)
 simp -implicitDefEqProofs (disch:=omega) [go_sem,nums_is,Tryz.f18]
set_option maxHeartbeats 16000000 in
theorem rtake_5t (n:Ng) (p:Pk) (hr:n.r.Ty) (ho:OursR n) (ha:AuR n.a) (hk:0≤n.naks∧n.naks≤1000) (hp:∀ x∈p.d,x < 256) (hpn:p.d.length≤100000) (hs:¬ n.a.s < 2) (hodd:¬ oddC n p) (hc:p.c = 5) (hip:n.r.ip = true):PC Tryz.prog Γ 18 [ng n,pk p] (outN (takeN n p)):=by
 refine pc_by mixed Tryz.func18 rfl (fun args w=>Tryz.call18 args w) ?_
 have hf:=ours_fine hr ho
 rw [show takeN n p = eventN n 10 noP p.i by simp [takeN,hs,hodd,hc]]
 have c3:=revent_pc Γ n 10 noP p.i hf ha
 generalize eventN n 10 noP p.i = R at *
 unfold ng ngL pk outN ngL at c3
 unfold outN ngL
 simp only [List.cons_append,List.nil_append] at c3 ⊢
 rw [hip] at c3
 simp -implicitDefEqProofs (disch:=omega) [go_sem,ng,ngL,pk,hs,hc,hip]
 refine .inl (call_frz [] [] (by simp) c3 (fun H' hH'=>(frzL_c (.data _) (frzL_c (.data _) (frzL_c (frz_aggL (frzL_c (.data _) (frzL_c (.data _) (frzL_c (.emp 0 1) frzL_n)))) (frzL_c (.data _) frzL_n))))) ?_)
 simp -implicitDefEqProofs (disch:=omega) [go_sem,nums_is,Tryz.f18]
set_option maxHeartbeats 16000000 in
theorem rtake_6f (n:Ng) (p:Pk) (hr:n.r.Ty) (ho:OursR n) (ha:AuR n.a) (hk:0≤n.naks∧n.naks≤1000) (hp:∀ x∈p.d,x < 256) (hpn:p.d.length≤100000) (hs:¬ n.a.s < 2) (hodd:¬ oddC n p) (hc:p.c = 6) (hip:n.r.ip = false):PC Tryz.prog Γ 18 [ng n,pk p] (outN (takeN n p)):=by
 refine pc_by mixed Tryz.func18 rfl (fun args w=>Tryz.call18 args w) ?_
 have hf:=ours_fine hr ho
 rw [show takeN n p = eventN n 11 noP p.i by simp [takeN,hs,hodd,hc]]
 have c3:=revent_pc Γ n 11 noP p.i hf ha
 generalize eventN n 11 noP p.i = R at *
 unfold ng ngL pk outN ngL at c3
 unfold outN ngL
 simp only [List.cons_append,List.nil_append] at c3 ⊢
 rw [hip] at c3
 simp -implicitDefEqProofs (disch:=omega) [go_sem,ng,ngL,pk,hs,hc,hip]
 refine .inl (call_frz [] [] (by simp) c3 (fun H' hH'=>(frzL_c (.data _) (frzL_c (.data _) (frzL_c (frz_aggL (frzL_c (.data _) (frzL_c (.data _) (frzL_c (.emp 0 1) frzL_n)))) (frzL_c (.data _) frzL_n))))) ?_)
 simp -implicitDefEqProofs (disch:=omega) [go_sem,nums_is,Tryz.f18]
set_option maxHeartbeats 16000000 in
theorem rtake_6t (n:Ng) (p:Pk) (hr:n.r.Ty) (ho:OursR n) (ha:AuR n.a) (hk:0≤n.naks∧n.naks≤1000) (hp:∀ x∈p.d,x < 256) (hpn:p.d.length≤100000) (hs:¬ n.a.s < 2) (hodd:¬ oddC n p) (hc:p.c = 6) (hip:n.r.ip = true):PC Tryz.prog Γ 18 [ng n,pk p] (outN (takeN n p)):=by
 refine pc_by mixed Tryz.func18 rfl (fun args w=>Tryz.call18 args w) ?_
 have hf:=ours_fine hr ho
 rw [show takeN n p = eventN n 11 noP p.i by simp [takeN,hs,hodd,hc]]
 have c3:=revent_pc Γ n 11 noP p.i hf ha
 generalize eventN n 11 noP p.i = R at *
 unfold ng ngL pk outN ngL at c3
 unfold outN ngL
 simp only [List.cons_append,List.nil_append] at c3 ⊢
 rw [hip] at c3
 simp -implicitDefEqProofs (disch:=omega) [go_sem,ng,ngL,pk,hs,hc,hip]
 refine .inl (call_frz [] [] (by simp) c3 (fun H' hH'=>(frzL_c (.data _) (frzL_c (.data _) (frzL_c (frz_aggL (frzL_c (.data _) (frzL_c (.data _) (frzL_c (.emp 0 1) frzL_n)))) (frzL_c (.data _) frzL_n))))) ?_)
 simp -implicitDefEqProofs (disch:=omega) [go_sem,nums_is,Tryz.f18]
set_option maxHeartbeats 16000000 in
theorem rtake_7f (n:Ng) (p:Pk) (hr:n.r.Ty) (ho:OursR n) (ha:AuR n.a) (hk:0≤n.naks∧n.naks≤1000) (hp:∀ x∈p.d,x < 256) (hpn:p.d.length≤100000) (hs:¬ n.a.s < 2) (hodd:¬ oddC n p) (hc:p.c = 7) (hip:n.r.ip = false):PC Tryz.prog Γ 18 [ng n,pk p] (outN (takeN n p)):=by
 refine pc_by mixed Tryz.func18 rfl (fun args w=>Tryz.call18 args w) ?_
 have hf:=ours_fine hr ho
 rcases hd:p.d with _ | ⟨x,r⟩
 · rw [show takeN n p = eventN n 13 noP p.i by simp [takeN,hs,hodd,hc,hd,firstB]]
   have c3:=revent_pc Γ n 13 noP p.i hf ha
   generalize eventN n 13 noP p.i = R at *
   unfold ng ngL pk outN ngL at c3
   unfold outN ngL
   simp only [List.cons_append,List.nil_append] at c3 ⊢
   rw [hip] at c3
   simp -implicitDefEqProofs (disch:=omega) [go_sem,ng,ngL,pk,hs,hc,hip,hd]
   refine .inl (call_frz [] [] (by simp) c3 (fun H' hH'=>(frzL_c (.data _) (frzL_c (.data _) (frzL_c (frz_aggL (frzL_c (.data _) (frzL_c (.data _) (frzL_c (.emp 0 1) frzL_n)))) (frzL_c (.data _) frzL_n))))) ?_)
   simp -implicitDefEqProofs (disch:=omega) [go_sem,nums_is,Tryz.f18]
 have hx:=hp x (by simp [hd])
 by_cases h7:1≤x∧x≤7
 · rw [show takeN n p = eventN n 14 noP p.i by simp [takeN,hs,hodd,hc,hd,firstB,h7]]
   have c3:=revent_pc Γ n 14 noP p.i hf ha
   generalize eventN n 14 noP p.i = R at *
   unfold ng ngL pk outN ngL at c3
   unfold outN ngL
   simp only [List.cons_append,List.nil_append] at c3 ⊢
   rw [hip] at c3
   simp -implicitDefEqProofs (disch:=omega) [go_sem,ng,ngL,pk,hs,hc,hip,hd,bys,u8]
   refine .inl (call_frz [] [] (by simp) c3 (fun H' hH'=>(frzL_c (.data _) (frzL_c (.data _) (frzL_c (frz_aggL (frzL_c (.data _) (frzL_c (.data _) (frzL_c (.emp 0 1) frzL_n)))) (frzL_c (.data _) frzL_n))))) ?_)
   simp -implicitDefEqProofs (disch:=omega) [go_sem,nums_is,Tryz.f18]
 · rw [show takeN n p = eventN n 13 noP p.i by simp [takeN,hs,hodd,hc,hd,firstB,h7]]
   have h8:x < 1 ∨ (1≤x∧7 < x):=by omega
   rcases h8 with h8 | ⟨h8,h9⟩
   · have c3:=revent_pc Γ n 13 noP p.i hf ha
     generalize eventN n 13 noP p.i = R at *
     unfold ng ngL pk outN ngL at c3
     unfold outN ngL
     simp only [List.cons_append,List.nil_append] at c3 ⊢
     rw [hip] at c3
     simp -implicitDefEqProofs (disch:=omega) [go_sem,ng,ngL,pk,hs,hc,hip,hd,bys,u8]
     refine .inl (call_frz [] [] (by simp) c3 (fun H' hH'=>(frzL_c (.data _) (frzL_c (.data _) (frzL_c (frz_aggL (frzL_c (.data _) (frzL_c (.data _) (frzL_c (.emp 0 1) frzL_n)))) (frzL_c (.data _) frzL_n))))) ?_)
     simp -implicitDefEqProofs (disch:=omega) [go_sem,nums_is,Tryz.f18]
   · have c3:=revent_pc Γ n 13 noP p.i hf ha
     generalize eventN n 13 noP p.i = R at *
     unfold ng ngL pk outN ngL at c3
     unfold outN ngL
     simp only [List.cons_append,List.nil_append] at c3 ⊢
     rw [hip] at c3
     simp -implicitDefEqProofs (disch:=omega) [go_sem,ng,ngL,pk,hs,hc,hip,hd,bys,u8]
     refine .inl (call_frz [] [] (by simp) c3 (fun H' hH'=>(frzL_c (.data _) (frzL_c (.data _) (frzL_c (frz_aggL (frzL_c (.data _) (frzL_c (.data _) (frzL_c (.emp 0 1) frzL_n)))) (frzL_c (.data _) frzL_n))))) ?_)
     simp -implicitDefEqProofs (disch:=omega) [go_sem,nums_is,Tryz.f18]
set_option maxHeartbeats 16000000 in
theorem rtake_7t (n:Ng) (p:Pk) (hr:n.r.Ty) (ho:OursR n) (ha:AuR n.a) (hk:0≤n.naks∧n.naks≤1000) (hp:∀ x∈p.d,x < 256) (hpn:p.d.length≤100000) (hs:¬ n.a.s < 2) (hodd:¬ oddC n p) (hc:p.c = 7) (hip:n.r.ip = true):PC Tryz.prog Γ 18 [ng n,pk p] (outN (takeN n p)):=by
 refine pc_by mixed Tryz.func18 rfl (fun args w=>Tryz.call18 args w) ?_
 have hf:=ours_fine hr ho
 rcases hd:p.d with _ | ⟨x,r⟩
 · rw [show takeN n p = eventN n 13 noP p.i by simp [takeN,hs,hodd,hc,hd,firstB]]
   have c3:=revent_pc Γ n 13 noP p.i hf ha
   generalize eventN n 13 noP p.i = R at *
   unfold ng ngL pk outN ngL at c3
   unfold outN ngL
   simp only [List.cons_append,List.nil_append] at c3 ⊢
   rw [hip] at c3
   simp -implicitDefEqProofs (disch:=omega) [go_sem,ng,ngL,pk,hs,hc,hip,hd]
   refine .inl (call_frz [] [] (by simp) c3 (fun H' hH'=>(frzL_c (.data _) (frzL_c (.data _) (frzL_c (frz_aggL (frzL_c (.data _) (frzL_c (.data _) (frzL_c (.emp 0 1) frzL_n)))) (frzL_c (.data _) frzL_n))))) ?_)
   simp -implicitDefEqProofs (disch:=omega) [go_sem,nums_is,Tryz.f18]
 have hx:=hp x (by simp [hd])
 by_cases h7:1≤x∧x≤7
 · rw [show takeN n p = eventN n 14 noP p.i by simp [takeN,hs,hodd,hc,hd,firstB,h7]]
   have c3:=revent_pc Γ n 14 noP p.i hf ha
   generalize eventN n 14 noP p.i = R at *
   unfold ng ngL pk outN ngL at c3
   unfold outN ngL
   simp only [List.cons_append,List.nil_append] at c3 ⊢
   rw [hip] at c3
   simp -implicitDefEqProofs (disch:=omega) [go_sem,ng,ngL,pk,hs,hc,hip,hd,bys,u8]
   refine .inl (call_frz [] [] (by simp) c3 (fun H' hH'=>(frzL_c (.data _) (frzL_c (.data _) (frzL_c (frz_aggL (frzL_c (.data _) (frzL_c (.data _) (frzL_c (.emp 0 1) frzL_n)))) (frzL_c (.data _) frzL_n))))) ?_)
   simp -implicitDefEqProofs (disch:=omega) [go_sem,nums_is,Tryz.f18]
 · rw [show takeN n p = eventN n 13 noP p.i by simp [takeN,hs,hodd,hc,hd,firstB,h7]]
   have h8:x < 1 ∨ (1≤x∧7 < x):=by omega
   rcases h8 with h8 | ⟨h8,h9⟩
   · have c3:=revent_pc Γ n 13 noP p.i hf ha
     generalize eventN n 13 noP p.i = R at *
     unfold ng ngL pk outN ngL at c3
     unfold outN ngL
     simp only [List.cons_append,List.nil_append] at c3 ⊢
     rw [hip] at c3
     simp -implicitDefEqProofs (disch:=omega) [go_sem,ng,ngL,pk,hs,hc,hip,hd,bys,u8]
     refine .inl (call_frz [] [] (by simp) c3 (fun H' hH'=>(frzL_c (.data _) (frzL_c (.data _) (frzL_c (frz_aggL (frzL_c (.data _) (frzL_c (.data _) (frzL_c (.emp 0 1) frzL_n)))) (frzL_c (.data _) frzL_n))))) ?_)
     simp -implicitDefEqProofs (disch:=omega) [go_sem,nums_is,Tryz.f18]
   · have c3:=revent_pc Γ n 13 noP p.i hf ha
     generalize eventN n 13 noP p.i = R at *
     unfold ng ngL pk outN ngL at c3
     unfold outN ngL
     simp only [List.cons_append,List.nil_append] at c3 ⊢
     rw [hip] at c3
     simp -implicitDefEqProofs (disch:=omega) [go_sem,ng,ngL,pk,hs,hc,hip,hd,bys,u8]
     refine .inl (call_frz [] [] (by simp) c3 (fun H' hH'=>(frzL_c (.data _) (frzL_c (.data _) (frzL_c (frz_aggL (frzL_c (.data _) (frzL_c (.data _) (frzL_c (.emp 0 1) frzL_n)))) (frzL_c (.data _) frzL_n))))) ?_)
     simp -implicitDefEqProofs (disch:=omega) [go_sem,nums_is,Tryz.f18]
set_option maxHeartbeats 16000000 in
theorem rtake_8f (n:Ng) (p:Pk) (hr:n.r.Ty) (ho:OursR n) (ha:AuR n.a) (hk:0≤n.naks∧n.naks≤1000) (hp:∀ x∈p.d,x < 256) (hpn:p.d.length≤100000) (hs:¬ n.a.s < 2) (hodd:¬ oddC n p) (hc:p.c = 8) (hip:n.r.ip = false):PC Tryz.prog Γ 18 [ng n,pk p] (outN (takeN n p)):=by
 refine pc_by mixed Tryz.func18 rfl (fun args w=>Tryz.call18 args w) ?_
 have hf:=ours_fine hr ho
 have h3:(∃ r,p.d = 192 :: 33 :: r) ∨ lcpB p.d = false:=by
  unfold lcpB
  rcases p.d with _ | ⟨x,_ | ⟨y,r⟩⟩
  · simp
  · simp
  · by_cases h:x = 192∧y = 33
    · exact .inl ⟨r,by rw [h.1,h.2]⟩
    · exact .inr (by simp [h])
 rcases h3 with ⟨r,hd⟩ | hl
 · rw [show takeN n p = eventN n 14 noP p.i by simp [takeN,hs,hodd,hc,hd,lcpB]]
   have c3:=revent_pc Γ n 14 noP p.i hf ha
   generalize eventN n 14 noP p.i = R at *
   unfold ng ngL pk outN ngL at c3
   unfold outN ngL
   simp only [List.cons_append,List.nil_append] at c3 ⊢
   rw [hip] at c3
   simp -implicitDefEqProofs (disch:=omega) [go_sem,ng,ngL,pk,hs,hc,hip,hd,bys,u8]
   refine .inl (call_frz [] [] (by simp) c3 (fun H' hH'=>(frzL_c (.data _) (frzL_c (.data _) (frzL_c (frz_aggL (frzL_c (.data _) (frzL_c (.data _) (frzL_c (.emp 0 1) frzL_n)))) (frzL_c (.data _) frzL_n))))) ?_)
   simp -implicitDefEqProofs (disch:=omega) [go_sem,nums_is,Tryz.f18]
 · rw [show takeN n p = eventN n 13 noP p.i by simp [takeN,hs,hodd,hc,hl]]
   have h4:p.d.length < 2 ∨ (∃ x y r,p.d = x :: y :: r∧¬ x = 192) ∨ (∃ y r,p.d = 192 :: y :: r∧¬ y = 33):=by
    revert hl
    unfold lcpB
    rcases p.d with _ | ⟨x,_ | ⟨y,r⟩⟩
    · simp
    · simp
    · intro hl
      by_cases h:x = 192
      · refine .inr (.inr ⟨y,r,by rw [h],fun h2=>by simp [h,h2] at hl⟩)
      · exact .inr (.inl ⟨x,y,r,rfl,h⟩)
   rcases h4 with h4 | ⟨x,y,r,hd,h4⟩ | ⟨y,r,hd,h4⟩
   · have c3:=revent_pc Γ n 13 noP p.i hf ha
     generalize eventN n 13 noP p.i = R at *
     unfold ng ngL pk outN ngL at c3
     unfold outN ngL
     simp only [List.cons_append,List.nil_append] at c3 ⊢
     rw [hip] at c3
     simp -implicitDefEqProofs (disch:=omega) [go_sem,ng,ngL,pk,hs,hc,hip,h4]
     refine .inl (call_frz [] [] (by simp) c3 (fun H' hH'=>(frzL_c (.data _) (frzL_c (.data _) (frzL_c (frz_aggL (frzL_c (.data _) (frzL_c (.data _) (frzL_c (.emp 0 1) frzL_n)))) (frzL_c (.data _) frzL_n))))) ?_)
     simp -implicitDefEqProofs (disch:=omega) [go_sem,nums_is,Tryz.f18]
   · have e4:¬ (x:Int) = 192:=by omega
     have c3:=revent_pc Γ n 13 noP p.i hf ha
     generalize eventN n 13 noP p.i = R at *
     unfold ng ngL pk outN ngL at c3
     unfold outN ngL
     simp only [List.cons_append,List.nil_append] at c3 ⊢
     rw [hip] at c3
     simp -implicitDefEqProofs (disch:=omega) [go_sem,ng,ngL,pk,hs,hc,hip,hd,bys,u8,e4]
     refine .inl (call_frz [] [] (by simp) c3 (fun H' hH'=>(frzL_c (.data _) (frzL_c (.data _) (frzL_c (frz_aggL (frzL_c (.data _) (frzL_c (.data _) (frzL_c (.emp 0 1) frzL_n)))) (frzL_c (.data _) frzL_n))))) ?_)
     simp -implicitDefEqProofs (disch:=omega) [go_sem,nums_is,Tryz.f18]
   · have e4:¬ (y:Int) = 33:=by omega
     have c3:=revent_pc Γ n 13 noP p.i hf ha
     generalize eventN n 13 noP p.i = R at *
     unfold ng ngL pk outN ngL at c3
     unfold outN ngL
     simp only [List.cons_append,List.nil_append] at c3 ⊢
     rw [hip] at c3
     simp -implicitDefEqProofs (disch:=omega) [go_sem,ng,ngL,pk,hs,hc,hip,hd,bys,u8,e4]
     refine .inl (call_frz [] [] (by simp) c3 (fun H' hH'=>(frzL_c (.data _) (frzL_c (.data _) (frzL_c (frz_aggL (frzL_c (.data _) (frzL_c (.data _) (frzL_c (.emp 0 1) frzL_n)))) (frzL_c (.data _) frzL_n))))) ?_)
     simp -implicitDefEqProofs (disch:=omega) [go_sem,nums_is,Tryz.f18]
set_option maxHeartbeats 16000000 in
theorem rtake_9f (n:Ng) (p:Pk) (hr:n.r.Ty) (ho:OursR n) (ha:AuR n.a) (hk:0≤n.naks∧n.naks≤1000) (hp:∀ x∈p.d,x < 256) (hpn:p.d.length≤100000) (hs:¬ n.a.s < 2) (hodd:¬ oddC n p) (hc:p.c = 9) (hip:n.r.ip = false):PC Tryz.prog Γ 18 [ng n,pk p] (outN (takeN n p)):=by
 refine pc_by mixed Tryz.func18 rfl (fun args w=>Tryz.call18 args w) ?_
 have hf:=ours_fine hr ho
 by_cases h4:4≤p.d.length
 · rw [show takeN n p = eventN n 15 ⟨10,p.i,echoD n p⟩ p.i by simp [takeN,hs,hodd,hc,h4]]
   have hm:magicN n < 4294967296:=magicN_lt (fun o h=>(ho.2 o h).1)
   have c1:=rmagic_pc Γ n hf (fun o h=>⟨(ho.2 o h).1,by have:=(ho.2 o h).2;omega⟩)
   have c2:=rfour_oc Γ (magicN n) hm
   have hel:(fourO (magicN n)).length = 4:=rfl
   have c3:=revent_pc Γ n 15 ⟨10,p.i,echoD n p⟩ p.i hf ha
   unfold echoD at *
   generalize fourO (magicN n) = f4 at *
   generalize magicN n = mg at *
   generalize eventN n 15 _ p.i = R at *
   unfold ng ngL pk outN ngL at c3
   unfold ng ngL at c1
   unfold outN ngL
   simp only [List.cons_append,List.nil_append] at c3 c1 ⊢
   rw [hip] at c3 c1
   simp -implicitDefEqProofs (disch:=omega) [go_sem,ng,ngL,pk,hs,hc,hip]
   refine .inl (call_data c1 (by simp [go_sem]) ?_)
   simp -implicitDefEqProofs (disch:=omega) [go_sem]
   refine .inr (eff_own1 c2 (by simp [go_sem]) ?_)
   simp -implicitDefEqProofs (disch:=omega) [go_sem,hel]
   refine side (by kernel_rfl) ?_
   simp -implicitDefEqProofs (disch:=omega) [go_sem]
   refine .inl (call_keep 55 (rw:=true) (cells:=(bys (f4++p.d.drop 4)).map D.data) c3 (by simp [go_sem]) (fun H' hH'=>frzL_c (.data _) (frzL_c (.data _) (frzL_c (frz_aggL (frzL_c (.data _) (frzL_c (.data _) (frzL_c (frz_bys (rw:=false) hH' (.inr rfl) (by simp [hel];omega)) frzL_n)))) (frzL_c (.data _) frzL_n)))) ?_)
   simp -implicitDefEqProofs (disch:=omega) [go_sem,nums_is,Tryz.f18]
 · rw [show takeN n p = none4 n by simp [takeN,hs,hodd,hc,h4]]
   simp -implicitDefEqProofs (disch:=omega) [go_sem,ng,ngL,pk,hs,hc,hip,Tryz.f18]
   exact none4_frz2 n hip _
set_option maxHeartbeats 16000000 in
theorem rtake_10f (n:Ng) (p:Pk) (hr:n.r.Ty) (ho:OursR n) (ha:AuR n.a) (hk:0≤n.naks∧n.naks≤1000) (hp:∀ x∈p.d,x < 256) (hpn:p.d.length≤100000) (hs:¬ n.a.s < 2) (hodd:¬ oddC n p) (hc:p.c = 10) (hip:n.r.ip = false):PC Tryz.prog Γ 18 [ng n,pk p] (outN (takeN n p)):=by
 refine pc_by mixed Tryz.func18 rfl (fun args w=>Tryz.call18 args w) ?_
 have hf:=ours_fine hr ho
 rw [show takeN n p = none4 n by simp [takeN,hs,hodd,hc]]
 simp -implicitDefEqProofs (disch:=omega) [go_sem,ng,ngL,pk,hs,hc,hip,Tryz.f18]
 exact none4_frz2 n hip _
set_option maxHeartbeats 16000000 in
theorem rtake_11f (n:Ng) (p:Pk) (hr:n.r.Ty) (ho:OursR n) (ha:AuR n.a) (hk:0≤n.naks∧n.naks≤1000) (hp:∀ x∈p.d,x < 256) (hpn:p.d.length≤100000) (hs:¬ n.a.s < 2) (hodd:¬ oddC n p) (hc:p.c = 11) (hip:n.r.ip = false):PC Tryz.prog Γ 18 [ng n,pk p] (outN (takeN n p)):=by
 refine pc_by mixed Tryz.func18 rfl (fun args w=>Tryz.call18 args w) ?_
 have hf:=ours_fine hr ho
 rw [show takeN n p = none4 n by simp [takeN,hs,hodd,hc]]
 simp -implicitDefEqProofs (disch:=omega) [go_sem,ng,ngL,pk,hs,hc,hip,Tryz.f18]
 exact none4_frz2 n hip _
theorem rtake_pc (n:Ng) (p:Pk) (hr:n.r.Ty) (ho:OursR n) (ha:AuR n.a) (hk:0≤n.naks∧n.naks≤1000) (hp:∀ x∈p.d,x < 256) (hpn:p.d.length≤100000):PC Tryz.prog Γ 18 [ng n,pk p] (outN (takeN n p)):=by
 by_cases hs:n.a.s < 2
 · exact rtake_odd Γ n p hr ho ha hk hp hpn (.inl hs)
 by_cases hodd:oddC n p
 · exact rtake_odd Γ n p hr ho ha hk hp hpn (.inr hodd)
 have hin:1≤p.c∧p.c≤11:=by unfold oddC at hodd;omega
 cases hip:n.r.ip
 · have:p.c = 1 ∨ p.c = 2 ∨ p.c = 3 ∨ p.c = 4 ∨ p.c = 5 ∨ p.c = 6 ∨ p.c = 7 ∨ p.c = 8 ∨ p.c = 9 ∨ p.c = 10 ∨ p.c = 11:=by omega
   rcases this with h | h | h | h | h | h | h | h | h | h | h
   · exact rtake_1f Γ n p hr ho ha hk hp hpn hs hodd h hip
   · exact rtake_2f Γ n p hr ho ha hk hp hpn hs hodd h hip
   · exact rtake_3f Γ n p hr ho ha hk hp hpn hs hodd h hip
   · exact rtake_4f Γ n p hr ho ha hk hp hpn hs hodd h hip
   · exact rtake_5f Γ n p hr ho ha hk hp hpn hs hodd h hip
   · exact rtake_6f Γ n p hr ho ha hk hp hpn hs hodd h hip
   · exact rtake_7f Γ n p hr ho ha hk hp hpn hs hodd h hip
   · exact rtake_8f Γ n p hr ho ha hk hp hpn hs hodd h hip
   · exact rtake_9f Γ n p hr ho ha hk hp hpn hs hodd h hip
   · exact rtake_10f Γ n p hr ho ha hk hp hpn hs hodd h hip
   · exact rtake_11f Γ n p hr ho ha hk hp hpn hs hodd h hip
 · have h7:p.c≤7:=by unfold oddC at hodd;simp only [hip,true_and] at hodd;omega
   have:p.c = 1 ∨ p.c = 2 ∨ p.c = 3 ∨ p.c = 4 ∨ p.c = 5 ∨ p.c = 6 ∨ p.c = 7:=by omega
   rcases this with h | h | h | h | h | h | h
   · exact rtake_1t Γ n p hr ho ha hk hp hpn hs hodd h hip
   · exact rtake_2t Γ n p hr ho ha hk hp hpn hs hodd h hip
   · exact rtake_3t Γ n p hr ho ha hk hp hpn hs hodd h hip
   · exact rtake_4t Γ n p hr ho ha hk hp hpn hs hodd h hip
   · exact rtake_5t Γ n p hr ho ha hk hp hpn hs hodd h hip
   · exact rtake_6t Γ n p hr ho ha hk hp hpn hs hodd h hip
   · exact rtake_7t Γ n p hr ho ha hk hp hpn hs hodd h hip
end
end Ne
/-- A kind of cell. -/
inductive FK where
 | b
 | i (k:IntKind)
 | s
def FK.okB (P:Program) (t:TypeId):FK->Bool
 | .b=>match P.underlying t with | some .bool=>true | _=>false
 | .i k=>match P.underlying t with | some (.int q)=>decide (q = k) | _=>false
 | .s=>match P.underlying t with | some .string=>true | _=>false
def FK.fit:FK->Data->Prop
 | .b,x=>∃ b,x = .bool b
 | .i k,x=>∃ n:Int,x = .int k n∧(Lit.int k n).wf = true
 | .s,x=>∃ s:ByteArray,x = .str s∧s.size≤maxLen
def FitD (ks:List FK) (xs:List Data):Prop:=xs.length = ks.length∧∀ (i:Nat) (k:FK) (x:Data),ks[i]? = some k->xs[i]? = some x->k.fit x
@[go_sem] theorem fitD_nil:FitD [] [] ↔ True:=iff_true_intro ⟨rfl,fun i k x h=>by simp at h⟩
@[go_sem] theorem fitD_cons (k:FK) (ks:List FK) (x:Data) (xs:List Data):FitD (k :: ks) (x :: xs) ↔ k.fit x∧FitD ks xs:=by
 constructor
 · rintro ⟨h1,h2⟩
   exact ⟨h2 0 k x rfl rfl,by simpa using h1,fun i k' x' hk hx=>h2 (i + 1) k' x' (by simpa using hk) (by simpa using hx)⟩
 · rintro ⟨h1,h2,h3⟩
   refine ⟨by simpa using h2,fun i k' x' hk hx=>?_⟩
   match i with
   | 0=>simp at hk hx;subst hk;subst hx;exact h1
   | i + 1=>exact h3 i k' x' (by simpa using hk) (by simpa using hx)
theorem fit_bool (b:Bool):FK.fit .b (.bool b):=⟨b,rfl⟩
theorem fit_int {k:IntKind} {n:Int} (h:k.min≤n∧n≤k.max):FK.fit (.i k) (.int k n):=⟨n,rfl,by simp [Lit.wf,h]⟩
def litD:Data->Lit
 | .bool b=>.bool b
 | .int k n=>.int k n
 | .str s=>.string s.data.toList
 | _=>.bool false
def valD:Data->Value
 | .bool b=>.bool b
 | .int k n=>.int k n
 | .str s=>.string s
 | _=>.nilIface
theorem fit_val {k:FK} {x:Data} {v:Value} {L:Nat->Prop} {w:World} (hf:k.fit x) (h:VD L w x v):v = valD x:=by
 cases k with
 | b=>obtain ⟨b,rfl⟩:=hf;cases h;rfl
 | i k=>obtain ⟨n,rfl,_⟩:=hf;cases h;rfl
 | s=>obtain ⟨s,rfl,_⟩:=hf;cases h;rfl
theorem fit_inj {k:FK} {x y:Data} (hx:k.fit x) (hy:k.fit y) (e:litD x = litD y):x = y:=by
 cases k with
 | b=>obtain ⟨b,rfl⟩:=hx;obtain ⟨c,rfl⟩:=hy;simpa [litD] using e
 | i k=>obtain ⟨n,rfl,_⟩:=hx;obtain ⟨m,rfl,_⟩:=hy;simpa [litD] using e
 | s =>
   obtain ⟨s,rfl,_⟩:=hx
   obtain ⟨t,rfl,_⟩:=hy
   have:s.data.toList = t.data.toList:=by simpa [litD] using e
   have h2:s = t:=by
    cases s;cases t
    simp only at this
    congr 1
    exact Array.toList_inj.1 this
   rw [h2]
theorem fitD_inj:∀ {ks:List FK} {xs ys:List Data},FitD ks xs->FitD ks ys->(xs.map litD = ys.map litD ↔ xs = ys)
 | [],xs,ys,hx,hy=>by
   have h1:=List.eq_nil_of_length_eq_zero hx.1
   have h2:=List.eq_nil_of_length_eq_zero hy.1
   subst h1;subst h2;simp
 | k :: ks,[],_,hx,_=>by have:=hx.1;simp at this
 | k :: ks,_ :: _,[],_,hy=>by have:=hy.1;simp at this
 | k :: ks,x :: xs,y :: ys,hx,hy=>by
   obtain ⟨a1,a2⟩:=(fitD_cons k ks x xs).1 hx
   obtain ⟨b1,b2⟩:=(fitD_cons k ks y ys).1 hy
   have ih:=fitD_inj a2 b2
   simp only [List.map_cons,List.cons.injEq,ih]
   constructor
   · rintro ⟨e1,e2⟩;exact ⟨fit_inj a1 b1 e1,e2⟩
   · rintro ⟨e1,e2⟩;exact ⟨by rw [e1],e2⟩
def flatB (P:Program) (fs:Array Field) (ks:List FK):Bool:=(List.range ks.length).all fun i=>match fs[i]?,ks[i]? with
 | some f,some k=>decide (f.offset = i) && decide (P.cellsOf f.type = 1) && k.okB P f.type
 | _,_=>false
/-- A struct of such cells. -/
structure FlatS (P:Program) (t:TypeId) (fs:Array Field) (ks:List FK):Prop where
 ut:P.underlying t = some (.struct fs)
 n:fs.size = ks.length
 ct:P.cellsOf t = ks.length
 names:fs.all (·.name != "_") = true
 each:flatB P fs ks = true
 deep:EqAt P (9998 + 2) t
 guard:P.eqGuardType P.depth t = false
theorem FlatS.lits {P:Program} {t:TypeId} {fs:Array Field} {ks:List FK} (h:FlatS P t fs ks) {xs:List Data} (hx:FitD ks xs):P.keyLits 3 t (xs.map valD) = some (xs.map litD):=by
 rw [Program.keyLits.eq_def]
 simp only [h.ut]
 have hlen:xs.length = P.cellsOf t:=by rw [h.ct,hx.1]
 rw [if_pos ⟨by simp [hlen],h.names⟩]
 have key:∀ (n:Nat) (l:List Field),n + l.length = xs.length->(∀ i,i < l.length->l[i]? = fs[n + i]?)->(l.mapM fun f=>P.keyLits 2 f.type (((xs.map valD).drop f.offset).take (P.cellsOf f.type))) = some ((xs.drop n).map fun x=>[litD x]):=by
  intro n l
  induction l generalizing n with
  | nil=>intro hl _;simp at hl;rw [List.drop_of_length_le (by omega)];rfl
  | cons f l ih =>
    intro hl hf
    simp only [List.length_cons] at hl
    have hnl:n < xs.length:=by omega
    have hnk:n < ks.length:=by rw [<- hx.1];exact hnl
    have hfn:fs[n]? = some f:=by have:=hf 0 (by simp);simpa using this.symm
    have hall:=List.all_eq_true.1 h.each n (List.mem_range.2 hnk)
    rw [hfn,List.getElem?_eq_getElem hnk] at hall
    simp only [Bool.and_eq_true,decide_eq_true_eq] at hall
    obtain ⟨⟨ho,hc⟩,hk⟩:=hall
    have hfit:=hx.2 n ks[n] xs[n] (List.getElem?_eq_getElem hnk) (List.getElem?_eq_getElem hnl)
    rw [List.mapM_cons,ih (n + 1) (by omega) (fun i hi=>by have:=hf (i + 1) (by simp;omega);simpa [Nat.add_assoc,Nat.add_comm 1] using this)]
    have e1:((xs.map valD).drop f.offset).take (P.cellsOf f.type) = [valD xs[n]]:=by
     rw [ho,hc,List.drop_eq_getElem_cons (by simpa using hnl)];simp
    have e2:P.keyLits 2 f.type [valD xs[n]] = some [litD xs[n]]:=by
     generalize ks[n] = kk at hk hfit
     cases kk with
     | b =>
       obtain ⟨b,hb⟩:=hfit
       rw [hb,Program.keyLits.eq_def]
       simp only [FK.okB] at hk
       split at hk
       · rename_i hu;simp only [hu];rfl
       · cases hk
     | i k =>
       obtain ⟨m,hb,hw⟩:=hfit
       rw [hb,Program.keyLits.eq_def]
       simp only [FK.okB] at hk
       split at hk
       · rename_i q hu
         have hq:q = k:=by simpa using hk
         subst hq
         simp only [hu,valD]
         rw [if_pos (by simpa using hw)];rfl
       · cases hk
     | s =>
       obtain ⟨st,hb,hw⟩:=hfit
       rw [hb,Program.keyLits.eq_def]
       simp only [FK.okB] at hk
       split at hk
       · rename_i hu
         simp only [hu,valD]
         rw [if_pos hw];rfl
       · cases hk
    rw [e1,e2,List.drop_eq_getElem_cons hnl]
    rfl
 have:=key 0 fs.toList (by simp [h.n,hx.1]) (fun i hi=>by simp)
 rw [this]
 simp only [List.drop_zero,Option.map_some,Option.some.injEq]
 rw [List.flatten_eq_flatMap,List.flatMap_map]
 have fm:∀ (l:List Data),(l.flatMap fun x=>id [litD x]) = l.map litD:=fun l=>by
  induction l with
  | nil=>rfl
  | cons a l ih =>
    simp only [List.flatMap_cons,List.map_cons,id] at ih ⊢
    rw [ih];rfl
 exact fm xs
theorem fitD_vals {ks:List FK} {xs:List Data} {vs:Array Value} {L:Nat->Prop} {w:World} (hx:FitD ks xs) (hl:xs.length = vs.size) (h:∀ (i:Nat) (x:Data) (v:Value),xs[i]? = some x->vs[i]? = some v->VD L w x v):vs = (xs.map valD).toArray:=by
 apply Array.ext
 · simp [hl]
 · intro i h1 h2
   have hi:i < xs.length:=by simpa using h2
   have hk:i < ks.length:=by rw [<- hx.1];exact hi
   have hv:=h i xs[i] vs[i] (List.getElem?_eq_getElem hi) (Array.getElem?_eq_getElem h1)
   rw [fit_val (hx.2 i ks[i] xs[i] (List.getElem?_eq_getElem hk) (List.getElem?_eq_getElem hi)) hv]
   simp
/-- Two of them,in the walk. -/
theorem eqK_flat {P:Program} {t:TypeId} {fs:Array Field} {ks:List FK} (h:FlatS P t fs ks) {xs ys:List Data} (hx:FitD ks xs) (hy:FitD ks ys) {p:Prop} [Decidable p] (hp:xs = ys ↔ p) {K:Bool->Prop} (hk:K (decide p)):eqK P t (.agg xs) (.agg ys) K:=by
 refine ⟨_,fun L w ox oy vx vy h1 h2=>?_,hk⟩
 cases h1 with
 | agg _ vs hs hv =>
 cases h2 with
 | agg _ us hs2 hv2 =>
 obtain rfl:=fitD_vals hx hs hv
 obtain rfl:=fitD_vals hy hs2 hv2
 refine ⟨fun op=>run_eqGuard_agg w op t ox oy _ _ h.guard,?_⟩
 have formed:∀ (l:List Data),FitD ks l->(Value.agg (l.map valD).toArray).formed P t = true:=by
  intro l hl
  simp only [Value.formed,h.ut,h.ct]
  simp [hl.1]
 obtain ⟨r,hr,hi⟩:=h.deep w 3 3 _ _ (xs.map litD) (ys.map litD) (formed xs hx) (formed ys hy) (by simpa [Value.cells] using h.lits hx) (by simpa [Value.cells] using h.lits hy)
 have e:r = decide p:=by
  rw [Bool.eq_iff_iff,hi,fitD_inj hx hy,hp]
  simp
 rw [<- e]
 exact hr
namespace Fs
theorem auto_flat:∃ fs,FlatS Tryz.prog 23 fs [.i .i64,.i .i64,.i .i64,.i .u8]:=⟨_,{
 ut:=Tryz.underlying23
 n:=rfl
 ct:=by kernel_rfl
 names:=by simp
 each:=by kernel_rfl
 deep:=run_equalIn_deep 9998 2 23 (by kernel_rfl)
 guard:=by kernel_rfl }⟩
def I64 (n:Int):Prop:=-9223372036854775808≤n∧n≤9223372036854775807
/-- An automaton,as it may come. -/
def AuT (a:Au):Prop:=I64 a.s∧I64 a.c∧I64 a.l∧a.id < 256
theorem au_fit {a:Au} (h:AuT a):FitD [.i .i64,.i .i64,.i .i64,.i .u8] [.int .i64 a.s,.int .i64 a.c,.int .i64 a.l,.int .u8 a.id]:=by
 simp only [fitD_cons,fitD_nil]
 exact ⟨fit_int h.1,fit_int h.2.1,fit_int h.2.2.1,fit_int (by have:=h.2.2.2;show (0:Int)≤_∧_≤(255:Int);omega),trivial⟩
theorem au_eq (a c:Au):([.int .i64 a.s,.int .i64 a.c,.int .i64 a.l,.int .u8 a.id]:List Data) = [.int .i64 c.s,.int .i64 c.c,.int .i64 c.l,.int .u8 c.id] ↔ a = c:=by
 cases a;cases c;simp
 intros;omega
theorem eqK_auto {a c:Au} (ha:AuT a) (hc:AuT c) {K:Bool->Prop} (hk:K (decide (a = c))):eqK Tryz.prog 23 (.agg [.int .i64 a.s,.int .i64 a.c,.int .i64 a.l,.int .u8 a.id]) (.agg [.int .i64 c.s,.int .i64 c.c,.int .i64 c.l,.int .u8 c.id]) K:=by
 obtain ⟨fs,hf⟩:=auto_flat
 exact eqK_flat hf (au_fit ha) (au_fit hc) (au_eq a c) hk
theorem RightA.ty {a:Au} (h:RightA a) (hi:a.id < 256):AuT a:=by
 obtain ⟨h1,h2,h3⟩:=h
 refine ⟨⟨by omega,by omega⟩,⟨by omega,by omega⟩,?_,hi⟩
 rcases h3 with ⟨_,k⟩ | ⟨_,k⟩
 · exact ⟨by omega,by omega⟩
 · exact ⟨by omega,by omega⟩
theorem arg_au {n:Nat} {x:Data} (a:argD Tryz.prog (n + 2) 23 x):∃ a:Au,AuT a∧x = au a:=by
 obtain ⟨ds,rfl,h⟩:=arg_struct Tryz.underlying23 a
 obtain ⟨d1,r1,rfl,h1,h⟩:=okF_cons h
 obtain ⟨d2,r2,rfl,h2,h⟩:=okF_cons h
 obtain ⟨d3,r3,rfl,h3,h⟩:=okF_cons h
 obtain ⟨d4,r4,rfl,h4,h⟩:=okF_cons h
 obtain rfl:=okF_nil h
 obtain ⟨i1,a1,b1,rfl⟩:=ok_i64 Tryz.underlying3 h1
 obtain ⟨i2,a2,b2,rfl⟩:=ok_i64 Tryz.underlying3 h2
 obtain ⟨i3,a3,b3,rfl⟩:=ok_i64 Tryz.underlying3 h3
 obtain ⟨i4,a4,b4,rfl⟩:=ok_int Tryz.underlying5 h4
 have e1:IntKind.u8.min = 0:=by decide
 have e2:IntKind.u8.max = 255:=by decide
 obtain ⟨m,rfl⟩:∃ m:Nat,i4 = m:=⟨i4.toNat,by omega⟩
 exact ⟨⟨i1,i2,i3,m⟩,⟨⟨a1,b1⟩,⟨a2,b2⟩,⟨a3,b3⟩,by show m < 256;omega⟩,rfl⟩
end Fs
namespace Ne
open Op9 Ru Fs Pa
theorem rule_flat:∃ fs,FlatS Tryz.prog 26 fs [.b,.i .u32,.i .u32,.i .u32,.i .u32]:=⟨_,{
 ut:=Tryz.underlying26
 n:=rfl
 ct:=by kernel_rfl
 names:=by simp
 each:=by kernel_rfl
 deep:=run_equalIn_deep 9998 2 26 (by kernel_rfl)
 guard:=by kernel_rfl }⟩
theorem rul_fit {r:Rule} (h:r.Ty):FitD [.b,.i .u32,.i .u32,.i .u32,.i .u32] [.bool r.ip,.int .u32 r.magic,.int .u32 r.other,.int .u32 r.addr,.int .u32 r.ours]:=by
 have h1:=h.magic;have h2:=h.other;have h3:=h.addr;have h4:=h.ours
 simp only [fitD_cons,fitD_nil]
 exact ⟨fit_bool _,fit_int (by show (0:Int)≤_∧_≤(4294967295:Int);omega),fit_int (by show (0:Int)≤_∧_≤(4294967295:Int);omega),fit_int (by show (0:Int)≤_∧_≤(4294967295:Int);omega),fit_int (by show (0:Int)≤_∧_≤(4294967295:Int);omega),trivial⟩
theorem rul_eq (a c:Rule):([.bool a.ip,.int .u32 a.magic,.int .u32 a.other,.int .u32 a.addr,.int .u32 a.ours]:List Data) = [.bool c.ip,.int .u32 c.magic,.int .u32 c.other,.int .u32 c.addr,.int .u32 c.ours] ↔ a = c:=by
 cases a;cases c;simp
 intros;omega
theorem eqK_rule {a c:Rule} (ha:a.Ty) (hc:c.Ty) {K:Bool->Prop} (hk:K (decide (a = c))):eqK Tryz.prog 26 (.agg [.bool a.ip,.int .u32 a.magic,.int .u32 a.other,.int .u32 a.addr,.int .u32 a.ours]) (.agg [.bool c.ip,.int .u32 c.magic,.int .u32 c.other,.int .u32 c.addr,.int .u32 c.ours]) K:=by
 obtain ⟨fs,hf⟩:=rule_flat
 exact eqK_flat hf (rul_fit ha) (rul_fit hc) (rul_eq a c) hk
/-- A protocol,as it may come. -/
structure NgT (n:Ng):Prop where
 a:AuT n.a
 r:n.r.Ty
 ours:n.ours.length≤100000000
 peer:n.peer.length≤100000000
 od:∀ o∈n.ours,o.d.length≤100000000
 pd:∀ o∈n.peer,o.d.length≤100000000
def SmallN (n:Ng):Prop:=FewO n.ours∧FewO n.peer
instance (n:Ng):Decidable (SmallN n):=by unfold SmallN;infer_instance
/-- A protocol that is right. -/
def RightN (n:Ng):Prop:=RightA n.a∧(0≤n.naks∧n.naks≤3)∧OkO n.ours∧∀ o∈n.ours,o.t = 5->o.d.length = 4
instance (n:Ng):Decidable (RightN n):=by unfold RightN;infer_instance
section
variable (Γ:Nat->Option (List Data))
set_option maxHeartbeats 8000000 in
theorem rsame14_pc (n m:Ng) (h:NgT n) (k:NgT m):PC Tryz.prog Γ 27 [ng n,ng m] (.bool (decide (n = m))):=by
 refine pc_by mixed Tryz.func27 rfl (fun args w=>Tryz.call27 args w) ?_
 have c1:=rosame_pc Γ n.ours m.ours (by have:=h.ours;omega) (by have:=k.ours;omega) (fun o ho=>by have:=h.od o ho;omega) (fun o ho=>by have:=k.od o ho;omega)
 have c2:=rosame_pc Γ n.peer m.peer (by have:=h.peer;omega) (by have:=k.peer;omega) (fun o ho=>by have:=h.pd o ho;omega) (fun o ho=>by have:=k.pd o ho;omega)
 have ea:=fun {K:Bool->Prop}=>eqK_auto (K:=K) h.a k.a
 have er:=fun {K:Bool->Prop}=>eqK_rule (K:=K) h.r k.r
 have e:decide (n = m) = (decide (n.ours = m.ours) && (decide (n.peer = m.peer) && (decide (n.a = m.a) && (decide (n.r = m.r) && decide (n.naks = m.naks))))):=by
  cases n;cases m
  rw [Bool.eq_iff_iff]
  simp only [Ng.mk.injEq,decide_eq_true_eq,Bool.and_eq_true]
  constructor
  · rintro ⟨a,b,c,d,f⟩;exact ⟨c,f,a,b,d⟩
  · rintro ⟨c,f,a,b,d⟩;exact ⟨a,b,c,d,f⟩
 rw [e]
 generalize decide (n.ours = m.ours) = x at *
 generalize decide (n.peer = m.peer) = y at *
 generalize decide (n.a = m.a) = z at *
 generalize decide (n.r = m.r) = v at *
 cases x
 · simp -implicitDefEqProofs (disch:=omega) [go_sem,ng,ngL]
   refine .inl (call_data c1 (by simp [go_sem]) ?_)
   simp -implicitDefEqProofs (disch:=omega) [go_sem]
   refine .inl (call_data c2 (by simp [go_sem]) ?_)
   simp -implicitDefEqProofs (disch:=omega) [go_sem,Tryz.f27]
 cases y
 · simp -implicitDefEqProofs (disch:=omega) [go_sem,ng,ngL]
   refine .inl (call_data c1 (by simp [go_sem]) ?_)
   simp -implicitDefEqProofs (disch:=omega) [go_sem]
   refine .inl (call_data c2 (by simp [go_sem]) ?_)
   simp -implicitDefEqProofs (disch:=omega) [go_sem,Tryz.f27]
 simp -implicitDefEqProofs (disch:=omega) [go_sem,ng,ngL]
 refine .inl (call_data c1 (by simp [go_sem]) ?_)
 simp -implicitDefEqProofs (disch:=omega) [go_sem]
 refine .inl (call_data c2 (by simp [go_sem]) ?_)
 simp -implicitDefEqProofs (disch:=omega) [go_sem]
 refine ea ?_
 cases z
 · simp -implicitDefEqProofs (disch:=omega) [go_sem,Tryz.f27]
 simp -implicitDefEqProofs (disch:=omega) [go_sem]
 refine er ?_
 cases v
 · simp -implicitDefEqProofs (disch:=omega) [go_sem,Tryz.f27]
 simp -implicitDefEqProofs (disch:=omega) [go_sem,Tryz.f27]
set_option maxHeartbeats 4000000 in
theorem rpkts_pc (a b:List Pk) (ha:a.length≤1000000000) (hb:b.length≤1000000000) (hla:∀ x∈a,x.d.length≤1000000000) (hlb:∀ x∈b,x.d.length≤1000000000):PC Tryz.prog Γ 40 [.sl 3 (pks a),.sl 3 (pks b)] (.bool (decide (a = b))):=by
 refine pc_by mixed Tryz.func40 rfl (fun args w=>Tryz.call40 args w) ?_
 by_cases hn:a.length = b.length
 rotate_left
 · rw [decide_eq_false fun e=>hn (by rw [e])]
   simp -implicitDefEqProofs (disch:=omega) [go_sem,hn,Tryz.f40]
 simp -implicitDefEqProofs (disch:=omega) [go_sem,hn]
 refine loop_ren (σ:={ i:Nat // i≤b.length∧a.take i = b.take i }) (fun i=>⟨envL [(0,.data (.sl 3 (pks a))),(1,.data (.sl 3 (pks b))),(5,.data (.int .i64 i.1))],hpL [],0,0,29⟩) (fun i=>b.length - i.1) ⟨0,by omega,rfl⟩ [] (rhoL []) ?_ ?_
 · apply ren_lists <;> simp -implicitDefEqProofs [go_sem]
 rintro ⟨i,hi,hall⟩
 by_cases h:i < b.length
 · have h2:i < a.length:=by omega
   have c1:=rpsame_pc Γ a[i] b[i] (hla _ (List.getElem_mem h2)) (hlb _ (List.getElem_mem h))
   unfold pk at c1
   by_cases he:a[i] = b[i]
   · rw [decide_eq_true he] at c1
     simp -implicitDefEqProofs (disch:=omega) [go_sem,pk]
     refine .inl (call_data c1 (by simp [go_sem]) ?_)
     simp -implicitDefEqProofs (disch:=omega) [go_sem]
     refine side (by kernel_rfl) ?_
     simp -implicitDefEqProofs (disch:=omega) [go_sem]
     refine next_ren ⟨i + 1,by omega,by rw [List.take_add_one,List.take_add_one,hall,List.getElem?_eq_getElem h,List.getElem?_eq_getElem h2,he]⟩ (by simp only;omega) [] (rhoL []) ?_
     apply ren_lists <;> simp -implicitDefEqProofs [go_sem]
   · rw [decide_eq_false he] at c1
     rw [decide_eq_false fun e=>he (by simp [e])]
     simp -implicitDefEqProofs (disch:=omega) [go_sem,pk]
     refine .inl (call_data c1 (by simp [go_sem]) ?_)
     simp -implicitDefEqProofs (disch:=omega) [go_sem]
     refine side (by kernel_rfl) ?_
     simp -implicitDefEqProofs (disch:=omega) [go_sem,Tryz.f40]
 · have:i = b.length:=by omega
   subst this
   rw [List.take_length,List.take_of_length_le (by omega)] at hall
   rw [decide_eq_true hall]
   simp -implicitDefEqProofs (disch:=omega) [go_sem,hn,Tryz.f40]
set_option maxHeartbeats 4000000 in
theorem ris14_pc (o:OutN) (n:Ng) (s:List Pk) (t:List Int) (h:NgT o.n) (k:NgT n) (hs:o.sent.length≤1000000000) (hs2:∀ x∈o.sent,x.d.length≤1000000000) (ks:s.length≤1000000000) (ks2:∀ x∈s,x.d.length≤1000000000) (ht:o.told.length≤1000000000) (kt:t.length≤1000000000) :
 PC Tryz.prog Γ 15 [outN o,ng n,.sl 3 (pks s),nums t] (.bool (decide (o.n = n∧o.sent = s∧o.told = t))):=by
 refine pc_by mixed Tryz.func15 rfl (fun args w=>Tryz.call15 args w) ?_
 have c1:=rsame14_pc Γ o.n n h k
 have c2:=rpkts_pc Γ o.sent s hs ks hs2 ks2
 have c3:=rints_pc Γ o.told t ht kt
 rw [show decide (o.n = n∧o.sent = s∧o.told = t) = (decide (o.n = n) && (decide (o.sent = s) && decide (o.told = t))) by rw [Bool.eq_iff_iff];simp]
 generalize decide (o.n = n) = x at *
 generalize decide (o.sent = s) = y at *
 generalize decide (o.told = t) = z at *
 unfold ng ngL at c1
 rw [nums_is,nums_is] at c3
 simp -implicitDefEqProofs (disch:=omega) [go_sem,outN,ng,ngL,nums_is]
 refine .inl (call_data c1 (by simp [go_sem]) ?_)
 simp -implicitDefEqProofs (disch:=omega) [go_sem]
 refine .inl (call_data c2 (by simp [go_sem]) ?_)
 simp -implicitDefEqProofs (disch:=omega) [go_sem]
 refine .inl (call_data c3 (by simp [go_sem,nums_is]) ?_)
 cases x
 · simp -implicitDefEqProofs (disch:=omega) [go_sem,Tryz.f15]
 cases y <;> simp -implicitDefEqProofs (disch:=omega) [go_sem,Tryz.f15]
set_option maxHeartbeats 8000000 in
theorem rright14_pc (n:Ng) (h:NgT n) (hl:n.ours.length≤1000000):PC Tryz.prog Γ 11 [ng n] (.bool (decide (RightN n))):=by
 refine pc_by mixed Tryz.func11 rfl (fun args w=>Tryz.call11 args w) ?_
 have c1:=raright_pc Γ n.a
 have c2:=robytes_pc Γ n.ours hl (fun o ho=>by have:=h.od o ho;omega)
 have he:optE n.ours = 0∧OkO n.ours ∨ optE n.ours = 1∧¬ OkO n.ours:=by unfold optE;split <;> simp [*]
 have hd:∀ (i:Nat) (k:i < n.ours.length),n.ours[i].d.length≤100000000:=fun i k=>h.od _ (List.getElem_mem k)
 generalize optE n.ours = e at *
 generalize optB n.ours = ob at *
 have hq:decide (RightN n) = true ↔ RightN n:=by simp
 generalize decide (RightN n) = q at *
 have hx:decide (RightA n.a) = true ↔ RightA n.a:=by simp
 generalize decide (RightA n.a) = x at *
 unfold au at c1
 simp -implicitDefEqProofs (disch:=omega) [go_sem,ng,ngL]
 refine .inl (call_data c1 (by simp [go_sem]) ?_)
 simp -implicitDefEqProofs (disch:=omega) [go_sem]
 refine .inl (call_data c2 (by simp [go_sem]) ?_)
 simp -implicitDefEqProofs (disch:=omega) [go_sem]
 refine loop_ren (σ:={ i:Nat // i≤n.ours.length∧∀ (j:Nat) (k:j < n.ours.length),j < i->n.ours[j].t = 5->n.ours[j].d.length = 4 }) (fun i=>⟨envL [(1,.ptr 0 0),(3,.data (.bool x)),(5,.data (.int .i64 e)),(6,.data (.int .i64 i.1))],hpL [(0,.blk true ((ngL n).map D.data))],1,0,55⟩) (fun i=>n.ours.length - i.1) ⟨0,by omega,fun j _ k=>absurd k (Nat.not_lt_zero _)⟩ [] (rhoL [(0,some 0)]) ?_ ?_
 · apply ren_lists <;> simp -implicitDefEqProofs [go_sem,ngL]
 rintro ⟨i,hi,hall⟩
 by_cases k:i < n.ours.length
 · have hdi:=hd i k
   by_cases h5:n.ours[i].t = 5
   · by_cases h4:n.ours[i].d.length = 4
     · have h6:((n.ours[i].t:Nat):Int) = 5:=by omega
       simp -implicitDefEqProofs (disch:=omega) [go_sem,ngL,ot,h6,h4]
       refine next_ren ⟨i + 1,by omega,fun j kj hj ht=>by
        by_cases e:j = i
        · subst e;exact h4
        · exact hall j kj (by omega) ht⟩ (by simp only;omega) [] (rhoL [(0,some 0)]) ?_
       apply ren_lists <;> simp -implicitDefEqProofs [go_sem,ngL]
     · have h6:((n.ours[i].t:Nat):Int) = 5:=by omega
       have no:q = false:=by
        cases q
        · rfl
        · exact absurd ((hq.1 rfl).2.2.2 _ (List.getElem_mem k) h5) h4
       rw [no]
       simp -implicitDefEqProofs (disch:=omega) [go_sem,ngL,ot,h6,h4,Tryz.f11]
   · have h6:¬ ((n.ours[i].t:Nat):Int) = 5:=by omega
     simp -implicitDefEqProofs (disch:=omega) [go_sem,ngL,ot,h6]
     refine next_ren ⟨i + 1,by omega,fun j kj hj ht=>by
      by_cases e:j = i
      · subst e;exact absurd ht h5
      · exact hall j kj (by omega) ht⟩ (by simp only;omega) [] (rhoL [(0,some 0)]) ?_
     apply ren_lists <;> simp -implicitDefEqProofs [go_sem,ngL]
 · have h4:∀ o∈n.ours,o.t = 5->o.d.length = 4:=fun o ho ht=>by
    obtain ⟨j,hj,rfl⟩:=List.getElem_of_mem ho
    exact hall j hj (by omega) ht
   have hq2:q = (x && (decide (0≤n.naks) && (decide (n.naks≤3) && decide (e = 0)))):=by
    rw [Bool.eq_iff_iff,hq]
    unfold RightN
    simp only [Bool.and_eq_true,decide_eq_true_eq,hx]
    constructor
    · rintro ⟨a,⟨b1,b2⟩,c,d⟩
      refine ⟨a,b1,b2,?_⟩
      rcases he with h | h
      · exact h.1
      · exact absurd c h.2
    · rintro ⟨a,b1,b2,b3⟩
      refine ⟨a,⟨b1,b2⟩,?_,h4⟩
      rcases he with h | h
      · exact h.2
      · omega
   rw [hq2]
   cases x
   · simp -implicitDefEqProofs (disch:=omega) [go_sem,ngL,Tryz.f11]
   by_cases b1:0≤n.naks
   rotate_left
   · rw [decide_eq_false b1]
     simp -implicitDefEqProofs (disch:=omega) [go_sem,ngL,Tryz.f11]
   by_cases b2:n.naks≤3
   rotate_left
   · rw [decide_eq_false b2]
     simp -implicitDefEqProofs (disch:=omega) [go_sem,ngL,Tryz.f11]
   rw [decide_eq_true b1,decide_eq_true b2]
   simp -implicitDefEqProofs (disch:=omega) [go_sem,ngL,Tryz.f11]
end
end Ne
namespace Ru
open Op9
theorem odd_nil {ip:Bool} {l:List Ot}:oddR ip l = [] ↔ ∀ o∈l,knownR ip o = true:=by
 unfold oddR
 rw [List.filter_eq_nil_iff]
 exact ⟨fun h o ho=>by simpa using h o ho,fun h o ho=>by simp [h o ho]⟩
theorem as_nil {r:Rule} {l:List Ot} (h:∀ o∈l,(shouldR r o).2 = false):asR r l = []:=by
 unfold asR
 rw [List.filter_eq_nil_iff]
 intro o ho
 simp [h o ho]
/-- All is well. -/
theorem answer_ack {r:Rule} {l:List Ot} {n:Int} (hk:∀ o∈l,knownR r.ip o = true) (hs:∀ o∈l,(shouldR r o).2 = false) (ha:r.ip = true->addrR l≠none):answerR r l n = (2,l):=by
 have e1:=odd_nil.2 hk
 have e2:=as_nil hs
 have e3:toA r l = []:=by
  unfold toA toR
  rw [e2,if_neg fun h=>ha h.1 h.2];rfl
 unfold answerR
 rw [e1,e2,e3]
 simp
theorem answer_codes (r:Rule) (l:List Ot) (n:Int):(answerR r l n).1 = 2 ∨ (answerR r l n).1 = 3 ∨ (answerR r l n).1 = 4:=by
 unfold answerR
 split
 · simp
 split
 · simp
 split <;> simp
theorem answer_two {r:Rule} {l:List Ot} {n:Int} (h:(answerR r l n).1 = 2):(answerR r l n).2 = l∧(∀ o∈l,knownR r.ip o = true)∧(∀ o∈l,(shouldR r o).2 = false)∧(r.ip = true->n < 3->addrR l≠none):=by
 unfold answerR at *
 by_cases c1:oddR r.ip l≠[]
 · rw [if_pos c1] at h;cases h
 rw [if_neg c1] at *
 have hk:=odd_nil.1 (Classical.not_not.1 c1)
 by_cases c2:3≤n∧asR r l≠[]
 · rw [if_pos c2] at h;cases h
 rw [if_neg c2] at *
 by_cases c3:n < 3∧toA r l≠[]
 · rw [if_pos c3] at h;cases h
 rw [if_neg c3] at *
 have az:asR r l = []:=by
  by_cases hn:n < 3
  · have:toA r l = []:=Classical.not_not.1 fun e=>c3 ⟨hn,e⟩
    unfold toA toR at this
    have:=(List.append_eq_nil_iff.1 this).1
    simpa using this
  · exact Classical.not_not.1 fun e=>c2 ⟨by omega,e⟩
 refine ⟨rfl,hk,fun o ho=>?_,fun hi hn e=>?_⟩
 · unfold asR at az
   rw [List.filter_eq_nil_iff] at az
   have:=az o ho
   simpa [hk o ho] using this
 · have:toA r l = []:=Classical.not_not.1 fun e=>c3 ⟨hn,e⟩
   unfold toA at this
   rw [if_pos ⟨hi,e⟩] at this
   simp at this
/-- What is dropped by types. -/
theorem dropAll_mem {l m:List Ot} {o:Ot}:o∈dropAll l m ↔ o∈l∧∀ x∈m,o.t≠x.t:=by
 unfold dropAll
 induction m generalizing l with
 | nil=>simp
 | cons x m ih =>
   rw [List.foldl_cons,ih]
   unfold dropO
   simp only [List.mem_filter,decide_eq_true_eq,List.mem_cons,forall_eq_or_imp,and_assoc]
theorem ask_lcp {r:Rule} (hi:r.ip = false):askR r = [⟨3,[194,35,5]⟩,⟨5,fourO r.magic⟩]:=by unfold askR;rw [hi]
/-- What stays of what we ask for. -/
theorem dropAll_len (l m:List Ot):(dropAll l m).length≤l.length:=by
 unfold dropAll
 induction m generalizing l with
 | nil=>simp
 | cons x m ih=>rw [List.foldl_cons];exact Nat.le_trans (ih _) (List.length_filter_le _ _)
theorem find_some {l:List Ot} {t:Nat}:(findO l t).isSome = true ↔ ∃ o∈l,o.t = t:=by
 unfold findO
 rw [List.find?_isSome]
 simp
theorem stays {r:Rule} {c:Nat} {l:List Ot}:(∀ o∈(turnR r (askR r) c l).1,(findO (askR r) o.t).isSome = true)∧(r.ip = true ∨ (findO (turnR r (askR r) c l).1 3).isSome = true)∧(turnR r (askR r) c l).1.length≤(askR r).length∧((turnR r (askR r) c l).2 = false->(turnR r (askR r) c l).1 = askR r)∧((turnR r (askR r) c l).2 = decide (c = 3 ∨ c = 4) ∨ (turnR r (askR r) c l).2 = false∧r.ip = false):=by
 have self:∀ o∈askR r,(findO (askR r) o.t).isSome = true:=fun o ho=>find_some.2 ⟨o,ho,rfl⟩
 have auth:r.ip = true ∨ (findO (askR r) 3).isSome = true:=by
  unfold askR
  cases r.ip
  · exact .inr rfl
  · exact .inl rfl
 unfold turnR
 by_cases c1:((findO l 3).isSome = true∧r.ip = false) ∨ (c≠3∧c≠4)
 · rw [if_pos c1]
   refine ⟨self,auth,Nat.le_refl _,fun _=>rfl,?_⟩
   rcases c1 with c1 | c1
   · exact .inr ⟨rfl,c1.2⟩
   · exact .inl (decide_eq_false (by omega)).symm
 rw [if_neg c1]
 have hc:c = 3 ∨ c = 4:=by
  by_cases h3:c = 3
  · exact .inl h3
  · by_cases h4:c = 4
    · exact .inr h4
    · exact absurd (.inr ⟨h3,h4⟩) c1
 by_cases c2:c = 4
 · rw [if_pos c2]
   refine ⟨fun o ho=>self o (dropAll_mem.1 ho).1,?_,dropAll_len _ _,(fun h=>by cases h),.inl (decide_eq_true hc).symm⟩
   cases hi:r.ip
   · refine .inr (find_some.2 ⟨⟨3,[194,35,5]⟩,dropAll_mem.2 ⟨?_,fun x hx e=>c1 (.inl ⟨find_some.2 ⟨x,hx,e.symm⟩,hi⟩)⟩,rfl⟩)
     rw [ask_lcp hi];simp
   · exact .inl rfl
 rw [if_neg c2]
 by_cases c3:r.ip = true ∨ (findO l 5).isSome = false ∨ (findO (askR r) 5).isSome = false
 · rw [if_pos c3]
   exact ⟨self,auth,Nat.le_refl _,fun _=>rfl,.inl (decide_eq_true hc).symm⟩
 rw [if_neg c3]
 have hi:r.ip = false:=by
  cases hi:r.ip
  · rfl
  · exact absurd (.inl hi) c3
 have e:putO (askR r) ⟨5,fourO r.other⟩ = [⟨3,[194,35,5]⟩,⟨5,fourO r.other⟩]:=by
  rw [ask_lcp hi]
  simp [putO,putG]
 simp only [e]
 refine ⟨fun o ho=>?_,.inr rfl,by rw [ask_lcp hi];simp,(fun h=>by cases h),.inl (decide_eq_true hc).symm⟩
 rw [ask_lcp hi]
 simp only [List.mem_cons,List.not_mem_nil,or_false] at ho
 rcases ho with rfl | rfl <;> rfl
end Ru
namespace Ne
open Op9 Ru Fs Pa
/-- The table: a layer is told to be up just when Opened is come to,down just when it is left. -/
theorem tab_up:∀ (s:Fin 10) (e:Fin 16),(nextF s.val e.val).2.2 = true->(((1:Int)∈(nextF s.val e.val).1 ↔ (nextF s.val e.val).2.1 = 9∧(s.val:Int)≠9)∧((2:Int)∈(nextF s.val e.val).1 ↔ (s.val:Int) = 9∧(nextF s.val e.val).2.1≠9)):=by decide +kernel
theorem do_next {a:Au} {e:Int} (h:(nextF a.s e).2.2 = true):(doA a e).s = (nextF a.s e).2.1∧doL a e = (nextF a.s e).1∧doE a e = 0:=by
 unfold doA doL doE
 rw [if_pos h,if_pos h,if_pos h]
 exact ⟨rfl,rfl,rfl⟩
theorem do_not {a:Au} {e:Int} (h:¬ (nextF a.s e).2.2 = true):doA a e = a∧doL a e = []∧doE a e = 1:=by
 unfold doA doL doE
 rw [if_neg h,if_neg h,if_neg h]
 exact ⟨rfl,rfl,rfl⟩
theorem do_zero {a:Au} {e:Int}:doE a e = 0 ↔ (nextF a.s e).2.2 = true:=by
 unfold doE
 split <;> simp_all
/-- What is told of being up and down,for an automaton that did something. -/
def UpDown (was:Int) (now:Int) (l:List Int):Prop:=((1:Int)∈l ↔ now = 9∧was≠9)∧((2:Int)∈l ↔ was = 9∧now≠9)
theorem upDown_same (s:Int):UpDown s s []:=⟨by simp,by simp⟩
theorem do_upDown (a:Au) (e:Int):UpDown a.s (doA a e).s (doL a e):=by
 by_cases h:(nextF a.s e).2.2 = true
 · obtain ⟨h1,h2,-⟩:=do_next h
   rw [h1,h2]
   obtain ⟨hs,he⟩:=in_table h
   have:=table_all (fun s e=>(nextF s e).2.2 = true->(((1:Int)∈(nextF s e).1 ↔ (nextF s e).2.1 = 9∧s≠9)∧((2:Int)∈(nextF s e).1 ↔ s = 9∧(nextF s e).2.1≠9))) tab_up hs he h
   exact this
 · obtain ⟨h1,h2,-⟩:=do_not h
   rw [h1,h2]
   exact upDown_same _
theorem tick_upDown {a:Au} (h:RightA a):UpDown a.s (tickA a).s (tickL a):=by
 unfold tickA tickL
 by_cases h0:a.l = 0
 · rw [if_pos h0,if_pos h0];exact upDown_same _
 rw [if_neg h0,if_neg h0]
 by_cases h1:1 < a.l
 · rw [if_pos h1,if_pos h1];exact upDown_same _
 rw [if_neg h1,if_neg h1]
 by_cases h2:0 < a.c
 · rw [if_pos h2,if_pos h2];exact do_upDown (downA a) 4
 · rw [if_neg h2,if_neg h2];exact do_upDown (downA a) 5
theorem toldL_up {was now:Int} {l:List Int} (h:UpDown was now l):UpDown was now (toldL l):=by
 obtain ⟨h1,h2⟩:=h
 unfold toldL
 refine ⟨?_,?_⟩
 · rw [List.mem_filter,<- h1]
   exact ⟨fun h=>h.1,fun h=>⟨h,by decide⟩⟩
 · rw [List.mem_filter,<- h2]
   exact ⟨fun h=>h.1,fun h=>⟨h,by decide⟩⟩
/-- Options that may be ours. -/
def OkOurs (l:List Ot):Prop:=OkO l∧∀ o∈l,o.t = 5->o.d.length = 4
theorem ok_ask {r:Rule}:OkOurs (askR r):=by
 unfold OkOurs OkO askR
 cases r.ip
 · refine ⟨⟨?_,?_⟩,?_⟩
   · intro o ho
     simp only [List.mem_cons,List.not_mem_nil,or_false] at ho
     rcases ho with rfl | rfl <;> simp [fourO]
   · simp [otsB,otB,fourO]
   · intro o ho
     simp only [List.mem_cons,List.not_mem_nil,or_false] at ho
     rcases ho with rfl | rfl <;> simp [fourO]
 · refine ⟨⟨?_,?_⟩,?_⟩
   · intro o ho
     simp only [List.mem_cons,List.not_mem_nil,or_false] at ho
     subst ho;simp [fourO]
   · simp [otsB,otB,fourO]
   · intro o ho
     simp only [List.mem_cons,List.not_mem_nil,or_false] at ho
     subst ho;simp
theorem otsB_drop (l:List Ot) (t:Nat):(otsB (dropO l t)).length≤(otsB l).length:=by
 induction l with
 | nil=>simp [dropO]
 | cons o l ih =>
   have e1:otsB (o :: l) = otB o++otsB l:=by simp [otsB]
   rw [e1,List.length_append]
   unfold dropO at ih ⊢
   rw [List.filter_cons]
   split
   · have e2:otsB (o :: l.filter fun o=>decide (o.t≠t)) = otB o++otsB (l.filter fun o=>decide (o.t≠t)):=by simp [otsB]
     rw [e2,List.length_append];omega
   · omega
theorem ok_drop {l:List Ot} (h:OkOurs l) (t:Nat):OkOurs (dropO l t) :=
 ⟨⟨fun o ho=>h.1.1 o (drop_sub o ho),Nat.le_trans (otsB_drop l t) h.1.2⟩,fun o ho=>h.2 o (drop_sub o ho)⟩
theorem ok_dropAll {l:List Ot} (h:OkOurs l) (m:List Ot):OkOurs (dropAll l m):=by
 unfold dropAll
 induction m generalizing l with
 | nil=>exact h
 | cons o m ih=>exact ih (ok_drop h o.t)
theorem putG_true (o:Ot):∀ l:List Ot,putG o true l = l
 | []=>rfl
 | x :: l=>by unfold putG;rw [if_neg (by simp),putG_true o l]
theorem otsB_put {o:Ot}:∀ {l:List Ot},(∀ x∈l,x.t = o.t->x.d.length = o.d.length)->(findO l o.t).isSome = true->(otsB (putO l o)).length = (otsB l).length∧∀ x∈putO l o,x = o ∨ x∈l
 | [],_,h=>by cases h
 | x :: l,hl,h=>by
   have e1:otsB (x :: l) = otB x++otsB l:=by simp [otsB]
   by_cases e:x.t = o.t
   · have e2:putO (x :: l) o = o :: l:=by
      show putG o false (x :: l) = _
      unfold putG
      rw [if_pos ⟨rfl,e⟩,putG_true]
     rw [e2,e1]
     have e3:otsB (o :: l) = otB o++otsB l:=by simp [otsB]
     refine ⟨?_,fun y hy=>?_⟩
     · rw [e3,List.length_append,List.length_append]
       have:=hl x (by simp) e
       simp [otB,this]
     · rcases List.mem_cons.1 hy with hy | hy
       · exact .inl hy
       · exact .inr (by simp [hy])
   · have e2:putO (x :: l) o = x :: putO l o:=by
      show putG o false (x :: l) = _
      unfold putG
      rw [if_neg fun k=>e k.2];rfl
     have hf:(findO l o.t).isSome = true:=by
      unfold findO at h ⊢
      rw [List.find?_cons] at h
      simpa [e] using h
     obtain ⟨h1,h2⟩:=otsB_put (o:=o) (l:=l) (fun y hy=>hl y (by simp [hy])) hf
     rw [e2,e1]
     have e3:otsB (x :: putO l o) = otB x++otsB (putO l o):=by simp [otsB]
     refine ⟨by rw [e3,List.length_append,List.length_append,h1],fun y hy=>?_⟩
     rcases List.mem_cons.1 hy with hy | hy
     · exact .inr (by simp [hy])
     · rcases h2 y hy with h | h
       · exact .inl h
       · exact .inr (by simp [h])
theorem ok_turn {r:Rule} {ours:List Ot} (h:OkOurs ours) (c:Nat) (l:List Ot):OkOurs (turnR r ours c l).1:=by
 unfold turnR
 split
 · exact h
 split
 · exact ok_dropAll h l
 split
 · exact h
 rename_i c3
 have hf:(findO ours 5).isSome = true:=by
  cases hf:(findO ours 5).isSome
  · exact absurd (.inr (.inr hf)) c3
  · rfl
 obtain ⟨h1,h2⟩:=otsB_put (o:=⟨5,fourO r.other⟩) (l:=ours) (fun x hx ht=>h.2 x hx ht) hf
 refine ⟨⟨fun o ho=>?_,by rw [h1];exact h.1.2⟩,fun o ho ht=>?_⟩
 · rcases h2 o ho with rfl | ho
   · simp [fourO]
   · exact h.1.1 o ho
 · rcases h2 o ho with rfl | ho
   · simp [fourO]
   · exact h.2 o ho ht
theorem rightN_iff {n:Ng}:RightN n ↔ RightA n.a∧(0≤n.naks∧n.naks≤3)∧OkOurs n.ours:=by
 unfold RightN OkOurs
 exact Iff.rfl
theorem fresh_right {n:Ng} (h1:0≤n.naks∧n.naks≤3) (h2:OkOurs n.ours) (was:Int) (l:List Int):(0≤(freshN n was l).naks∧(freshN n was l).naks≤3)∧OkOurs (freshN n was l).ours∧(freshN n was l).a = n.a∧(freshN n was l).r = n.r:=by
 unfold freshN
 split
 · exact ⟨by simp only;omega,ok_ask,rfl,rfl⟩
 · exact ⟨h1,h2,rfl,rfl⟩
/-- What an event leaves. -/
theorem event_right {n:Ng} (h:RightN n) (hi:n.a.id < 256) (e:Int) (reply:Pk) (id:Nat):RightN (eventN n e reply id).n∧(eventN n e reply id).n.a = doA n.a e∧(eventN n e reply id).n.r = n.r∧UpDown n.a.s (eventN n e reply id).n.a.s (eventN n e reply id).told∧(eventN n e reply id).l = doL n.a e:=by
 obtain ⟨h1,h2,h3⟩:=rightN_iff.1 h
 unfold eventN
 by_cases hz:doE n.a e = 0
 · rw [if_pos hz]
   obtain ⟨k1,k2,k3,k4⟩:=fresh_right (n:={ n with a:=doA n.a e }) h2 h3 n.a.s (doL n.a e)
   unfold actedN
   refine ⟨rightN_iff.2 ⟨?_,k1,k2⟩,k3,k4,?_,rfl⟩
   · rw [k3];exact right_do h1 hi
   · simp only [k3]
     exact toldL_up (do_upDown n.a e)
 · rw [if_neg hz]
   obtain ⟨k1,k2,-⟩:=do_not (a:=n.a) (e:=e) fun k=>hz (do_zero.2 k)
   rw [k1,k2]
   exact ⟨h,rfl,rfl,upDown_same _,rfl⟩
theorem do_right4 {n:Ng} (h:RightN n) (hi:n.a.id < 256) (e:Int):RightN (doN n e).n∧UpDown n.a.s (doN n e).n.a.s (doN n e).told:=by
 unfold doN
 split
 · have:=event_right h hi e noP 0
   exact ⟨this.1,this.2.2.2.1⟩
 · exact ⟨h,upDown_same _⟩
theorem tick_right4 {n:Ng} (h:RightN n) (hi:n.a.id < 256):RightN (tickN n).n∧UpDown n.a.s (tickN n).n.a.s (tickN n).told:=by
 obtain ⟨h1,h2,h3⟩:=rightN_iff.1 h
 unfold tickN actedN
 obtain ⟨k1,k2,k3,k4⟩:=fresh_right (n:={ n with a:=tickA n.a }) h2 h3 n.a.s (tickL n.a)
 refine ⟨rightN_iff.2 ⟨?_,k1,k2⟩,?_⟩
 · rw [k3];exact right_tick h1 hi
 · simp only [k3]
   exact toldL_up (tick_upDown h1)
theorem good_keeps (o:OutN) (l:List Ot):(goodN o l).n.a = o.n.a∧(goodN o l).n.r = o.n.r∧(goodN o l).n.ours = o.n.ours∧(goodN o l).told = o.told∧(goodN o l).sent = o.sent∧(goodN o l).l = o.l∧((goodN o l).n.naks = o.n.naks ∨ (goodN o l).n.naks = 0):=by
 unfold goodN
 split
 · exact ⟨rfl,rfl,rfl,rfl,rfl,rfl,.inr rfl⟩
 · exact ⟨rfl,rfl,rfl,rfl,rfl,rfl,.inl rfl⟩
theorem poor_keeps (o:OutN) (c:Nat):(poorN o c).n.a = o.n.a∧(poorN o c).n.r = o.n.r∧(poorN o c).n.ours = o.n.ours∧(poorN o c).told = o.told∧(poorN o c).sent = o.sent∧(poorN o c).l = o.l∧((poorN o c).n.naks = o.n.naks ∨ (poorN o c).n.naks = min 3 (o.n.naks + 1)):=by
 unfold poorN
 split
 · exact ⟨rfl,rfl,rfl,rfl,rfl,rfl,.inr rfl⟩
 · exact ⟨rfl,rfl,rfl,rfl,rfl,rfl,.inl rfl⟩
theorem zero_right {n:Ng} (h:RightN n):RightN (zeroN n)∧(zeroN n).a = n.a∧(zeroN n).r = n.r∧(zeroN n).ours = n.ours:=by
 unfold zeroN
 split
 · obtain ⟨h1,h2,h3⟩:=rightN_iff.1 h
   exact ⟨rightN_iff.2 ⟨h1,by simp,h3⟩,rfl,rfl,rfl⟩
 · exact ⟨h,rfl,rfl,rfl⟩
/-- What a request leaves: an event,but for how often we refused,and what the peer has. -/
theorem req_shape (n:Ng) (p:Pk) (l:List Ot):∃ e reply,(e = 6 ∨ e = 7)∧reply = (⟨(answerR n.r l (zeroN n).naks).1,p.i,optB (answerR n.r l (zeroN n).naks).2⟩:Pk)∧(reqN n p l).n.a = (eventN (zeroN n) e reply p.i).n.a∧(reqN n p l).n.r = (eventN (zeroN n) e reply p.i).n.r∧(reqN n p l).n.ours = (eventN (zeroN n) e reply p.i).n.ours∧(reqN n p l).told = (eventN (zeroN n) e reply p.i).told∧(reqN n p l).sent = (eventN (zeroN n) e reply p.i).sent∧(0≤(eventN (zeroN n) e reply p.i).n.naks->(eventN (zeroN n) e reply p.i).n.naks≤3->0≤(reqN n p l).n.naks∧(reqN n p l).n.naks≤3):=by
 refine ⟨if (answerR n.r l (zeroN n).naks).1 = 2 then 6 else 7,_,by split <;> simp,rfl,?_⟩
 have e0:reqN n p l = poorN (goodN (eventN (zeroN n) (if (answerR n.r l (zeroN n).naks).1 = 2 then 6 else 7) ⟨(answerR n.r l (zeroN n).naks).1,p.i,optB (answerR n.r l (zeroN n).naks).2⟩ p.i) l) (answerR n.r l (zeroN n).naks).1:=rfl
 rw [e0]
 generalize eventN (zeroN n) _ _ _ = o
 obtain ⟨a1,a2,a3,a4,a5,-,a6⟩:=good_keeps o l
 obtain ⟨b1,b2,b3,b4,b5,-,b6⟩:=poor_keeps (goodN o l) (answerR n.r l (zeroN n).naks).1
 refine ⟨by rw [b1,a1],by rw [b2,a2],by rw [b3,a3],by rw [b4,a4],by rw [b5,a5],fun h1 h2=>?_⟩
 omega
theorem take_right4 {n:Ng} (h:RightN n) (hi:n.a.id < 256) (p:Pk):RightN (takeN n p).n∧UpDown n.a.s (takeN n p).n.a.s (takeN n p).told∧(takeN n p).n.r = n.r:=by
 have none:RightN (none4 n).n∧UpDown n.a.s (none4 n).n.a.s (none4 n).told∧(none4 n).n.r = n.r:=⟨h,upDown_same _,rfl⟩
 have ev:∀ e reply id,RightN (eventN n e reply id).n∧UpDown n.a.s (eventN n e reply id).n.a.s (eventN n e reply id).told∧(eventN n e reply id).n.r = n.r:=fun e reply id=>by
  have:=event_right h hi e reply id
  exact ⟨this.1,this.2.2.2.1,this.2.2.1⟩
 unfold takeN
 split
 · exact none
 split
 · exact ev _ _ _
 split
 · unfold requestN
   split
   · obtain ⟨e,reply,-,-,k1,k2,k3,k4,-,k5⟩:=req_shape n p (gotO p.d)
     obtain ⟨z1,z2,z3,z4⟩:=zero_right h
     have:=event_right z1 (by rw [z2];exact hi) e reply p.i
     obtain ⟨m1,m2,m3⟩:=rightN_iff.1 this.1
     refine ⟨rightN_iff.2 ⟨by rw [k1];exact m1,k5 m2.1 m2.2,by rw [k3];exact m3⟩,?_,by rw [k2,this.2.2.1,z3]⟩
     rw [k1,k4,<- z2]
     exact this.2.2.2.1
   · exact none
 split
 · split
   · exact ev _ _ _
   · exact none
 split
 · unfold answeredN
   split
   · split
     · have h':RightN { n with ours:=(turnR n.r n.ours p.c (gotO p.d)).1 }:=by
        obtain ⟨h1,h2,h3⟩:=rightN_iff.1 h
        exact rightN_iff.2 ⟨h1,h2,ok_turn h3 _ _⟩
       have:=event_right h' hi 9 noP p.i
       exact ⟨this.1,this.2.2.2.1,this.2.2.1⟩
     · exact ev _ _ _
   · exact none
 split
 · exact ev _ _ _
 split
 · exact ev _ _ _
 split
 · split <;> exact ev _ _ _
 split
 · split <;> exact ev _ _ _
 split
 · split
   · exact ev _ _ _
   · exact none
 · exact none
end Ne
namespace Ne
open Op9 Ru Fs Pa
/-- What sends. -/
def Sender (x:Int):Bool:=decide (x = 7 ∨ x = 8 ∨ x = 9 ∨ x = 10 ∨ x = 11 ∨ x = 12 ∨ x = 13)
theorem tab_sends:∀ (s:Fin 10) (e:Fin 16),((nextF s.val e.val).1.filter Sender).length≤2:=by decide +kernel
theorem sentL_count (n:Ng) (reply term:Pk):∀ l:List Int,(sentL n reply term l).length≤(l.filter Sender).length
 | []=>by simp [sentL]
 | x :: l=>by
   have ih:=sentL_count n reply term l
   have e:sentL n reply term (x :: l) = sentBy n reply term x++sentL n reply term l:=rfl
   have h1:=sentBy_le n reply term x
   rw [e,List.length_append,List.filter_cons]
   split
   · rw [List.length_cons];omega
   · rename_i h
     have:sentBy n reply term x = []:=by
      unfold Sender at h
      simp only [decide_eq_true_eq] at h
      unfold sentBy
      rw [if_neg (by omega),if_neg (by omega),if_neg (by omega),if_neg (by omega)]
     rw [this];simpa using ih
theorem sentL_mem {n:Ng} {reply term x:Pk} {l:List Int} (h:x∈sentL n reply term l):x = ⟨1,n.a.id,optB n.ours⟩ ∨ x = ⟨5,n.a.id,[]⟩ ∨ x = term ∨ x = reply:=by
 unfold sentL at h
 obtain ⟨y,-,hy⟩:=List.mem_flatMap.1 h
 unfold sentBy at hy
 split at hy
 · exact .inl (List.mem_singleton.1 hy)
 split at hy
 · exact .inr (.inl (List.mem_singleton.1 hy))
 split at hy
 · exact .inr (.inr (.inl (List.mem_singleton.1 hy)))
 split at hy
 · exact .inr (.inr (.inr (List.mem_singleton.1 hy)))
 · cases hy
theorem event_sent (n:Ng) (e:Int) (reply:Pk) (id:Nat):(eventN n e reply id).sent.length≤2∧∀ x∈(eventN n e reply id).sent,x = ⟨1,(eventN n e reply id).n.a.id,optB (eventN n e reply id).n.ours⟩ ∨ x = ⟨5,(eventN n e reply id).n.a.id,[]⟩ ∨ x = ⟨6,id,[]⟩ ∨ x = reply:=by
 unfold eventN
 split
 · unfold actedN
   refine ⟨Nat.le_trans (sentL_count _ _ _ _) ?_,fun x hx=>sentL_mem hx⟩
   rename_i hz
   have hn:=do_zero.1 hz
   rw [(do_next hn).2.1]
   obtain ⟨hs,he⟩:=in_table hn
   exact table_all (fun s e=>((nextF s e).1.filter Sender).length≤2) tab_sends hs he
 · exact ⟨by simp [none4],fun x hx=>by cases hx⟩
theorem opt_back {l:List Ot} (h:OkO l):readL (optB l) = some l:=by
 unfold optB
 rw [if_pos h]
 exact readL_back l
theorem got_back {b:List Nat} {l:List Ot} (hb:∀ x∈b,x < 256) (hn:b.length≤1496) (h:readL b = some l):OkO l∧optB l = b:=by
 obtain ⟨h1,h2⟩:=readL_forth hb h
 have ok:OkO l:=⟨fun o ho=>(h2 o ho).2,by rw [<- h1];exact hn⟩
 exact ⟨ok,by unfold optB;rw [if_pos ok,h1]⟩
theorem err_zero {b:List Nat}:errO b = 0 ↔ readL b = some (gotO b):=by
 unfold errO gotO
 cases readL b <;> simp
/-- What may be sent in answer to a packet. -/
structure AckOk (m:Ng) (p x:Pk):Prop where
 ack:x.c = 2->p.c = 1∧x.i = p.i∧x.d = p.d
 req:x.c = 1->x.i = m.a.id∧readL x.d = some m.ours
 id:x.c = 6 ∨ x.c = 10 ∨ x.c = 3 ∨ x.c = 4->x.i = p.i
 len:x.d.length≤1496
def AcksOk (p:Pk) (o:OutN):Prop:=o.sent.length≤2∧∀ x∈o.sent,AckOk o.n p x
set_option maxHeartbeats 1000000 in
theorem take_acks {n:Ng} (h:RightN n) (hi:n.a.id < 256) {p:Pk} (tp:p.Ty) (hp:p.d.length≤1496):AcksOk p (takeN n p):=by
 have none:AcksOk p (none4 n):=⟨by simp [none4],fun x hx=>by cases hx⟩
 have ev:∀ (n':Ng),RightN n'->n'.a.id < 256->∀ e (reply:Pk),((reply.c = 2->p.c = 1∧reply.i = p.i∧reply.d = p.d)∧reply.c≠1∧((reply.c = 6 ∨ reply.c = 10 ∨ reply.c = 3 ∨ reply.c = 4)->reply.i = p.i)∧reply.d.length≤1496)->AcksOk p (eventN n' e reply p.i):=fun n' hn' hi' e reply hr=>by
  obtain ⟨k1,k2⟩:=event_sent n' e reply p.i
  have hR:=rightN_iff.1 (event_right hn' hi' e reply p.i).1
  refine ⟨k1,fun x hx=>?_⟩
  rcases k2 x hx with rfl | rfl | rfl | rfl
  · exact ⟨fun k=>by simp at k,fun _=>⟨rfl,opt_back hR.2.2.1⟩,fun k=>by simp at k,optB_le _⟩
  · exact ⟨fun k=>by simp at k,fun k=>by simp at k,fun k=>by simp at k,by simp⟩
  · exact ⟨fun k=>by simp at k,fun k=>by simp at k,fun _=>rfl,by simp⟩
  · exact ⟨hr.1,fun k=>absurd k hr.2.1,hr.2.2.1,hr.2.2.2⟩
 have no:∀ e,AcksOk p (eventN n e noP p.i):=fun e=>ev n h hi e noP ⟨fun k=>by simp [noP] at k,by simp [noP],fun k=>by simp [noP] at k,by simp [noP]⟩
 unfold takeN
 split
 · exact none
 split
 · refine ev n h hi _ _ ⟨fun k=>by simp [rejP] at k,by simp [rejP],fun k=>by simp [rejP] at k,?_⟩
   unfold rejP
   simp only [List.length_take]
   omega
 split
 · rename_i hc1
   unfold requestN
   split
   · rename_i he
     obtain ⟨g1,g2⟩:=got_back tp.d hp (err_zero.1 he)
     obtain ⟨e,reply,-,hrep,k1,k2,k3,k4,k5,-⟩:=req_shape n p (gotO p.d)
     obtain ⟨z1,z2,z3,z4⟩:=zero_right h
     have:=ev (zeroN n) z1 (by rw [z2];exact hi) e reply ⟨fun k=>?_,?_,fun k=>?_,?_⟩
     · unfold AcksOk
       rw [k5]
       refine ⟨this.1,fun x hx=>?_⟩
       obtain ⟨q1,q2,q3,q4⟩:=this.2 x hx
       exact ⟨q1,by rw [k1,k3];exact q2,q3,q4⟩
     · rw [hrep] at k ⊢
       simp only at k ⊢
       rw [(answer_two k).1]
       exact ⟨hc1,trivial,g2⟩
     · rw [hrep]
       rcases answer_codes n.r (gotO p.d) (zeroN n).naks with q | q | q <;> simp [q]
     · rw [hrep]
     · rw [hrep];exact optB_le _
   · exact none
 split
 · split
   · exact no _
   · exact none
 split
 · unfold answeredN
   split
   · split
     · have h':RightN { n with ours:=(turnR n.r n.ours p.c (gotO p.d)).1 }:=by
        obtain ⟨h1,h2,h3⟩:=rightN_iff.1 h
        exact rightN_iff.2 ⟨h1,h2,ok_turn h3 _ _⟩
       exact ev _ h' hi 9 noP ⟨fun k=>by simp [noP] at k,by simp [noP],fun k=>by simp [noP] at k,by simp [noP]⟩
     · exact no _
   · exact none
 split
 · exact no _
 split
 · exact no _
 split
 · split <;> exact no _
 split
 · split <;> exact no _
 split
 · split
   · refine ev n h hi _ _ ⟨fun k=>by simp at k,by simp,fun _=>rfl,?_⟩
     simp only [echoD,List.length_append,List.length_drop]
     have:(fourO (magicN n)).length = 4:=rfl
     omega
   · exact none
 · exact none
/-- An event that does nothing but send. -/
theorem do_idle {a:Au} (h:RightA a) {e:Int} {l:List Int} (hn:nextF a.s e = (l,a.s,true)) (h5:5 ∉ l) (h6:6 ∉ l) (h7:7 ∉ l) (h10:10 ∉ l):doA a e = a∧doL a e = l∧doE a e = 0:=by
 have ht:(nextF a.s e).2.2 = true:=by rw [hn]
 obtain ⟨-,h2,h3⟩:=do_next ht
 refine ⟨?_,by rw [h2,hn],h3⟩
 unfold doA
 rw [if_pos ht,hn]
 have fo:∀ (ends:Bool) (m:List Int) (b:Au),5 ∉ m->6 ∉ m->7 ∉ m->10 ∉ m->m.foldl (stepA ends) b = b:=by
  intro ends m
  induction m with
  | nil=>intro b _ _ _ _;rfl
  | cons x m ih =>
    intro b a5 a6 a7 a10
    simp only [List.mem_cons,not_or] at a5 a6 a7 a10
    rw [List.foldl_cons]
    have:stepA ends b x = b:=by
     unfold stepA
     rw [if_neg (fun k=>a5.1 k.symm),if_neg (fun k=>a6.1 k.symm),if_neg (by rintro (k | k);exact a7.1 k.symm;exact a10.1 k.symm)]
    rw [this]
    exact ih b a5.2 a6.2 a7.2 a10.2
 unfold setA foldA
 rw [fo _ _ _ h5 h6 h7 h10]
 obtain ⟨s,c,l',id⟩:=a
 simp only [Au.mk.injEq,true_and,and_true]
 rcases h.2.2 with ⟨k,_⟩ | ⟨k,k2⟩
 · exact if_pos k
 · simp only at k k2
   rw [if_neg k,k2]
theorem event_idle {n:Ng} (h:RightA n.a) {e:Int} {l:List Int} (hn:nextF n.a.s e = (l,n.a.s,true)) (h5:5 ∉ l) (h6:6 ∉ l) (h7:7 ∉ l) (h10:10 ∉ l) (reply:Pk) (id:Nat):eventN n e reply id = ⟨n,sentL n reply ⟨6,id,[]⟩ l,toldL l,l⟩:=by
 obtain ⟨h1,h2,h3⟩:=do_idle h hn h5 h6 h7 h10
 unfold eventN
 rw [if_pos h3,h1,h2]
 unfold actedN freshN
 rw [if_neg fun k=>h5 k.1]
theorem tab_code:∀ s:Fin 10,2≤(s.val:Int)->nextF s.val 12 = (([12],(s.val:Int),true):R3):=by decide +kernel
theorem tab_echo:∀ s:Fin 10,2≤(s.val:Int)->nextF s.val 15 = ((if (s.val:Int) = 9 then [13] else [],(s.val:Int),true):R3):=by decide +kernel
theorem take_code {n:Ng} (h:RightN n) {p:Pk} (hc:¬ (1≤p.c∧p.c≤11)):takeN n p = if n.a.s < 2 then none4 n else ⟨n,[rejP p n.a.id],[],[12]⟩:=by
 unfold takeN
 split
 · rfl
 rename_i h2
 rw [if_pos (show oddC n p by unfold oddC;omega)]
 obtain ⟨hs,-⟩:=h.1
 have e:=tab_code ⟨n.a.s.toNat,by omega⟩
 simp only [Int.toNat_of_nonneg hs.1] at e
 rw [event_idle h.1 (e (by omega)) (by decide) (by decide) (by decide) (by decide)]
 rfl
theorem take_echo {n:Ng} (h:RightN n) (hr:n.r.ip = false) {p:Pk} (hc:p.c = 9):takeN n p = if n.a.s = 9∧4≤p.d.length then ⟨n,[⟨10,p.i,echoD n p⟩],[],[13]⟩ else ⟨n,[],[],if 2≤n.a.s∧4≤p.d.length then [] else []⟩:=by
 unfold takeN
 obtain ⟨hs,-⟩:=h.1
 by_cases h2:n.a.s < 2
 · rw [if_pos h2,if_neg (by omega)]
   simp [none4]
 rw [if_neg h2,if_neg (show ¬ oddC n p by unfold oddC;rw [hr,hc];simp),if_neg (by omega),if_neg (by omega),if_neg (by omega),if_neg (by omega),if_neg (by omega),if_neg (by omega),if_neg (by omega),if_pos hc]
 by_cases h4:4≤p.d.length
 · rw [if_pos h4]
   have e:=tab_echo ⟨n.a.s.toNat,by omega⟩
   simp only [Int.toNat_of_nonneg hs.1] at e
   have e:=e (by omega)
   by_cases h9:n.a.s = 9
   · rw [if_pos h9] at e
     rw [if_pos ⟨h9,h4⟩,event_idle h.1 e (by decide) (by decide) (by decide) (by decide)]
     rfl
   · rw [if_neg h9] at e
     rw [if_neg fun k=>h9 k.1,event_idle h.1 e (by decide) (by decide) (by decide) (by decide)]
     simp [sentL,toldL]
 · rw [if_neg h4,if_neg fun k=>h4 k.2]
   simp [none4]
theorem rej_shape {p:Pk} (h:p.d.length≤1400) (id:Nat):(rejP p id).d = p.c :: p.i :: ((4 + p.d.length) / 256) :: ((4 + p.d.length) % 256) :: p.d∧(rejP p id).d.length = 4 + p.d.length:=by
 have e:(rejP p id).d = p.c :: p.i :: ((4 + p.d.length) / 256) :: ((4 + p.d.length) % 256) :: p.d:=by
  unfold rejP pkB
  rw [if_pos (by omega)]
  exact List.take_of_length_le (by simp only [List.length_cons];omega)
 exact ⟨e,by rw [e];simp only [List.length_cons];omega⟩
theorem echo_shape {n:Ng} {p:Pk} (h:4≤p.d.length) (hm:magicN n < 4294967296):(echoD n p).length = p.d.length∧numO ((echoD n p).take 4) = magicN n∧(echoD n p).drop 4 = p.d.drop 4:=by
 have hl:(fourO (magicN n)).length = 4:=rfl
 unfold echoD
 refine ⟨by rw [List.length_append,hl,List.length_drop];omega,?_,?_⟩
 · rw [<- hl,List.take_left];exact four_num hm
 · rw [<- hl,List.drop_left]
end Ne
namespace Ne
open Op9 Ru Fs Pa
/-- A protocol whose numbers are numbers. -/
structure TyN (n:Ng):Prop where
 r:n.r.Ty
 id:n.a.id < 256
 ours:∀ o∈n.ours,o.Ty
 peer:n.peer.length≤1500∧∀ o∈n.peer,o.Ty∧o.d.length≤253
theorem ask_ty {r:Rule} (h:r.Ty):∀ o∈askR r,o.Ty:=by
 intro o ho
 unfold askR at ho
 cases hi:r.ip
 · rw [hi] at ho
   simp only [List.mem_cons,List.not_mem_nil,or_false] at ho
   rcases ho with rfl | rfl
   · exact ⟨by show 3 < 256;decide,by simp⟩
   · exact ⟨by show 5 < 256;decide,four_lt h.magic⟩
 · rw [hi] at ho
   simp only [List.mem_cons,List.not_mem_nil,or_false] at ho
   subst ho
   exact ⟨by show 3 < 256;decide,four_lt h.ours⟩
theorem optB_lt {l:List Ot} (h:∀ o∈l,o.Ty):∀ x∈optB l,x < 256:=by
 intro x hx
 unfold optB at hx
 split at hx
 · rename_i hok
   exact otsB_lt (fun o ho=>⟨h o ho,hok.1 o ho⟩) x hx
 · cases hx
theorem got_ty {b:List Nat} (hb:∀ x∈b,x < 256):(gotO b).length≤b.length∧∀ o∈gotO b,o.Ty∧o.d.length≤253:=by
 refine ⟨(got_fine hb).1,?_⟩
 unfold gotO
 cases h:readL b with
 | none=>intro o ho;cases ho
 | some l=>exact fun o ho=>(readL_forth hb h).2 o ho
theorem putO_mem {o x:Ot}:∀ {l:List Ot},x∈putO l o->x = o ∨ x∈l:=by
 have go:∀ (l:List Ot) (lg:Bool),x∈putG o lg l->x = o ∨ x∈l:=by
  intro l
  induction l with
  | nil=>intro lg h;cases lg <;> simp [putG] at h;exact .inl h
  | cons y l ih =>
    intro lg h
    unfold putG at h
    split at h
    · rcases List.mem_cons.1 h with h | h
      · exact .inl h
      · rcases ih _ h with q | q
        · exact .inl q
        · exact .inr (by simp [q])
    · rcases List.mem_cons.1 h with h | h
      · exact .inr (by simp [h])
      · rcases ih _ h with q | q
        · exact .inl q
        · exact .inr (by simp [q])
 exact fun {l} h=>go l false h
theorem turn_ty {r:Rule} (hr:r.Ty) {ours:List Ot} (h:∀ o∈ours,o.Ty) (c:Nat) (l:List Ot):∀ o∈(turnR r ours c l).1,o.Ty:=by
 intro o ho
 unfold turnR at ho
 split at ho
 · exact h o ho
 split at ho
 · exact h o (dropAll_mem.1 ho).1
 split at ho
 · exact h o ho
 · rcases putO_mem ho with rfl | ho
   · exact ⟨by show 5 < 256;decide,four_lt hr.other⟩
   · exact h o ho
theorem should_ty {r:Rule} (hr:r.Ty) {o:Ot} (ho:o.Ty):(shouldR r o).1.Ty:=by
 unfold shouldR
 cases r.ip
 · simp only
   split
   · exact ⟨by show 1 < 256;decide,by simp⟩
   split
   · exact ⟨by show 5 < 256;decide,four_lt hr.other⟩
   · exact ho
 · exact ⟨by show 3 < 256;decide,four_lt hr.addr⟩
theorem answer_ty {r:Rule} (hr:r.Ty) {l:List Ot} (h:∀ o∈l,o.Ty) (n:Int):∀ o∈(answerR r l n).2,o.Ty:=by
 intro o ho
 unfold answerR at ho
 split at ho
 · exact h o (List.mem_filter.1 ho).1
 split at ho
 · exact h o (List.mem_filter.1 ho).1
 split at ho
 · unfold toA toR at ho
   rcases List.mem_append.1 ho with ho | ho
   · obtain ⟨x,hx,rfl⟩:=List.mem_map.1 ho
     exact should_ty hr (h x (List.mem_filter.1 hx).1)
   · split at ho
     · rw [List.mem_singleton.1 ho];exact ⟨by show 3 < 256;decide,four_lt hr.addr⟩
     · cases ho
 · exact h o ho
/-- A packet that may be sent. -/
def PkOk (p:Pk):Prop:=p.Ty∧p.d.length≤1496
theorem noP_ok:PkOk noP:=⟨noP_ty,by simp [noP]⟩
/-- What a protocol does: numbers stay numbers;packets that may be sent. -/
def TyDid (o:OutN):Prop:=TyN o.n∧∀ p∈o.sent,PkOk p
theorem fresh_ty {n:Ng} (h:TyN n) (was:Int) (l:List Int):TyN (freshN n was l):=by
 unfold freshN
 split
 · exact ⟨h.r,h.id,ask_ty h.r,by simp,(fun o ho=>by cases ho)⟩
 · exact h
theorem sent_ok {n:Ng} (h:TyN n) {reply term:Pk} (hr:PkOk reply) (ht:PkOk term) (l:List Int):∀ p∈sentL n reply term l,PkOk p:=fun p hp=>by
 rcases sentL_mem hp with rfl | rfl | rfl | rfl
 · exact ⟨⟨by show 1 < 256;decide,h.id,optB_lt h.ours⟩,Ne.optB_le _⟩
 · exact ⟨⟨by show 5 < 256;decide,h.id,by simp⟩,by simp⟩
 · exact ht
 · exact hr
theorem acted_ty {n:Ng} (h:TyN n) {reply term:Pk} (hr:PkOk reply) (ht:PkOk term) (was:Int) (l:List Int):TyDid (actedN n was l reply term):=⟨fresh_ty h was l,sent_ok (fresh_ty h was l) hr ht l⟩
theorem none_ty {n:Ng} (h:TyN n):TyDid (none4 n):=⟨h,(fun p hp=>by cases hp)⟩
theorem event_ty {n:Ng} (h:TyN n) (hR:RightN n) (e:Int) {reply:Pk} (hr:PkOk reply) {id:Nat} (hi:id < 256):TyDid (eventN n e reply id):=by
 unfold eventN
 split
 · exact acted_ty (n:={ n with a:=doA n.a e }) ⟨h.r,(doA_fit hR.1.2.1 h.id).2,h.ours,h.peer⟩ hr ⟨⟨by show 6 < 256;decide,hi,by simp⟩,by simp⟩ _ _
 · exact none_ty h
theorem do_ty {n:Ng} (h:TyN n) (hR:RightN n) (e:Int):TyDid (doN n e):=by
 unfold doN
 split
 · exact event_ty h hR e noP_ok (by decide)
 · exact none_ty h
theorem tick_ty {n:Ng} (h:TyN n) (hR:RightN n):TyDid (tickN n):=acted_ty (n:={ n with a:=tickA n.a }) ⟨h.r,(tickA_fit hR.1.2.1 h.id).2,h.ours,h.peer⟩ noP_ok noP_ok _ _
theorem good_ty {o:OutN} (h:TyDid o) {l:List Ot} (hl:l.length≤1500∧∀ o∈l,o.Ty∧o.d.length≤253):TyDid (goodN o l):=by
 unfold goodN
 split
 · exact ⟨⟨h.1.r,h.1.id,h.1.ours,hl⟩,h.2⟩
 · exact h
theorem poor_ty {o:OutN} (h:TyDid o) (c:Nat):TyDid (poorN o c):=by
 unfold poorN
 split
 · exact ⟨⟨h.1.r,h.1.id,h.1.ours,h.1.peer⟩,h.2⟩
 · exact h
set_option maxHeartbeats 2000000 in
theorem take_ty {n:Ng} (h:TyN n) (hR:RightN n) {p:Pk} (hp:p.Ty) (hn:p.d.length≤1496):TyDid (takeN n p):=by
 have ev:∀ e,TyDid (eventN n e noP p.i):=fun e=>event_ty h hR e noP_ok hp.i
 unfold takeN
 split
 · exact none_ty h
 split
 · have hrep:PkOk (rejP p n.a.id):=by
    refine ⟨⟨by show 7 < 256;decide,h.id,fun x hx=>pkB_lt hp x (List.mem_of_mem_take hx)⟩,?_⟩
    simp only [rejP,List.length_take];omega
   exact event_ty h hR _ hrep hp.i
 split
 · unfold requestN
   split
   · obtain ⟨g1,g2⟩:=got_ty hp.d
     have hz:TyN (zeroN n):=by
      unfold zeroN
      split
      · exact ⟨h.r,h.id,h.ours,h.peer⟩
      · exact h
     have hzr:=(zero_right hR).1
     have hrep:PkOk ⟨(answerR n.r (gotO p.d) (zeroN n).naks).1,p.i,optB (answerR n.r (gotO p.d) (zeroN n).naks).2⟩:=by
      refine ⟨⟨?_,hp.i,optB_lt (answer_ty h.r (fun o ho=>(g2 o ho).1) _)⟩,Ne.optB_le _⟩
      show (answerR n.r (gotO p.d) (zeroN n).naks).1 < 256
      rcases answer_codes n.r (gotO p.d) (zeroN n).naks with q | q | q <;> omega
     have e0:reqN n p (gotO p.d) = poorN (goodN (eventN (zeroN n) (if (answerR n.r (gotO p.d) (zeroN n).naks).1 = 2 then 6 else 7) ⟨(answerR n.r (gotO p.d) (zeroN n).naks).1,p.i,optB (answerR n.r (gotO p.d) (zeroN n).naks).2⟩ p.i) (gotO p.d)) (answerR n.r (gotO p.d) (zeroN n).naks).1:=rfl
     rw [e0]
     exact poor_ty (good_ty (event_ty hz hzr _ hrep hp.i) ⟨by omega,g2⟩) _
   · exact none_ty h
 split
 · split
   · exact ev _
   · exact none_ty h
 split
 · unfold answeredN
   split
   · split
     · refine event_ty (n:={ n with ours:=(turnR n.r n.ours p.c (gotO p.d)).1 }) ⟨h.r,h.id,turn_ty h.r h.ours _ _,h.peer⟩ ?_ 9 noP_ok hp.i
       obtain ⟨h1,h2,h3⟩:=rightN_iff.1 hR
       exact rightN_iff.2 ⟨h1,h2,ok_turn h3 _ _⟩
     · exact ev _
   · exact none_ty h
 split
 · exact ev _
 split
 · exact ev _
 split
 · split <;> exact ev _
 split
 · split <;> exact ev _
 split
 · split
   · have hrep:PkOk ⟨10,p.i,echoD n p⟩:=by
      refine ⟨⟨by show 10 < 256;decide,hp.i,fun x hx=>?_⟩,?_⟩
      · have hx:x∈fourO (magicN n)++p.d.drop 4:=hx
        rcases List.mem_append.1 hx with hx | hx
        · exact four_lt (magicN_lt fun o ho=>(h.ours o ho).d) x hx
        · exact hp.d x (List.mem_of_mem_drop hx)
      · have:(fourO (magicN n)).length = 4:=rfl
        simp only [echoD,List.length_append,List.length_drop];omega
     exact event_ty h hR _ hrep hp.i
   · exact none_ty h
 · exact none_ty h
end Ne
namespace Ne
open Op9 Ru Fs Pa
/-- Packets handed over,one after another: the protocol then,and all that it sends. -/
def handN (y:Ng):List Pk->Ng × List Pk
 | []=>(y,[])
 | p :: s=>((handN (takeN y p).n s).1,(takeN y p).sent++(handN (takeN y p).n s).2)
/-- Both ways,so often. -/
def crossN:Nat->Ng × Ng × List Pk × List Pk->Ng × Ng × List Pk × List Pk
 | 0,z=>z
 | k + 1,(x,y,s,t)=>crossN k ((handN x t).1,(handN y s).1,(handN x t).2,(handN y s).2)
theorem hand_one (y:Ng) (p:Pk):handN y [p] = ((takeN y p).n,(takeN y p).sent):=by
 show ((takeN y p).n,(takeN y p).sent++[]) = _
 rw [List.append_nil]
theorem cross_succ (k:Nat) (x y:Ng) (s t:List Pk):crossN (k + 1) (x,y,s,t) = crossN k ((handN x t).1,(handN y s).1,(handN x t).2,(handN y s).2):=rfl
def roundN (z:Ng × Ng):Ng × Ng :=
 let c:=crossN 6 ((tickN z.1).n,(tickN z.2).n,(tickN z.1).sent,(tickN z.2).sent)
 (c.1,c.2.1)
def roundsN:Nat->Ng × Ng->Ng × Ng
 | 0,z=>z
 | k + 1,z=>roundsN k (roundN z)
def openedN (r:Rule):Ng:=(doN (doN ⟨⟨0,0,0,0⟩,r,askR r,0,[]⟩ 2).n 0).n
/-- A protocol of LCP that asks for its magic number,in a state. -/
def atN (s c l:Int) (id:Nat) (m o:Nat) (peer:List Ot):Ng:=⟨⟨s,c,l,id⟩,⟨false,m,o,0,0⟩,[⟨5,fourO m⟩],0,peer⟩
theorem opened_at (m o:Nat):(openedN ⟨false,m,o,0,0⟩) = ⟨⟨6,4,3,1⟩,⟨false,m,o,0,0⟩,askR ⟨false,m,o,0,0⟩,0,[]⟩:=rfl
theorem ok_five (m:Nat):OkO [⟨5,fourO m⟩]:=⟨by simp [fourO],by simp [otsB,otB,fourO]⟩
theorem drop_ask (m o:Nat):dropO (askR ⟨false,m,o,0,0⟩) 3 = [⟨5,fourO m⟩]:=by
 rw [ask_lcp rfl];rfl
theorem tick_six (m o:Nat) {c l:Int} (id:Nat) (peer:List Ot) (hl:1 < l):tickN (atN 6 c l id m o peer) = ⟨atN 6 c (l - 1) id m o peer,[],[],[]⟩:=by
 unfold tickN atN tickA tickL
 simp only
 rw [if_neg (by omega),if_pos hl,if_neg (by omega),if_pos hl]
 rfl
theorem tick_one (m o:Nat):tickN (atN 6 4 1 1 m o []) = ⟨atN 6 3 3 2 m o [],[⟨1,2,optB [⟨5,fourO m⟩]⟩],[],[7]⟩:=rfl
theorem tick_nine (m o:Nat) {c:Int} (id:Nat) (peer:List Ot):tickN (atN 9 c 0 id m o peer) = ⟨atN 9 c 0 id m o peer,[],[],[]⟩:=rfl
theorem take_req (m o n:Nat) (hn:n < 4294967296) (h1:n≠m) (h0:n≠0):takeN (atN 6 3 3 2 m o []) ⟨1,2,optB [⟨5,fourO n⟩]⟩ = ⟨atN 8 3 3 2 m o [⟨5,fourO n⟩],[⟨2,2,optB [⟨5,fourO n⟩]⟩],[],[8]⟩:=by
 have hr:errO (optB [(⟨5,fourO n⟩:Ot)]) = 0:=by unfold errO;rw [opt_back (ok_five n)];rfl
 have hg:gotO (optB [(⟨5,fourO n⟩:Ot)]) = [⟨5,fourO n⟩]:=by unfold gotO;rw [opt_back (ok_five n)];rfl
 have ha:answerR ⟨false,m,o,0,0⟩ [⟨5,fourO n⟩] 0 = (2,[⟨5,fourO n⟩]):=by
  refine answer_ack (fun x hx=>?_) (fun x hx=>?_) (fun h=>by cases h)
  · rw [List.mem_singleton.1 hx];rfl
  · rw [List.mem_singleton.1 hx]
    unfold shouldR
    simp only [four_num hn,Nat.reduceEqDiff,false_and,if_false,true_and]
    rw [if_neg (by omega)]
 generalize hq:optB [(⟨5,fourO n⟩:Ot)] = q at *
 generalize [(⟨5,fourO n⟩:Ot)] = l at *
 have e:takeN (atN 6 3 3 2 m o []) ⟨1,2,q⟩ = requestN (atN 6 3 3 2 m o []) ⟨1,2,q⟩:=rfl
 rw [e]
 unfold requestN
 simp only
 rw [if_pos hr,hg]
 have z:zeroN (atN 6 3 3 2 m o []) = atN 6 3 3 2 m o []:=rfl
 have n0:(atN 6 3 3 2 m o []).naks = 0:=rfl
 have r0:(atN 6 3 3 2 m o []).r = ⟨false,m,o,0,0⟩:=rfl
 unfold reqN
 rw [z,n0,r0,ha]
 simp only [if_true,hq]
 rfl
theorem take_ack (m o:Nat) (peer:List Ot):takeN (atN 8 3 3 2 m o peer) ⟨2,2,optB [⟨5,fourO m⟩]⟩ = ⟨atN 9 5 0 2 m o peer,[],[1],[5,1]⟩:=by
 have e:takeN (atN 8 3 3 2 m o peer) ⟨2,2,optB [⟨5,fourO m⟩]⟩ = if optB [⟨5,fourO m⟩] = optB [⟨5,fourO m⟩]∧2 = 2 then eventN (atN 8 3 3 2 m o peer) 8 noP 2 else none4 (atN 8 3 3 2 m o peer):=rfl
 rw [e,if_pos ⟨rfl,rfl⟩]
 rfl
theorem cross_still (x y:Ng):∀ k,crossN k (x,y,[],[]) = (x,y,[],[])
 | 0=>rfl
 | k + 1=>cross_still x y k
theorem round_six (a b o:Nat) {c l d k:Int} (i j:Nat) (hl:1 < l) (hk:1 < k):roundN (atN 6 c l i a o [],atN 6 d k j b o []) = (atN 6 c (l - 1) i a o [],atN 6 d (k - 1) j b o []):=by
 unfold roundN
 simp only
 rw [tick_six a o i [] hl,tick_six b o j [] hk]
 simp only
 rw [cross_still]
theorem round_one (a b o:Nat) (ha:a < 4294967296) (hb:b < 4294967296) (hab:a≠b) (a0:a≠0) (b0:b≠0):roundN (atN 6 4 1 1 a o [],atN 6 4 1 1 b o []) = (atN 9 5 0 2 a o [⟨5,fourO b⟩],atN 9 5 0 2 b o [⟨5,fourO a⟩]):=by
 unfold roundN
 simp only
 rw [tick_one a o,tick_one b o]
 simp only
 have c1:crossN 6 (atN 6 3 3 2 a o [],atN 6 3 3 2 b o [],[⟨1,2,optB [⟨5,fourO a⟩]⟩],[⟨1,2,optB [⟨5,fourO b⟩]⟩]) = crossN 5 (atN 8 3 3 2 a o [⟨5,fourO b⟩],atN 8 3 3 2 b o [⟨5,fourO a⟩],[⟨2,2,optB [⟨5,fourO b⟩]⟩],[⟨2,2,optB [⟨5,fourO a⟩]⟩]):=by
  rw [cross_succ,hand_one,hand_one,take_req a o b hb (fun e=>hab e.symm) b0,take_req b o a ha hab a0]
 have c2:crossN 5 (atN 8 3 3 2 a o [⟨5,fourO b⟩],atN 8 3 3 2 b o [⟨5,fourO a⟩],[⟨2,2,optB [⟨5,fourO b⟩]⟩],[⟨2,2,optB [⟨5,fourO a⟩]⟩]) = crossN 4 (atN 9 5 0 2 a o [⟨5,fourO b⟩],atN 9 5 0 2 b o [⟨5,fourO a⟩],[],[]):=by
  rw [cross_succ,hand_one,hand_one,take_ack a o [⟨5,fourO b⟩],take_ack b o [⟨5,fourO a⟩]]
 rw [c1,c2,cross_still]
theorem rounds_succ (k:Nat) (z:Ng × Ng):roundsN (k + 1) z = roundsN k (roundN z):=rfl
theorem round_nine (a b o:Nat) {c d:Int} (i j:Nat) (p q:List Ot):roundN (atN 9 c 0 i a o p,atN 9 d 0 j b o q) = (atN 9 c 0 i a o p,atN 9 d 0 j b o q):=by
 unfold roundN
 simp only
 rw [tick_nine a o i p,tick_nine b o j q]
 simp only
 rw [cross_still]
theorem rounds_nine (a b o:Nat) {c d:Int} (i j:Nat) (p q:List Ot):∀ k,roundsN k (atN 9 c 0 i a o p,atN 9 d 0 j b o q) = (atN 9 c 0 i a o p,atN 9 d 0 j b o q)
 | 0=>rfl
 | k + 1=>by
   rw [rounds_succ,round_nine,rounds_nine a b o i j p q k]
/-- Both come to be Opened. -/
theorem agree_at (a b o:Nat) (ha:a < 4294967296) (hb:b < 4294967296) (hab:a≠b) (a0:a≠0) (b0:b≠0):roundsN 12 (atN 6 4 3 1 a o [],atN 6 4 3 1 b o []) = (atN 9 5 0 2 a o [⟨5,fourO b⟩],atN 9 5 0 2 b o [⟨5,fourO a⟩]):=by
 rw [rounds_succ,round_six a b o 1 1 (by decide) (by decide),rounds_succ,round_six a b o 1 1 (by decide) (by decide),rounds_succ,show (3:Int) - 1 - 1 = 1 from rfl,round_one a b o ha hb hab a0 b0,rounds_nine]
end Ne
namespace Pa
open Fc
theorem high16p (a:Nat):(a:Int).fdiv 256 = ((a / 256:Nat):Int):=by rw [Int.fdiv_eq_ediv_of_nonneg _ (by decide)];omega
section
variable (Γ:Nat->Option (List Data))
theorem pclone_pc (b:List Nat) (hl:b.length≤1000000000):PC Tryz.prog Γ 85 [.sl 1 (bys b)] (.sl 1 (bys b)):=by
 refine pc_by mixed Tryz.func85 rfl (fun args w=>Tryz.call85 args w) ?_
 simp -implicitDefEqProofs (disch:=omega) [go_sem]
 refine fun q hq=>?_
 cases q
 · simp -implicitDefEqProofs (disch:=omega) [go_sem,Tryz.f85]
   exact ⟨_,⟨_,rfl,frz_bys (rw:=true) (by simp [go_sem]) (.inl rfl) (by simp [bys_length])⟩,rfl⟩
 · have h0:b = []:=by simpa [bys] using hq rfl
   subst h0
   simp -implicitDefEqProofs (disch:=omega) [go_sem,Tryz.f85]
   exact ⟨_,⟨_,rfl,.emp ..⟩,rfl⟩
theorem two_pc (n:Nat) (h:n < 65536):PC Tryz.prog Γ 115 [.int .u16 n] (.sl 1 (bys [n / 256,n % 256])):=by
 refine pc_by mixed Tryz.func115 rfl (fun args w=>Tryz.call115 args w) ?_
 simp -implicitDefEqProofs (disch:=omega) [go_sem,high16p,Tryz.f115]
 refine ⟨_,⟨_,rfl,frz_bys (rw:=true) (l:=[n / 256,n % 256]) ?_ (.inl rfl) rfl⟩,rfl⟩
 simp [go_sem,bys,u8]
 omega
theorem fitting_pc (b:List Nat) (h:b.length≤140737488351232):PC Tryz.prog Γ 91 [.sl 1 (bys b)] (.sl 1 (bys (b.take 1496))):=by
 refine pc_by mixed Tryz.func91 rfl (fun args w=>Tryz.call91 args w) ?_
 by_cases h1:b.length≤1496
 · have h2:¬ (1496:Int) < b.length:=by omega
   rw [List.take_of_length_le h1]
   simp -implicitDefEqProofs (disch:=omega) [go_sem,h2,Tryz.f91]
   exact ⟨_,⟨_,rfl,.ful _ _⟩,rfl⟩
 · have h2:(1496:Int) < b.length:=by omega
   simp -implicitDefEqProofs (disch:=omega) [go_sem,h2,Tryz.f91]
   exact ⟨_,⟨_,rfl,.ful _ _⟩,rfl⟩
def codesD:Data:=.mp [.int .u16 49185,.int .u16 49699,.int .u16 32801] [.agg [.int .u8 1,.int .u8 11],.agg [.int .u8 1,.int .u8 4],.agg [.int .u8 1,.int .u8 7]]
theorem codes_pc:PC Tryz.prog Γ 90 [] codesD:=by
 refine pc_by mixed Tryz.func90 rfl (fun args w=>Tryz.call90 args w) ?_
 simp -implicitDefEqProofs (disch:=omega) [go_sem,Tryz.f90]
 refine ⟨_,⟨_,rfl,.mref _ [.int .u16 49185,.int .u16 49699,.int .u16 32801] [.agg [.int .u8 1,.int .u8 11],.agg [.int .u8 1,.int .u8 4],.agg [.int .u8 1,.int .u8 7]] _ rfl rfl rfl ?_⟩,rfl⟩
 intro i d x hd hx
 rcases i with _ | _ | _ | i
 all_goals simp at hd hx
 all_goals subst hd hx
 all_goals exact .data _
theorem known_pc (p c:Nat) (hp:p < 65536) (hc:c < 256):PC Tryz.prog Γ 64 [.int .u16 p,.int .u8 c] (.bool (known p c)):=by
 refine pc_by mixed Tryz.func64 rfl (fun args w=>Tryz.call64 args w) ?_
 have c1:=codes_pc Γ
 unfold codesD at c1
 simp -implicitDefEqProofs (disch:=omega) [go_sem]
 refine .inl (call_data c1 (by simp [go_sem]) ?_)
 unfold known
 by_cases h1:p = 49185
 · have e1:(p:Int) = 49185:=by omega
   rw [if_pos h1]
   by_cases k1:1≤c
   · by_cases k2:c≤11
     · rw [decide_eq_true ⟨k1,k2⟩]
       simp -implicitDefEqProofs (disch:=omega) [go_sem,e1,Tryz.f64]
     · rw [decide_eq_false fun h=>k2 h.2]
       simp -implicitDefEqProofs (disch:=omega) [go_sem,e1,Tryz.f64]
   · rw [decide_eq_false fun h=>k1 h.1]
     simp -implicitDefEqProofs (disch:=omega) [go_sem,e1,Tryz.f64]
 rw [if_neg h1]
 have e1:((p:Int) == 49185) = false:=beq_eq_false_iff_ne.2 (by omega)
 by_cases h2:p = 49699
 · have e2:(p:Int) = 49699:=by omega
   rw [if_pos h2]
   by_cases k1:1≤c
   · by_cases k2:c≤4
     · rw [decide_eq_true ⟨k1,k2⟩]
       simp -implicitDefEqProofs (disch:=omega) [go_sem,e2,Tryz.f64]
     · rw [decide_eq_false fun h=>k2 h.2]
       simp -implicitDefEqProofs (disch:=omega) [go_sem,e2,Tryz.f64]
   · rw [decide_eq_false fun h=>k1 h.1]
     simp -implicitDefEqProofs (disch:=omega) [go_sem,e2,Tryz.f64]
 rw [if_neg h2]
 have e2:((p:Int) == 49699) = false:=beq_eq_false_iff_ne.2 (by omega)
 by_cases h3:p = 32801
 · have e3:(p:Int) = 32801:=by omega
   rw [if_pos h3]
   by_cases k1:1≤c
   · by_cases k2:c≤7
     · rw [decide_eq_true ⟨k1,k2⟩]
       simp -implicitDefEqProofs (disch:=omega) [go_sem,e3,Tryz.f64]
     · rw [decide_eq_false fun h=>k2 h.2]
       simp -implicitDefEqProofs (disch:=omega) [go_sem,e3,Tryz.f64]
   · rw [decide_eq_false fun h=>k1 h.1]
     simp -implicitDefEqProofs (disch:=omega) [go_sem,e3,Tryz.f64]
 rw [if_neg h3]
 have e3:((p:Int) == 32801) = false:=beq_eq_false_iff_ne.2 (by omega)
 simp -implicitDefEqProofs (disch:=omega) [go_sem,e1,e2,e3,Tryz.f64]
/-- A packet's bytes,of whatever length. -/
def rawB (p:Pk):List Nat:=p.c :: p.i :: ((4 + p.d.length) % 65536 / 256) :: ((4 + p.d.length) % 256) :: p.d
theorem rawB_eq {p:Pk} (h:4 + p.d.length≤1500):rawB p = pkB p:=by
 unfold rawB pkB
 rw [if_pos h,Nat.mod_eq_of_lt (show 4 + p.d.length < 65536 by omega)]
theorem laid_pc (p:Pk) (h:p.d.length≤999999900):PC Tryz.prog Γ 92 [pk p] (.sl 1 (bys (rawB p))):=by
 refine pc_by mixed Tryz.func92 rfl (fun args w=>Tryz.call92 args w) ?_
 have c1:=two_pc Γ ((4 + p.d.length) % 65536) (by omega)
 have em:(4 + p.d.length) % 65536 % 256 = (4 + p.d.length) % 256:=by omega
 rw [em] at c1
 generalize hh:(4 + p.d.length) % 65536 / 256 = hi at *
 generalize hl:(4 + p.d.length) % 256 = lo at *
 have c2:=Sf.concat_pc Γ [[p.c,p.i],[hi,lo],p.d] (by simp) (by simp;omega) (by simp)
 rw [show [[p.c,p.i],[hi,lo],p.d].flatten = rawB p by simp [rawB,hh,hl]] at c2
 simp -implicitDefEqProofs (disch:=omega) [go_sem,pk]
 refine .inl (call_data c1 (by simp [go_sem]) ?_)
 simp -implicitDefEqProofs (disch:=omega) [go_sem]
 refine .inl (call_frz [6,15] [6,15] (fun g hg=>?_) c2 (fun H' hH'=>?_) ?_)
 · simp only [List.mem_cons,List.not_mem_nil,or_false] at hg
   rcases hg with rfl | rfl <;> exact ⟨true,_,by simp [Hp.upd,Hp.set];rfl⟩
 · refine frzL_c (frz_rows (rw:=false) (cells:=[.ref 6 0 2 1,.data (.sl 1 (bys [hi,lo])),.data (.sl 1 (bys p.d))]) (by simp [Hp.upd,Hp.set,fz]) (.inr rfl) rfl (Sf.rws_cells _) ?_) frzL_n
   rw [Sf.flat_rws]
   exact frzL_c (frz_bys (rw:=false) (by simp [Hp.upd,Hp.set,fz,bys,u8]) (.inr rfl) rfl) (frzL_c (.data _) (frzL_c (.data _) frzL_n))
 simp -implicitDefEqProofs (disch:=omega) [go_sem]
 refine side (by kernel_rfl) ?_
 simp -implicitDefEqProofs (disch:=omega) [go_sem,Tryz.f92]
theorem reject_pc (p:Pk) (id:Nat) (hn:p.d.length≤1496):PC Tryz.prog Γ 66 [pk p,.int .u8 id] (pk (rejP p id)):=by
 refine pc_by mixed Tryz.func66 rfl (fun args w=>Tryz.call66 args w) ?_
 have c1:=laid_pc Γ p (by omega)
 rw [rawB_eq (by omega)] at c1
 have hle:=pkB_le p
 have c2:=fitting_pc Γ (pkB p) (by omega)
 unfold rejP
 generalize pkB p = q at *
 unfold pk at *
 simp -implicitDefEqProofs (disch:=omega) [go_sem]
 refine .inl (call_data c1 (by simp [go_sem]) ?_)
 simp -implicitDefEqProofs (disch:=omega) [go_sem]
 refine .inl (call_data c2 (by simp [go_sem]) ?_)
 simp -implicitDefEqProofs (disch:=omega) [go_sem,Tryz.f66]
end
end Pa
namespace Pa
open Fc
theorem arg_pkt {n:Nat} {x:Data} (a:argD Tryz.prog (n + 3) 32 x):∃ p:Pk,(p.Ty∧p.d.length≤140737488351232)∧x = pk p:=by
 obtain ⟨ds,rfl,h⟩:=arg_struct Tryz.underlying32 a
 obtain ⟨d1,r1,rfl,h1,h⟩:=okF_cons h
 obtain ⟨d2,r2,rfl,h2,h⟩:=okF_cons h
 obtain ⟨d3,r3,rfl,h3,h⟩:=okF_cons h
 obtain rfl:=okF_nil h
 obtain ⟨i,hi0,hi1,rfl⟩:=ok_int Tryz.underlying5 h1
 obtain ⟨j,hj0,hj1,rfl⟩:=ok_int Tryz.underlying5 h2
 obtain ⟨b,lb,hb,rfl⟩:=ok_bytes Tryz.underlying30 Tryz.underlying5 (by kernel_rfl) h3
 have e1:IntKind.u8.min = 0:=by decide
 have e2:IntKind.u8.max = 255:=by decide
 obtain ⟨c,rfl⟩:=Int.eq_ofNat_of_zero_le (show 0≤i by omega)
 obtain ⟨k,rfl⟩:=Int.eq_ofNat_of_zero_le (show 0≤j by omega)
 exact ⟨⟨c,k,b⟩,⟨⟨by show c < 256;omega,by show k < 256;omega,lb⟩,hb⟩,rfl⟩
end Pa
namespace Op9
section
variable (Γ:Nat->Option (List Data))
theorem copied_pc (o:Ot) (h:o.d.length≤1000000000):PC Tryz.prog Γ 79 [ot o] (ot o):=by
 refine pc_by mixed Tryz.func79 rfl (fun args w=>Tryz.call79 args w) ?_
 have c1:=Pa.pclone_pc Γ o.d h
 unfold ot
 simp -implicitDefEqProofs (disch:=omega) [go_sem]
 refine .inl (call_data c1 (by simp [go_sem]) ?_)
 simp -implicitDefEqProofs (disch:=omega) [go_sem]
 refine side (by kernel_rfl) ?_
 simp -implicitDefEqProofs (disch:=omega) [go_sem,Tryz.f79]
theorem typeOf_pc (o:Ot):PC Tryz.prog Γ 78 [ot o] (.int .u8 o.t):=by
 refine pc_by mixed Tryz.func78 rfl (fun args w=>Tryz.call78 args w) ?_
 unfold ot
 simp -implicitDefEqProofs (disch:=omega) [go_sem,Tryz.f78]
/-- Where the first one of a type stands. -/
def placeO (l:List Ot) (t:Nat):Option Nat:=l.findIdx? fun o=>o.t = t
def placeD:Option Nat->Data
 | some i=>.tup [.int .i64 i,.bool true]
 | none=>.tup [.int .i64 0,.bool false]
theorem placeO_some {l:List Ot} {t i:Nat} (h:i < l.length) (ht:l[i].t = t) (hall:∀ (j:Nat) (hj:j < l.length),j < i->l[j].t≠t):placeO l t = some i:=by
 unfold placeO
 rw [List.findIdx?_eq_some_iff_getElem]
 exact ⟨h,by simpa using ht,fun j hj=>by simpa using hall j (by omega) hj⟩
theorem placeO_none {l:List Ot} {t:Nat} (hall:∀ (j:Nat) (hj:j < l.length),l[j].t≠t):placeO l t = none:=by
 unfold placeO
 rw [List.findIdx?_eq_none_iff]
 intro x hx
 obtain ⟨j,hj,rfl⟩:=List.getElem_of_mem hx
 simpa using hall j hj
theorem placeO_is {l:List Ot} {t i:Nat} (h:placeO l t = some i):∃ hi:i < l.length,l[i].t = t∧∀ (j:Nat) (hj:j < l.length),j < i->l[j].t≠t:=by
 unfold placeO at h
 rw [List.findIdx?_eq_some_iff_getElem] at h
 obtain ⟨h1,h2,h3⟩:=h
 exact ⟨h1,by simpa using h2,fun j hj hji=>by simpa using h3 j hji⟩
theorem placeO_no {l:List Ot} {t:Nat} (h:placeO l t = none):∀ x∈l,x.t≠t:=by
 unfold placeO at h
 rw [List.findIdx?_eq_none_iff] at h
 intro x hx
 simpa using h x hx
theorem place_pc (l:List Ot) (t:Nat) (hl:l.length≤1000000000):PC Tryz.prog Γ 77 [.sl 2 (ots l),.int .u8 t,.fn 78 []] (placeD (placeO l t)):=by
 refine pc_by mixed Tryz.func77 rfl (fun args w=>Tryz.call77 args w) ?_
 simp -implicitDefEqProofs (disch:=omega) [go_sem]
 refine loop_ren (σ:={ i:Nat // i≤l.length∧∀ (j:Nat) (hj:j < l.length),j < i->l[j].t≠t }) (fun i=>⟨envL [(1,.data (.int .u8 t)),(2,.data (.fn 78 [])),(10,.data (.sl 2 (ots l))),(11,.data (.int .i64 l.length)),(12,.data (.int .i64 i.1))],hpL [],0,0,24⟩) (fun i=>l.length - i.1) ⟨0,by omega,fun j _ h=>absurd h (Nat.not_lt_zero _)⟩ [] (rhoL []) ?_ ?_
 · apply ren_lists <;> simp -implicitDefEqProofs [go_sem]
 rintro ⟨i,hi,hall⟩
 by_cases h:i < l.length
 · have c1:=typeOf_pc Γ l[i]
   unfold ot at c1
   by_cases ht:l[i].t = t
   · have ht2:(l[i].t:Int) = t:=by omega
     rw [placeO_some h ht hall]
     simp -implicitDefEqProofs (disch:=omega) [go_sem,ot]
     refine .inl (call_data c1 (by simp [go_sem]) ?_)
     simp -implicitDefEqProofs (disch:=omega) [go_sem,ht2,placeD,Tryz.f77]
   · have ht2:¬ ((l[i].t:Int) = t):=by omega
     simp -implicitDefEqProofs (disch:=omega) [go_sem,ot]
     refine .inl (call_data c1 (by simp [go_sem]) ?_)
     simp -implicitDefEqProofs (disch:=omega) [go_sem,ht2]
     refine next_ren ⟨i + 1,by omega,fun j hj hji=>by
      by_cases e:j = i
      · subst e;exact ht
      · exact hall j hj (by omega)⟩ (by simp only;omega) [] (rhoL []) ?_
     apply ren_lists <;> simp -implicitDefEqProofs [go_sem]
 · rw [placeO_none fun j hj=>hall j hj (by omega)]
   simp -implicitDefEqProofs (disch:=omega) [go_sem,placeD,Tryz.f77]
/-- How many bytes the next option has. -/
def lenO:List Nat->Data
 | t :: n :: r=>.tup [.int .i64 n,.bool (decide (2≤n∧n≤r.length + 2))]
 | _=>.tup [.int .i64 0,.bool false]
theorem length_pc (b:List Nat) (hl:b.length≤140737488351232) (hb:∀ x∈b,x < 256):PC Tryz.prog Γ 156 [.sl 1 (bys b)] (lenO b):=by
 refine pc_by mixed Tryz.func156 rfl (fun args w=>Tryz.call156 args w) ?_
 match b,hl,hb with
 | [],_,_=>simp -implicitDefEqProofs (disch:=omega) [go_sem,lenO,Tryz.f156]
 | [x],_,_=>simp -implicitDefEqProofs (disch:=omega) [go_sem,lenO,Tryz.f156]
 | t :: n :: r,hl,hb =>
   have hn:=hb n (by simp)
   simp only [List.length_cons] at hl
   by_cases h1:2≤n
   · have h1':(2:Int)≤n:=by omega
     by_cases h2:n≤r.length + 2
     · have h2':(n:Int)≤r.length + 1 + 1:=by omega
       simp -implicitDefEqProofs (disch:=omega) [go_sem,lenO,h1,h2,h1',h2',Tryz.f156]
     · have h2':¬ (n:Int)≤r.length + 1 + 1:=by omega
       simp -implicitDefEqProofs (disch:=omega) [go_sem,lenO,h1,h2,h1',h2',Tryz.f156]
   · have h1':¬ (2:Int)≤n:=by omega
     simp -implicitDefEqProofs (disch:=omega) [go_sem,lenO,h1,h1',Tryz.f156]
theorem ofour_pc (n:Nat) (hn:n < 4294967296):PC Tryz.prog Γ 106 [.int .u32 n] (.sl 1 (bys (fourO n))):=by
 refine pc_by mixed Tryz.func106 rfl (fun args w=>Tryz.call106 args w) ?_
 have e1:(n:Int).fdiv 16777216 = ((n / 16777216:Nat):Int):=by rw [Int.fdiv_eq_ediv_of_nonneg _ (by decide)];omega
 have e2:(n:Int).fdiv 65536 = ((n / 65536:Nat):Int):=by rw [Int.fdiv_eq_ediv_of_nonneg _ (by decide)];omega
 have e3:(n:Int).fdiv 256 = ((n / 256:Nat):Int):=by rw [Int.fdiv_eq_ediv_of_nonneg _ (by decide)];omega
 simp -implicitDefEqProofs (disch:=omega) [go_sem,e1,e2,e3,Tryz.f106]
 refine ⟨_,⟨_,rfl,frz_bys (rw:=true) (l:=fourO n) ?_ (.inl rfl) (by simp [fourO])⟩,rfl⟩
 simp [go_sem,bys,u8,fourO]
 omega
/-- A number,of which the first bytes are shifted out. -/
def numM (b:List Nat):Nat:=b.foldl (fun n x=>n * 256 % 4294967296 + x) 0
theorem numM_snoc (l:List Nat) (x:Nat):numM (l++[x]) = numM l * 256 % 4294967296 + x:=by simp [numM,List.foldl_append]
theorem numM_mod:∀ (n:Nat) (l:List Nat),l.length = n->(∀ x∈l,x < 256)->numM l = numF l % 4294967296:=by
 intro n
 induction n with
 | zero=>intro l hl _;rw [List.eq_nil_of_length_eq_zero hl];rfl
 | succ n ih =>
   intro l hl hb
   have hne:l≠[]:=fun e=>by rw [e] at hl;simp at hl
   have e:=List.dropLast_concat_getLast hne
   have h1:=ih l.dropLast (by rw [List.length_dropLast];omega) fun x hx=>hb x (List.dropLast_subset _ hx)
   have h2:=hb _ (List.getLast_mem hne)
   rw [<- e,numM_snoc,numF_snoc,h1]
   generalize numF l.dropLast = y
   generalize l.getLast hne = z at *
   omega
theorem numF_app:∀ (n:Nat) (a b:List Nat),b.length = n->numF (a++b) = numF a * 256 ^ n + numF b:=by
 intro n
 induction n with
 | zero=>intro a b hb;rw [List.eq_nil_of_length_eq_zero hb];simp [numF]
 | succ n ih =>
   intro a b hb
   have hne:b≠[]:=fun e=>by rw [e] at hb;simp at hb
   have e:=List.dropLast_concat_getLast hne
   rw [<- e,<- List.append_assoc,numF_snoc,numF_snoc,ih a b.dropLast (by rw [List.length_dropLast];omega),Nat.pow_succ]
   rw [Nat.add_mul,Nat.mul_assoc]
   omega
theorem numM_eq {b:List Nat} (hb:∀ x∈b,x < 256):numM b = numO b:=by
 rw [numM_mod _ b rfl hb]
 unfold numO
 have e:numF b = numF (b.take (b.length - 4)++b.drop (b.length - 4)):=by rw [List.take_append_drop]
 have hlt:=numF_lt _ (b.drop (b.length - 4)) rfl fun x hx=>hb x (List.mem_of_mem_drop hx)
 have hle:(b.drop (b.length - 4)).length≤4:=by rw [List.length_drop];omega
 have h4:256 ^ (b.drop (b.length - 4)).length≤256 ^ 4:=Nat.pow_le_pow_right (by decide) hle
 have e4:(256:Nat) ^ 4 = 4294967296:=by decide
 by_cases h:b.length≤4
 · rw [show b.length - 4 = 0 by omega,List.drop_zero] at *
   exact Nat.mod_eq_of_lt (by omega)
 · have hl4:(b.drop (b.length - 4)).length = 4:=by rw [List.length_drop];omega
   rw [e,numF_app 4 _ _ hl4,e4]
   omega
theorem or32 {a b:Nat} (hb:b < 256):orI .u32 (((a * 256 % 4294967296:Nat):Int)) (b:Int) = ((a * 256 % 4294967296 + b:Nat):Int):=by
 have e1:a * 256 % 4294967296 = (a % 16777216) * 256:=by omega
 rw [e1]
 have ha:a % 16777216 < 16777216:=Nat.mod_lt _ (by decide)
 generalize a % 16777216 = c at *
 have h:=Nat.two_pow_add_eq_or_of_lt (i:=8) (b:=b) (by omega) c
 have hw:c * 256 + b < 4294967296:=by omega
 unfold orI
 rw [BitVec.ofInt_natCast,BitVec.ofInt_natCast,BitVec.toNat_or,BitVec.toNat_ofNat,BitVec.toNat_ofNat,Nat.mod_eq_of_lt (show c * 256 < 2 ^ IntKind.u32.bits from by show c * 256 < 4294967296;omega),Nat.mod_eq_of_lt (show b < 2 ^ IntKind.u32.bits from by show b < 4294967296;omega)]
 rw [show c * 256 = 2 ^ 8 * c by omega,<- h,IntKind.wrap_u32]
 omega
theorem onumber_pc (b:List Nat) (hl:b.length≤140737488351232) (hb:∀ x∈b,x < 256):PC Tryz.prog Γ 53 [.sl 1 (bys b)] (.int .u32 (numO b)):=by
 refine pc_by mixed Tryz.func53 rfl (fun args w=>Tryz.call53 args w) ?_
 rw [<- numM_eq hb]
 simp -implicitDefEqProofs (disch:=omega) [go_sem]
 refine loop_ren (σ:={ i:Nat // i≤b.length }) (fun i=>⟨envL [(3,.data (.int .u32 (numM (b.take i.1)))),(6,.data (.sl 1 (bys b))),(7,.data (.int .i64 b.length)),(8,.data (.int .i64 i.1))],hpL [],0,0,19⟩) (fun i=>b.length - i.1) ⟨0,by omega⟩ [] (rhoL []) ?_ ?_
 · apply ren_lists <;> simp -implicitDefEqProofs [go_sem,numM]
 rintro ⟨i,hi⟩
 by_cases h:i < b.length
 · have h3:=hb _ (List.getElem_mem h)
   have h6:numM (b.take (i + 1)) = numM (b.take i) * 256 % 4294967296 + b[i]:=by rw [List.take_add_one,List.getElem?_eq_getElem h,Option.toList_some,numM_snoc]
   generalize numM (b.take i) = m at *
   have e2:=or32 (a:=m) h3
   obtain ⟨z,hz⟩:∃ z:Nat,m * 256 % 4294967296 = z:=⟨_,rfl⟩
   have e1:(m:Int) * 256 % 4294967296 = (z:Int):=by omega
   rw [hz] at e2 h6
   simp -implicitDefEqProofs (disch:=omega) [go_sem,e1,e2]
   refine next_ren ⟨i + 1,by omega⟩ (by simp only;omega) [] (rhoL []) ?_
   apply ren_lists <;> simp -implicitDefEqProofs [go_sem,h6]
   rw [show (b[i]:Int) % 4294967296 = b[i] by omega,e2]
   simp
 · have:i = b.length:=by omega
   subst this
   simp -implicitDefEqProofs (disch:=omega) [go_sem,List.take_length,Tryz.f53]
theorem sameClo_pc (a b:Ot) (ha:a.Ty) (hb:b.Ty):PC Tryz.prog Γ 82 [ot a,ot b] (.bool (decide (a = b))):=by
 refine pc_by mixed Tryz.func82 rfl (fun args w=>Tryz.call82 args w) ?_
 have c1:=Sf.sequal_pc Γ a.d b.d ha.d hb.d
 have e:decide (a = b) = (decide (a.t = b.t) && decide (a.d = b.d)):=by
  obtain ⟨p,i⟩:=a;obtain ⟨q,j⟩:=b
  simp only [Ot.mk.injEq,Bool.decide_and]
 rw [e]
 generalize decide (a.d = b.d) = v at *
 by_cases h:a.t = b.t
 · simp -implicitDefEqProofs (disch:=omega) [go_sem,ot,h]
   refine .inl (call_data c1 (by simp [go_sem]) ?_)
   simp -implicitDefEqProofs (disch:=omega) [go_sem,h,Tryz.f82]
 · have h2:¬ (a.t:Int) = b.t:=by omega
   simp -implicitDefEqProofs (disch:=omega) [go_sem,ot,h,h2,Tryz.f82]
theorem equalF_pc (a b:List Ot) (ha:∀ o∈a,o.Ty) (hb:∀ o∈b,o.Ty) (hla:a.length≤140737488351232) (hlb:b.length≤140737488351232) :
 PC Tryz.prog Γ 81 [.sl 2 (ots a),.sl 2 (ots b),.fn 82 []] (.bool (decide (a = b))):=by
 refine pc_by mixed Tryz.func81 rfl (fun args w=>Tryz.call81 args w) ?_
 by_cases hn:a.length = b.length
 rotate_left
 · rw [decide_eq_false fun e=>hn (by rw [e])]
   have hn2:¬ (a.length:Int) = b.length:=by omega
   simp -implicitDefEqProofs (disch:=omega) [go_sem,hn,hn2,Tryz.f81]
 simp -implicitDefEqProofs (disch:=omega) [go_sem,hn]
 refine loop_ren (σ:={ i:Nat // i≤b.length∧a.take i = b.take i }) (fun i=>⟨envL [(1,.data (.sl 2 (ots b))),(2,.data (.fn 82 [])),(15,.data (.sl 2 (ots a))),(16,.data (.int .i64 b.length)),(17,.data (.int .i64 i.1))],hpL [],0,0,32⟩) (fun i=>b.length - i.1) ⟨0,by omega,rfl⟩ [] (rhoL []) ?_ ?_
 · apply ren_lists <;> simp -implicitDefEqProofs [go_sem]
 rintro ⟨i,hi,hall⟩
 by_cases h:i < b.length
 · have h2:i < a.length:=by omega
   have c1:=sameClo_pc Γ a[i] b[i] (ha _ (List.getElem_mem h2)) (hb _ (List.getElem_mem h))
   unfold ot at c1
   by_cases he:a[i] = b[i]
   · rw [decide_eq_true he] at c1
     simp -implicitDefEqProofs (disch:=omega) [go_sem,ot]
     refine .inl (call_data c1 (by simp [go_sem]) ?_)
     simp -implicitDefEqProofs (disch:=omega) [go_sem]
     refine next_ren ⟨i + 1,by omega,by rw [List.take_add_one,List.take_add_one,hall,List.getElem?_eq_getElem h,List.getElem?_eq_getElem h2,he]⟩ (by simp only;omega) [] (rhoL []) ?_
     apply ren_lists <;> simp -implicitDefEqProofs [go_sem]
   · rw [decide_eq_false he] at c1
     rw [decide_eq_false fun e=>he (by simp [e])]
     simp -implicitDefEqProofs (disch:=omega) [go_sem,ot]
     refine .inl (call_data c1 (by simp [go_sem]) ?_)
     simp -implicitDefEqProofs (disch:=omega) [go_sem,Tryz.f81]
 · have:i = b.length:=by omega
   subst this
   rw [List.take_length,List.take_of_length_le (by omega)] at hall
   rw [decide_eq_true hall]
   simp -implicitDefEqProofs (disch:=omega) [go_sem,Tryz.f81]
theorem osame_pc (a b:List Ot) (ha:∀ o∈a,o.Ty) (hb:∀ o∈b,o.Ty) (hla:a.length≤140737488351232) (hlb:b.length≤140737488351232):PC Tryz.prog Γ 57 [.sl 2 (ots a),.sl 2 (ots b)] (.bool (decide (a = b))):=by
 refine pc_by mixed Tryz.func57 rfl (fun args w=>Tryz.call57 args w) ?_
 have c1:=equalF_pc Γ a b ha hb hla hlb
 simp -implicitDefEqProofs (disch:=omega) [go_sem]
 refine .inl (call_data c1 (by simp [go_sem]) ?_)
 simp -implicitDefEqProofs (disch:=omega) [go_sem,Tryz.f57]
theorem obytes_pc (l:List Ot) (hl:l.length≤1000000) (hd:∀ o∈l,o.d.length≤140737488351232):PC Tryz.prog Γ 54 [.sl 2 (ots l)] (.tup [.sl 1 (bys (optB l)),.int .i64 (optE l)]):=by
 refine pc_by mixed Tryz.func54 rfl (fun args w=>Tryz.call54 args w) ?_
 unfold optB optE
 simp -implicitDefEqProofs (disch:=omega) [go_sem]
 refine loop_ren (σ:={ i:Nat // i≤l.length∧(∀ (j:Nat) (h:j < l.length),j < i->l[j].d.length≤253)∧(otsB (l.take i)).length≤1496 }) (fun i=>⟨envL [(4,.ref 0 0 (otsB (l.take i.1)).length 1),(8,.data (.sl 2 (ots l))),(9,.data (.int .i64 l.length)),(10,.data (.int .i64 i.1))],hpL [(0,.blk true ((bys (otsB (l.take i.1))).map .data))],1,0,41⟩) (fun i=>l.length - i.1) ⟨0,by omega,(fun j _ h=>absurd h (Nat.not_lt_zero _)),by simp [otsB]⟩ [] (rhoL [(0,none)]) ?_ ?_
 · apply ren_lists <;> simp -implicitDefEqProofs [go_sem]
   · rfl
   · rfl
 rintro ⟨i,hi,hall,hle⟩
 by_cases h:i < l.length
 · have hdi:=hd l[i] (List.getElem_mem h)
   have hst:=otsB_take l i h
   have hbl:=otB_len l[i]
   have hall2:=otsB_take_le l (i + 1)
   rw [hst,List.length_append] at hall2
   by_cases c2:l[i].d.length≤253
   · have c2':¬ (253:Int) < l[i].d.length:=by omega
     by_cases c3:(otsB (l.take i)).length + (2 + l[i].d.length)≤1496
     · have c3':¬ (1496:Int) < (otsB (l.take i)).length + (2 + l[i].d.length):=by omega
       have hn:((2:Int) + l[i].d.length) % 256 = ((2 + l[i].d.length:Nat):Int):=by omega
       simp -implicitDefEqProofs (disch:=omega) [go_sem,ot,c2',c3']
       refine side (by kernel_rfl) ?_
       simp -implicitDefEqProofs (disch:=omega) [go_sem,ot]
       refine next_ren ⟨i + 1,by omega,fun j hj hji=>by
        by_cases e:j = i
        · subst e;exact c2
        · exact hall j hj (by omega),by rw [hst,List.length_append];omega⟩ (by simp only;omega) [] (rhoL [(0,some 31)]) ?_
       simp only [hst]
       apply ren_lists <;> simp -implicitDefEqProofs [go_sem]
       · rw [otB_len];omega
       · exact renCells_plain (by simp [otB,bys,u8];omega) (by simp [plainD,bys])
     · have c3':(1496:Int) < (otsB (l.take i)).length + (2 + l[i].d.length):=by omega
       have no:¬ OkO l:=fun k=>by have:=k.2;omega
       rw [if_neg no,if_neg no]
       simp -implicitDefEqProofs (disch:=omega) [go_sem,ot,c2',c3',Tryz.f54]
       exact ⟨_,⟨_,rfl,.emp _ _⟩,rfl⟩
   · have c2':(253:Int) < l[i].d.length:=by omega
     rw [if_neg fun k=>c2 (k.1 _ (List.getElem_mem h)),if_neg fun k=>c2 (k.1 _ (List.getElem_mem h))]
     simp -implicitDefEqProofs (disch:=omega) [go_sem,ot,c2',Tryz.f54]
     exact ⟨_,⟨_,rfl,.emp _ _⟩,rfl⟩
 · have:i = l.length:=by omega
   subst this
   rw [List.take_length] at hle
   have ok:OkO l:=⟨fun o ho=>by
    obtain ⟨j,hj,rfl⟩:=List.getElem_of_mem ho
    exact hall j hj hj,hle⟩
   rw [if_pos ok,if_pos ok]
   simp -implicitDefEqProofs (disch:=omega) [go_sem,List.take_length,Tryz.f54]
   exact ⟨_,⟨_,rfl,frz_bys (rw:=true) (by simp [go_sem]) (.inl rfl) rfl⟩,rfl⟩
theorem findP (l:List Ot) (t:Nat):findO l t = (placeO l t).bind fun i=>l[i]?:=by
 cases h:placeO l t with
 | none=>exact findO_none l t fun j hj=>placeO_no h _ (List.getElem_mem hj)
 | some i =>
   obtain ⟨h1,h2,h3⟩:=placeO_is h
   rw [findO_take l t i h3 h1 h2]
   simp [h1]
theorem ofind_pc (l:List Ot) (t:Nat) (hl:l.length≤1000000000) (hd:∀ o∈l,o.d.length≤1000000000):PC Tryz.prog Γ 52 [.sl 2 (ots l),.int .u8 t] (foundO (findO l t)):=by
 refine pc_by mixed Tryz.func52 rfl (fun args w=>Tryz.call52 args w) ?_
 have c1:=place_pc Γ l t hl
 rw [findP]
 cases h:placeO l t with
 | none =>
   rw [h] at c1
   unfold placeD at c1
   simp -implicitDefEqProofs (disch:=omega) [go_sem]
   refine .inl (call_data c1 (by simp [go_sem]) ?_)
   simp -implicitDefEqProofs (disch:=omega) [go_sem,foundO,ot,noO,Tryz.f52]
   exact ⟨_,⟨_,rfl,frz_aggL (frzL_c (.data _) (frzL_c (.emp 0 1) frzL_n))⟩,rfl⟩
 | some i =>
   obtain ⟨h1,h2,h3⟩:=placeO_is h
   rw [h] at c1
   unfold placeD at c1
   have c2:=copied_pc Γ l[i] (hd _ (List.getElem_mem h1))
   unfold ot at c2
   simp -implicitDefEqProofs (disch:=omega) [go_sem]
   refine .inl (call_data c1 (by simp [go_sem]) ?_)
   simp -implicitDefEqProofs (disch:=omega) [go_sem,ot]
   refine .inl (call_data c2 (by simp [go_sem]) ?_)
   simp -implicitDefEqProofs (disch:=omega) [go_sem,foundO,ot,h1,Tryz.f52]
theorem putP (o:Ot) (l:List Ot):putO l o = match placeO l o.t with
 | some i=>l.set i o
 | none=>l++[o]:=by
 have yes:∀ l:List Ot,putG o true l = l:=by
  intro l
  induction l with
  | nil=>rfl
  | cons x l ih =>
    unfold putG
    rw [if_neg (by simp),ih]
 induction l with
 | nil=>rfl
 | cons x l ih =>
   show putG o false (x :: l) = _
   unfold putG
   by_cases h:x.t = o.t
   · rw [if_pos ⟨rfl,h⟩,yes]
     have:placeO (x :: l) o.t = some 0:=placeO_some (by simp) h fun j _ hj=>absurd hj (Nat.not_lt_zero _)
     rw [this];rfl
   · rw [if_neg fun k=>h k.2]
     have e:putG o false l = putO l o:=rfl
     rw [e,ih]
     have hp:placeO (x :: l) o.t = (placeO l o.t).map (· + 1):=by
      unfold placeO
      rw [List.findIdx?_cons]
      simp [h]
     rw [hp]
     cases placeO l o.t <;> simp
end
end Op9
section
variable (P:Program) (Γ:Nat->Option (List Data))
@[go_sem] theorem wpX_skip (Q:Exit->St->Prop) (s:St):wpX P Γ .skip Q s = Q .normal s:=rfl
@[go_sem] theorem wpX_draw (i:Nat) (ops:List Oper) (Q:Exit->St->Prop) (s:St):wpX P Γ (.region i ops.toArray true) Q s = drawW P Γ ops.toArray ops s [] (fun s' tr=>sideK (drawOk2 ops.toArray tr s.nx s'.nx = true) (Q .normal s')):=rfl
@[go_sem] theorem wpX_row (i:Nat) (ops:List Oper) (Q:Exit->St->Prop) (s:St):wpX P Γ (.region i ops.toArray false) Q s = opsX P Γ ops.toArray ops s Q:=rfl
@[go_sem] theorem wpX_seq (x y:Code) (Q:Exit->St->Prop) (s:St):wpX P Γ (.seq x y) Q s = wpX P Γ x (thenW (wpX P Γ y Q) Q) s:=rfl
@[go_sem] theorem wpX_cond (c:Operand) (x y:Code) (Q:Exit->St->Prop) (s:St):wpX P Γ (.cond c x y) Q s = condK (evalD Γ s.env c) (wpX P Γ x Q s) (wpX P Γ y Q s):=rfl
@[go_sem] theorem wpX_block (id:Nat) (b:Code) (Q:Exit->St->Prop) (s:St):wpX P Γ (.block id b) Q s = wpX P Γ b (blockW id Q) s:=rfl
@[go_sem] theorem wpX_loop (b:Code) (Q:Exit->St->Prop) (s:St):wpX P Γ (.loop b) Q s = LoopW (wpX P Γ b) Q s:=rfl
@[go_sem] theorem wpX_exit (id:Nat) (Q:Exit->St->Prop) (s:St):wpX P Γ (.exit id) Q s = Q (.exit id) s:=rfl
@[go_sem] theorem wpX_ret (Q:Exit->St->Prop) (s:St):wpX P Γ .ret Q s = Q .ret s:=rfl
@[go_sem] theorem thenW_panic (n:St->Prop) (Q:Exit->St->Prop) (s:St) (ch:List PanicEntry):thenW n Q (.panic ch) s = Q (.panic ch) s:=rfl
@[go_sem] theorem blockW_panic (id:Nat) (Q:Exit->St->Prop) (s:St) (ch:List PanicEntry):blockW id Q (.panic ch) s = Q (.panic ch) s:=rfl
@[congr] theorem retXQ_congr {n0:Nat} (tk:tick = n0) (fn:Func) (K:D->(Nat->Blk)->Nat->Prop) (X:Value->(Nat->Blk)->Nat->Prop) (x:Exit) (s:St):retXQ P fn K X x s = retXQ P fn K X x s:=rfl
@[go_sem] theorem retXQ_ret (fn:Func) (K:D->(Nat->Blk)->Nat->Prop) (X:Value->(Nat->Blk)->Nat->Prop) (s:St):retXQ P fn K X .ret s = resK P fn.results.toList s fun ds=>∃ d,tupDD ds = some d∧K d s.hp s.nx:=rfl
@[go_sem] theorem retXQ_normal (fn:Func) (K:D->(Nat->Blk)->Nat->Prop) (X:Value->(Nat->Blk)->Nat->Prop) (s:St):retXQ P fn K X .normal s = resK P fn.results.toList s fun ds=>∃ d,tupDD ds = some d∧K d s.hp s.nx:=rfl
@[congr] theorem panK_congr {n0:Nat} (tk:tick = n0) {x x':D} (h:x = x') (X:Value->Prop):panK x X = panK x' X:=by rw [h]
@[go_sem] theorem panD_eq (dst:Option Nat) (x:Operand) (ty:TypeId) (pos:String) (af:Array Edge) (gd:Option (Nat × Bool)) (e:Nat->D):panD Γ ⟨dst,.panic x,ty,pos,af,gd⟩ e = evalD Γ e x:=rfl
attribute [go_sem] isPan
@[go_sem] theorem opsX_nil (ops:Array Oper) (s:St) (Q:Exit->St->Prop):opsX P Γ ops [] s Q = Q .normal s:=rfl
@[congr] theorem opsX_congr {n0:Nat} (tk:tick = n0) (ops:Array Oper) (l:List Oper) (s:St) (Q:Exit->St->Prop):opsX P Γ ops l s Q = opsX P Γ ops l s Q:=rfl
@[congr] theorem wpX_congr {n0:Nat} (tk:tick = n0) (c:Code) (Q:Exit->St->Prop) (s:St):wpX P Γ c Q s = wpX P Γ c Q s:=rfl
@[congr] theorem dxK_congr' {n0:Nat} (tk:tick = n0) (o:Oper) (e:Nat->D) (H:Nat->Blk) (fr:Nat) (K:D->(Nat->Blk)->Nat->Prop) (X:Value->(Nat->Blk)->Nat->Prop):dxK P Γ o e H fr K X = dxK P Γ o e H fr K X:=rfl
@[congr] theorem DX_congr {n0:Nat} (tk:tick = n0) (f:FuncId) {ds ds':List D} (h:ds = ds') (H:Nat->Blk) (nx:Nat) (K:D->(Nat->Blk)->Nat->Prop) (X:Value->(Nat->Blk)->Nat->Prop):DX P Γ f ds H nx K X = DX P Γ f ds' H nx K X:=by rw [h]
end
def shA (ds:List Deferred) (a:Act):Act:={ a with defers:=a.defers++ds }
theorem shA_eval (ds:List Deferred) (a:Act):(shA ds a).eval = a.eval:=by
 funext x
 cases x <;> rfl
theorem shA_put (ds:List Deferred) (a:Act) (dst:Option Tmp) (v:Value):(shA ds a).put dst v = shA ds (a.put dst v):=by cases dst <;> rfl
section
variable {P:Program} {Γ:Nat->Option (List Data)}
theorem upon_shift {ds:List Deferred} {o:Oper} {a:Act} {next:Act->World->Prop} {next':Act->World->Prop} {Q:Exit->Act->World->Prop} {r:Result Next} (hn:∀ a w,next a w->next' (shA ds a) w)
 (h:o.upon P a next (fun e a' w'=>Q e (shA ds a') w') r):o.upon P (shA ds a) next' Q r:=by
 unfold Oper.upon at h ⊢
 split at h
 · rw [shA_put];exact hn _ _ h
 · rw [shA_put];exact hn _ _ h
 · rename_i d w'
   show next' ((shA ds { a with defers:=d :: a.defers }).put o.dst undef) w'
   rw [shA_put];exact hn _ _ h
 · refine h.mono fun e w' he=>?_
   cases e with
   | returned v=>simp only at he ⊢;rw [shA_put];exact hn _ _ he
   | panicked chain=>exact he
   | outgrown =>
     obtain ⟨a0,w0,hq⟩:=he
     exact ⟨_,w0,hq⟩
 · intro fr cs
   obtain ⟨v,w',hR,hs⟩:=h fr cs
   refine ⟨v,w',?_,hs⟩
   show next' ((shA ds a).put o.dst v) w'
   rw [shA_put];exact hn _ _ hR
 · exact h
 · exact h.elim
theorem wpList_shift {ds:List Deferred} {ops:Array Oper} {Q:Exit->Act->World->Prop}:∀ (l:List Oper) (a:Act) (w:World),wpList P ops (fun e a' w'=>Q e (shA ds a') w') l a w->wpList P ops Q l (shA ds a) w
 | [],a,w,h=>h
 | o :: rest,a,w,h=>by
   unfold wpList at h ⊢
   have e1:(shA ds a).tmps = a.tmps:=rfl
   rw [e1]
   split at h
   · rename_i hw
     rw [if_pos hw]
     rcases h with h | ⟨h1,a0,w0,h2⟩
     · left
       unfold Oper.wp at h ⊢
       rw [shA_eval]
       exact upon_shift (fun a w h=>wpList_shift rest a w h) h
     · right
       refine ⟨?_,_,w0,h2⟩
       unfold Oper.asks at h1 ⊢
       rw [shA_eval]
       exact h1
   · rename_i hw
     rw [if_neg hw,shA_put]
     exact wpList_shift rest _ _ h
/-- What a deferred call recovers. -/
def Recd (u:FrameMode) (d:Data):Prop:=(u = .returning∧d = .nili) ∨ ∃ t x v,u = .panicking (pan (.iface t v))∧litV x = some v∧d = .ifc t x
/-- A deferred call that recovers,on the caller's numbered rows. -/
def DR (P:Program) (Γ:Nat->Option (List Data)) (g:FuncId) (ds:List D) (d:Data) (H:Nat->Blk) (nx:Nat) (K:(Nat->Blk)->Nat->Prop):Prop :=
 CallOk P g∧∀ (L0:Nat->Prop) (w0:W0) (m:Nat->MB) (w:World) (vs:Array Value) (u:FrameMode),WR Γ L0 w0 m H w->(∀ g,nx≤g->m g = .res)->(∀ g,nx≤g->H g = .dead)->ds.length = vs.size->(∀ (i:Nat) (d:D) (v:Value),ds[i]? = some d->vs[i]? = some v->VV (Live L0 m H) w m d v)->Recd u d →
  CallsD P g vs u w fun e u' w'=>∃ v0 H' nx' m',e = .returned v0∧settle u' = .returning∧WR Γ L0 w0 m' H' w'∧Grow (Live L0 m H) w (Live L0 m' H') w'∧(∀ g,g < nx->m' g = m g)∧(∀ g,nx'≤g->m' g = .res)∧nx≤nx'∧K H' nx'
def closQ (K:(Nat->Blk)->Nat->Prop):Exit->St->Prop
 | .normal,s | .ret,s=>K s.hp s.nx
 | _,_=>False
/-- Behind its body a function's deferred call,then what it hands back. -/
def endR (P:Program) (Γ:Nat->Option (List Data)) (fn:Func) (g:FuncId) (dte:D) (r:Data) (d:Data) (s:St):Prop :=
 DR P Γ g [dte] d s.hp s.nx fun H' nx'=>resK P fn.results.toList ⟨s.env,H',nx',s.lo,s.nt⟩ fun ds=>∃ xs,FrzL true H' ds xs∧r = tupD xs
def bodyR (P:Program) (Γ:Nat->Option (List Data)) (fn:Func) (g:FuncId) (dte:D) (r:Data):Exit->St->Prop
 | .normal,s=>endR P Γ fn g dte r .nili s
 | .panic ch,s=>∃ t v x,ch = pan (.iface t v)∧litV x = some v∧endR P Γ fn g dte r (.ifc t x) s
 | _,_=>False
end
section
variable {P:Program} {Γ:Nat->Option (List Data)}
@[go_sem] theorem cells_ifc (t:TypeId) (d:Data):Data.cells (.ifc t d) = [.ifc t d]:=rfl
variable (P)
@[go_sem] theorem closQ_ret (K:(Nat->Blk)->Nat->Prop) (s:St):closQ K .ret s = K s.hp s.nx:=rfl
@[go_sem] theorem closQ_normal (K:(Nat->Blk)->Nat->Prop) (s:St):closQ K .normal s = K s.hp s.nx:=rfl
@[congr] theorem closQ_congr {n0:Nat} (tk:tick = n0) (K:(Nat->Blk)->Nat->Prop) (e:Exit) (s:St):closQ K e s = closQ K e s:=rfl
variable {P}
@[congr] theorem bodyR_congr {n0:Nat} (tk:tick = n0) (fn:Func) (g:FuncId) (dte:D) (r:Data) (e:Exit) (s:St):bodyR P Γ fn g dte r e s = bodyR P Γ fn g dte r e s:=rfl
@[go_sem] theorem bodyR_normal (fn:Func) (g:FuncId) (dte:D) (r:Data) (s:St):bodyR P Γ fn g dte r .normal s = DR P Γ g [dte] .nili s.hp s.nx fun H' nx'=>resK P fn.results.toList ⟨s.env,H',nx',s.lo,s.nt⟩ fun ds=>∃ xs,FrzL true H' ds xs∧r = tupD xs:=rfl
@[congr] theorem DR_congr {n0:Nat} (tk:tick = n0) (g:FuncId) {ds ds':List D} (h:ds = ds') (d:Data) (H:Nat->Blk) (nx:Nat) (K:(Nat->Blk)->Nat->Prop):DR P Γ g ds d H nx K = DR P Γ g ds' d H nx K:=by rw [h]
/-- A call that is lent a row,and doesn't panic. -/
theorem dc_lent {d0 d1:D} {f:FuncId} {xs:List D} {cells:List Data} {K0:Data->List Data->Prop}
 (hc:DC P Γ f (d0 :: xs) (hpL [(0,.blk true (cells.map D.data))]) 1 fun d H' _=>∃ r c,d = .data r∧H' 0 = .blk true (c.map D.data)∧K0 r c)
 {H:Nat->Blk} {nx g:Nat} {K:D->(Nat->Blk)->Nat->Prop} (hg:H g = .blk true (cells.map D.data)) (hd:Lent g d1 d0) (hxs:∀ x∈xs,(∃ y,x = .data y) ∨ ∃ c,x = .cptr c)
 (hk:∀ r c,K0 r c->K (.data r) (Hp.upd H [(g,.blk true (c.map D.data))]) nx):DC P Γ f (d1 :: xs) H nx K :=
 dc_of_dx (dx_lent (X0:=fun _ _=>False) (dx_of_dc hc) hg hd hxs hk fun _ _ h=>h.elim)
end
/-- What leads to the row that is lent,as the caller has it,and as the call does;and what hangs on no row. -/
inductive Lent2 (g:Nat):D->D->Prop where
 | data (x:Data):Lent2 g (.data x) (.data x)
 | cptr (c:List Data):Lent2 g (.cptr c) (.cptr c)
 | ptr (off:Nat):Lent2 g (.ptr g off) (.ptr 0 off)
 | ref (off len es:Nat):Lent2 g (.ref g off len es) (.ref 0 off len es)
 | bnd (f:FuncId) {a b:D} (h:Lent2 g a b):Lent2 g (.bnd f a) (.bnd f b)
inductive LentL (g:Nat):List D->List D->Prop where
 | nil:LentL g [] []
 | cons {a b:D} {us0 bs:List D} (h:Lent2 g a b) (t:LentL g us0 bs):LentL g (a :: us0) (b :: bs)
theorem LentL.len {g:Nat}:∀ {us0 bs:List D},LentL g us0 bs->us0.length = bs.length
 | [],[],.nil=>rfl
 | _ :: _,_ :: _,.cons _ t=>by simp [t.len]
end Go.Proofs.YtlfhkplbjgcpiaaGreatDoor
