/- The state table: the document's own functions. The state table: the document's own Next, Has, Ints, Timed, Name. Automata: the document's own functions. Automata: right ones stay right; what a table's cell does to an automaton. Automata left alone: they end. Frames on a line: a line that is fed. Frames on a line: all frames of bytes, as the program tells them. Frames on a line: all frames of bytes, as the document tells them; the document's example. Frames on a line: the document's example. Frames on a line: StuffTells, StuffFeeds, StuffRight, StuffAnew. Frames on a line: StuffRight, StuffAnew, StuffLong. Frames on a line: StuffBack, StuffRow. Frames: the mathematics, the document's own functions. Packets: the mathematics, the document's own functions. Packets: what is cut, what stands behind, packets apart. Protocols that negotiate: plain data, and what actions send and tell. Protocols that negotiate: events, requests, answers, packets taken. Protocols that negotiate: requests, answers. -/
import Derived.Test.YtlfhkplbjgcpiaaGreatDoorPk5
namespace Go.Proofs.YtlfhkplbjgcpiaaGreatDoor
open Go.RowKit
set_option linter.unusedSimpArgs false
set_option linter.unusedVariables false
set_option maxRecDepth 100000
namespace Fs
def nums (l:List Int):Data:=.sl 1 (l.map fun n=>Data.int .i64 n)
/-- Actions,a state,and whether it can be. -/
abbrev R3:=List Int × Int × Bool
def tri (r:R3):Data:=.tup [nums r.1,.int .i64 r.2.1,.bool r.2.2]
theorem frz_nums {ok:Bool} {H:Nat->Blk} {g n:Nat} {rw:Bool} {l:List Int} (hg:H g = .blk rw (l.map fun n=>D.data (.int .i64 n))) (hrw:ok = true ∨ rw = false) (hn:l.length = n):Frz ok H (.ref g 0 n 1) (nums l):=by
 refine frz_ref hg hrw (by simpa using hn) (fun x hx=>?_) ?_
 · obtain ⟨p,_,rfl⟩:=List.mem_map.1 hx
   rfl
 · clear hg hn
   induction l with
   | nil=>rfl
   | cons a l ih =>
     simp only [List.map_cons] at ih ⊢
     rw [ih]
     rfl
section
variable (Γ:Nat->Option (List Data))
theorem to_pc (s:Int) (l:List Int):PC Tryz.prog Γ 134 [.int .i64 s,nums l] (tri (l,s,true)):=by
 refine pc_by mixed Tryz.func134 rfl (fun args w=>Tryz.call134 args w) ?_
 unfold tri nums
 simp -implicitDefEqProofs (disch:=omega) [go_sem,Tryz.f134]
theorem stay_pc (s:Int):PC Tryz.prog Γ 136 [.int .i64 s] (tri ([],s,true)):=by
 refine pc_by mixed Tryz.func136 rfl (fun args w=>Tryz.call136 args w) ?_
 unfold tri nums
 simp -implicitDefEqProofs (disch:=omega) [go_sem,Tryz.f136]
 exact ⟨_,⟨_,rfl,.emp _ _⟩,rfl⟩
theorem never_pc (s:Int):PC Tryz.prog Γ 124 [.int .i64 s] (tri ([],s,false)):=by
 refine pc_by mixed Tryz.func124 rfl (fun args w=>Tryz.call124 args w) ?_
 unfold tri nums
 simp -implicitDefEqProofs (disch:=omega) [go_sem,Tryz.f124]
 exact ⟨_,⟨_,rfl,.emp _ _⟩,rfl⟩
def upF (s:Int)  : R3:=if s = 0 then ([],2,true) else if s = 1 then ([5,7],6,true) else ([],s,false)
set_option maxHeartbeats 4000000 in
theorem up_pc (s:Int)  (h:0≤s∧s≤9):PC Tryz.prog Γ 125 [.int .i64 s] (tri (upF s)):=by
 refine pc_by mixed Tryz.func125 rfl (fun args w=>Tryz.call125 args w) ?_
 obtain ⟨h1,h2⟩:=h
 have hs:s = 0 ∨ s = 1 ∨ s = 2 ∨ s = 3 ∨ s = 4 ∨ s = 5 ∨ s = 6 ∨ s = 7 ∨ s = 8 ∨ s = 9:=by omega
 rcases hs with rfl | rfl | rfl | rfl | rfl | rfl | rfl | rfl | rfl | rfl
 · rw [show upF 0 = ([],2,true) by simp [upF]]
   simp -implicitDefEqProofs (disch:=omega) [go_sem]
   refine .inl (call_data (stay_pc Γ 2) (by simp [go_sem]) ?_)
   unfold tri nums
   simp -implicitDefEqProofs (disch:=omega) [go_sem,Tryz.f125]
 · rw [show upF 1 = ([5,7],6,true) by simp [upF]]
   simp -implicitDefEqProofs (disch:=omega) [go_sem]
   refine .inl (call_keep _ (to_pc Γ 6 [5,7]) (rw:=true) (cells:=([5,7]:List Int).map fun n=>D.data (.int .i64 n)) (by simp [Hp.upd,Hp.set]) (fun H' hg=>frzL_c (.data _) (frzL_c (frz_nums (rw:=false) hg (.inr rfl) rfl) frzL_n)) ?_)
   unfold tri nums
   simp -implicitDefEqProofs (disch:=omega) [go_sem,Tryz.f125]
 · rw [show upF 2 = ([],2,false) by simp [upF]]
   simp -implicitDefEqProofs (disch:=omega) [go_sem]
   refine .inl (call_data (never_pc Γ 2) (by simp [go_sem]) ?_)
   unfold tri nums
   simp -implicitDefEqProofs (disch:=omega) [go_sem,Tryz.f125]
 · rw [show upF 3 = ([],3,false) by simp [upF]]
   simp -implicitDefEqProofs (disch:=omega) [go_sem]
   refine .inl (call_data (never_pc Γ 3) (by simp [go_sem]) ?_)
   unfold tri nums
   simp -implicitDefEqProofs (disch:=omega) [go_sem,Tryz.f125]
 · rw [show upF 4 = ([],4,false) by simp [upF]]
   simp -implicitDefEqProofs (disch:=omega) [go_sem]
   refine .inl (call_data (never_pc Γ 4) (by simp [go_sem]) ?_)
   unfold tri nums
   simp -implicitDefEqProofs (disch:=omega) [go_sem,Tryz.f125]
 · rw [show upF 5 = ([],5,false) by simp [upF]]
   simp -implicitDefEqProofs (disch:=omega) [go_sem]
   refine .inl (call_data (never_pc Γ 5) (by simp [go_sem]) ?_)
   unfold tri nums
   simp -implicitDefEqProofs (disch:=omega) [go_sem,Tryz.f125]
 · rw [show upF 6 = ([],6,false) by simp [upF]]
   simp -implicitDefEqProofs (disch:=omega) [go_sem]
   refine .inl (call_data (never_pc Γ 6) (by simp [go_sem]) ?_)
   unfold tri nums
   simp -implicitDefEqProofs (disch:=omega) [go_sem,Tryz.f125]
 · rw [show upF 7 = ([],7,false) by simp [upF]]
   simp -implicitDefEqProofs (disch:=omega) [go_sem]
   refine .inl (call_data (never_pc Γ 7) (by simp [go_sem]) ?_)
   unfold tri nums
   simp -implicitDefEqProofs (disch:=omega) [go_sem,Tryz.f125]
 · rw [show upF 8 = ([],8,false) by simp [upF]]
   simp -implicitDefEqProofs (disch:=omega) [go_sem]
   refine .inl (call_data (never_pc Γ 8) (by simp [go_sem]) ?_)
   unfold tri nums
   simp -implicitDefEqProofs (disch:=omega) [go_sem,Tryz.f125]
 · rw [show upF 9 = ([],9,false) by simp [upF]]
   simp -implicitDefEqProofs (disch:=omega) [go_sem]
   refine .inl (call_data (never_pc Γ 9) (by simp [go_sem]) ?_)
   unfold tri nums
   simp -implicitDefEqProofs (disch:=omega) [go_sem,Tryz.f125]
def downF (s:Int)  : R3:=if s = 0 ∨ s = 1 then ([],s,false) else if s = 2 ∨ s = 4 then ([],0,true) else if s = 3 then ([3],1,true) else if s = 9 then ([2],1,true) else ([],1,true)
set_option maxHeartbeats 4000000 in
theorem down_pc (s:Int)  (h:0≤s∧s≤9):PC Tryz.prog Γ 126 [.int .i64 s] (tri (downF s)):=by
 refine pc_by mixed Tryz.func126 rfl (fun args w=>Tryz.call126 args w) ?_
 obtain ⟨h1,h2⟩:=h
 have hs:s = 0 ∨ s = 1 ∨ s = 2 ∨ s = 3 ∨ s = 4 ∨ s = 5 ∨ s = 6 ∨ s = 7 ∨ s = 8 ∨ s = 9:=by omega
 rcases hs with rfl | rfl | rfl | rfl | rfl | rfl | rfl | rfl | rfl | rfl
 · rw [show downF 0 = ([],0,false) by simp [downF]]
   simp -implicitDefEqProofs (disch:=omega) [go_sem]
   refine .inl (call_data (never_pc Γ 0) (by simp [go_sem]) ?_)
   unfold tri nums
   simp -implicitDefEqProofs (disch:=omega) [go_sem,Tryz.f126]
 · rw [show downF 1 = ([],1,false) by simp [downF]]
   simp -implicitDefEqProofs (disch:=omega) [go_sem]
   refine .inl (call_data (never_pc Γ 1) (by simp [go_sem]) ?_)
   unfold tri nums
   simp -implicitDefEqProofs (disch:=omega) [go_sem,Tryz.f126]
 · rw [show downF 2 = ([],0,true) by simp [downF]]
   simp -implicitDefEqProofs (disch:=omega) [go_sem]
   refine .inl (call_data (stay_pc Γ 0) (by simp [go_sem]) ?_)
   unfold tri nums
   simp -implicitDefEqProofs (disch:=omega) [go_sem,Tryz.f126]
 · rw [show downF 3 = ([3],1,true) by simp [downF]]
   simp -implicitDefEqProofs (disch:=omega) [go_sem]
   refine .inl (call_keep _ (to_pc Γ 1 [3]) (rw:=true) (cells:=([3]:List Int).map fun n=>D.data (.int .i64 n)) (by simp [Hp.upd,Hp.set]) (fun H' hg=>frzL_c (.data _) (frzL_c (frz_nums (rw:=false) hg (.inr rfl) rfl) frzL_n)) ?_)
   unfold tri nums
   simp -implicitDefEqProofs (disch:=omega) [go_sem,Tryz.f126]
 · rw [show downF 4 = ([],0,true) by simp [downF]]
   simp -implicitDefEqProofs (disch:=omega) [go_sem]
   refine .inl (call_data (stay_pc Γ 0) (by simp [go_sem]) ?_)
   unfold tri nums
   simp -implicitDefEqProofs (disch:=omega) [go_sem,Tryz.f126]
 · rw [show downF 5 = ([],1,true) by simp [downF]]
   simp -implicitDefEqProofs (disch:=omega) [go_sem]
   refine .inl (call_data (stay_pc Γ 1) (by simp [go_sem]) ?_)
   unfold tri nums
   simp -implicitDefEqProofs (disch:=omega) [go_sem,Tryz.f126]
 · rw [show downF 6 = ([],1,true) by simp [downF]]
   simp -implicitDefEqProofs (disch:=omega) [go_sem]
   refine .inl (call_data (stay_pc Γ 1) (by simp [go_sem]) ?_)
   unfold tri nums
   simp -implicitDefEqProofs (disch:=omega) [go_sem,Tryz.f126]
 · rw [show downF 7 = ([],1,true) by simp [downF]]
   simp -implicitDefEqProofs (disch:=omega) [go_sem]
   refine .inl (call_data (stay_pc Γ 1) (by simp [go_sem]) ?_)
   unfold tri nums
   simp -implicitDefEqProofs (disch:=omega) [go_sem,Tryz.f126]
 · rw [show downF 8 = ([],1,true) by simp [downF]]
   simp -implicitDefEqProofs (disch:=omega) [go_sem]
   refine .inl (call_data (stay_pc Γ 1) (by simp [go_sem]) ?_)
   unfold tri nums
   simp -implicitDefEqProofs (disch:=omega) [go_sem,Tryz.f126]
 · rw [show downF 9 = ([2],1,true) by simp [downF]]
   simp -implicitDefEqProofs (disch:=omega) [go_sem]
   refine .inl (call_keep _ (to_pc Γ 1 [2]) (rw:=true) (cells:=([2]:List Int).map fun n=>D.data (.int .i64 n)) (by simp [Hp.upd,Hp.set]) (fun H' hg=>frzL_c (.data _) (frzL_c (frz_nums (rw:=false) hg (.inr rfl) rfl) frzL_n)) ?_)
   unfold tri nums
   simp -implicitDefEqProofs (disch:=omega) [go_sem,Tryz.f126]
def openedF (s:Int)  : R3:=if s = 0 then ([3],1,true) else if s = 2 then ([5,7],6,true) else if s = 4 then ([],5,true) else ([],s,true)
set_option maxHeartbeats 4000000 in
theorem opened_pc (s:Int)  (h:0≤s∧s≤9):PC Tryz.prog Γ 127 [.int .i64 s] (tri (openedF s)):=by
 refine pc_by mixed Tryz.func127 rfl (fun args w=>Tryz.call127 args w) ?_
 obtain ⟨h1,h2⟩:=h
 have hs:s = 0 ∨ s = 1 ∨ s = 2 ∨ s = 3 ∨ s = 4 ∨ s = 5 ∨ s = 6 ∨ s = 7 ∨ s = 8 ∨ s = 9:=by omega
 rcases hs with rfl | rfl | rfl | rfl | rfl | rfl | rfl | rfl | rfl | rfl
 · rw [show openedF 0 = ([3],1,true) by simp [openedF]]
   simp -implicitDefEqProofs (disch:=omega) [go_sem]
   refine .inl (call_keep _ (to_pc Γ 1 [3]) (rw:=true) (cells:=([3]:List Int).map fun n=>D.data (.int .i64 n)) (by simp [Hp.upd,Hp.set]) (fun H' hg=>frzL_c (.data _) (frzL_c (frz_nums (rw:=false) hg (.inr rfl) rfl) frzL_n)) ?_)
   unfold tri nums
   simp -implicitDefEqProofs (disch:=omega) [go_sem,Tryz.f127]
 · rw [show openedF 1 = ([],1,true) by simp [openedF]]
   simp -implicitDefEqProofs (disch:=omega) [go_sem]
   refine .inl (call_data (stay_pc Γ 1) (by simp [go_sem]) ?_)
   unfold tri nums
   simp -implicitDefEqProofs (disch:=omega) [go_sem,Tryz.f127]
 · rw [show openedF 2 = ([5,7],6,true) by simp [openedF]]
   simp -implicitDefEqProofs (disch:=omega) [go_sem]
   refine .inl (call_keep _ (to_pc Γ 6 [5,7]) (rw:=true) (cells:=([5,7]:List Int).map fun n=>D.data (.int .i64 n)) (by simp [Hp.upd,Hp.set]) (fun H' hg=>frzL_c (.data _) (frzL_c (frz_nums (rw:=false) hg (.inr rfl) rfl) frzL_n)) ?_)
   unfold tri nums
   simp -implicitDefEqProofs (disch:=omega) [go_sem,Tryz.f127]
 · rw [show openedF 3 = ([],3,true) by simp [openedF]]
   simp -implicitDefEqProofs (disch:=omega) [go_sem]
   refine .inl (call_data (stay_pc Γ 3) (by simp [go_sem]) ?_)
   unfold tri nums
   simp -implicitDefEqProofs (disch:=omega) [go_sem,Tryz.f127]
 · rw [show openedF 4 = ([],5,true) by simp [openedF]]
   simp -implicitDefEqProofs (disch:=omega) [go_sem]
   refine .inl (call_data (stay_pc Γ 5) (by simp [go_sem]) ?_)
   unfold tri nums
   simp -implicitDefEqProofs (disch:=omega) [go_sem,Tryz.f127]
 · rw [show openedF 5 = ([],5,true) by simp [openedF]]
   simp -implicitDefEqProofs (disch:=omega) [go_sem]
   refine .inl (call_data (stay_pc Γ 5) (by simp [go_sem]) ?_)
   unfold tri nums
   simp -implicitDefEqProofs (disch:=omega) [go_sem,Tryz.f127]
 · rw [show openedF 6 = ([],6,true) by simp [openedF]]
   simp -implicitDefEqProofs (disch:=omega) [go_sem]
   refine .inl (call_data (stay_pc Γ 6) (by simp [go_sem]) ?_)
   unfold tri nums
   simp -implicitDefEqProofs (disch:=omega) [go_sem,Tryz.f127]
 · rw [show openedF 7 = ([],7,true) by simp [openedF]]
   simp -implicitDefEqProofs (disch:=omega) [go_sem]
   refine .inl (call_data (stay_pc Γ 7) (by simp [go_sem]) ?_)
   unfold tri nums
   simp -implicitDefEqProofs (disch:=omega) [go_sem,Tryz.f127]
 · rw [show openedF 8 = ([],8,true) by simp [openedF]]
   simp -implicitDefEqProofs (disch:=omega) [go_sem]
   refine .inl (call_data (stay_pc Γ 8) (by simp [go_sem]) ?_)
   unfold tri nums
   simp -implicitDefEqProofs (disch:=omega) [go_sem,Tryz.f127]
 · rw [show openedF 9 = ([],9,true) by simp [openedF]]
   simp -implicitDefEqProofs (disch:=omega) [go_sem]
   refine .inl (call_data (stay_pc Γ 9) (by simp [go_sem]) ?_)
   unfold tri nums
   simp -implicitDefEqProofs (disch:=omega) [go_sem,Tryz.f127]
def closedF (s:Int)  : R3:=if s = 1 then ([4],0,true) else if s = 3 then ([],2,true) else if s = 5 then ([],4,true) else if s = 6 ∨ s = 7 ∨ s = 8 then ([5,10],4,true) else if s = 9 then ([2,5,10],4,true) else ([],s,true)
set_option maxHeartbeats 4000000 in
theorem closed_pc (s:Int)  (h:0≤s∧s≤9):PC Tryz.prog Γ 128 [.int .i64 s] (tri (closedF s)):=by
 refine pc_by mixed Tryz.func128 rfl (fun args w=>Tryz.call128 args w) ?_
 obtain ⟨h1,h2⟩:=h
 have hs:s = 0 ∨ s = 1 ∨ s = 2 ∨ s = 3 ∨ s = 4 ∨ s = 5 ∨ s = 6 ∨ s = 7 ∨ s = 8 ∨ s = 9:=by omega
 rcases hs with rfl | rfl | rfl | rfl | rfl | rfl | rfl | rfl | rfl | rfl
 · rw [show closedF 0 = ([],0,true) by simp [closedF]]
   simp -implicitDefEqProofs (disch:=omega) [go_sem]
   refine .inl (call_data (stay_pc Γ 0) (by simp [go_sem]) ?_)
   unfold tri nums
   simp -implicitDefEqProofs (disch:=omega) [go_sem,Tryz.f128]
 · rw [show closedF 1 = ([4],0,true) by simp [closedF]]
   simp -implicitDefEqProofs (disch:=omega) [go_sem]
   refine .inl (call_keep _ (to_pc Γ 0 [4]) (rw:=true) (cells:=([4]:List Int).map fun n=>D.data (.int .i64 n)) (by simp [Hp.upd,Hp.set]) (fun H' hg=>frzL_c (.data _) (frzL_c (frz_nums (rw:=false) hg (.inr rfl) rfl) frzL_n)) ?_)
   unfold tri nums
   simp -implicitDefEqProofs (disch:=omega) [go_sem,Tryz.f128]
 · rw [show closedF 2 = ([],2,true) by simp [closedF]]
   simp -implicitDefEqProofs (disch:=omega) [go_sem]
   refine .inl (call_data (stay_pc Γ 2) (by simp [go_sem]) ?_)
   unfold tri nums
   simp -implicitDefEqProofs (disch:=omega) [go_sem,Tryz.f128]
 · rw [show closedF 3 = ([],2,true) by simp [closedF]]
   simp -implicitDefEqProofs (disch:=omega) [go_sem]
   refine .inl (call_data (stay_pc Γ 2) (by simp [go_sem]) ?_)
   unfold tri nums
   simp -implicitDefEqProofs (disch:=omega) [go_sem,Tryz.f128]
 · rw [show closedF 4 = ([],4,true) by simp [closedF]]
   simp -implicitDefEqProofs (disch:=omega) [go_sem]
   refine .inl (call_data (stay_pc Γ 4) (by simp [go_sem]) ?_)
   unfold tri nums
   simp -implicitDefEqProofs (disch:=omega) [go_sem,Tryz.f128]
 · rw [show closedF 5 = ([],4,true) by simp [closedF]]
   simp -implicitDefEqProofs (disch:=omega) [go_sem]
   refine .inl (call_data (stay_pc Γ 4) (by simp [go_sem]) ?_)
   unfold tri nums
   simp -implicitDefEqProofs (disch:=omega) [go_sem,Tryz.f128]
 · rw [show closedF 6 = ([5,10],4,true) by simp [closedF]]
   simp -implicitDefEqProofs (disch:=omega) [go_sem]
   refine .inl (call_keep _ (to_pc Γ 4 [5,10]) (rw:=true) (cells:=([5,10]:List Int).map fun n=>D.data (.int .i64 n)) (by simp [Hp.upd,Hp.set]) (fun H' hg=>frzL_c (.data _) (frzL_c (frz_nums (rw:=false) hg (.inr rfl) rfl) frzL_n)) ?_)
   unfold tri nums
   simp -implicitDefEqProofs (disch:=omega) [go_sem,Tryz.f128]
 · rw [show closedF 7 = ([5,10],4,true) by simp [closedF]]
   simp -implicitDefEqProofs (disch:=omega) [go_sem]
   refine .inl (call_keep _ (to_pc Γ 4 [5,10]) (rw:=true) (cells:=([5,10]:List Int).map fun n=>D.data (.int .i64 n)) (by simp [Hp.upd,Hp.set]) (fun H' hg=>frzL_c (.data _) (frzL_c (frz_nums (rw:=false) hg (.inr rfl) rfl) frzL_n)) ?_)
   unfold tri nums
   simp -implicitDefEqProofs (disch:=omega) [go_sem,Tryz.f128]
 · rw [show closedF 8 = ([5,10],4,true) by simp [closedF]]
   simp -implicitDefEqProofs (disch:=omega) [go_sem]
   refine .inl (call_keep _ (to_pc Γ 4 [5,10]) (rw:=true) (cells:=([5,10]:List Int).map fun n=>D.data (.int .i64 n)) (by simp [Hp.upd,Hp.set]) (fun H' hg=>frzL_c (.data _) (frzL_c (frz_nums (rw:=false) hg (.inr rfl) rfl) frzL_n)) ?_)
   unfold tri nums
   simp -implicitDefEqProofs (disch:=omega) [go_sem,Tryz.f128]
 · rw [show closedF 9 = ([2,5,10],4,true) by simp [closedF]]
   simp -implicitDefEqProofs (disch:=omega) [go_sem]
   refine .inl (call_keep _ (to_pc Γ 4 [2,5,10]) (rw:=true) (cells:=([2,5,10]:List Int).map fun n=>D.data (.int .i64 n)) (by simp [Hp.upd,Hp.set]) (fun H' hg=>frzL_c (.data _) (frzL_c (frz_nums (rw:=false) hg (.inr rfl) rfl) frzL_n)) ?_)
   unfold tri nums
   simp -implicitDefEqProofs (disch:=omega) [go_sem,Tryz.f128]
def timeoutF (s:Int) (more:Bool):R3:=if s < 4 ∨ 8 < s then ([],s,false) else if more = false∧s = 4 then ([4],2,true) else if more = false then ([4],3,true) else if s = 4 ∨ s = 5 then ([10],s,true) else if s = 7 then ([7],6,true) else ([7],s,true)
set_option maxHeartbeats 4000000 in
theorem timeout_pc (s:Int) (more:Bool) (h:0≤s∧s≤9):PC Tryz.prog Γ 129 [.int .i64 s,.bool more] (tri (timeoutF s more)):=by
 refine pc_by mixed Tryz.func129 rfl (fun args w=>Tryz.call129 args w) ?_
 obtain ⟨h1,h2⟩:=h
 have hs:s = 0 ∨ s = 1 ∨ s = 2 ∨ s = 3 ∨ s = 4 ∨ s = 5 ∨ s = 6 ∨ s = 7 ∨ s = 8 ∨ s = 9:=by omega
 rcases hs with rfl | rfl | rfl | rfl | rfl | rfl | rfl | rfl | rfl | rfl
 · cases more
   · rw [show timeoutF 0 false = ([],0,false) by simp [timeoutF]]
     simp -implicitDefEqProofs (disch:=omega) [go_sem]
     refine .inl (call_data (never_pc Γ 0) (by simp [go_sem]) ?_)
     unfold tri nums
     simp -implicitDefEqProofs (disch:=omega) [go_sem,Tryz.f129]
   · rw [show timeoutF 0 true = ([],0,false) by simp [timeoutF]]
     simp -implicitDefEqProofs (disch:=omega) [go_sem]
     refine .inl (call_data (never_pc Γ 0) (by simp [go_sem]) ?_)
     unfold tri nums
     simp -implicitDefEqProofs (disch:=omega) [go_sem,Tryz.f129]
 · cases more
   · rw [show timeoutF 1 false = ([],1,false) by simp [timeoutF]]
     simp -implicitDefEqProofs (disch:=omega) [go_sem]
     refine .inl (call_data (never_pc Γ 1) (by simp [go_sem]) ?_)
     unfold tri nums
     simp -implicitDefEqProofs (disch:=omega) [go_sem,Tryz.f129]
   · rw [show timeoutF 1 true = ([],1,false) by simp [timeoutF]]
     simp -implicitDefEqProofs (disch:=omega) [go_sem]
     refine .inl (call_data (never_pc Γ 1) (by simp [go_sem]) ?_)
     unfold tri nums
     simp -implicitDefEqProofs (disch:=omega) [go_sem,Tryz.f129]
 · cases more
   · rw [show timeoutF 2 false = ([],2,false) by simp [timeoutF]]
     simp -implicitDefEqProofs (disch:=omega) [go_sem]
     refine .inl (call_data (never_pc Γ 2) (by simp [go_sem]) ?_)
     unfold tri nums
     simp -implicitDefEqProofs (disch:=omega) [go_sem,Tryz.f129]
   · rw [show timeoutF 2 true = ([],2,false) by simp [timeoutF]]
     simp -implicitDefEqProofs (disch:=omega) [go_sem]
     refine .inl (call_data (never_pc Γ 2) (by simp [go_sem]) ?_)
     unfold tri nums
     simp -implicitDefEqProofs (disch:=omega) [go_sem,Tryz.f129]
 · cases more
   · rw [show timeoutF 3 false = ([],3,false) by simp [timeoutF]]
     simp -implicitDefEqProofs (disch:=omega) [go_sem]
     refine .inl (call_data (never_pc Γ 3) (by simp [go_sem]) ?_)
     unfold tri nums
     simp -implicitDefEqProofs (disch:=omega) [go_sem,Tryz.f129]
   · rw [show timeoutF 3 true = ([],3,false) by simp [timeoutF]]
     simp -implicitDefEqProofs (disch:=omega) [go_sem]
     refine .inl (call_data (never_pc Γ 3) (by simp [go_sem]) ?_)
     unfold tri nums
     simp -implicitDefEqProofs (disch:=omega) [go_sem,Tryz.f129]
 · cases more
   · rw [show timeoutF 4 false = ([4],2,true) by simp [timeoutF]]
     simp -implicitDefEqProofs (disch:=omega) [go_sem]
     refine .inl (call_keep _ (to_pc Γ 2 [4]) (rw:=true) (cells:=([4]:List Int).map fun n=>D.data (.int .i64 n)) (by simp [Hp.upd,Hp.set]) (fun H' hg=>frzL_c (.data _) (frzL_c (frz_nums (rw:=false) hg (.inr rfl) rfl) frzL_n)) ?_)
     unfold tri nums
     simp -implicitDefEqProofs (disch:=omega) [go_sem,Tryz.f129]
   · rw [show timeoutF 4 true = ([10],4,true) by simp [timeoutF]]
     simp -implicitDefEqProofs (disch:=omega) [go_sem]
     refine .inl (call_keep _ (to_pc Γ 4 [10]) (rw:=true) (cells:=([10]:List Int).map fun n=>D.data (.int .i64 n)) (by simp [Hp.upd,Hp.set]) (fun H' hg=>frzL_c (.data _) (frzL_c (frz_nums (rw:=false) hg (.inr rfl) rfl) frzL_n)) ?_)
     unfold tri nums
     simp -implicitDefEqProofs (disch:=omega) [go_sem,Tryz.f129]
 · cases more
   · rw [show timeoutF 5 false = ([4],3,true) by simp [timeoutF]]
     simp -implicitDefEqProofs (disch:=omega) [go_sem]
     refine .inl (call_keep _ (to_pc Γ 3 [4]) (rw:=true) (cells:=([4]:List Int).map fun n=>D.data (.int .i64 n)) (by simp [Hp.upd,Hp.set]) (fun H' hg=>frzL_c (.data _) (frzL_c (frz_nums (rw:=false) hg (.inr rfl) rfl) frzL_n)) ?_)
     unfold tri nums
     simp -implicitDefEqProofs (disch:=omega) [go_sem,Tryz.f129]
   · rw [show timeoutF 5 true = ([10],5,true) by simp [timeoutF]]
     simp -implicitDefEqProofs (disch:=omega) [go_sem]
     refine .inl (call_keep _ (to_pc Γ 5 [10]) (rw:=true) (cells:=([10]:List Int).map fun n=>D.data (.int .i64 n)) (by simp [Hp.upd,Hp.set]) (fun H' hg=>frzL_c (.data _) (frzL_c (frz_nums (rw:=false) hg (.inr rfl) rfl) frzL_n)) ?_)
     unfold tri nums
     simp -implicitDefEqProofs (disch:=omega) [go_sem,Tryz.f129]
 · cases more
   · rw [show timeoutF 6 false = ([4],3,true) by simp [timeoutF]]
     simp -implicitDefEqProofs (disch:=omega) [go_sem]
     refine .inl (call_keep _ (to_pc Γ 3 [4]) (rw:=true) (cells:=([4]:List Int).map fun n=>D.data (.int .i64 n)) (by simp [Hp.upd,Hp.set]) (fun H' hg=>frzL_c (.data _) (frzL_c (frz_nums (rw:=false) hg (.inr rfl) rfl) frzL_n)) ?_)
     unfold tri nums
     simp -implicitDefEqProofs (disch:=omega) [go_sem,Tryz.f129]
   · rw [show timeoutF 6 true = ([7],6,true) by simp [timeoutF]]
     simp -implicitDefEqProofs (disch:=omega) [go_sem]
     refine .inl (call_keep _ (to_pc Γ 6 [7]) (rw:=true) (cells:=([7]:List Int).map fun n=>D.data (.int .i64 n)) (by simp [Hp.upd,Hp.set]) (fun H' hg=>frzL_c (.data _) (frzL_c (frz_nums (rw:=false) hg (.inr rfl) rfl) frzL_n)) ?_)
     unfold tri nums
     simp -implicitDefEqProofs (disch:=omega) [go_sem,Tryz.f129]
 · cases more
   · rw [show timeoutF 7 false = ([4],3,true) by simp [timeoutF]]
     simp -implicitDefEqProofs (disch:=omega) [go_sem]
     refine .inl (call_keep _ (to_pc Γ 3 [4]) (rw:=true) (cells:=([4]:List Int).map fun n=>D.data (.int .i64 n)) (by simp [Hp.upd,Hp.set]) (fun H' hg=>frzL_c (.data _) (frzL_c (frz_nums (rw:=false) hg (.inr rfl) rfl) frzL_n)) ?_)
     unfold tri nums
     simp -implicitDefEqProofs (disch:=omega) [go_sem,Tryz.f129]
   · rw [show timeoutF 7 true = ([7],6,true) by simp [timeoutF]]
     simp -implicitDefEqProofs (disch:=omega) [go_sem]
     refine .inl (call_keep _ (to_pc Γ 6 [7]) (rw:=true) (cells:=([7]:List Int).map fun n=>D.data (.int .i64 n)) (by simp [Hp.upd,Hp.set]) (fun H' hg=>frzL_c (.data _) (frzL_c (frz_nums (rw:=false) hg (.inr rfl) rfl) frzL_n)) ?_)
     unfold tri nums
     simp -implicitDefEqProofs (disch:=omega) [go_sem,Tryz.f129]
 · cases more
   · rw [show timeoutF 8 false = ([4],3,true) by simp [timeoutF]]
     simp -implicitDefEqProofs (disch:=omega) [go_sem]
     refine .inl (call_keep _ (to_pc Γ 3 [4]) (rw:=true) (cells:=([4]:List Int).map fun n=>D.data (.int .i64 n)) (by simp [Hp.upd,Hp.set]) (fun H' hg=>frzL_c (.data _) (frzL_c (frz_nums (rw:=false) hg (.inr rfl) rfl) frzL_n)) ?_)
     unfold tri nums
     simp -implicitDefEqProofs (disch:=omega) [go_sem,Tryz.f129]
   · rw [show timeoutF 8 true = ([7],8,true) by simp [timeoutF]]
     simp -implicitDefEqProofs (disch:=omega) [go_sem]
     refine .inl (call_keep _ (to_pc Γ 8 [7]) (rw:=true) (cells:=([7]:List Int).map fun n=>D.data (.int .i64 n)) (by simp [Hp.upd,Hp.set]) (fun H' hg=>frzL_c (.data _) (frzL_c (frz_nums (rw:=false) hg (.inr rfl) rfl) frzL_n)) ?_)
     unfold tri nums
     simp -implicitDefEqProofs (disch:=omega) [go_sem,Tryz.f129]
 · cases more
   · rw [show timeoutF 9 false = ([],9,false) by simp [timeoutF]]
     simp -implicitDefEqProofs (disch:=omega) [go_sem]
     refine .inl (call_data (never_pc Γ 9) (by simp [go_sem]) ?_)
     unfold tri nums
     simp -implicitDefEqProofs (disch:=omega) [go_sem,Tryz.f129]
   · rw [show timeoutF 9 true = ([],9,false) by simp [timeoutF]]
     simp -implicitDefEqProofs (disch:=omega) [go_sem]
     refine .inl (call_data (never_pc Γ 9) (by simp [go_sem]) ?_)
     unfold tri nums
     simp -implicitDefEqProofs (disch:=omega) [go_sem,Tryz.f129]
def requestF (s:Int) (good:Bool) (act:Int):R3:=if s = 2 then ([11],2,true) else if s = 3 then ([5,7,act],(if good = true then 8 else 6),true) else if s = 4 ∨ s = 5 then ([],s,true) else if s = 7∧good = true then ([act,1],9,true) else if s = 7 then ([act],7,true) else if s = 9 then ([2,7,act],(if good = true then 8 else 6),true) else ([act],(if good = true then 8 else 6),true)
set_option maxHeartbeats 4000000 in
theorem request_pc (s:Int) (good:Bool) (act:Int) (h:0≤s∧s≤9):PC Tryz.prog Γ 130 [.int .i64 s,.bool good,.int .i64 act] (tri (requestF s good act)):=by
 refine pc_by mixed Tryz.func130 rfl (fun args w=>Tryz.call130 args w) ?_
 obtain ⟨h1,h2⟩:=h
 have hs:s = 0 ∨ s = 1 ∨ s = 2 ∨ s = 3 ∨ s = 4 ∨ s = 5 ∨ s = 6 ∨ s = 7 ∨ s = 8 ∨ s = 9:=by omega
 rcases hs with rfl | rfl | rfl | rfl | rfl | rfl | rfl | rfl | rfl | rfl
 · cases good
   · rw [show requestF 0 false act = ([act],6,true) by simp [requestF]]
     simp -implicitDefEqProofs (disch:=omega) [go_sem]
     refine .inl (call_keep _ (to_pc Γ 6 [act]) (rw:=true) (cells:=([act]:List Int).map fun n=>D.data (.int .i64 n)) (by simp [Hp.upd,Hp.set]) (fun H' hg=>frzL_c (.data _) (frzL_c (frz_nums (rw:=false) hg (.inr rfl) rfl) frzL_n)) ?_)
     unfold tri nums
     simp -implicitDefEqProofs (disch:=omega) [go_sem,Tryz.f130]
   · rw [show requestF 0 true act = ([act],8,true) by simp [requestF]]
     simp -implicitDefEqProofs (disch:=omega) [go_sem]
     refine .inl (call_keep _ (to_pc Γ 8 [act]) (rw:=true) (cells:=([act]:List Int).map fun n=>D.data (.int .i64 n)) (by simp [Hp.upd,Hp.set]) (fun H' hg=>frzL_c (.data _) (frzL_c (frz_nums (rw:=false) hg (.inr rfl) rfl) frzL_n)) ?_)
     unfold tri nums
     simp -implicitDefEqProofs (disch:=omega) [go_sem,Tryz.f130]
 · cases good
   · rw [show requestF 1 false act = ([act],6,true) by simp [requestF]]
     simp -implicitDefEqProofs (disch:=omega) [go_sem]
     refine .inl (call_keep _ (to_pc Γ 6 [act]) (rw:=true) (cells:=([act]:List Int).map fun n=>D.data (.int .i64 n)) (by simp [Hp.upd,Hp.set]) (fun H' hg=>frzL_c (.data _) (frzL_c (frz_nums (rw:=false) hg (.inr rfl) rfl) frzL_n)) ?_)
     unfold tri nums
     simp -implicitDefEqProofs (disch:=omega) [go_sem,Tryz.f130]
   · rw [show requestF 1 true act = ([act],8,true) by simp [requestF]]
     simp -implicitDefEqProofs (disch:=omega) [go_sem]
     refine .inl (call_keep _ (to_pc Γ 8 [act]) (rw:=true) (cells:=([act]:List Int).map fun n=>D.data (.int .i64 n)) (by simp [Hp.upd,Hp.set]) (fun H' hg=>frzL_c (.data _) (frzL_c (frz_nums (rw:=false) hg (.inr rfl) rfl) frzL_n)) ?_)
     unfold tri nums
     simp -implicitDefEqProofs (disch:=omega) [go_sem,Tryz.f130]
 · cases good
   · rw [show requestF 2 false act = ([11],2,true) by simp [requestF]]
     simp -implicitDefEqProofs (disch:=omega) [go_sem]
     refine .inl (call_keep _ (to_pc Γ 2 [11]) (rw:=true) (cells:=([11]:List Int).map fun n=>D.data (.int .i64 n)) (by simp [Hp.upd,Hp.set]) (fun H' hg=>frzL_c (.data _) (frzL_c (frz_nums (rw:=false) hg (.inr rfl) rfl) frzL_n)) ?_)
     unfold tri nums
     simp -implicitDefEqProofs (disch:=omega) [go_sem,Tryz.f130]
   · rw [show requestF 2 true act = ([11],2,true) by simp [requestF]]
     simp -implicitDefEqProofs (disch:=omega) [go_sem]
     refine .inl (call_keep _ (to_pc Γ 2 [11]) (rw:=true) (cells:=([11]:List Int).map fun n=>D.data (.int .i64 n)) (by simp [Hp.upd,Hp.set]) (fun H' hg=>frzL_c (.data _) (frzL_c (frz_nums (rw:=false) hg (.inr rfl) rfl) frzL_n)) ?_)
     unfold tri nums
     simp -implicitDefEqProofs (disch:=omega) [go_sem,Tryz.f130]
 · cases good
   · rw [show requestF 3 false act = ([5,7,act],6,true) by simp [requestF]]
     simp -implicitDefEqProofs (disch:=omega) [go_sem]
     refine .inl (call_keep _ (to_pc Γ 6 [5,7,act]) (rw:=true) (cells:=([5,7,act]:List Int).map fun n=>D.data (.int .i64 n)) (by simp [Hp.upd,Hp.set]) (fun H' hg=>frzL_c (.data _) (frzL_c (frz_nums (rw:=false) hg (.inr rfl) rfl) frzL_n)) ?_)
     unfold tri nums
     simp -implicitDefEqProofs (disch:=omega) [go_sem,Tryz.f130]
   · rw [show requestF 3 true act = ([5,7,act],8,true) by simp [requestF]]
     simp -implicitDefEqProofs (disch:=omega) [go_sem]
     refine .inl (call_keep _ (to_pc Γ 8 [5,7,act]) (rw:=true) (cells:=([5,7,act]:List Int).map fun n=>D.data (.int .i64 n)) (by simp [Hp.upd,Hp.set]) (fun H' hg=>frzL_c (.data _) (frzL_c (frz_nums (rw:=false) hg (.inr rfl) rfl) frzL_n)) ?_)
     unfold tri nums
     simp -implicitDefEqProofs (disch:=omega) [go_sem,Tryz.f130]
 · cases good
   · rw [show requestF 4 false act = ([],4,true) by simp [requestF]]
     simp -implicitDefEqProofs (disch:=omega) [go_sem]
     refine .inl (call_data (stay_pc Γ 4) (by simp [go_sem]) ?_)
     unfold tri nums
     simp -implicitDefEqProofs (disch:=omega) [go_sem,Tryz.f130]
   · rw [show requestF 4 true act = ([],4,true) by simp [requestF]]
     simp -implicitDefEqProofs (disch:=omega) [go_sem]
     refine .inl (call_data (stay_pc Γ 4) (by simp [go_sem]) ?_)
     unfold tri nums
     simp -implicitDefEqProofs (disch:=omega) [go_sem,Tryz.f130]
 · cases good
   · rw [show requestF 5 false act = ([],5,true) by simp [requestF]]
     simp -implicitDefEqProofs (disch:=omega) [go_sem]
     refine .inl (call_data (stay_pc Γ 5) (by simp [go_sem]) ?_)
     unfold tri nums
     simp -implicitDefEqProofs (disch:=omega) [go_sem,Tryz.f130]
   · rw [show requestF 5 true act = ([],5,true) by simp [requestF]]
     simp -implicitDefEqProofs (disch:=omega) [go_sem]
     refine .inl (call_data (stay_pc Γ 5) (by simp [go_sem]) ?_)
     unfold tri nums
     simp -implicitDefEqProofs (disch:=omega) [go_sem,Tryz.f130]
 · cases good
   · rw [show requestF 6 false act = ([act],6,true) by simp [requestF]]
     simp -implicitDefEqProofs (disch:=omega) [go_sem]
     refine .inl (call_keep _ (to_pc Γ 6 [act]) (rw:=true) (cells:=([act]:List Int).map fun n=>D.data (.int .i64 n)) (by simp [Hp.upd,Hp.set]) (fun H' hg=>frzL_c (.data _) (frzL_c (frz_nums (rw:=false) hg (.inr rfl) rfl) frzL_n)) ?_)
     unfold tri nums
     simp -implicitDefEqProofs (disch:=omega) [go_sem,Tryz.f130]
   · rw [show requestF 6 true act = ([act],8,true) by simp [requestF]]
     simp -implicitDefEqProofs (disch:=omega) [go_sem]
     refine .inl (call_keep _ (to_pc Γ 8 [act]) (rw:=true) (cells:=([act]:List Int).map fun n=>D.data (.int .i64 n)) (by simp [Hp.upd,Hp.set]) (fun H' hg=>frzL_c (.data _) (frzL_c (frz_nums (rw:=false) hg (.inr rfl) rfl) frzL_n)) ?_)
     unfold tri nums
     simp -implicitDefEqProofs (disch:=omega) [go_sem,Tryz.f130]
 · cases good
   · rw [show requestF 7 false act = ([act],7,true) by simp [requestF]]
     simp -implicitDefEqProofs (disch:=omega) [go_sem]
     refine .inl (call_keep _ (to_pc Γ 7 [act]) (rw:=true) (cells:=([act]:List Int).map fun n=>D.data (.int .i64 n)) (by simp [Hp.upd,Hp.set]) (fun H' hg=>frzL_c (.data _) (frzL_c (frz_nums (rw:=false) hg (.inr rfl) rfl) frzL_n)) ?_)
     unfold tri nums
     simp -implicitDefEqProofs (disch:=omega) [go_sem,Tryz.f130]
   · rw [show requestF 7 true act = ([act,1],9,true) by simp [requestF]]
     simp -implicitDefEqProofs (disch:=omega) [go_sem]
     refine .inl (call_keep _ (to_pc Γ 9 [act,1]) (rw:=true) (cells:=([act,1]:List Int).map fun n=>D.data (.int .i64 n)) (by simp [Hp.upd,Hp.set]) (fun H' hg=>frzL_c (.data _) (frzL_c (frz_nums (rw:=false) hg (.inr rfl) rfl) frzL_n)) ?_)
     unfold tri nums
     simp -implicitDefEqProofs (disch:=omega) [go_sem,Tryz.f130]
 · cases good
   · rw [show requestF 8 false act = ([act],6,true) by simp [requestF]]
     simp -implicitDefEqProofs (disch:=omega) [go_sem]
     refine .inl (call_keep _ (to_pc Γ 6 [act]) (rw:=true) (cells:=([act]:List Int).map fun n=>D.data (.int .i64 n)) (by simp [Hp.upd,Hp.set]) (fun H' hg=>frzL_c (.data _) (frzL_c (frz_nums (rw:=false) hg (.inr rfl) rfl) frzL_n)) ?_)
     unfold tri nums
     simp -implicitDefEqProofs (disch:=omega) [go_sem,Tryz.f130]
   · rw [show requestF 8 true act = ([act],8,true) by simp [requestF]]
     simp -implicitDefEqProofs (disch:=omega) [go_sem]
     refine .inl (call_keep _ (to_pc Γ 8 [act]) (rw:=true) (cells:=([act]:List Int).map fun n=>D.data (.int .i64 n)) (by simp [Hp.upd,Hp.set]) (fun H' hg=>frzL_c (.data _) (frzL_c (frz_nums (rw:=false) hg (.inr rfl) rfl) frzL_n)) ?_)
     unfold tri nums
     simp -implicitDefEqProofs (disch:=omega) [go_sem,Tryz.f130]
 · cases good
   · rw [show requestF 9 false act = ([2,7,act],6,true) by simp [requestF]]
     simp -implicitDefEqProofs (disch:=omega) [go_sem]
     refine .inl (call_keep _ (to_pc Γ 6 [2,7,act]) (rw:=true) (cells:=([2,7,act]:List Int).map fun n=>D.data (.int .i64 n)) (by simp [Hp.upd,Hp.set]) (fun H' hg=>frzL_c (.data _) (frzL_c (frz_nums (rw:=false) hg (.inr rfl) rfl) frzL_n)) ?_)
     unfold tri nums
     simp -implicitDefEqProofs (disch:=omega) [go_sem,Tryz.f130]
   · rw [show requestF 9 true act = ([2,7,act],8,true) by simp [requestF]]
     simp -implicitDefEqProofs (disch:=omega) [go_sem]
     refine .inl (call_keep _ (to_pc Γ 8 [2,7,act]) (rw:=true) (cells:=([2,7,act]:List Int).map fun n=>D.data (.int .i64 n)) (by simp [Hp.upd,Hp.set]) (fun H' hg=>frzL_c (.data _) (frzL_c (frz_nums (rw:=false) hg (.inr rfl) rfl) frzL_n)) ?_)
     unfold tri nums
     simp -implicitDefEqProofs (disch:=omega) [go_sem,Tryz.f130]
def answerF (s:Int) (ack:Bool):R3:=if s = 2 ∨ s = 3 then ([11],s,true) else if s = 4 ∨ s = 5 then ([],s,true) else if s = 7 then ([7],6,true) else if s = 9 then ([2,7],6,true) else if ack = true∧s = 6 then ([5],7,true) else if ack = true then ([5,1],9,true) else ([5,7],s,true)
set_option maxHeartbeats 4000000 in
theorem answer_pc (s:Int) (ack:Bool) (h:0≤s∧s≤9):PC Tryz.prog Γ 131 [.int .i64 s,.bool ack] (tri (answerF s ack)):=by
 refine pc_by mixed Tryz.func131 rfl (fun args w=>Tryz.call131 args w) ?_
 obtain ⟨h1,h2⟩:=h
 have hs:s = 0 ∨ s = 1 ∨ s = 2 ∨ s = 3 ∨ s = 4 ∨ s = 5 ∨ s = 6 ∨ s = 7 ∨ s = 8 ∨ s = 9:=by omega
 rcases hs with rfl | rfl | rfl | rfl | rfl | rfl | rfl | rfl | rfl | rfl
 · cases ack
   · rw [show answerF 0 false = ([5,7],0,true) by simp [answerF]]
     simp -implicitDefEqProofs (disch:=omega) [go_sem]
     refine .inl (call_keep _ (to_pc Γ 0 [5,7]) (rw:=true) (cells:=([5,7]:List Int).map fun n=>D.data (.int .i64 n)) (by simp [Hp.upd,Hp.set]) (fun H' hg=>frzL_c (.data _) (frzL_c (frz_nums (rw:=false) hg (.inr rfl) rfl) frzL_n)) ?_)
     unfold tri nums
     simp -implicitDefEqProofs (disch:=omega) [go_sem,Tryz.f131]
   · rw [show answerF 0 true = ([5,1],9,true) by simp [answerF]]
     simp -implicitDefEqProofs (disch:=omega) [go_sem]
     refine .inl (call_keep _ (to_pc Γ 9 [5,1]) (rw:=true) (cells:=([5,1]:List Int).map fun n=>D.data (.int .i64 n)) (by simp [Hp.upd,Hp.set]) (fun H' hg=>frzL_c (.data _) (frzL_c (frz_nums (rw:=false) hg (.inr rfl) rfl) frzL_n)) ?_)
     unfold tri nums
     simp -implicitDefEqProofs (disch:=omega) [go_sem,Tryz.f131]
 · cases ack
   · rw [show answerF 1 false = ([5,7],1,true) by simp [answerF]]
     simp -implicitDefEqProofs (disch:=omega) [go_sem]
     refine .inl (call_keep _ (to_pc Γ 1 [5,7]) (rw:=true) (cells:=([5,7]:List Int).map fun n=>D.data (.int .i64 n)) (by simp [Hp.upd,Hp.set]) (fun H' hg=>frzL_c (.data _) (frzL_c (frz_nums (rw:=false) hg (.inr rfl) rfl) frzL_n)) ?_)
     unfold tri nums
     simp -implicitDefEqProofs (disch:=omega) [go_sem,Tryz.f131]
   · rw [show answerF 1 true = ([5,1],9,true) by simp [answerF]]
     simp -implicitDefEqProofs (disch:=omega) [go_sem]
     refine .inl (call_keep _ (to_pc Γ 9 [5,1]) (rw:=true) (cells:=([5,1]:List Int).map fun n=>D.data (.int .i64 n)) (by simp [Hp.upd,Hp.set]) (fun H' hg=>frzL_c (.data _) (frzL_c (frz_nums (rw:=false) hg (.inr rfl) rfl) frzL_n)) ?_)
     unfold tri nums
     simp -implicitDefEqProofs (disch:=omega) [go_sem,Tryz.f131]
 · cases ack
   · rw [show answerF 2 false = ([11],2,true) by simp [answerF]]
     simp -implicitDefEqProofs (disch:=omega) [go_sem]
     refine .inl (call_keep _ (to_pc Γ 2 [11]) (rw:=true) (cells:=([11]:List Int).map fun n=>D.data (.int .i64 n)) (by simp [Hp.upd,Hp.set]) (fun H' hg=>frzL_c (.data _) (frzL_c (frz_nums (rw:=false) hg (.inr rfl) rfl) frzL_n)) ?_)
     unfold tri nums
     simp -implicitDefEqProofs (disch:=omega) [go_sem,Tryz.f131]
   · rw [show answerF 2 true = ([11],2,true) by simp [answerF]]
     simp -implicitDefEqProofs (disch:=omega) [go_sem]
     refine .inl (call_keep _ (to_pc Γ 2 [11]) (rw:=true) (cells:=([11]:List Int).map fun n=>D.data (.int .i64 n)) (by simp [Hp.upd,Hp.set]) (fun H' hg=>frzL_c (.data _) (frzL_c (frz_nums (rw:=false) hg (.inr rfl) rfl) frzL_n)) ?_)
     unfold tri nums
     simp -implicitDefEqProofs (disch:=omega) [go_sem,Tryz.f131]
 · cases ack
   · rw [show answerF 3 false = ([11],3,true) by simp [answerF]]
     simp -implicitDefEqProofs (disch:=omega) [go_sem]
     refine .inl (call_keep _ (to_pc Γ 3 [11]) (rw:=true) (cells:=([11]:List Int).map fun n=>D.data (.int .i64 n)) (by simp [Hp.upd,Hp.set]) (fun H' hg=>frzL_c (.data _) (frzL_c (frz_nums (rw:=false) hg (.inr rfl) rfl) frzL_n)) ?_)
     unfold tri nums
     simp -implicitDefEqProofs (disch:=omega) [go_sem,Tryz.f131]
   · rw [show answerF 3 true = ([11],3,true) by simp [answerF]]
     simp -implicitDefEqProofs (disch:=omega) [go_sem]
     refine .inl (call_keep _ (to_pc Γ 3 [11]) (rw:=true) (cells:=([11]:List Int).map fun n=>D.data (.int .i64 n)) (by simp [Hp.upd,Hp.set]) (fun H' hg=>frzL_c (.data _) (frzL_c (frz_nums (rw:=false) hg (.inr rfl) rfl) frzL_n)) ?_)
     unfold tri nums
     simp -implicitDefEqProofs (disch:=omega) [go_sem,Tryz.f131]
 · cases ack
   · rw [show answerF 4 false = ([],4,true) by simp [answerF]]
     simp -implicitDefEqProofs (disch:=omega) [go_sem]
     refine .inl (call_data (stay_pc Γ 4) (by simp [go_sem]) ?_)
     unfold tri nums
     simp -implicitDefEqProofs (disch:=omega) [go_sem,Tryz.f131]
   · rw [show answerF 4 true = ([],4,true) by simp [answerF]]
     simp -implicitDefEqProofs (disch:=omega) [go_sem]
     refine .inl (call_data (stay_pc Γ 4) (by simp [go_sem]) ?_)
     unfold tri nums
     simp -implicitDefEqProofs (disch:=omega) [go_sem,Tryz.f131]
 · cases ack
   · rw [show answerF 5 false = ([],5,true) by simp [answerF]]
     simp -implicitDefEqProofs (disch:=omega) [go_sem]
     refine .inl (call_data (stay_pc Γ 5) (by simp [go_sem]) ?_)
     unfold tri nums
     simp -implicitDefEqProofs (disch:=omega) [go_sem,Tryz.f131]
   · rw [show answerF 5 true = ([],5,true) by simp [answerF]]
     simp -implicitDefEqProofs (disch:=omega) [go_sem]
     refine .inl (call_data (stay_pc Γ 5) (by simp [go_sem]) ?_)
     unfold tri nums
     simp -implicitDefEqProofs (disch:=omega) [go_sem,Tryz.f131]
 · cases ack
   · rw [show answerF 6 false = ([5,7],6,true) by simp [answerF]]
     simp -implicitDefEqProofs (disch:=omega) [go_sem]
     refine .inl (call_keep _ (to_pc Γ 6 [5,7]) (rw:=true) (cells:=([5,7]:List Int).map fun n=>D.data (.int .i64 n)) (by simp [Hp.upd,Hp.set]) (fun H' hg=>frzL_c (.data _) (frzL_c (frz_nums (rw:=false) hg (.inr rfl) rfl) frzL_n)) ?_)
     unfold tri nums
     simp -implicitDefEqProofs (disch:=omega) [go_sem,Tryz.f131]
   · rw [show answerF 6 true = ([5],7,true) by simp [answerF]]
     simp -implicitDefEqProofs (disch:=omega) [go_sem]
     refine .inl (call_keep _ (to_pc Γ 7 [5]) (rw:=true) (cells:=([5]:List Int).map fun n=>D.data (.int .i64 n)) (by simp [Hp.upd,Hp.set]) (fun H' hg=>frzL_c (.data _) (frzL_c (frz_nums (rw:=false) hg (.inr rfl) rfl) frzL_n)) ?_)
     unfold tri nums
     simp -implicitDefEqProofs (disch:=omega) [go_sem,Tryz.f131]
 · cases ack
   · rw [show answerF 7 false = ([7],6,true) by simp [answerF]]
     simp -implicitDefEqProofs (disch:=omega) [go_sem]
     refine .inl (call_keep _ (to_pc Γ 6 [7]) (rw:=true) (cells:=([7]:List Int).map fun n=>D.data (.int .i64 n)) (by simp [Hp.upd,Hp.set]) (fun H' hg=>frzL_c (.data _) (frzL_c (frz_nums (rw:=false) hg (.inr rfl) rfl) frzL_n)) ?_)
     unfold tri nums
     simp -implicitDefEqProofs (disch:=omega) [go_sem,Tryz.f131]
   · rw [show answerF 7 true = ([7],6,true) by simp [answerF]]
     simp -implicitDefEqProofs (disch:=omega) [go_sem]
     refine .inl (call_keep _ (to_pc Γ 6 [7]) (rw:=true) (cells:=([7]:List Int).map fun n=>D.data (.int .i64 n)) (by simp [Hp.upd,Hp.set]) (fun H' hg=>frzL_c (.data _) (frzL_c (frz_nums (rw:=false) hg (.inr rfl) rfl) frzL_n)) ?_)
     unfold tri nums
     simp -implicitDefEqProofs (disch:=omega) [go_sem,Tryz.f131]
 · cases ack
   · rw [show answerF 8 false = ([5,7],8,true) by simp [answerF]]
     simp -implicitDefEqProofs (disch:=omega) [go_sem]
     refine .inl (call_keep _ (to_pc Γ 8 [5,7]) (rw:=true) (cells:=([5,7]:List Int).map fun n=>D.data (.int .i64 n)) (by simp [Hp.upd,Hp.set]) (fun H' hg=>frzL_c (.data _) (frzL_c (frz_nums (rw:=false) hg (.inr rfl) rfl) frzL_n)) ?_)
     unfold tri nums
     simp -implicitDefEqProofs (disch:=omega) [go_sem,Tryz.f131]
   · rw [show answerF 8 true = ([5,1],9,true) by simp [answerF]]
     simp -implicitDefEqProofs (disch:=omega) [go_sem]
     refine .inl (call_keep _ (to_pc Γ 9 [5,1]) (rw:=true) (cells:=([5,1]:List Int).map fun n=>D.data (.int .i64 n)) (by simp [Hp.upd,Hp.set]) (fun H' hg=>frzL_c (.data _) (frzL_c (frz_nums (rw:=false) hg (.inr rfl) rfl) frzL_n)) ?_)
     unfold tri nums
     simp -implicitDefEqProofs (disch:=omega) [go_sem,Tryz.f131]
 · cases ack
   · rw [show answerF 9 false = ([2,7],6,true) by simp [answerF]]
     simp -implicitDefEqProofs (disch:=omega) [go_sem]
     refine .inl (call_keep _ (to_pc Γ 6 [2,7]) (rw:=true) (cells:=([2,7]:List Int).map fun n=>D.data (.int .i64 n)) (by simp [Hp.upd,Hp.set]) (fun H' hg=>frzL_c (.data _) (frzL_c (frz_nums (rw:=false) hg (.inr rfl) rfl) frzL_n)) ?_)
     unfold tri nums
     simp -implicitDefEqProofs (disch:=omega) [go_sem,Tryz.f131]
   · rw [show answerF 9 true = ([2,7],6,true) by simp [answerF]]
     simp -implicitDefEqProofs (disch:=omega) [go_sem]
     refine .inl (call_keep _ (to_pc Γ 6 [2,7]) (rw:=true) (cells:=([2,7]:List Int).map fun n=>D.data (.int .i64 n)) (by simp [Hp.upd,Hp.set]) (fun H' hg=>frzL_c (.data _) (frzL_c (frz_nums (rw:=false) hg (.inr rfl) rfl) frzL_n)) ?_)
     unfold tri nums
     simp -implicitDefEqProofs (disch:=omega) [go_sem,Tryz.f131]
def endF (s:Int)  : R3:=if s = 9 then ([2,6,11],5,true) else if 6≤s then ([11],6,true) else ([11],s,true)
set_option maxHeartbeats 4000000 in
theorem end_pc (s:Int)  (h:0≤s∧s≤9):PC Tryz.prog Γ 132 [.int .i64 s] (tri (endF s)):=by
 refine pc_by mixed Tryz.func132 rfl (fun args w=>Tryz.call132 args w) ?_
 obtain ⟨h1,h2⟩:=h
 have hs:s = 0 ∨ s = 1 ∨ s = 2 ∨ s = 3 ∨ s = 4 ∨ s = 5 ∨ s = 6 ∨ s = 7 ∨ s = 8 ∨ s = 9:=by omega
 rcases hs with rfl | rfl | rfl | rfl | rfl | rfl | rfl | rfl | rfl | rfl
 · rw [show endF 0 = ([11],0,true) by simp [endF]]
   simp -implicitDefEqProofs (disch:=omega) [go_sem]
   refine .inl (call_keep _ (to_pc Γ 0 [11]) (rw:=true) (cells:=([11]:List Int).map fun n=>D.data (.int .i64 n)) (by simp [Hp.upd,Hp.set]) (fun H' hg=>frzL_c (.data _) (frzL_c (frz_nums (rw:=false) hg (.inr rfl) rfl) frzL_n)) ?_)
   unfold tri nums
   simp -implicitDefEqProofs (disch:=omega) [go_sem,Tryz.f132]
 · rw [show endF 1 = ([11],1,true) by simp [endF]]
   simp -implicitDefEqProofs (disch:=omega) [go_sem]
   refine .inl (call_keep _ (to_pc Γ 1 [11]) (rw:=true) (cells:=([11]:List Int).map fun n=>D.data (.int .i64 n)) (by simp [Hp.upd,Hp.set]) (fun H' hg=>frzL_c (.data _) (frzL_c (frz_nums (rw:=false) hg (.inr rfl) rfl) frzL_n)) ?_)
   unfold tri nums
   simp -implicitDefEqProofs (disch:=omega) [go_sem,Tryz.f132]
 · rw [show endF 2 = ([11],2,true) by simp [endF]]
   simp -implicitDefEqProofs (disch:=omega) [go_sem]
   refine .inl (call_keep _ (to_pc Γ 2 [11]) (rw:=true) (cells:=([11]:List Int).map fun n=>D.data (.int .i64 n)) (by simp [Hp.upd,Hp.set]) (fun H' hg=>frzL_c (.data _) (frzL_c (frz_nums (rw:=false) hg (.inr rfl) rfl) frzL_n)) ?_)
   unfold tri nums
   simp -implicitDefEqProofs (disch:=omega) [go_sem,Tryz.f132]
 · rw [show endF 3 = ([11],3,true) by simp [endF]]
   simp -implicitDefEqProofs (disch:=omega) [go_sem]
   refine .inl (call_keep _ (to_pc Γ 3 [11]) (rw:=true) (cells:=([11]:List Int).map fun n=>D.data (.int .i64 n)) (by simp [Hp.upd,Hp.set]) (fun H' hg=>frzL_c (.data _) (frzL_c (frz_nums (rw:=false) hg (.inr rfl) rfl) frzL_n)) ?_)
   unfold tri nums
   simp -implicitDefEqProofs (disch:=omega) [go_sem,Tryz.f132]
 · rw [show endF 4 = ([11],4,true) by simp [endF]]
   simp -implicitDefEqProofs (disch:=omega) [go_sem]
   refine .inl (call_keep _ (to_pc Γ 4 [11]) (rw:=true) (cells:=([11]:List Int).map fun n=>D.data (.int .i64 n)) (by simp [Hp.upd,Hp.set]) (fun H' hg=>frzL_c (.data _) (frzL_c (frz_nums (rw:=false) hg (.inr rfl) rfl) frzL_n)) ?_)
   unfold tri nums
   simp -implicitDefEqProofs (disch:=omega) [go_sem,Tryz.f132]
 · rw [show endF 5 = ([11],5,true) by simp [endF]]
   simp -implicitDefEqProofs (disch:=omega) [go_sem]
   refine .inl (call_keep _ (to_pc Γ 5 [11]) (rw:=true) (cells:=([11]:List Int).map fun n=>D.data (.int .i64 n)) (by simp [Hp.upd,Hp.set]) (fun H' hg=>frzL_c (.data _) (frzL_c (frz_nums (rw:=false) hg (.inr rfl) rfl) frzL_n)) ?_)
   unfold tri nums
   simp -implicitDefEqProofs (disch:=omega) [go_sem,Tryz.f132]
 · rw [show endF 6 = ([11],6,true) by simp [endF]]
   simp -implicitDefEqProofs (disch:=omega) [go_sem]
   refine .inl (call_keep _ (to_pc Γ 6 [11]) (rw:=true) (cells:=([11]:List Int).map fun n=>D.data (.int .i64 n)) (by simp [Hp.upd,Hp.set]) (fun H' hg=>frzL_c (.data _) (frzL_c (frz_nums (rw:=false) hg (.inr rfl) rfl) frzL_n)) ?_)
   unfold tri nums
   simp -implicitDefEqProofs (disch:=omega) [go_sem,Tryz.f132]
 · rw [show endF 7 = ([11],6,true) by simp [endF]]
   simp -implicitDefEqProofs (disch:=omega) [go_sem]
   refine .inl (call_keep _ (to_pc Γ 6 [11]) (rw:=true) (cells:=([11]:List Int).map fun n=>D.data (.int .i64 n)) (by simp [Hp.upd,Hp.set]) (fun H' hg=>frzL_c (.data _) (frzL_c (frz_nums (rw:=false) hg (.inr rfl) rfl) frzL_n)) ?_)
   unfold tri nums
   simp -implicitDefEqProofs (disch:=omega) [go_sem,Tryz.f132]
 · rw [show endF 8 = ([11],6,true) by simp [endF]]
   simp -implicitDefEqProofs (disch:=omega) [go_sem]
   refine .inl (call_keep _ (to_pc Γ 6 [11]) (rw:=true) (cells:=([11]:List Int).map fun n=>D.data (.int .i64 n)) (by simp [Hp.upd,Hp.set]) (fun H' hg=>frzL_c (.data _) (frzL_c (frz_nums (rw:=false) hg (.inr rfl) rfl) frzL_n)) ?_)
   unfold tri nums
   simp -implicitDefEqProofs (disch:=omega) [go_sem,Tryz.f132]
 · rw [show endF 9 = ([2,6,11],5,true) by simp [endF]]
   simp -implicitDefEqProofs (disch:=omega) [go_sem]
   refine .inl (call_keep _ (to_pc Γ 5 [2,6,11]) (rw:=true) (cells:=([2,6,11]:List Int).map fun n=>D.data (.int .i64 n)) (by simp [Hp.upd,Hp.set]) (fun H' hg=>frzL_c (.data _) (frzL_c (frz_nums (rw:=false) hg (.inr rfl) rfl) frzL_n)) ?_)
   unfold tri nums
   simp -implicitDefEqProofs (disch:=omega) [go_sem,Tryz.f132]
def endedF (s:Int)  : R3:=if s = 4 then ([4],2,true) else if s = 5 then ([4],3,true) else if s = 7 then ([],6,true) else if s = 9 then ([2,7],6,true) else ([],s,true)
set_option maxHeartbeats 4000000 in
theorem ended_pc (s:Int)  (h:0≤s∧s≤9):PC Tryz.prog Γ 133 [.int .i64 s] (tri (endedF s)):=by
 refine pc_by mixed Tryz.func133 rfl (fun args w=>Tryz.call133 args w) ?_
 obtain ⟨h1,h2⟩:=h
 have hs:s = 0 ∨ s = 1 ∨ s = 2 ∨ s = 3 ∨ s = 4 ∨ s = 5 ∨ s = 6 ∨ s = 7 ∨ s = 8 ∨ s = 9:=by omega
 rcases hs with rfl | rfl | rfl | rfl | rfl | rfl | rfl | rfl | rfl | rfl
 · rw [show endedF 0 = ([],0,true) by simp [endedF]]
   simp -implicitDefEqProofs (disch:=omega) [go_sem]
   refine .inl (call_data (stay_pc Γ 0) (by simp [go_sem]) ?_)
   unfold tri nums
   simp -implicitDefEqProofs (disch:=omega) [go_sem,Tryz.f133]
 · rw [show endedF 1 = ([],1,true) by simp [endedF]]
   simp -implicitDefEqProofs (disch:=omega) [go_sem]
   refine .inl (call_data (stay_pc Γ 1) (by simp [go_sem]) ?_)
   unfold tri nums
   simp -implicitDefEqProofs (disch:=omega) [go_sem,Tryz.f133]
 · rw [show endedF 2 = ([],2,true) by simp [endedF]]
   simp -implicitDefEqProofs (disch:=omega) [go_sem]
   refine .inl (call_data (stay_pc Γ 2) (by simp [go_sem]) ?_)
   unfold tri nums
   simp -implicitDefEqProofs (disch:=omega) [go_sem,Tryz.f133]
 · rw [show endedF 3 = ([],3,true) by simp [endedF]]
   simp -implicitDefEqProofs (disch:=omega) [go_sem]
   refine .inl (call_data (stay_pc Γ 3) (by simp [go_sem]) ?_)
   unfold tri nums
   simp -implicitDefEqProofs (disch:=omega) [go_sem,Tryz.f133]
 · rw [show endedF 4 = ([4],2,true) by simp [endedF]]
   simp -implicitDefEqProofs (disch:=omega) [go_sem]
   refine .inl (call_keep _ (to_pc Γ 2 [4]) (rw:=true) (cells:=([4]:List Int).map fun n=>D.data (.int .i64 n)) (by simp [Hp.upd,Hp.set]) (fun H' hg=>frzL_c (.data _) (frzL_c (frz_nums (rw:=false) hg (.inr rfl) rfl) frzL_n)) ?_)
   unfold tri nums
   simp -implicitDefEqProofs (disch:=omega) [go_sem,Tryz.f133]
 · rw [show endedF 5 = ([4],3,true) by simp [endedF]]
   simp -implicitDefEqProofs (disch:=omega) [go_sem]
   refine .inl (call_keep _ (to_pc Γ 3 [4]) (rw:=true) (cells:=([4]:List Int).map fun n=>D.data (.int .i64 n)) (by simp [Hp.upd,Hp.set]) (fun H' hg=>frzL_c (.data _) (frzL_c (frz_nums (rw:=false) hg (.inr rfl) rfl) frzL_n)) ?_)
   unfold tri nums
   simp -implicitDefEqProofs (disch:=omega) [go_sem,Tryz.f133]
 · rw [show endedF 6 = ([],6,true) by simp [endedF]]
   simp -implicitDefEqProofs (disch:=omega) [go_sem]
   refine .inl (call_data (stay_pc Γ 6) (by simp [go_sem]) ?_)
   unfold tri nums
   simp -implicitDefEqProofs (disch:=omega) [go_sem,Tryz.f133]
 · rw [show endedF 7 = ([],6,true) by simp [endedF]]
   simp -implicitDefEqProofs (disch:=omega) [go_sem]
   refine .inl (call_data (stay_pc Γ 6) (by simp [go_sem]) ?_)
   unfold tri nums
   simp -implicitDefEqProofs (disch:=omega) [go_sem,Tryz.f133]
 · rw [show endedF 8 = ([],8,true) by simp [endedF]]
   simp -implicitDefEqProofs (disch:=omega) [go_sem]
   refine .inl (call_data (stay_pc Γ 8) (by simp [go_sem]) ?_)
   unfold tri nums
   simp -implicitDefEqProofs (disch:=omega) [go_sem,Tryz.f133]
 · rw [show endedF 9 = ([2,7],6,true) by simp [endedF]]
   simp -implicitDefEqProofs (disch:=omega) [go_sem]
   refine .inl (call_keep _ (to_pc Γ 6 [2,7]) (rw:=true) (cells:=([2,7]:List Int).map fun n=>D.data (.int .i64 n)) (by simp [Hp.upd,Hp.set]) (fun H' hg=>frzL_c (.data _) (frzL_c (frz_nums (rw:=false) hg (.inr rfl) rfl) frzL_n)) ?_)
   unfold tri nums
   simp -implicitDefEqProofs (disch:=omega) [go_sem,Tryz.f133]
def rejectF (s:Int) (may:Bool):R3:=if may = true∧s = 7 then ([],6,true) else if may = true then ([],s,true) else if s = 9 then ([2,5,10],5,true) else if s = 2 ∨ s = 4 then ([4],2,true) else ([4],3,true)
set_option maxHeartbeats 4000000 in
theorem reject_pc (s:Int) (may:Bool) (h:0≤s∧s≤9):PC Tryz.prog Γ 135 [.int .i64 s,.bool may] (tri (rejectF s may)):=by
 refine pc_by mixed Tryz.func135 rfl (fun args w=>Tryz.call135 args w) ?_
 obtain ⟨h1,h2⟩:=h
 have hs:s = 0 ∨ s = 1 ∨ s = 2 ∨ s = 3 ∨ s = 4 ∨ s = 5 ∨ s = 6 ∨ s = 7 ∨ s = 8 ∨ s = 9:=by omega
 rcases hs with rfl | rfl | rfl | rfl | rfl | rfl | rfl | rfl | rfl | rfl
 · cases may
   · rw [show rejectF 0 false = ([4],3,true) by simp [rejectF]]
     simp -implicitDefEqProofs (disch:=omega) [go_sem]
     refine .inl (call_keep _ (to_pc Γ 3 [4]) (rw:=true) (cells:=([4]:List Int).map fun n=>D.data (.int .i64 n)) (by simp [Hp.upd,Hp.set]) (fun H' hg=>frzL_c (.data _) (frzL_c (frz_nums (rw:=false) hg (.inr rfl) rfl) frzL_n)) ?_)
     unfold tri nums
     simp -implicitDefEqProofs (disch:=omega) [go_sem,Tryz.f135]
   · rw [show rejectF 0 true = ([],0,true) by simp [rejectF]]
     simp -implicitDefEqProofs (disch:=omega) [go_sem]
     refine .inl (call_data (stay_pc Γ 0) (by simp [go_sem]) ?_)
     unfold tri nums
     simp -implicitDefEqProofs (disch:=omega) [go_sem,Tryz.f135]
 · cases may
   · rw [show rejectF 1 false = ([4],3,true) by simp [rejectF]]
     simp -implicitDefEqProofs (disch:=omega) [go_sem]
     refine .inl (call_keep _ (to_pc Γ 3 [4]) (rw:=true) (cells:=([4]:List Int).map fun n=>D.data (.int .i64 n)) (by simp [Hp.upd,Hp.set]) (fun H' hg=>frzL_c (.data _) (frzL_c (frz_nums (rw:=false) hg (.inr rfl) rfl) frzL_n)) ?_)
     unfold tri nums
     simp -implicitDefEqProofs (disch:=omega) [go_sem,Tryz.f135]
   · rw [show rejectF 1 true = ([],1,true) by simp [rejectF]]
     simp -implicitDefEqProofs (disch:=omega) [go_sem]
     refine .inl (call_data (stay_pc Γ 1) (by simp [go_sem]) ?_)
     unfold tri nums
     simp -implicitDefEqProofs (disch:=omega) [go_sem,Tryz.f135]
 · cases may
   · rw [show rejectF 2 false = ([4],2,true) by simp [rejectF]]
     simp -implicitDefEqProofs (disch:=omega) [go_sem]
     refine .inl (call_keep _ (to_pc Γ 2 [4]) (rw:=true) (cells:=([4]:List Int).map fun n=>D.data (.int .i64 n)) (by simp [Hp.upd,Hp.set]) (fun H' hg=>frzL_c (.data _) (frzL_c (frz_nums (rw:=false) hg (.inr rfl) rfl) frzL_n)) ?_)
     unfold tri nums
     simp -implicitDefEqProofs (disch:=omega) [go_sem,Tryz.f135]
   · rw [show rejectF 2 true = ([],2,true) by simp [rejectF]]
     simp -implicitDefEqProofs (disch:=omega) [go_sem]
     refine .inl (call_data (stay_pc Γ 2) (by simp [go_sem]) ?_)
     unfold tri nums
     simp -implicitDefEqProofs (disch:=omega) [go_sem,Tryz.f135]
 · cases may
   · rw [show rejectF 3 false = ([4],3,true) by simp [rejectF]]
     simp -implicitDefEqProofs (disch:=omega) [go_sem]
     refine .inl (call_keep _ (to_pc Γ 3 [4]) (rw:=true) (cells:=([4]:List Int).map fun n=>D.data (.int .i64 n)) (by simp [Hp.upd,Hp.set]) (fun H' hg=>frzL_c (.data _) (frzL_c (frz_nums (rw:=false) hg (.inr rfl) rfl) frzL_n)) ?_)
     unfold tri nums
     simp -implicitDefEqProofs (disch:=omega) [go_sem,Tryz.f135]
   · rw [show rejectF 3 true = ([],3,true) by simp [rejectF]]
     simp -implicitDefEqProofs (disch:=omega) [go_sem]
     refine .inl (call_data (stay_pc Γ 3) (by simp [go_sem]) ?_)
     unfold tri nums
     simp -implicitDefEqProofs (disch:=omega) [go_sem,Tryz.f135]
 · cases may
   · rw [show rejectF 4 false = ([4],2,true) by simp [rejectF]]
     simp -implicitDefEqProofs (disch:=omega) [go_sem]
     refine .inl (call_keep _ (to_pc Γ 2 [4]) (rw:=true) (cells:=([4]:List Int).map fun n=>D.data (.int .i64 n)) (by simp [Hp.upd,Hp.set]) (fun H' hg=>frzL_c (.data _) (frzL_c (frz_nums (rw:=false) hg (.inr rfl) rfl) frzL_n)) ?_)
     unfold tri nums
     simp -implicitDefEqProofs (disch:=omega) [go_sem,Tryz.f135]
   · rw [show rejectF 4 true = ([],4,true) by simp [rejectF]]
     simp -implicitDefEqProofs (disch:=omega) [go_sem]
     refine .inl (call_data (stay_pc Γ 4) (by simp [go_sem]) ?_)
     unfold tri nums
     simp -implicitDefEqProofs (disch:=omega) [go_sem,Tryz.f135]
 · cases may
   · rw [show rejectF 5 false = ([4],3,true) by simp [rejectF]]
     simp -implicitDefEqProofs (disch:=omega) [go_sem]
     refine .inl (call_keep _ (to_pc Γ 3 [4]) (rw:=true) (cells:=([4]:List Int).map fun n=>D.data (.int .i64 n)) (by simp [Hp.upd,Hp.set]) (fun H' hg=>frzL_c (.data _) (frzL_c (frz_nums (rw:=false) hg (.inr rfl) rfl) frzL_n)) ?_)
     unfold tri nums
     simp -implicitDefEqProofs (disch:=omega) [go_sem,Tryz.f135]
   · rw [show rejectF 5 true = ([],5,true) by simp [rejectF]]
     simp -implicitDefEqProofs (disch:=omega) [go_sem]
     refine .inl (call_data (stay_pc Γ 5) (by simp [go_sem]) ?_)
     unfold tri nums
     simp -implicitDefEqProofs (disch:=omega) [go_sem,Tryz.f135]
 · cases may
   · rw [show rejectF 6 false = ([4],3,true) by simp [rejectF]]
     simp -implicitDefEqProofs (disch:=omega) [go_sem]
     refine .inl (call_keep _ (to_pc Γ 3 [4]) (rw:=true) (cells:=([4]:List Int).map fun n=>D.data (.int .i64 n)) (by simp [Hp.upd,Hp.set]) (fun H' hg=>frzL_c (.data _) (frzL_c (frz_nums (rw:=false) hg (.inr rfl) rfl) frzL_n)) ?_)
     unfold tri nums
     simp -implicitDefEqProofs (disch:=omega) [go_sem,Tryz.f135]
   · rw [show rejectF 6 true = ([],6,true) by simp [rejectF]]
     simp -implicitDefEqProofs (disch:=omega) [go_sem]
     refine .inl (call_data (stay_pc Γ 6) (by simp [go_sem]) ?_)
     unfold tri nums
     simp -implicitDefEqProofs (disch:=omega) [go_sem,Tryz.f135]
 · cases may
   · rw [show rejectF 7 false = ([4],3,true) by simp [rejectF]]
     simp -implicitDefEqProofs (disch:=omega) [go_sem]
     refine .inl (call_keep _ (to_pc Γ 3 [4]) (rw:=true) (cells:=([4]:List Int).map fun n=>D.data (.int .i64 n)) (by simp [Hp.upd,Hp.set]) (fun H' hg=>frzL_c (.data _) (frzL_c (frz_nums (rw:=false) hg (.inr rfl) rfl) frzL_n)) ?_)
     unfold tri nums
     simp -implicitDefEqProofs (disch:=omega) [go_sem,Tryz.f135]
   · rw [show rejectF 7 true = ([],6,true) by simp [rejectF]]
     simp -implicitDefEqProofs (disch:=omega) [go_sem]
     refine .inl (call_data (stay_pc Γ 6) (by simp [go_sem]) ?_)
     unfold tri nums
     simp -implicitDefEqProofs (disch:=omega) [go_sem,Tryz.f135]
 · cases may
   · rw [show rejectF 8 false = ([4],3,true) by simp [rejectF]]
     simp -implicitDefEqProofs (disch:=omega) [go_sem]
     refine .inl (call_keep _ (to_pc Γ 3 [4]) (rw:=true) (cells:=([4]:List Int).map fun n=>D.data (.int .i64 n)) (by simp [Hp.upd,Hp.set]) (fun H' hg=>frzL_c (.data _) (frzL_c (frz_nums (rw:=false) hg (.inr rfl) rfl) frzL_n)) ?_)
     unfold tri nums
     simp -implicitDefEqProofs (disch:=omega) [go_sem,Tryz.f135]
   · rw [show rejectF 8 true = ([],8,true) by simp [rejectF]]
     simp -implicitDefEqProofs (disch:=omega) [go_sem]
     refine .inl (call_data (stay_pc Γ 8) (by simp [go_sem]) ?_)
     unfold tri nums
     simp -implicitDefEqProofs (disch:=omega) [go_sem,Tryz.f135]
 · cases may
   · rw [show rejectF 9 false = ([2,5,10],5,true) by simp [rejectF]]
     simp -implicitDefEqProofs (disch:=omega) [go_sem]
     refine .inl (call_keep _ (to_pc Γ 5 [2,5,10]) (rw:=true) (cells:=([2,5,10]:List Int).map fun n=>D.data (.int .i64 n)) (by simp [Hp.upd,Hp.set]) (fun H' hg=>frzL_c (.data _) (frzL_c (frz_nums (rw:=false) hg (.inr rfl) rfl) frzL_n)) ?_)
     unfold tri nums
     simp -implicitDefEqProofs (disch:=omega) [go_sem,Tryz.f135]
   · rw [show rejectF 9 true = ([],9,true) by simp [rejectF]]
     simp -implicitDefEqProofs (disch:=omega) [go_sem]
     refine .inl (call_data (stay_pc Γ 9) (by simp [go_sem]) ?_)
     unfold tri nums
     simp -implicitDefEqProofs (disch:=omega) [go_sem,Tryz.f135]
end
end Fs
namespace Fs
def Out (s e:Int):Prop:=s < 0 ∨ 9 < s ∨ e < 0 ∨ 15 < e ∨ (5 < e∧s < 2)
instance (s e:Int):Decidable (Out s e):=by unfold Out;infer_instance
def rowF (s e:Int):R3 :=
 if e = 0 then upF s else
 if e = 1 then downF s else
 if e = 2 then openedF s else
 if e = 3 then closedF s else
 if e = 4 then timeoutF s true else
 if e = 5 then timeoutF s false else
 if e = 6 then requestF s true 8 else
 if e = 7 then requestF s false 9 else
 if e = 8 then answerF s true else
 if e = 9 then answerF s false else
 if e = 10 then endF s else
 if e = 11 then endedF s else
 if e = 12 then ([12],s,true) else
 if e = 13 then rejectF s true else
 if e = 14 then rejectF s false else
 if s = 9 then ([13],9,true) else ([],s,true)
def nextF (s e:Int):R3:=if Out s e then ([],s,false) else rowF s e
section
variable (Γ:Nat->Option (List Data))
set_option maxHeartbeats 8000000 in
theorem rnext_pc (s e:Int):PC Tryz.prog Γ 101 [.int .i64 s,.int .i64 e] (tri (nextF s e)):=by
 refine pc_by mixed Tryz.func101 rfl (fun args w=>Tryz.call101 args w) ?_
 by_cases ho:Out s e
 · rw [show nextF s e = ([],s,false) from if_pos ho]
   have c:=never_pc Γ s
   unfold tri nums at c ⊢
   unfold Out at ho
   by_cases k0:s < 0
   · simp -implicitDefEqProofs (disch:=omega) [go_sem]
     refine .inl (call_data c (by simp [go_sem]) ?_)
     simp -implicitDefEqProofs (disch:=omega) [go_sem,Tryz.f101]
   by_cases k1:9 < s
   · simp -implicitDefEqProofs (disch:=omega) [go_sem]
     refine .inl (call_data c (by simp [go_sem]) ?_)
     simp -implicitDefEqProofs (disch:=omega) [go_sem,Tryz.f101]
   by_cases k2:e < 0
   · simp -implicitDefEqProofs (disch:=omega) [go_sem]
     refine .inl (call_data c (by simp [go_sem]) ?_)
     simp -implicitDefEqProofs (disch:=omega) [go_sem,Tryz.f101]
   by_cases k3:15 < e
   · simp -implicitDefEqProofs (disch:=omega) [go_sem]
     refine .inl (call_data c (by simp [go_sem]) ?_)
     simp -implicitDefEqProofs (disch:=omega) [go_sem,Tryz.f101]
   have k4:5 < e∧s < 2:=by omega
   obtain ⟨k5,k6⟩:=k4
   simp -implicitDefEqProofs (disch:=omega) [go_sem]
   refine .inl (call_data c (by simp [go_sem]) ?_)
   simp -implicitDefEqProofs (disch:=omega) [go_sem,Tryz.f101]
 rw [show nextF s e = rowF s e from if_neg ho]
 have h1:¬ s < 0:=fun k=>ho (.inl k)
 have h2:¬ 9 < s:=fun k=>ho (.inr (.inl k))
 have h3:¬ e < 0:=fun k=>ho (.inr (.inr (.inl k)))
 have h4:¬ 15 < e:=fun k=>ho (.inr (.inr (.inr (.inl k))))
 have h5:¬ (5 < e∧s < 2):=fun k=>ho (.inr (.inr (.inr (.inr k))))
 clear ho
 have he:e = 0 ∨ e = 1 ∨ e = 2 ∨ e = 3 ∨ e = 4 ∨ e = 5 ∨ e = 6 ∨ e = 7 ∨ e = 8 ∨ e = 9 ∨ e = 10 ∨ e = 11 ∨ e = 12 ∨ e = 13 ∨ e = 14 ∨ e = 15:=by omega
 rcases he with rfl | rfl | rfl | rfl | rfl | rfl | rfl | rfl | rfl | rfl | rfl | rfl | rfl | rfl | rfl | rfl
 · rw [show rowF s 0 = upF s by simp [rowF]]
   have c:=up_pc Γ s ⟨by omega,by omega⟩
   generalize upF s = r at *
   obtain ⟨l,t,b⟩:=r
   unfold tri nums at c ⊢
   simp -implicitDefEqProofs (disch:=omega) [go_sem]
   refine .inl (call_data c (by simp [go_sem]) ?_)
   simp -implicitDefEqProofs (disch:=omega) [go_sem,Tryz.f101]
 · rw [show rowF s 1 = downF s by simp [rowF]]
   have c:=down_pc Γ s ⟨by omega,by omega⟩
   generalize downF s = r at *
   obtain ⟨l,t,b⟩:=r
   unfold tri nums at c ⊢
   simp -implicitDefEqProofs (disch:=omega) [go_sem]
   refine .inl (call_data c (by simp [go_sem]) ?_)
   simp -implicitDefEqProofs (disch:=omega) [go_sem,Tryz.f101]
 · rw [show rowF s 2 = openedF s by simp [rowF]]
   have c:=opened_pc Γ s ⟨by omega,by omega⟩
   generalize openedF s = r at *
   obtain ⟨l,t,b⟩:=r
   unfold tri nums at c ⊢
   simp -implicitDefEqProofs (disch:=omega) [go_sem]
   refine .inl (call_data c (by simp [go_sem]) ?_)
   simp -implicitDefEqProofs (disch:=omega) [go_sem,Tryz.f101]
 · rw [show rowF s 3 = closedF s by simp [rowF]]
   have c:=closed_pc Γ s ⟨by omega,by omega⟩
   generalize closedF s = r at *
   obtain ⟨l,t,b⟩:=r
   unfold tri nums at c ⊢
   simp -implicitDefEqProofs (disch:=omega) [go_sem]
   refine .inl (call_data c (by simp [go_sem]) ?_)
   simp -implicitDefEqProofs (disch:=omega) [go_sem,Tryz.f101]
 · rw [show rowF s 4 = timeoutF s true by simp [rowF]]
   have c:=timeout_pc Γ s true ⟨by omega,by omega⟩
   generalize timeoutF s true = r at *
   obtain ⟨l,t,b⟩:=r
   unfold tri nums at c ⊢
   simp -implicitDefEqProofs (disch:=omega) [go_sem]
   refine .inl (call_data c (by simp [go_sem]) ?_)
   simp -implicitDefEqProofs (disch:=omega) [go_sem,Tryz.f101]
 · rw [show rowF s 5 = timeoutF s false by simp [rowF]]
   have c:=timeout_pc Γ s false ⟨by omega,by omega⟩
   generalize timeoutF s false = r at *
   obtain ⟨l,t,b⟩:=r
   unfold tri nums at c ⊢
   simp -implicitDefEqProofs (disch:=omega) [go_sem]
   refine .inl (call_data c (by simp [go_sem]) ?_)
   simp -implicitDefEqProofs (disch:=omega) [go_sem,Tryz.f101]
 · rw [show rowF s 6 = requestF s true 8 by simp [rowF]]
   have h6:¬ s < 2:=fun k=>h5 ⟨by omega,k⟩
   have c:=request_pc Γ s true 8 ⟨by omega,by omega⟩
   generalize requestF s true 8 = r at *
   obtain ⟨l,t,b⟩:=r
   unfold tri nums at c ⊢
   simp -implicitDefEqProofs (disch:=omega) [go_sem]
   refine .inl (call_data c (by simp [go_sem]) ?_)
   simp -implicitDefEqProofs (disch:=omega) [go_sem,Tryz.f101]
 · rw [show rowF s 7 = requestF s false 9 by simp [rowF]]
   have h6:¬ s < 2:=fun k=>h5 ⟨by omega,k⟩
   have c:=request_pc Γ s false 9 ⟨by omega,by omega⟩
   generalize requestF s false 9 = r at *
   obtain ⟨l,t,b⟩:=r
   unfold tri nums at c ⊢
   simp -implicitDefEqProofs (disch:=omega) [go_sem]
   refine .inl (call_data c (by simp [go_sem]) ?_)
   simp -implicitDefEqProofs (disch:=omega) [go_sem,Tryz.f101]
 · rw [show rowF s 8 = answerF s true by simp [rowF]]
   have h6:¬ s < 2:=fun k=>h5 ⟨by omega,k⟩
   have c:=answer_pc Γ s true ⟨by omega,by omega⟩
   generalize answerF s true = r at *
   obtain ⟨l,t,b⟩:=r
   unfold tri nums at c ⊢
   simp -implicitDefEqProofs (disch:=omega) [go_sem]
   refine .inl (call_data c (by simp [go_sem]) ?_)
   simp -implicitDefEqProofs (disch:=omega) [go_sem,Tryz.f101]
 · rw [show rowF s 9 = answerF s false by simp [rowF]]
   have h6:¬ s < 2:=fun k=>h5 ⟨by omega,k⟩
   have c:=answer_pc Γ s false ⟨by omega,by omega⟩
   generalize answerF s false = r at *
   obtain ⟨l,t,b⟩:=r
   unfold tri nums at c ⊢
   simp -implicitDefEqProofs (disch:=omega) [go_sem]
   refine .inl (call_data c (by simp [go_sem]) ?_)
   simp -implicitDefEqProofs (disch:=omega) [go_sem,Tryz.f101]
 · rw [show rowF s 10 = endF s by simp [rowF]]
   have h6:¬ s < 2:=fun k=>h5 ⟨by omega,k⟩
   have c:=end_pc Γ s ⟨by omega,by omega⟩
   generalize endF s = r at *
   obtain ⟨l,t,b⟩:=r
   unfold tri nums at c ⊢
   simp -implicitDefEqProofs (disch:=omega) [go_sem]
   refine .inl (call_data c (by simp [go_sem]) ?_)
   simp -implicitDefEqProofs (disch:=omega) [go_sem,Tryz.f101]
 · rw [show rowF s 11 = endedF s by simp [rowF]]
   have h6:¬ s < 2:=fun k=>h5 ⟨by omega,k⟩
   have c:=ended_pc Γ s ⟨by omega,by omega⟩
   generalize endedF s = r at *
   obtain ⟨l,t,b⟩:=r
   unfold tri nums at c ⊢
   simp -implicitDefEqProofs (disch:=omega) [go_sem]
   refine .inl (call_data c (by simp [go_sem]) ?_)
   simp -implicitDefEqProofs (disch:=omega) [go_sem,Tryz.f101]
 · rw [show rowF s 12 = ([12],s,true) by simp [rowF]]
   have h6:¬ s < 2:=fun k=>h5 ⟨by omega,k⟩
   simp -implicitDefEqProofs (disch:=omega) [go_sem]
   refine .inl (call_keep _ (to_pc Γ s [12]) (rw:=true) (cells:=([12]:List Int).map fun n=>D.data (.int .i64 n)) (by simp [Hp.upd,Hp.set]) (fun H' hg=>frzL_c (.data _) (frzL_c (frz_nums (rw:=false) hg (.inr rfl) rfl) frzL_n)) ?_)
   unfold tri nums
   simp -implicitDefEqProofs (disch:=omega) [go_sem,Tryz.f101]
 · rw [show rowF s 13 = rejectF s true by simp [rowF]]
   have h6:¬ s < 2:=fun k=>h5 ⟨by omega,k⟩
   have c:=reject_pc Γ s true ⟨by omega,by omega⟩
   generalize rejectF s true = r at *
   obtain ⟨l,t,b⟩:=r
   unfold tri nums at c ⊢
   simp -implicitDefEqProofs (disch:=omega) [go_sem]
   refine .inl (call_data c (by simp [go_sem]) ?_)
   simp -implicitDefEqProofs (disch:=omega) [go_sem,Tryz.f101]
 · rw [show rowF s 14 = rejectF s false by simp [rowF]]
   have h6:¬ s < 2:=fun k=>h5 ⟨by omega,k⟩
   have c:=reject_pc Γ s false ⟨by omega,by omega⟩
   generalize rejectF s false = r at *
   obtain ⟨l,t,b⟩:=r
   unfold tri nums at c ⊢
   simp -implicitDefEqProofs (disch:=omega) [go_sem]
   refine .inl (call_data c (by simp [go_sem]) ?_)
   simp -implicitDefEqProofs (disch:=omega) [go_sem,Tryz.f101]
 · rw [show rowF s 15 = (if s = 9 then ([13],9,true) else ([],s,true)) by simp [rowF]]
   have h6:¬ s < 2:=fun k=>h5 ⟨by omega,k⟩
   by_cases h9:s = 9
   · subst h9
     rw [if_pos rfl]
     simp -implicitDefEqProofs (disch:=omega) [go_sem]
     refine .inl (call_keep _ (to_pc Γ 9 [13]) (rw:=true) (cells:=([13]:List Int).map fun n=>D.data (.int .i64 n)) (by simp [Hp.upd,Hp.set]) (fun H' hg=>frzL_c (.data _) (frzL_c (frz_nums (rw:=false) hg (.inr rfl) rfl) frzL_n)) ?_)
     unfold tri nums
     simp -implicitDefEqProofs (disch:=omega) [go_sem,Tryz.f101]
   · rw [if_neg h9]
     have c:=stay_pc Γ s
     unfold tri nums at c ⊢
     simp -implicitDefEqProofs (disch:=omega) [go_sem,h9]
     refine .inl (call_data c (by simp [go_sem]) ?_)
     simp -implicitDefEqProofs (disch:=omega) [go_sem,Tryz.f101]
theorem rtimed_pc (s:Int):PC Tryz.prog Γ 58 [.int .i64 s] (.bool (decide (4≤s∧s≤8))):=by
 refine pc_by mixed Tryz.func58 rfl (fun args w=>Tryz.call58 args w) ?_
 by_cases h1:4≤s
 · by_cases h2:s≤8
   · rw [decide_eq_true ⟨h1,h2⟩]
     simp -implicitDefEqProofs (disch:=omega) [go_sem,Tryz.f58]
   · rw [decide_eq_false fun h=>h2 h.2]
     simp -implicitDefEqProofs (disch:=omega) [go_sem,Tryz.f58]
 · rw [decide_eq_false fun h=>h1 h.1]
   simp -implicitDefEqProofs (disch:=omega) [go_sem,Tryz.f58]
theorem rhas_pc (l:List Int) (n:Int) (hl:l.length≤1000000000):PC Tryz.prog Γ 70 [nums l,.int .i64 n] (.bool (decide (n∈l))):=by
 refine pc_by mixed Tryz.func70 rfl (fun args w=>Tryz.call70 args w) ?_
 unfold nums
 simp -implicitDefEqProofs (disch:=omega) [go_sem]
 refine loop_ren (σ:={ i:Nat // i≤l.length∧∀ (j:Nat) (h:j < l.length),j < i->l[j]≠n }) (fun i=>⟨envL [(0,.data (.sl 1 (l.map fun n=>Data.int .i64 n))),(1,.data (.int .i64 n)),(5,.data (.int .i64 i.1))],hpL [],0,0,18⟩) (fun i=>l.length - i.1) ⟨0,by omega,fun j _ h=>absurd h (Nat.not_lt_zero _)⟩ [] (rhoL []) ?_ ?_
 · apply ren_lists <;> simp -implicitDefEqProofs [go_sem]
 rintro ⟨i,hi,hall⟩
 by_cases h:i < l.length
 · by_cases e:l[i] = n
   · rw [decide_eq_true (e ▸ List.getElem_mem h)]
     simp -implicitDefEqProofs (disch:=omega) [go_sem,e,Tryz.f70]
   · simp -implicitDefEqProofs (disch:=omega) [go_sem,e]
     refine next_ren ⟨i + 1,by omega,fun j hj hji=>by
      by_cases q:j = i
      · subst q;exact e
      · exact hall j hj (by omega)⟩ (by simp only;omega) [] (rhoL []) ?_
     apply ren_lists <;> simp -implicitDefEqProofs [go_sem]
 · rw [decide_eq_false fun k=>by
    obtain ⟨j,hj,e⟩:=List.getElem_of_mem k
    exact hall j hj (by omega) e]
   simp -implicitDefEqProofs (disch:=omega) [go_sem,Tryz.f70]
theorem rints_pc (a b:List Int) (ha:a.length≤1000000000) (hb:b.length≤1000000000):PC Tryz.prog Γ 41 [nums a,nums b] (.bool (decide (a = b))):=by
 refine pc_by mixed Tryz.func41 rfl (fun args w=>Tryz.call41 args w) ?_
 unfold nums
 by_cases hn:a.length = b.length
 rotate_left
 · rw [decide_eq_false fun e=>hn (by rw [e])]
   simp -implicitDefEqProofs (disch:=omega) [go_sem,hn,Tryz.f41]
 simp -implicitDefEqProofs (disch:=omega) [go_sem,hn]
 refine loop_ren (σ:={ i:Nat // i≤b.length∧a.take i = b.take i }) (fun i=>⟨envL [(0,.data (.sl 1 (a.map fun n=>Data.int .i64 n))),(1,.data (.sl 1 (b.map fun n=>Data.int .i64 n))),(5,.data (.int .i64 i.1))],hpL [],0,0,26⟩) (fun i=>b.length - i.1) ⟨0,by omega,rfl⟩ [] (rhoL []) ?_ ?_
 · apply ren_lists <;> simp -implicitDefEqProofs [go_sem]
 rintro ⟨i,hi,hall⟩
 by_cases h:i < b.length
 · have h2:i < a.length:=by omega
   by_cases he:a[i] = b[i]
   · simp -implicitDefEqProofs (disch:=omega) [go_sem,he]
     refine side (by kernel_rfl) ?_
     simp -implicitDefEqProofs (disch:=omega) [go_sem,he]
     refine next_ren ⟨i + 1,by omega,by rw [List.take_add_one,List.take_add_one,hall,List.getElem?_eq_getElem h,List.getElem?_eq_getElem h2,he]⟩ (by simp only;omega) [] (rhoL []) ?_
     apply ren_lists <;> simp -implicitDefEqProofs [go_sem]
   · rw [decide_eq_false fun e=>he (by simp [e])]
     simp -implicitDefEqProofs (disch:=omega) [go_sem,he]
     refine side (by kernel_rfl) ?_
     simp -implicitDefEqProofs (disch:=omega) [go_sem,he,Tryz.f41]
 · have:i = b.length:=by omega
   subst this
   rw [List.take_length,List.take_of_length_le (by omega)] at hall
   rw [decide_eq_true hall]
   simp -implicitDefEqProofs (disch:=omega) [go_sem,hn,Tryz.f41]
end
end Fs
namespace Fs
structure Au where
 s:Int
 c:Int
 l:Int
 id:Nat
deriving DecidableEq
def au (a:Au):Data:=.agg [.int .i64 a.s,.int .i64 a.c,.int .i64 a.l,.int .u8 a.id]
def Tm (s:Int):Prop:=4≤s∧s≤8
instance (s:Int):Decidable (Tm s):=by unfold Tm;infer_instance
/-- An automaton that may be. -/
def RightA (a:Au):Prop:=(0≤a.s∧a.s≤9)∧(0≤a.c∧a.c≤5)∧(Tm a.s∧1≤a.l∧a.l≤3 ∨ ¬ Tm a.s∧a.l = 0)
instance (a:Au):Decidable (RightA a):=by unfold RightA;infer_instance
def stepA (ends:Bool) (a:Au) (x:Int):Au :=
 if x = 5 then { a with c:=if ends = true then 2 else 5 } else
 if x = 6 then { a with c:=0,l:=3 } else
 if x = 7 ∨ x = 10 then { a with c:=if 1 < a.c then a.c - 1 else 0,l:=3,id:=(a.id + 1) % 256 } else a
def foldA (a:Au) (l:List Int):Au:=l.foldl (stepA (decide (10∈l))) a
def setA (a:Au) (s:Int):Au:={ a with s:=s,l:=if Tm s then a.l else 0 }
def doA (a:Au) (e:Int):Au:=if (nextF a.s e).2.2 = true then setA (foldA a (nextF a.s e).1) (nextF a.s e).2.1 else a
def doL (a:Au) (e:Int):List Int:=if (nextF a.s e).2.2 = true then (nextF a.s e).1 else []
def doE (a:Au) (e:Int):Int:=if (nextF a.s e).2.2 = true then 0 else 1
def downA (a:Au):Au:={ a with l:=a.l - 1 }
def tickA (a:Au):Au:=if a.l = 0 then a else if 1 < a.l then downA a else if 0 < a.c then doA (downA a) 4 else doA (downA a) 5
def tickL (a:Au):List Int:=if a.l = 0 then [] else if 1 < a.l then [] else if 0 < a.c then doL (downA a) 4 else doL (downA a) 5
theorem stepA_fit {ends:Bool} {a:Au} (h:0≤a.c∧a.c≤5) (hi:a.id < 256) (x:Int):(0≤(stepA ends a x).c∧(stepA ends a x).c≤5)∧(stepA ends a x).id < 256:=by
 unfold stepA
 by_cases h5:x = 5
 · rw [if_pos h5]
   exact ⟨by simp only;split <;> omega,hi⟩
 rw [if_neg h5]
 by_cases h6:x = 6
 · rw [if_pos h6];exact ⟨by simp only;omega,hi⟩
 rw [if_neg h6]
 by_cases h7:x = 7 ∨ x = 10
 · rw [if_pos h7]
   exact ⟨by simp only;split <;> omega,by simp only;omega⟩
 · rw [if_neg h7];exact ⟨h,hi⟩
theorem foldl_fit {ends:Bool}:∀ (l:List Int) {a:Au},0≤a.c∧a.c≤5->a.id < 256->(0≤(l.foldl (stepA ends) a).c∧(l.foldl (stepA ends) a).c≤5)∧(l.foldl (stepA ends) a).id < 256
 | [],a,h,hi=>⟨h,hi⟩
 | x :: l,a,h,hi=>by
   obtain ⟨h1,h2⟩:=stepA_fit (ends:=ends) h hi x
   exact foldl_fit l h1 h2
theorem foldl_take {ends:Bool} (l:List Int) (a:Au) (i:Nat) (h:i < l.length):(l.take (i + 1)).foldl (stepA ends) a = stepA ends ((l.take i).foldl (stepA ends) a) l[i]:=by
 rw [List.take_add_one,List.getElem?_eq_getElem h,Option.toList_some,List.foldl_append]
 rfl
theorem short_ite {c:Prop} [Decidable c] {a b:R3} (ha:a.1.length≤3) (hb:b.1.length≤3):(if c then a else b).1.length≤3:=by
 by_cases h:c
 · rw [if_pos h];exact ha
 · rw [if_neg h];exact hb
theorem nextF_short (s e:Int):(nextF s e).1.length≤3:=by
 unfold nextF rowF upF downF openedF closedF timeoutF requestF answerF endF endedF rejectF
 repeat' first | apply short_ite | (simp;done)
section
variable (Γ:Nat->Option (List Data))
theorem raright_pc (a:Au):PC Tryz.prog Γ 33 [au a] (.bool (decide (RightA a))):=by
 refine pc_by mixed Tryz.func33 rfl (fun args w=>Tryz.call33 args w) ?_
 have c1:=rtimed_pc Γ a.s
 unfold au
 have no:¬ RightA a->decide (RightA a) = false:=fun h=>decide_eq_false h
 by_cases h1:a.s < 0
 · rw [no fun h=>by unfold RightA at h;omega]
   simp -implicitDefEqProofs (disch:=omega) [go_sem,Tryz.f33]
 by_cases h2:9 < a.s
 · rw [no fun h=>by unfold RightA at h;omega]
   simp -implicitDefEqProofs (disch:=omega) [go_sem,Tryz.f33]
 by_cases h3:a.c < 0
 · rw [no fun h=>by unfold RightA at h;omega]
   simp -implicitDefEqProofs (disch:=omega) [go_sem,Tryz.f33]
 by_cases h4:5 < a.c
 · rw [no fun h=>by unfold RightA at h;omega]
   simp -implicitDefEqProofs (disch:=omega) [go_sem,Tryz.f33]
 simp -implicitDefEqProofs (disch:=omega) [go_sem]
 refine .inl (call_data c1 (by simp [go_sem]) ?_)
 by_cases ht:4≤a.s∧a.s≤8
 · rw [decide_eq_true ht] at *
   by_cases h5:1≤a.l
   · by_cases h6:a.l≤3
     · rw [show decide (RightA a) = true from decide_eq_true ⟨by omega,by omega,.inl ⟨ht,h5,h6⟩⟩]
       simp -implicitDefEqProofs (disch:=omega) [go_sem,ht,Tryz.f33]
     · rw [no fun h=>by unfold RightA Tm at h;omega]
       simp -implicitDefEqProofs (disch:=omega) [go_sem,ht,Tryz.f33]
   · rw [no fun h=>by unfold RightA Tm at h;omega]
     simp -implicitDefEqProofs (disch:=omega) [go_sem,ht,Tryz.f33]
 · by_cases h7:a.l = 0
   · rw [show decide (RightA a) = true from decide_eq_true ⟨by omega,by omega,.inr ⟨ht,h7⟩⟩]
     simp -implicitDefEqProofs (disch:=omega) [go_sem,ht,h7,Tryz.f33]
   · rw [no fun h=>by unfold RightA Tm at h;omega]
     simp -implicitDefEqProofs (disch:=omega) [go_sem,ht,h7,Tryz.f33]
set_option maxHeartbeats 2000000 in
theorem rado_pc (a:Au) (e:Int) (hc:0≤a.c∧a.c≤5) (hi:a.id < 256):PC Tryz.prog Γ 69 [au a,.int .i64 e] (.tup [au (doA a e),nums (doL a e),.int .i64 (doE a e)]):=by
 refine pc_by mixed Tryz.func69 rfl (fun args w=>Tryz.call69 args w) ?_
 have c1:=rnext_pc Γ a.s e
 have hsh:=nextF_short a.s e
 unfold doA doL doE
 generalize nextF a.s e = r at *
 obtain ⟨l,t,b⟩:=r
 simp only at hsh
 unfold tri nums at c1
 cases b
 · simp only [Bool.false_eq_true,if_false]
   unfold au nums
   simp -implicitDefEqProofs (disch:=omega) [go_sem]
   refine .inl (call_data c1 (by simp [go_sem]) ?_)
   simp -implicitDefEqProofs (disch:=omega) [go_sem,Tryz.f69]
   exact ⟨_,⟨_,_,rfl,rfl,_,rfl,.emp _ _⟩,rfl⟩
 simp only [if_true]
 have c2:=rhas_pc Γ l 10 (by omega)
 have c3:=rtimed_pc Γ t
 unfold foldA
 generalize decide (10∈l) = ends at *
 unfold nums at c2
 have fit:=fun i=>foldl_fit (ends:=ends) (l.take i) hc hi
 unfold au nums
 simp -implicitDefEqProofs (disch:=omega) [go_sem]
 refine .inl (call_data c1 (by simp [go_sem]) ?_)
 simp -implicitDefEqProofs (disch:=omega) [go_sem]
 refine .inl (call_data c2 (by simp [go_sem]) ?_)
 simp -implicitDefEqProofs (disch:=omega) [go_sem]
 refine loop_ren (σ:={ i:Nat // i≤l.length }) (fun i=>⟨envL [(2,.ptr 0 0),(4,.ptr 1 0),(7,.data (.sl 1 (l.map fun n=>Data.int .i64 n))),(8,.data (.int .i64 t)),(10,.data (.bool ends)),(11,.data (.int .i64 i.1))],hpL [(0,.blk true [.data (.int .i64 ((l.take i.1).foldl (stepA ends) a).s),.data (.int .i64 ((l.take i.1).foldl (stepA ends) a).c),.data (.int .i64 ((l.take i.1).foldl (stepA ends) a).l),.data (.int .u8 ((l.take i.1).foldl (stepA ends) a).id)]),(1,.blk true [.data (.int .i64 0),.data (.int .i64 0),.data (.int .i64 0),.data (.int .u8 0)])],2,0,67⟩) (fun i=>l.length - i.1) ⟨0,by omega⟩ [] (rhoL [(0,some 0),(1,some 1)]) ?_ ?_
 · apply ren_lists <;> simp -implicitDefEqProofs [go_sem]
 rintro ⟨i,hile⟩
 have fi:=fit i
 by_cases h:i < l.length
 · have hst:=foldl_take (ends:=ends) l a i h
   generalize (l.take i).foldl (stepA ends) a = A at *
   by_cases h5:l[i] = 5
   · cases ends
     · have e2:stepA false A l[i] = { A with c:=5 }:=by unfold stepA;rw [if_pos h5];rfl
       rw [e2] at hst
       simp -implicitDefEqProofs (disch:=omega) [go_sem,h5]
       refine next_ren ⟨i + 1,by omega⟩ (by simp only;omega) [] (rhoL [(0,some 0),(1,some 1)]) ?_
       simp only [hst]
       apply ren_lists <;> simp -implicitDefEqProofs [go_sem]
     · have e2:stepA true A l[i] = { A with c:=2 }:=by unfold stepA;rw [if_pos h5];rfl
       rw [e2] at hst
       simp -implicitDefEqProofs (disch:=omega) [go_sem,h5]
       refine next_ren ⟨i + 1,by omega⟩ (by simp only;omega) [] (rhoL [(0,some 0),(1,some 1)]) ?_
       simp only [hst]
       apply ren_lists <;> simp -implicitDefEqProofs [go_sem]
   by_cases h6:l[i] = 6
   · have e2:stepA ends A l[i] = { A with c:=0,l:=3 }:=by unfold stepA;rw [if_neg h5,if_pos h6]
     rw [e2] at hst
     simp -implicitDefEqProofs (disch:=omega) [go_sem,h6]
     refine next_ren ⟨i + 1,by omega⟩ (by simp only;omega) [] (rhoL [(0,some 0),(1,some 1)]) ?_
     simp only [hst]
     apply ren_lists <;> simp -implicitDefEqProofs [go_sem]
   by_cases h7:l[i] = 7
   · have e2:stepA ends A l[i] = { A with c:=if 1 < A.c then A.c - 1 else 0,l:=3,id:=(A.id + 1) % 256 }:=by unfold stepA;rw [if_neg h5,if_neg h6,if_pos (.inl h7)]
     rw [e2] at hst
     simp -implicitDefEqProofs (disch:=omega) [go_sem,h7]
     refine next_ren ⟨i + 1,by omega⟩ (by simp only;omega) [] (rhoL [(0,some 0),(1,some 1)]) ?_
     simp only [hst]
     apply ren_lists <;> simp -implicitDefEqProofs [go_sem]
   by_cases h10:l[i] = 10
   · have e2:stepA ends A l[i] = { A with c:=if 1 < A.c then A.c - 1 else 0,l:=3,id:=(A.id + 1) % 256 }:=by unfold stepA;rw [if_neg h5,if_neg h6,if_pos (.inr h10)]
     rw [e2] at hst
     simp -implicitDefEqProofs (disch:=omega) [go_sem,h10]
     refine next_ren ⟨i + 1,by omega⟩ (by simp only;omega) [] (rhoL [(0,some 0),(1,some 1)]) ?_
     simp only [hst]
     apply ren_lists <;> simp -implicitDefEqProofs [go_sem]
   · have e2:stepA ends A l[i] = A:=by unfold stepA;rw [if_neg h5,if_neg h6,if_neg (by rintro (k | k);exact h7 k;exact h10 k)]
     rw [e2] at hst
     simp -implicitDefEqProofs (disch:=omega) [go_sem,h5,h6,h7,h10]
     refine next_ren ⟨i + 1,by omega⟩ (by simp only;omega) [] (rhoL [(0,some 0),(1,some 1)]) ?_
     simp only [hst]
     apply ren_lists <;> simp -implicitDefEqProofs [go_sem]
 · have:i = l.length:=by omega
   subst this
   rw [List.take_length] at fi
   generalize hA:l.foldl (stepA ends) a = A at *
   by_cases ht:4≤t∧t≤8
   · rw [show setA A t = ⟨t,A.c,A.l,A.id⟩ by unfold setA;rw [if_pos (show Tm t from ht)]]
     simp -implicitDefEqProofs (disch:=omega) [go_sem,List.take_length,hA]
     refine .inl (call_data c3 (by simp [go_sem]) ?_)
     simp -implicitDefEqProofs (disch:=omega) [go_sem,ht,Tryz.f69]
   · rw [show setA A t = ⟨t,A.c,0,A.id⟩ by unfold setA;rw [if_neg (show ¬ Tm t from ht)]]
     simp -implicitDefEqProofs (disch:=omega) [go_sem,List.take_length,hA]
     refine .inl (call_data c3 (by simp [go_sem]) ?_)
     simp -implicitDefEqProofs (disch:=omega) [go_sem,ht,Tryz.f69]
end
theorem doA_fit {a:Au} {e:Int} (hc:0≤a.c∧a.c≤5) (hi:a.id < 256):(0≤(doA a e).c∧(doA a e).c≤5)∧(doA a e).id < 256:=by
 unfold doA
 by_cases h:(nextF a.s e).2.2 = true
 · rw [if_pos h]
   exact foldl_fit (nextF a.s e).1 hc hi
 · rw [if_neg h];exact ⟨hc,hi⟩
theorem tickA_fit {a:Au} (hc:0≤a.c∧a.c≤5) (hi:a.id < 256):(0≤(tickA a).c∧(tickA a).c≤5)∧(tickA a).id < 256:=by
 unfold tickA
 split
 · exact ⟨hc,hi⟩
 · split
   · exact ⟨hc,hi⟩
   · split
     · exact doA_fit (a:=downA a) hc hi
     · exact doA_fit (a:=downA a) hc hi
section
variable (Γ:Nat->Option (List Data))
set_option maxHeartbeats 1000000 in
theorem ratick_pc (a:Au) (hc:0≤a.c∧a.c≤5) (hi:a.id < 256) (hl:-1000000≤a.l∧a.l≤1000000):PC Tryz.prog Γ 43 [au a] (.tup [au (tickA a),nums (tickL a)]):=by
 refine pc_by mixed Tryz.func43 rfl (fun args w=>Tryz.call43 args w) ?_
 by_cases h0:a.l = 0
 · rw [show tickA a = a by unfold tickA;rw [if_pos h0],show tickL a = [] by unfold tickL;rw [if_pos h0]]
   unfold au nums
   simp -implicitDefEqProofs (disch:=omega) [go_sem,h0,Tryz.f43]
   exact ⟨_,⟨_,_,rfl,rfl,_,rfl,.emp _ _⟩,rfl⟩
 by_cases h1:1 < a.l
 · rw [show tickA a = downA a by unfold tickA;rw [if_neg h0,if_pos h1],show tickL a = [] by unfold tickL;rw [if_neg h0,if_pos h1]]
   unfold au nums downA
   simp -implicitDefEqProofs (disch:=omega) [go_sem,h0,Tryz.f43]
   exact ⟨_,⟨_,_,rfl,rfl,_,rfl,.emp _ _⟩,rfl⟩
 by_cases h2:0 < a.c
 · rw [show tickA a = doA (downA a) 4 by unfold tickA;rw [if_neg h0,if_neg h1,if_pos h2],show tickL a = doL (downA a) 4 by unfold tickL;rw [if_neg h0,if_neg h1,if_pos h2]]
   have c1:=rado_pc Γ (downA a) 4 hc hi
   generalize doA (downA a) 4 = A at *
   generalize doL (downA a) 4 = L at *
   generalize doE (downA a) 4 = E at *
   unfold au nums downA at *
   simp -implicitDefEqProofs (disch:=omega) [go_sem,h0]
   refine .inl (call_data c1 (by simp [go_sem]) ?_)
   simp -implicitDefEqProofs (disch:=omega) [go_sem,Tryz.f43]
 · rw [show tickA a = doA (downA a) 5 by unfold tickA;rw [if_neg h0,if_neg h1,if_neg h2],show tickL a = doL (downA a) 5 by unfold tickL;rw [if_neg h0,if_neg h1,if_neg h2]]
   have c1:=rado_pc Γ (downA a) 5 hc hi
   generalize doA (downA a) 5 = A at *
   generalize doL (downA a) 5 = L at *
   generalize doE (downA a) 5 = E at *
   unfold au nums downA at *
   simp -implicitDefEqProofs (disch:=omega) [go_sem,h0]
   refine .inl (call_data c1 (by simp [go_sem]) ?_)
   simp -implicitDefEqProofs (disch:=omega) [go_sem,Tryz.f43]
end
end Fs
namespace Fs
/-- It starts its timer anew. -/
def Sends (l:List Int):Prop:=6∈l ∨ 7∈l ∨ 10∈l
instance (l:List Int):Decidable (Sends l):=by unfold Sends;infer_instance
theorem in_table {s e:Int} (h:(nextF s e).2.2 = true):(0≤s∧s≤9)∧0≤e∧e≤15:=by
 by_cases ho:Out s e
 · rw [show nextF s e = ([],s,false) from if_pos ho] at h
   cases h
 · unfold Out at ho
   omega
theorem table_all (p:Int->Int->Prop) (h:∀ (s:Fin 10) (e:Fin 16),p s.val e.val) {s e:Int} (hs:0≤s∧s≤9) (he:0≤e∧e≤15):p s e:=by
 have:=h ⟨s.toNat,by omega⟩ ⟨e.toNat,by omega⟩
 simp only at this
 rwa [Int.toNat_of_nonneg hs.1,Int.toNat_of_nonneg he.1] at this
theorem tab_state:∀ (s:Fin 10) (e:Fin 16),0≤(nextF s.val e.val).2.1∧(nextF s.val e.val).2.1≤9:=by decide +kernel
theorem tab_timed:∀ (s:Fin 10) (e:Fin 16),(nextF s.val e.val).2.2 = true->Tm (nextF s.val e.val).2.1->Sends (nextF s.val e.val).1 ∨ (Tm s.val∧e.val≠4):=by decide +kernel
theorem tab_tick:∀ (s:Fin 10),Tm s.val->(nextF s.val 4).2.2 = true∧(nextF s.val 5).2.2 = true∧¬ Tm (nextF s.val 5).2.1:=by decide +kernel
theorem fold_left {ends:Bool}:∀ (l:List Int) (a:Au),(l.foldl (stepA ends) a).l = if Sends l then 3 else a.l
 | [],a=>by simp [Sends]
 | x :: l,a=>by
   rw [List.foldl_cons,fold_left l]
   unfold stepA
   by_cases h:Sends l
   · rw [if_pos h,if_pos (show Sends (x :: l) by
      unfold Sends at *
      rcases h with h | h | h
      · exact .inl (by simp [h])
      · exact .inr (.inl (by simp [h]))
      · exact .inr (.inr (by simp [h])))]
   rw [if_neg h]
   unfold Sends at h
   by_cases h5:x = 5
   · rw [if_pos h5]
     show a.l = _
     rw [if_neg (by unfold Sends;subst h5;simp;exact ⟨fun k=>h (.inl k),fun k=>h (.inr (.inl k)),fun k=>h (.inr (.inr k))⟩)]
   rw [if_neg h5]
   by_cases h6:x = 6
   · rw [if_pos h6,if_pos (by unfold Sends;subst h6;simp)]
   rw [if_neg h6]
   by_cases h7:x = 7 ∨ x = 10
   · rw [if_pos h7]
     show (3:Int) = _
     rw [if_pos (by unfold Sends;rcases h7 with rfl | rfl <;> simp)]
   · rw [if_neg h7,if_neg (by
      unfold Sends
      simp only [List.mem_cons]
      rintro (k | k | k)
      · rcases k with k | k
        · exact h6 k.symm
        · exact h (.inl k)
      · rcases k with k | k
        · exact h7 (.inl k.symm)
        · exact h (.inr (.inl k))
      · rcases k with k | k
        · exact h7 (.inr k.symm)
        · exact h (.inr (.inr k)))]
theorem do_right {a:Au} {e:Int} (hc:0≤a.c∧a.c≤5) (hi:a.id < 256) (hn:(nextF a.s e).2.2 = true) (hl:Tm (nextF a.s e).2.1->Sends (nextF a.s e).1 ∨ 1≤a.l∧a.l≤3):RightA (doA a e):=by
 obtain ⟨hs,he⟩:=in_table hn
 have ht:0≤(nextF a.s e).2.1∧(nextF a.s e).2.1≤9:=table_all (fun s e=>0≤(nextF s e).2.1∧(nextF s e).2.1≤9) tab_state hs he
 have hf:=foldl_fit (ends:=decide (10∈(nextF a.s e).1)) (nextF a.s e).1 hc hi
 have hfl:=fold_left (ends:=decide (10∈(nextF a.s e).1)) (nextF a.s e).1 a
 unfold doA
 rw [if_pos hn]
 unfold setA foldA RightA
 simp only
 refine ⟨ht,hf.1,?_⟩
 by_cases htm:Tm (nextF a.s e).2.1
 · refine .inl ⟨htm,?_⟩
   rw [if_pos htm,hfl]
   rcases hl htm with h | h
   · rw [if_pos h];omega
   · split <;> omega
 · exact .inr ⟨htm,by rw [if_neg htm]⟩
/-- What comes out is right. -/
theorem right_do {a:Au} {e:Int} (h:RightA a) (hi:a.id < 256):RightA (doA a e):=by
 by_cases hn:(nextF a.s e).2.2 = true
 · obtain ⟨hs,he⟩:=in_table hn
   refine do_right h.2.1 hi hn fun ht=>?_
   have:=table_all (fun s e=>(nextF s e).2.2 = true->Tm (nextF s e).2.1->Sends (nextF s e).1 ∨ (Tm s∧e≠4)) (fun s e k1 k2=>by
    rcases tab_timed s e k1 k2 with q | ⟨q,q2⟩
    · exact .inl q
    · exact .inr ⟨q,by omega⟩) hs he hn ht
   rcases this with q | ⟨q,_⟩
   · exact .inl q
   · rcases h.2.2 with ⟨_,k⟩ | ⟨k,_⟩
     · exact .inr k
     · exact absurd q k
 · unfold doA
   rw [if_neg hn];exact h
theorem right_tick {a:Au} (h:RightA a) (hi:a.id < 256):RightA (tickA a):=by
 unfold tickA
 by_cases h0:a.l = 0
 · rw [if_pos h0];exact h
 rw [if_neg h0]
 obtain ⟨hs,hc,hl⟩:=h
 obtain ⟨ht,l1,l2⟩:Tm a.s∧1≤a.l∧a.l≤3:=by
  rcases hl with q | ⟨_,q⟩
  · exact q
  · exact absurd q h0
 by_cases h1:1 < a.l
 · rw [if_pos h1]
   exact ⟨hs,hc,.inl ⟨ht,by unfold downA;simp only;omega,by unfold downA;simp only;omega⟩⟩
 rw [if_neg h1]
 have tt:=tab_tick ⟨a.s.toNat,by omega⟩
 simp only [Int.toNat_of_nonneg hs.1] at tt
 obtain ⟨t1,t2,t3⟩:=tt ht
 by_cases h2:0 < a.c
 · rw [if_pos h2]
   refine do_right (a:=downA a) hc hi t1 fun ht2=>.inl ?_
   have:=table_all (fun s e=>(nextF s e).2.2 = true->Tm (nextF s e).2.1->Sends (nextF s e).1 ∨ (Tm s∧e≠4)) (fun s e k1 k2=>by
    rcases tab_timed s e k1 k2 with q | ⟨q,q2⟩
    · exact .inl q
    · exact .inr ⟨q,by omega⟩) (s:=a.s) (e:=4) hs (by omega) t1 ht2
   rcases this with q | ⟨_,q⟩
   · exact q
   · exact absurd rfl q
 · rw [if_neg h2]
   exact do_right (a:=downA a) hc hi t2 fun ht2=>absurd ht2 t3
end Fs
namespace Fs
/-- How many ticks it still goes. -/
def Au.rest (a:Au):Int:=if Tm a.s then a.l + 3 * a.c else 0
end Fs
namespace Sf
section
variable (Γ:Nat->Option (List Data))
/-- A line that is right. -/
def Rl (b:List Nat) (lg:Bool):Prop:=b.length≤1508∧(lg = true->b = [])∧126 ∉ b
instance (b:List Nat) (lg:Bool):Decidable (Rl b lg):=by unfold Rl;infer_instance
end
end Sf
namespace Sf
section
variable (Γ:Nat->Option (List Data))
theorem sequal_pc (a b:List Nat) (ha:∀ x∈a,x < 256) (hb:∀ x∈b,x < 256):PC Tryz.prog Γ 83 [.sl 1 (bys a),.sl 1 (bys b)] (.bool (decide (a = b))):=by
 refine pc_by mixed Tryz.func83 rfl (fun args w=>Tryz.call83 args w) ?_
 have hd:decide (toStr a = toStr b) = decide (a = b):=decide_eq_decide.2 (toStr_inj ha hb)
 simp -implicitDefEqProofs (disch:=omega) [go_sem,Tryz.f83]
 refine conv_bys (e:=5) ha (by simp [go_sem]) (by simp [go_sem]) (by simp [go_sem]) ?_
 simp -implicitDefEqProofs (disch:=omega) [go_sem]
 refine conv_bys (e:=5) hb (by simp [go_sem]) (by simp [go_sem]) (by simp [go_sem]) ?_
 simp -implicitDefEqProofs (disch:=omega) [go_sem,Tryz.f83,hd]
end
end Sf
namespace Sf
end Sf
namespace Sf
end Sf
namespace Sf
section
variable (Γ:Nat->Option (List Data))
theorem row_same (a:List Nat) (ha:a.length≤100000000000):PC Tryz.prog Γ 20 [.sl 1 (bys a),.sl 1 (bys a)] (.bool true):=by
 have:=row_pc Γ a a ha ha
 rwa [decide_eq_true rfl] at this
end
end Sf
namespace Sf
end Sf
namespace Sf
section
variable (Γ:Nat->Option (List Data))
def rowB (a:Nat) (l:List (List Nat)):List Nat:=l.flatMap fun b=>126 :: escB a b
end
end Sf
namespace Fc
structure Fr where
 p:Nat
 i:List Nat
deriving DecidableEq
def fr (f:Fr):Data:=.agg [.int .u16 f.p,.sl 1 (bys f.i)]
def noF:Fr:=⟨0,[]⟩
def MayP (p:Nat):Prop:=p % 2 = 1∧p / 256 % 2 = 0∧p≠255
instance (p:Nat):Decidable (MayP p):=by unfold MayP;infer_instance
/-- A frame that may be. -/
def Ok (f:Fr):Prop:=MayP f.p∧f.i.length≤1500
instance (f:Fr):Decidable (Ok f):=by unfold Ok;infer_instance
def fin (p:Nat) (i:List Nat):Fr × Int:=if MayP p then if i.length≤1500 then (⟨p,i⟩,0) else (noF,4) else (noF,2)
def bodyR:List Nat->Fr × Int
 | []=>(noF,2)
 | x :: r=>if x % 2 = 1 then fin x r else match r with
   | []=>(noF,2)
   | y :: r=>fin (x * 256 + y) r
end Fc
namespace Pa
open Fc
structure Pk where
 c:Nat
 i:Nat
 d:List Nat
deriving DecidableEq
/-- A packet of bytes. -/
structure Pk.Ty (p:Pk):Prop where
 c:p.c < 256
 i:p.i < 256
 d:∀ x∈p.d,x < 256
def pk (p:Pk):Data:=.agg [.int .u8 p.c,.int .u8 p.i,.sl 1 (bys p.d)]
def noP:Pk:=⟨0,0,[]⟩
def pkB (p:Pk):List Nat:=if 4 + p.d.length≤1500 then p.c :: p.i :: ((4 + p.d.length) / 256) :: ((4 + p.d.length) % 256) :: p.d else []
def pkE (p:Pk):Int:=if 4 + p.d.length≤1500 then 0 else 1
def known (proto code:Nat):Bool:=if proto = 49185 then decide (1≤code∧code≤11) else if proto = 49699 then decide (1≤code∧code≤4) else if proto = 32801 then decide (1≤code∧code≤7) else false
def rejP (p:Pk) (id:Nat):Pk:=⟨7,id,(pkB p).take 1496⟩
theorem pkB_le (p:Pk):(pkB p).length≤1500:=by
 unfold pkB
 split
 · simp;omega
 · simp
theorem pkB_lt {p:Pk} (h:p.Ty):∀ x∈pkB p,x < 256:=by
 intro x hx
 unfold pkB at hx
 split at hx
 · rename_i hn
   simp only [List.mem_cons] at hx
   rcases hx with rfl | rfl | rfl | rfl | hx
   · exact h.c
   · exact h.i
   · omega
   · omega
   · exact h.d x hx
 · cases hx
theorem noP_ty:noP.Ty:=⟨by decide,by decide,by simp [noP]⟩
section
variable (Γ:Nat->Option (List Data))
theorem rpsame_pc (p q:Pk) (hp:p.d.length≤1000000000) (hq:q.d.length≤1000000000):PC Tryz.prog Γ 68 [pk p,pk q] (.bool (decide (p = q))):=by
 refine pc_by mixed Tryz.func68 rfl (fun args w=>Tryz.call68 args w) ?_
 have c1:=row_pc Γ p.d q.d (by omega) (by omega)
 have e:decide (p = q) = (decide (p.d = q.d) && (decide (p.c = q.c) && decide (p.i = q.i))):=by
  obtain ⟨c,i,d⟩:=p;obtain ⟨c',i',d'⟩:=q
  simp only [Pk.mk.injEq,<- Bool.decide_and]
  congr 1
  simp only [eq_iff_iff]
  constructor
  · rintro ⟨a,b,c⟩;exact ⟨c,a,b⟩
  · rintro ⟨a,b,c⟩;exact ⟨b,c,a⟩
 rw [e]
 simp -implicitDefEqProofs (disch:=omega) [go_sem,pk]
 refine .inl (call_data c1 (by simp [go_sem]) ?_)
 by_cases h1:p.d = q.d
 · by_cases h2:p.c = q.c
   · by_cases h3:p.i = q.i
     · simp -implicitDefEqProofs (disch:=omega) [go_sem,h1,h2,h3,Tryz.f68]
     · have h4:¬ ((p.i:Int) = q.i):=by omega
       simp -implicitDefEqProofs (disch:=omega) [go_sem,h1,h2,h3,h4,Tryz.f68]
   · have h4:¬ ((p.c:Int) = q.c):=by omega
     simp -implicitDefEqProofs (disch:=omega) [go_sem,h1,h2,h4,Tryz.f68]
 · simp -implicitDefEqProofs (disch:=omega) [go_sem,h1,Tryz.f68]
theorem rpbytes_pc (p:Pk) (hn:p.d.length≤140737488351232):PC Tryz.prog Γ 72 [pk p] (.tup [.sl 1 (bys (pkB p)),.int .i64 (pkE p)]):=by
 refine pc_by mixed Tryz.func72 rfl (fun args w=>Tryz.call72 args w) ?_
 unfold pkB pkE
 by_cases h:4 + p.d.length≤1500
 · rw [if_pos h,if_pos h]
   simp -implicitDefEqProofs (disch:=omega) [go_sem,pk,Tryz.f72]
   refine ⟨_,⟨_,rfl,frz_bys (rw:=true) ?_ (.inl rfl) (by simp;omega)⟩,rfl⟩
   simp [go_sem,bys,u8]
   omega
 · rw [if_neg h,if_neg h]
   simp -implicitDefEqProofs (disch:=omega) [go_sem,pk,Tryz.f72]
   exact ⟨_,⟨_,rfl,.emp _ _⟩,rfl⟩
theorem rreject_pc (p:Pk) (id:Nat) (hn:p.d.length≤140737488351232):PC Tryz.prog Γ 45 [pk p,.int .u8 id] (pk (rejP p id)):=by
 refine pc_by mixed Tryz.func45 rfl (fun args w=>Tryz.call45 args w) ?_
 have c1:=rpbytes_pc Γ p hn
 have hle:=pkB_le p
 unfold rejP
 generalize pkB p = q at *
 unfold pk at c1 ⊢
 simp -implicitDefEqProofs (disch:=omega) [go_sem]
 refine .inl (call_data c1 (by simp [go_sem]) ?_)
 by_cases h:q.length≤1496
 · simp -implicitDefEqProofs (disch:=omega) [go_sem,Tryz.f45]
   rw [if_neg (by omega),Int.toNat_natCast,List.take_of_length_le h,List.take_length]
 · simp -implicitDefEqProofs (disch:=omega) [go_sem,Tryz.f45]
   rw [if_pos (by omega)]
   rfl
end
end Pa
namespace Pa
end Pa
namespace Ne
open Op9 Ru Fs Pa
structure Ng where
 a:Au
 r:Rule
 ours:List Ot
 naks:Int
 peer:List Ot
deriving DecidableEq
def ngL (n:Ng):List Data:=[.int .i64 n.a.s,.int .i64 n.a.c,.int .i64 n.a.l,.int .u8 n.a.id,.bool n.r.ip,.int .u32 n.r.magic,.int .u32 n.r.other,.int .u32 n.r.addr,.int .u32 n.r.ours,.sl 2 (ots n.ours),.int .i64 n.naks,.sl 2 (ots n.peer)]
def ng (n:Ng):Data:=.agg (ngL n)
def pks (l:List Pk):List Data:=l.map pk
@[go_sem] theorem pks_length (l:List Pk):(pks l).length = l.length:=by simp [pks]
@[go_sem] theorem pks_get (l:List Pk) (i:Nat):(pks l)[i]? = (l[i]?).map pk:=by simp [pks]
theorem pks_cells (l:List Pk):∀ x∈pks l,x.cells.length = 3:=fun x hx=>by obtain ⟨p,_,rfl⟩:=List.mem_map.1 hx;rfl
theorem pks_snoc (l:List Pk) (p:Pk):(flat (pks (l++[p]))).map D.data = (flat (pks l)).map D.data++[.data (.int .u8 p.c),.data (.int .u8 p.i),.data (.sl 1 (bys p.d))]:=by
 simp [pks,flat,pk,Data.cells]
theorem flat_pks (l:List Pk):(flat (pks l)).length = l.length * 3:=by rw [flat_length (pks_cells _),pks_length]
def ints (l:List Int):List Data:=l.map fun n=>Data.int .i64 n
theorem nums_is (l:List Int):nums l = .sl 1 (ints l):=rfl
@[go_sem] theorem ints_length (l:List Int):(ints l).length = l.length:=by simp [ints]
@[go_sem] theorem ints_get (l:List Int) (i:Nat):(ints l)[i]? = (l[i]?).map (Data.int .i64 ·):=by simp [ints]
theorem ints_cells (l:List Int):∀ x∈ints l,x.cells.length = 1:=fun x hx=>by obtain ⟨p,_,rfl⟩:=List.mem_map.1 hx;rfl
theorem ints_snoc (l:List Int) (x:Int):(ints (l++[x])).map D.data = (ints l).map D.data++[.data (.int .i64 x)]:=by simp [ints]
theorem flat_ints:∀ l:List Int,flat (ints l) = ints l
 | []=>rfl
 | x :: l=>by
   show (Data.int .i64 x).cells++flat (ints l) = _
   rw [flat_ints l];rfl
theorem renCells_app {n:Nat} {ρ:Nat->Option Nat} {H:Nat->Blk} {a a' b b':List D} (hl:a.length = a'.length) (h1:RenCells n ρ H a a') (h2:RenCells n ρ H b b'):RenCells n ρ H (a++b) (a'++b'):=by
 refine ⟨by have:=h2.1;simp only [List.length_append];omega,fun i c d hc hd=>?_⟩
 by_cases h:i < a.length
 · rw [List.getElem?_append_left h] at hc
   rw [List.getElem?_append_left (by omega)] at hd
   exact h1.2 i c d hc hd
 · rw [List.getElem?_append_right (by omega)] at hc hd
   rw [<- hl] at hd
   exact h2.2 _ c d hc hd
structure OutN where
 n:Ng
 sent:List Pk
 told:List Int
 l:List Int
deriving DecidableEq
def outN (o:OutN):Data:=.agg (ngL o.n++[.sl 3 (pks o.sent),nums o.told,nums o.l])
def sentBy (n:Ng) (reply term:Pk) (x:Int):List Pk :=
 if x = 7 then [⟨1,n.a.id,optB n.ours⟩] else if x = 10 then [⟨5,n.a.id,[]⟩] else if x = 11 then [term] else if x = 8 ∨ x = 9 ∨ x = 12 ∨ x = 13 then [reply] else []
def Lay (x:Int):Prop:=x = 1 ∨ x = 2 ∨ x = 3 ∨ x = 4
instance (x:Int):Decidable (Lay x):=by unfold Lay;infer_instance
def sentL (n:Ng) (reply term:Pk) (l:List Int):List Pk:=l.flatMap (sentBy n reply term)
def toldL (l:List Int):List Int:=l.filter fun x=>decide (Lay x)
def Fresh (was:Int) (l:List Int):Prop:=5∈l∧7∈l∧1≤was∧was≤3
instance (was:Int) (l:List Int):Decidable (Fresh was l):=by unfold Fresh;infer_instance
def freshN (n:Ng) (was:Int) (l:List Int):Ng:=if Fresh was l then { n with ours:=askR n.r,naks:=0,peer:=[] } else n
def actedN (n:Ng) (was:Int) (l:List Int) (reply term:Pk):OutN:=⟨freshN n was l,sentL (freshN n was l) reply term l,toldL l,l⟩
theorem sentL_take (n:Ng) (reply term:Pk) (l:List Int) (i:Nat) (h:i < l.length):sentL n reply term (l.take (i + 1)) = sentL n reply term (l.take i)++sentBy n reply term l[i]:=by
 unfold sentL
 rw [List.take_add_one,List.getElem?_eq_getElem h,Option.toList_some,List.flatMap_append]
 simp
theorem toldL_take (l:List Int) (i:Nat) (h:i < l.length):toldL (l.take (i + 1)) = toldL (l.take i)++if Lay l[i] then [l[i]] else []:=by
 unfold toldL
 rw [List.take_add_one,List.getElem?_eq_getElem h,Option.toList_some,List.filter_append]
 congr 1
 by_cases e:Lay l[i] <;> simp [e]
theorem sentBy_le (n:Ng) (reply term:Pk) (x:Int):(sentBy n reply term x).length≤1:=by
 unfold sentBy
 repeat' split
 all_goals simp
theorem sentL_le (n:Ng) (reply term:Pk):∀ l:List Int,(sentL n reply term l).length≤l.length
 | []=>by simp [sentL]
 | x :: l=>by
   have h1:=sentBy_le n reply term x
   have h2:=sentL_le n reply term l
   have e:sentL n reply term (x :: l) = sentBy n reply term x++sentL n reply term l:=rfl
   rw [e,List.length_append,List.length_cons];omega
theorem toldL_le (l:List Int):(toldL l).length≤l.length:=List.length_filter_le _ _
/-- Options that we hold: few,and not too long to be told. -/
def FineN (n:Ng):Prop:=n.r.Ty∧n.ours.length≤1000000∧∀ o∈n.ours,o.d.length≤140737488351232
theorem ask_fine {r:Rule} (h:r.Ty):(askR r).length≤1000000∧∀ o∈askR r,o.d.length≤140737488351232:=by
 unfold askR
 cases r.ip
 · exact ⟨by simp,by simp [fourO]⟩
 · exact ⟨by simp,by simp [fourO]⟩
theorem fresh_fine {n:Ng} (h:FineN n) (was:Int) (l:List Int):FineN (freshN n was l):=by
 unfold freshN
 split
 · exact ⟨h.1,ask_fine h.1⟩
 · exact h
section
variable (Γ:Nat->Option (List Data))
set_option maxHeartbeats 16000000 in
theorem racted_pc (n:Ng) (was:Int) (l:List Int) (reply term:Pk) (hn:FineN n) (hl:l.length≤1000):PC Tryz.prog Γ 44 [ng n,.int .i64 was,nums l,pk reply,pk term] (outN (actedN n was l reply term)):=by
 refine pc_by mixed Tryz.func44 rfl (fun args w=>Tryz.call44 args w) ?_
 have c1:=rhas_pc Γ l 5 (by omega)
 have c2:=rhas_pc Γ l 7 (by omega)
 have c3:=rask_pc Γ n.r hn.1
 have hf:=fresh_fine hn was l
 unfold actedN
 unfold rul at c3
 unfold nums at c1 c2
 rw [<- ints] at c1 c2
 simp -implicitDefEqProofs (disch:=omega) [go_sem,ng,ngL,pk,nums_is]
 refine .inl (call_data c1 (by simp [go_sem]) ?_)
 simp -implicitDefEqProofs (disch:=omega) [go_sem]
 refine .inl (call_data c2 (by simp [go_sem]) ?_)
 have hcond:(Fresh was l∧5∈l∧7∈l∧1≤was∧was≤3) ∨ (¬ Fresh was l∧(¬ 5∈l ∨ (5∈l∧¬ 7∈l) ∨ (5∈l∧7∈l∧¬ 1≤was) ∨ (5∈l∧7∈l∧1≤was∧¬ was≤3))):=by
  unfold Fresh
  by_cases h5:5∈l <;> by_cases h7:7∈l <;> by_cases h1:1≤was <;> by_cases h3:was≤3 <;> simp [h5,h7,h1,h3]
 rcases hcond with ⟨hfr,h5,h7,h1,h3⟩ | ⟨hfr,hno⟩
 · have e:freshN n was l = { n with ours:=askR n.r,naks:=0,peer:=[] }:=if_pos hfr
   rw [e] at hf ⊢
   simp -implicitDefEqProofs (disch:=omega) [go_sem,h5,h7,h1,h3]
   refine .inl (call_data c3 (by simp [go_sem]) ?_)
   simp -implicitDefEqProofs (disch:=omega) [go_sem]
   generalize hm:({ n with ours:=askR n.r,naks:=0,peer:=[] }:Ng) = m at *
   have c4:=robytes_pc Γ m.ours hf.2.1 hf.2.2
   refine loop_ren (σ:={ i:Nat // i≤l.length }) (fun i=>⟨envL [(2,.data (.sl 1 (ints l))),(5,.ptr 0 0),(8,.ptr 1 0),(9,.ptr 2 0),(10,.ptr 4 0),(13,.ptr 3 0),(14,.data (.int .i64 i.1))],
    hpL [(0,.blk true [.data (.int .i64 m.a.s),.data (.int .i64 m.a.c),.data (.int .i64 m.a.l),.data (.int .u8 m.a.id),.data (.bool m.r.ip),.data (.int .u32 m.r.magic),.data (.int .u32 m.r.other),.data (.int .u32 m.r.addr),.data (.int .u32 m.r.ours),.data (.sl 2 (ots m.ours)),.data (.int .i64 m.naks),.data (.sl 2 (ots m.peer))]),
     (1,.blk true [.data (.int .u8 reply.c),.data (.int .u8 reply.i),.data (.sl 1 (bys reply.d))]),(2,.blk true [.data (.int .u8 term.c),.data (.int .u8 term.i),.data (.sl 1 (bys term.d))]),
     (3,.blk true [.data (.int .i64 m.a.s),.data (.int .i64 m.a.c),.data (.int .i64 m.a.l),.data (.int .u8 m.a.id),.data (.bool m.r.ip),.data (.int .u32 m.r.magic),.data (.int .u32 m.r.other),.data (.int .u32 m.r.addr),.data (.int .u32 m.r.ours),.data (.sl 2 (ots m.ours)),.data (.int .i64 m.naks),.data (.sl 2 (ots m.peer)),.ref 5 0 (sentL m reply term (l.take i.1)).length 3,.ref 6 0 (toldL (l.take i.1)).length 1,.data (.sl 1 (ints l))]),
     (4,.blk true [.data (.int .i64 0),.data (.int .i64 0),.data (.int .i64 0),.data (.int .u8 0),.data (.bool false),.data (.int .u32 0),.data (.int .u32 0),.data (.int .u32 0),.data (.int .u32 0),.emp 0,.data (.int .i64 0),.emp 0,.emp 0,.emp 0,.emp 0]),
     (5,.blk true ((flat (pks (sentL m reply term (l.take i.1)))).map .data)),(6,.blk true ((ints (toldL (l.take i.1))).map .data))],7,0,115⟩) (fun i=>l.length - i.1) ⟨0,by omega⟩ [] (rhoL [(0,some 0),(1,some 1),(2,some 2),(3,some 34),(4,some 3),(5,none),(6,none)]) ?_ ?_
   · apply ren_lists <;> simp -implicitDefEqProofs [go_sem,sentL,toldL,pks,ints,flat,<- hm,ots]
   rintro ⟨i,hi⟩
   have ls:=sentL_le m reply term (l.take i)
   have lt:=toldL_le (l.take i)
   have ltk:(l.take i).length≤l.length:=by rw [List.length_take];omega
   by_cases h:i < l.length
   · have ss:=sentL_take m reply term l i h
     have st:=toldL_take l i h
     by_cases e1:l[i] = 1
     · rw [show sentBy m reply term l[i] = [] by rw [e1];simp [sentBy],List.append_nil] at ss
       rw [if_pos (show Lay l[i] by rw [e1];simp [Lay])] at st
       simp -implicitDefEqProofs (disch:=omega) [go_sem,e1,flat_ints]
       refine side (by kernel_rfl) ?_
       simp -implicitDefEqProofs (disch:=omega) [go_sem,e1,flat_ints]
       refine next_ren ⟨i + 1,by omega⟩ (by simp only;omega) [] (rhoL [(0,some 0),(1,some 1),(2,some 2),(3,some 3),(4,some 4),(5,some 5),(6,some 24)]) ?_
       simp only [ss,st]
       apply ren_lists <;> simp -implicitDefEqProofs [go_sem]
       exact renCells_plain (by rw [ints_snoc,e1]) (by simp [plainD])
     by_cases e2:l[i] = 2
     · rw [show sentBy m reply term l[i] = [] by rw [e2];simp [sentBy],List.append_nil] at ss
       rw [if_pos (show Lay l[i] by rw [e2];simp [Lay])] at st
       simp -implicitDefEqProofs (disch:=omega) [go_sem,e1,e2,flat_ints]
       refine side (by kernel_rfl) ?_
       simp -implicitDefEqProofs (disch:=omega) [go_sem,e1,e2,flat_ints]
       refine next_ren ⟨i + 1,by omega⟩ (by simp only;omega) [] (rhoL [(0,some 0),(1,some 1),(2,some 2),(3,some 3),(4,some 4),(5,some 5),(6,some 26)]) ?_
       simp only [ss,st]
       apply ren_lists <;> simp -implicitDefEqProofs [go_sem]
       exact renCells_plain (by rw [ints_snoc,e2]) (by simp [plainD])
     by_cases e3:l[i] = 3
     · rw [show sentBy m reply term l[i] = [] by rw [e3];simp [sentBy],List.append_nil] at ss
       rw [if_pos (show Lay l[i] by rw [e3];simp [Lay])] at st
       simp -implicitDefEqProofs (disch:=omega) [go_sem,e1,e2,e3,flat_ints]
       refine side (by kernel_rfl) ?_
       simp -implicitDefEqProofs (disch:=omega) [go_sem,e1,e2,e3,flat_ints]
       refine next_ren ⟨i + 1,by omega⟩ (by simp only;omega) [] (rhoL [(0,some 0),(1,some 1),(2,some 2),(3,some 3),(4,some 4),(5,some 5),(6,some 28)]) ?_
       simp only [ss,st]
       apply ren_lists <;> simp -implicitDefEqProofs [go_sem]
       exact renCells_plain (by rw [ints_snoc,e3]) (by simp [plainD])
     by_cases e4:l[i] = 4
     · rw [show sentBy m reply term l[i] = [] by rw [e4];simp [sentBy],List.append_nil] at ss
       rw [if_pos (show Lay l[i] by rw [e4];simp [Lay])] at st
       simp -implicitDefEqProofs (disch:=omega) [go_sem,e1,e2,e3,e4,flat_ints]
       refine side (by kernel_rfl) ?_
       simp -implicitDefEqProofs (disch:=omega) [go_sem,e1,e2,e3,e4,flat_ints]
       refine next_ren ⟨i + 1,by omega⟩ (by simp only;omega) [] (rhoL [(0,some 0),(1,some 1),(2,some 2),(3,some 3),(4,some 4),(5,some 5),(6,some 30)]) ?_
       simp only [ss,st]
       apply ren_lists <;> simp -implicitDefEqProofs [go_sem]
       exact renCells_plain (by rw [ints_snoc,e4]) (by simp [plainD])
     rw [if_neg (show ¬ Lay l[i] by unfold Lay;omega),List.append_nil] at st
     by_cases e7:l[i] = 7
     · rw [show sentBy m reply term l[i] = [⟨1,m.a.id,optB m.ours⟩] by rw [e7];simp [sentBy]] at ss
       simp -implicitDefEqProofs (disch:=omega) [go_sem,e1,e2,e3,e4,e7,flat_pks]
       refine .inl (call_data c4 (by simp [go_sem]) ?_)
       simp -implicitDefEqProofs (disch:=omega) [go_sem,flat_pks]
       refine next_ren ⟨i + 1,by omega⟩ (by simp only;omega) [] (rhoL [(0,some 0),(1,some 1),(2,some 2),(3,some 3),(4,some 4),(5,some 41),(6,some 6)]) ?_
       simp only [ss,st]
       apply ren_lists <;> simp -implicitDefEqProofs [go_sem]
       exact renCells_plain (by rw [pks_snoc];rfl) (by simp [plainD])
     by_cases e10:l[i] = 10
     · rw [show sentBy m reply term l[i] = [⟨5,m.a.id,[]⟩] by rw [e10];simp [sentBy]] at ss
       simp -implicitDefEqProofs (disch:=omega) [go_sem,e1,e2,e3,e4,e7,e10,flat_pks]
       refine next_ren ⟨i + 1,by omega⟩ (by simp only;omega) [] (rhoL [(0,some 0),(1,some 1),(2,some 2),(3,some 3),(4,some 4),(5,some 34),(6,some 6)]) ?_
       simp only [ss,st]
       apply ren_lists <;> simp -implicitDefEqProofs [go_sem]
       rw [pks_snoc]
       exact renCells_app rfl (renCells_plain rfl (by simp [plainD])) ((renCells_cons ..).2 ⟨.data _,(renCells_cons ..).2 ⟨.data _,(renCells_cons ..).2 ⟨.frz _ _ (.emp 0 1),(renCells_nil _).2 trivial⟩⟩⟩)
     by_cases e11:l[i] = 11
     · rw [show sentBy m reply term l[i] = [term] by rw [e11];simp [sentBy]] at ss
       simp -implicitDefEqProofs (disch:=omega) [go_sem,e1,e2,e3,e4,e7,e10,e11,flat_pks]
       refine next_ren ⟨i + 1,by omega⟩ (by simp only;omega) [] (rhoL [(0,some 0),(1,some 1),(2,some 2),(3,some 3),(4,some 4),(5,some 33),(6,some 6)]) ?_
       simp only [ss,st]
       apply ren_lists <;> simp -implicitDefEqProofs [go_sem]
       exact renCells_plain (by rw [pks_snoc]) (by simp [plainD])
     by_cases e8:l[i] = 8
     · rw [show sentBy m reply term l[i] = [reply] by rw [e8];simp [sentBy]] at ss
       simp -implicitDefEqProofs (disch:=omega) [go_sem,e1,e2,e3,e4,e7,e10,e11,e8,flat_pks]
       refine next_ren ⟨i + 1,by omega⟩ (by simp only;omega) [] (rhoL [(0,some 0),(1,some 1),(2,some 2),(3,some 3),(4,some 4),(5,some 35),(6,some 6)]) ?_
       simp only [ss,st]
       apply ren_lists <;> simp -implicitDefEqProofs [go_sem]
       exact renCells_plain (by rw [pks_snoc]) (by simp [plainD])
     by_cases e9:l[i] = 9
     · rw [show sentBy m reply term l[i] = [reply] by rw [e9];simp [sentBy]] at ss
       simp -implicitDefEqProofs (disch:=omega) [go_sem,e1,e2,e3,e4,e7,e10,e11,e8,e9,flat_pks]
       refine next_ren ⟨i + 1,by omega⟩ (by simp only;omega) [] (rhoL [(0,some 0),(1,some 1),(2,some 2),(3,some 3),(4,some 4),(5,some 37),(6,some 6)]) ?_
       simp only [ss,st]
       apply ren_lists <;> simp -implicitDefEqProofs [go_sem]
       exact renCells_plain (by rw [pks_snoc]) (by simp [plainD])
     by_cases e12:l[i] = 12
     · rw [show sentBy m reply term l[i] = [reply] by rw [e12];simp [sentBy]] at ss
       simp -implicitDefEqProofs (disch:=omega) [go_sem,e1,e2,e3,e4,e7,e10,e11,e8,e9,e12,flat_pks]
       refine next_ren ⟨i + 1,by omega⟩ (by simp only;omega) [] (rhoL [(0,some 0),(1,some 1),(2,some 2),(3,some 3),(4,some 4),(5,some 39),(6,some 6)]) ?_
       simp only [ss,st]
       apply ren_lists <;> simp -implicitDefEqProofs [go_sem]
       exact renCells_plain (by rw [pks_snoc]) (by simp [plainD])
     by_cases e13:l[i] = 13
     · rw [show sentBy m reply term l[i] = [reply] by rw [e13];simp [sentBy]] at ss
       simp -implicitDefEqProofs (disch:=omega) [go_sem,e1,e2,e3,e4,e7,e10,e11,e8,e9,e12,e13,flat_pks]
       refine next_ren ⟨i + 1,by omega⟩ (by simp only;omega) [] (rhoL [(0,some 0),(1,some 1),(2,some 2),(3,some 3),(4,some 4),(5,some 41),(6,some 6)]) ?_
       simp only [ss,st]
       apply ren_lists <;> simp -implicitDefEqProofs [go_sem]
       exact renCells_plain (by rw [pks_snoc]) (by simp [plainD])
     rw [show sentBy m reply term l[i] = [] by simp [sentBy,e1,e2,e3,e4,e7,e10,e11,e8,e9,e12,e13],List.append_nil] at ss
     simp -implicitDefEqProofs (disch:=omega) [go_sem,e1,e2,e3,e4,e7,e10,e11,e8,e9,e12,e13]
     refine next_ren ⟨i + 1,by omega⟩ (by simp only;omega) [] (rhoL [(0,some 0),(1,some 1),(2,some 2),(3,some 3),(4,some 4),(5,some 5),(6,some 6)]) ?_
     simp only [ss,st]
     apply ren_lists <;> simp -implicitDefEqProofs [go_sem]
   · have:i = l.length:=by omega
     subst this
     have htk:l.take l.length = l:=List.take_length
     simp -implicitDefEqProofs (disch:=omega) [go_sem,htk,outN,ngL,nums_is,Tryz.f44]
     refine ⟨_,⟨_,rfl,frz_aggL (frzL_c (.data _) (frzL_c (.data _) (frzL_c (.data _) (frzL_c (.data _) (frzL_c (.data _) (frzL_c (.data _) (frzL_c (.data _) (frzL_c (.data _) (frzL_c (.data _) (frzL_c (.data _) (frzL_c (.data _) (frzL_c (.data _) (frzL_c (frz_ref (rw:=true) (l:=pks (sentL m reply term l)) (by simp [Hp.set,hpL]) (.inl rfl) (pks_length _) (pks_cells _) rfl) (frzL_c (frz_ref (rw:=true) (l:=ints (toldL l)) (cells:=(ints (toldL l)).map D.data) (by simp [Hp.set,hpL]) (.inl rfl) (ints_length _) (ints_cells _) (by rw [flat_ints])) (frzL_c (.data _) frzL_n)))))))))))))))⟩,rfl⟩
 · have e:freshN n was l = n:=if_neg hfr
   rw [e] at hf ⊢
   have c4:=robytes_pc Γ n.ours hf.2.1 hf.2.2
   obtain ⟨m,hm⟩:∃ m,m = n:=⟨n,rfl⟩
   subst hm
   rcases hno with h5 | ⟨h5,h7⟩ | ⟨h5,h7,h1⟩ | ⟨h5,h7,h1,h3⟩
   all_goals first
    | simp -implicitDefEqProofs (disch:=omega) [go_sem,h5,h7,h1,h3]
    | simp -implicitDefEqProofs (disch:=omega) [go_sem,h5,h7,h1]
    | simp -implicitDefEqProofs (disch:=omega) [go_sem,h5,h7]
    | simp -implicitDefEqProofs (disch:=omega) [go_sem,h5]
   all_goals
    refine loop_ren (σ:={ i:Nat // i≤l.length }) (fun i=>⟨envL [(2,.data (.sl 1 (ints l))),(5,.ptr 0 0),(8,.ptr 1 0),(9,.ptr 2 0),(10,.ptr 4 0),(13,.ptr 3 0),(14,.data (.int .i64 i.1))],
     hpL [(0,.blk true [.data (.int .i64 m.a.s),.data (.int .i64 m.a.c),.data (.int .i64 m.a.l),.data (.int .u8 m.a.id),.data (.bool m.r.ip),.data (.int .u32 m.r.magic),.data (.int .u32 m.r.other),.data (.int .u32 m.r.addr),.data (.int .u32 m.r.ours),.data (.sl 2 (ots m.ours)),.data (.int .i64 m.naks),.data (.sl 2 (ots m.peer))]),
      (1,.blk true [.data (.int .u8 reply.c),.data (.int .u8 reply.i),.data (.sl 1 (bys reply.d))]),(2,.blk true [.data (.int .u8 term.c),.data (.int .u8 term.i),.data (.sl 1 (bys term.d))]),
      (3,.blk true [.data (.int .i64 m.a.s),.data (.int .i64 m.a.c),.data (.int .i64 m.a.l),.data (.int .u8 m.a.id),.data (.bool m.r.ip),.data (.int .u32 m.r.magic),.data (.int .u32 m.r.other),.data (.int .u32 m.r.addr),.data (.int .u32 m.r.ours),.data (.sl 2 (ots m.ours)),.data (.int .i64 m.naks),.data (.sl 2 (ots m.peer)),.ref 5 0 (sentL m reply term (l.take i.1)).length 3,.ref 6 0 (toldL (l.take i.1)).length 1,.data (.sl 1 (ints l))]),
      (4,.blk true [.data (.int .i64 0),.data (.int .i64 0),.data (.int .i64 0),.data (.int .u8 0),.data (.bool false),.data (.int .u32 0),.data (.int .u32 0),.data (.int .u32 0),.data (.int .u32 0),.emp 0,.data (.int .i64 0),.emp 0,.emp 0,.emp 0,.emp 0]),
      (5,.blk true ((flat (pks (sentL m reply term (l.take i.1)))).map .data)),(6,.blk true ((ints (toldL (l.take i.1))).map .data))],7,0,115⟩) (fun i=>l.length - i.1) ⟨0,by omega⟩ [] (rhoL [(0,some 0),(1,some 1),(2,some 2),(3,some 25),(4,some 3),(5,none),(6,none)]) ?_ ?_
    · apply ren_lists <;> simp -implicitDefEqProofs [go_sem,sentL,toldL,pks,ints,flat]
    rintro ⟨i,hi⟩
    have ls:=sentL_le m reply term (l.take i)
    have lt:=toldL_le (l.take i)
    have ltk:(l.take i).length≤l.length:=by rw [List.length_take];omega
    by_cases h:i < l.length
    · have ss:=sentL_take m reply term l i h
      have st:=toldL_take l i h
      by_cases e1:l[i] = 1
      · rw [show sentBy m reply term l[i] = [] by rw [e1];simp [sentBy],List.append_nil] at ss
        rw [if_pos (show Lay l[i] by rw [e1];simp [Lay])] at st
        simp -implicitDefEqProofs (disch:=omega) [go_sem,e1,flat_ints]
        refine side (by kernel_rfl) ?_
        simp -implicitDefEqProofs (disch:=omega) [go_sem,e1,flat_ints]
        refine next_ren ⟨i + 1,by omega⟩ (by simp only;omega) [] (rhoL [(0,some 0),(1,some 1),(2,some 2),(3,some 3),(4,some 4),(5,some 5),(6,some 24)]) ?_
        simp only [ss,st]
        apply ren_lists <;> simp -implicitDefEqProofs [go_sem]
        exact renCells_plain (by rw [ints_snoc,e1]) (by simp [plainD])
      by_cases e2:l[i] = 2
      · rw [show sentBy m reply term l[i] = [] by rw [e2];simp [sentBy],List.append_nil] at ss
        rw [if_pos (show Lay l[i] by rw [e2];simp [Lay])] at st
        simp -implicitDefEqProofs (disch:=omega) [go_sem,e1,e2,flat_ints]
        refine side (by kernel_rfl) ?_
        simp -implicitDefEqProofs (disch:=omega) [go_sem,e1,e2,flat_ints]
        refine next_ren ⟨i + 1,by omega⟩ (by simp only;omega) [] (rhoL [(0,some 0),(1,some 1),(2,some 2),(3,some 3),(4,some 4),(5,some 5),(6,some 26)]) ?_
        simp only [ss,st]
        apply ren_lists <;> simp -implicitDefEqProofs [go_sem]
        exact renCells_plain (by rw [ints_snoc,e2]) (by simp [plainD])
      by_cases e3:l[i] = 3
      · rw [show sentBy m reply term l[i] = [] by rw [e3];simp [sentBy],List.append_nil] at ss
        rw [if_pos (show Lay l[i] by rw [e3];simp [Lay])] at st
        simp -implicitDefEqProofs (disch:=omega) [go_sem,e1,e2,e3,flat_ints]
        refine side (by kernel_rfl) ?_
        simp -implicitDefEqProofs (disch:=omega) [go_sem,e1,e2,e3,flat_ints]
        refine next_ren ⟨i + 1,by omega⟩ (by simp only;omega) [] (rhoL [(0,some 0),(1,some 1),(2,some 2),(3,some 3),(4,some 4),(5,some 5),(6,some 28)]) ?_
        simp only [ss,st]
        apply ren_lists <;> simp -implicitDefEqProofs [go_sem]
        exact renCells_plain (by rw [ints_snoc,e3]) (by simp [plainD])
      by_cases e4:l[i] = 4
      · rw [show sentBy m reply term l[i] = [] by rw [e4];simp [sentBy],List.append_nil] at ss
        rw [if_pos (show Lay l[i] by rw [e4];simp [Lay])] at st
        simp -implicitDefEqProofs (disch:=omega) [go_sem,e1,e2,e3,e4,flat_ints]
        refine side (by kernel_rfl) ?_
        simp -implicitDefEqProofs (disch:=omega) [go_sem,e1,e2,e3,e4,flat_ints]
        refine next_ren ⟨i + 1,by omega⟩ (by simp only;omega) [] (rhoL [(0,some 0),(1,some 1),(2,some 2),(3,some 3),(4,some 4),(5,some 5),(6,some 30)]) ?_
        simp only [ss,st]
        apply ren_lists <;> simp -implicitDefEqProofs [go_sem]
        exact renCells_plain (by rw [ints_snoc,e4]) (by simp [plainD])
      rw [if_neg (show ¬ Lay l[i] by unfold Lay;omega),List.append_nil] at st
      by_cases e7:l[i] = 7
      · rw [show sentBy m reply term l[i] = [⟨1,m.a.id,optB m.ours⟩] by rw [e7];simp [sentBy]] at ss
        simp -implicitDefEqProofs (disch:=omega) [go_sem,e1,e2,e3,e4,e7,flat_pks]
        refine .inl (call_data c4 (by simp [go_sem]) ?_)
        simp -implicitDefEqProofs (disch:=omega) [go_sem,flat_pks]
        refine next_ren ⟨i + 1,by omega⟩ (by simp only;omega) [] (rhoL [(0,some 0),(1,some 1),(2,some 2),(3,some 3),(4,some 4),(5,some 41),(6,some 6)]) ?_
        simp only [ss,st]
        apply ren_lists <;> simp -implicitDefEqProofs [go_sem]
        exact renCells_plain (by rw [pks_snoc];rfl) (by simp [plainD])
      by_cases e10:l[i] = 10
      · rw [show sentBy m reply term l[i] = [⟨5,m.a.id,[]⟩] by rw [e10];simp [sentBy]] at ss
        simp -implicitDefEqProofs (disch:=omega) [go_sem,e1,e2,e3,e4,e7,e10,flat_pks]
        refine next_ren ⟨i + 1,by omega⟩ (by simp only;omega) [] (rhoL [(0,some 0),(1,some 1),(2,some 2),(3,some 3),(4,some 4),(5,some 34),(6,some 6)]) ?_
        simp only [ss,st]
        apply ren_lists <;> simp -implicitDefEqProofs [go_sem]
        rw [pks_snoc]
        exact renCells_app rfl (renCells_plain rfl (by simp [plainD])) ((renCells_cons ..).2 ⟨.data _,(renCells_cons ..).2 ⟨.data _,(renCells_cons ..).2 ⟨.frz _ _ (.emp 0 1),(renCells_nil _).2 trivial⟩⟩⟩)
      by_cases e11:l[i] = 11
      · rw [show sentBy m reply term l[i] = [term] by rw [e11];simp [sentBy]] at ss
        simp -implicitDefEqProofs (disch:=omega) [go_sem,e1,e2,e3,e4,e7,e10,e11,flat_pks]
        refine next_ren ⟨i + 1,by omega⟩ (by simp only;omega) [] (rhoL [(0,some 0),(1,some 1),(2,some 2),(3,some 3),(4,some 4),(5,some 33),(6,some 6)]) ?_
        simp only [ss,st]
        apply ren_lists <;> simp -implicitDefEqProofs [go_sem]
        exact renCells_plain (by rw [pks_snoc]) (by simp [plainD])
      by_cases e8:l[i] = 8
      · rw [show sentBy m reply term l[i] = [reply] by rw [e8];simp [sentBy]] at ss
        simp -implicitDefEqProofs (disch:=omega) [go_sem,e1,e2,e3,e4,e7,e10,e11,e8,flat_pks]
        refine next_ren ⟨i + 1,by omega⟩ (by simp only;omega) [] (rhoL [(0,some 0),(1,some 1),(2,some 2),(3,some 3),(4,some 4),(5,some 35),(6,some 6)]) ?_
        simp only [ss,st]
        apply ren_lists <;> simp -implicitDefEqProofs [go_sem]
        exact renCells_plain (by rw [pks_snoc]) (by simp [plainD])
      by_cases e9:l[i] = 9
      · rw [show sentBy m reply term l[i] = [reply] by rw [e9];simp [sentBy]] at ss
        simp -implicitDefEqProofs (disch:=omega) [go_sem,e1,e2,e3,e4,e7,e10,e11,e8,e9,flat_pks]
        refine next_ren ⟨i + 1,by omega⟩ (by simp only;omega) [] (rhoL [(0,some 0),(1,some 1),(2,some 2),(3,some 3),(4,some 4),(5,some 37),(6,some 6)]) ?_
        simp only [ss,st]
        apply ren_lists <;> simp -implicitDefEqProofs [go_sem]
        exact renCells_plain (by rw [pks_snoc]) (by simp [plainD])
      by_cases e12:l[i] = 12
      · rw [show sentBy m reply term l[i] = [reply] by rw [e12];simp [sentBy]] at ss
        simp -implicitDefEqProofs (disch:=omega) [go_sem,e1,e2,e3,e4,e7,e10,e11,e8,e9,e12,flat_pks]
        refine next_ren ⟨i + 1,by omega⟩ (by simp only;omega) [] (rhoL [(0,some 0),(1,some 1),(2,some 2),(3,some 3),(4,some 4),(5,some 39),(6,some 6)]) ?_
        simp only [ss,st]
        apply ren_lists <;> simp -implicitDefEqProofs [go_sem]
        exact renCells_plain (by rw [pks_snoc]) (by simp [plainD])
      by_cases e13:l[i] = 13
      · rw [show sentBy m reply term l[i] = [reply] by rw [e13];simp [sentBy]] at ss
        simp -implicitDefEqProofs (disch:=omega) [go_sem,e1,e2,e3,e4,e7,e10,e11,e8,e9,e12,e13,flat_pks]
        refine next_ren ⟨i + 1,by omega⟩ (by simp only;omega) [] (rhoL [(0,some 0),(1,some 1),(2,some 2),(3,some 3),(4,some 4),(5,some 41),(6,some 6)]) ?_
        simp only [ss,st]
        apply ren_lists <;> simp -implicitDefEqProofs [go_sem]
        exact renCells_plain (by rw [pks_snoc]) (by simp [plainD])
      rw [show sentBy m reply term l[i] = [] by simp [sentBy,e1,e2,e3,e4,e7,e10,e11,e8,e9,e12,e13],List.append_nil] at ss
      simp -implicitDefEqProofs (disch:=omega) [go_sem,e1,e2,e3,e4,e7,e10,e11,e8,e9,e12,e13]
      refine next_ren ⟨i + 1,by omega⟩ (by simp only;omega) [] (rhoL [(0,some 0),(1,some 1),(2,some 2),(3,some 3),(4,some 4),(5,some 5),(6,some 6)]) ?_
      simp only [ss,st]
      apply ren_lists <;> simp -implicitDefEqProofs [go_sem]
    · have:i = l.length:=by omega
      subst this
      have htk:l.take l.length = l:=List.take_length
      simp -implicitDefEqProofs (disch:=omega) [go_sem,htk,outN,ngL,nums_is,Tryz.f44]
      refine ⟨_,⟨_,rfl,frz_aggL (frzL_c (.data _) (frzL_c (.data _) (frzL_c (.data _) (frzL_c (.data _) (frzL_c (.data _) (frzL_c (.data _) (frzL_c (.data _) (frzL_c (.data _) (frzL_c (.data _) (frzL_c (.data _) (frzL_c (.data _) (frzL_c (.data _) (frzL_c (frz_ref (rw:=true) (l:=pks (sentL m reply term l)) (by simp [Hp.set,hpL]) (.inl rfl) (pks_length _) (pks_cells _) rfl) (frzL_c (frz_ref (rw:=true) (l:=ints (toldL l)) (cells:=(ints (toldL l)).map D.data) (by simp [Hp.set,hpL]) (.inl rfl) (ints_length _) (ints_cells _) (by rw [flat_ints])) (frzL_c (.data _) frzL_n)))))))))))))))⟩,rfl⟩
end
end Ne
namespace Ne
open Op9 Ru Fs Pa
/-- Numbers as they come. -/
def AuR (a:Au):Prop:=(0≤a.c∧a.c≤5)∧a.id < 256
def none4 (n:Ng):OutN:=⟨n,[],[],[]⟩
def eventN (n:Ng) (e:Int) (reply:Pk) (id:Nat):OutN:=if doE n.a e = 0 then actedN { n with a:=doA n.a e } n.a.s (doL n.a e) reply ⟨6,id,[]⟩ else none4 n
def doN (n:Ng) (e:Int):OutN:=if 0≤e∧e≤3 then eventN n e noP 0 else none4 n
def tickN (n:Ng):OutN:=actedN { n with a:=tickA n.a } n.a.s (tickL n.a) noP noP
def zeroN (n:Ng):Ng:=if n.a.s = 3 then { n with naks:=0 } else n
def goodN (o:OutN) (l:List Ot):OutN:=if 8∈o.l then { o with n:={ o.n with naks:=0,peer:=l } } else o
def poorN (o:OutN) (c:Nat):OutN:=if 9∈o.l∧c = 3 then { o with n:={ o.n with naks:=min 3 (o.n.naks + 1) } } else o
def reqN (n:Ng) (p:Pk) (l:List Ot):OutN :=
 let a:=answerR n.r l (zeroN n).naks
 poorN (goodN (eventN (zeroN n) (if a.1 = 2 then 6 else 7) ⟨a.1,p.i,optB a.2⟩ p.i) l) a.1
def requestN (n:Ng) (p:Pk):OutN:=if errO p.d = 0 then reqN n p (gotO p.d) else none4 n
def answeredN (n:Ng) (p:Pk):OutN:=if errO p.d = 0∧p.i = n.a.id then (if (turnR n.r n.ours p.c (gotO p.d)).2 = true then eventN { n with ours:=(turnR n.r n.ours p.c (gotO p.d)).1 } 9 noP p.i else eventN n 3 noP p.i) else none4 n
def magicN (n:Ng):Nat:=if n.r.ip = true then 0 else match findO n.ours 5 with
 | some o=>numO o.d
 | none=>0
theorem out_none (n:Ng):outN (none4 n) = .agg (ngL n++[.sl 3 [],.sl 1 [],.sl 1 []]):=rfl
theorem doL_short (a:Au) (e:Int):(doL a e).length≤3:=by
 unfold doL
 split
 · exact nextF_short _ _
 · simp
section
variable (Γ:Nat->Option (List Data))
set_option maxHeartbeats 4000000 in
theorem revent_pc (n:Ng) (e:Int) (reply:Pk) (id:Nat) (hn:FineN n) (ha:AuR n.a):PC Tryz.prog Γ 42 [ng n,.int .i64 e,pk reply,.int .u8 id] (outN (eventN n e reply id)):=by
 refine pc_by mixed Tryz.func42 rfl (fun args w=>Tryz.call42 args w) ?_
 have c1:=rado_pc Γ n.a e ha.1 ha.2
 have hd:=doL_short n.a e
 have c2:=racted_pc Γ { n with a:=doA n.a e } n.a.s (doL n.a e) reply ⟨6,id,[]⟩ hn (by omega)
 unfold eventN
 unfold au at c1
 unfold ng ngL at c2
 unfold pk at c2
 rw [nums_is] at c1 c2
 simp only at c2
 by_cases h:doE n.a e = 0
 · rw [if_pos h]
   rw [h] at c1
   generalize actedN { n with a:=doA n.a e } n.a.s (doL n.a e) reply ⟨6,id,[]⟩ = R at *
   generalize doA n.a e = a' at *
   unfold outN ngL at c2 ⊢
   simp only [List.cons_append,List.nil_append] at c2 ⊢
   simp -implicitDefEqProofs (disch:=omega) [go_sem,ng,ngL,pk]
   refine .inl (call_data c1 (by simp [go_sem]) ?_)
   simp -implicitDefEqProofs (disch:=omega) [go_sem]
   refine .inl (call_frz [] [] (by simp) c2 (fun H' hH'=>frzL_c (.data _) (frzL_c (.data _) (frzL_c (.data _) (frzL_c (.data _) (frzL_c (frz_aggL (frzL_c (.data _) (frzL_c (.data _) (frzL_c (.emp 0 1) frzL_n)))) frzL_n))))) ?_)
   simp -implicitDefEqProofs (disch:=omega) [go_sem,nums_is,Tryz.f42]
 · rw [if_neg h]
   generalize doE n.a e = d at *
   simp -implicitDefEqProofs (disch:=omega) [go_sem,ng,ngL,pk]
   refine .inl (call_data c1 (by simp [go_sem]) ?_)
   simp -implicitDefEqProofs (disch:=omega) [go_sem,h,out_none,ngL,Tryz.f42]
   exact ⟨_,⟨_,rfl,frz_aggL (frzL_c (.data _) (frzL_c (.data _) (frzL_c (.data _) (frzL_c (.data _) (frzL_c (.data _) (frzL_c (.data _) (frzL_c (.data _) (frzL_c (.data _) (frzL_c (.data _) (frzL_c (.data _) (frzL_c (.data _) (frzL_c (.data _) (frzL_c (.emp 0 3) (frzL_c (.emp 0 1) (frzL_c (.emp 0 1) frzL_n)))))))))))))))⟩,rfl⟩
theorem none4_frz (n:Ng) (H:Nat->Blk):∃ xs,(∃ y,xs = [y]∧Frz true H (.agg [.data (.int .i64 n.a.s),.data (.int .i64 n.a.c),.data (.int .i64 n.a.l),.data (.int .u8 n.a.id),.data (.bool n.r.ip),.data (.int .u32 n.r.magic),.data (.int .u32 n.r.other),.data (.int .u32 n.r.addr),.data (.int .u32 n.r.ours),.data (.sl 2 (ots n.ours)),.data (.int .i64 n.naks),.data (.sl 2 (ots n.peer)),.emp 0,.emp 0,.emp 0]) y)∧outN (none4 n) = tupD xs :=
 ⟨_,⟨_,rfl,frz_aggL (frzL_c (.data _) (frzL_c (.data _) (frzL_c (.data _) (frzL_c (.data _) (frzL_c (.data _) (frzL_c (.data _) (frzL_c (.data _) (frzL_c (.data _) (frzL_c (.data _) (frzL_c (.data _) (frzL_c (.data _) (frzL_c (.data _) (frzL_c (.emp 0 3) (frzL_c (.emp 0 1) (frzL_c (.emp 0 1) frzL_n)))))))))))))))⟩,rfl⟩
set_option maxHeartbeats 4000000 in
theorem rndo_pc (n:Ng) (e:Int) (hn:FineN n) (ha:AuR n.a):PC Tryz.prog Γ 16 [ng n,.int .i64 e] (outN (doN n e)):=by
 refine pc_by mixed Tryz.func16 rfl (fun args w=>Tryz.call16 args w) ?_
 have c1:=revent_pc Γ n e noP 0 hn ha
 unfold doN
 unfold ng ngL pk at c1
 have go:¬ (0≤e∧e≤3)->e < 0 ∨ (0≤e∧3 < e):=fun h=>by omega
 by_cases h:0≤e∧e≤3
 · rw [if_pos h]
   obtain ⟨h1,h2⟩:=h
   generalize eventN n e noP 0 = R at *
   unfold outN ngL at c1 ⊢
   simp only [List.cons_append,List.nil_append] at c1 ⊢
   simp -implicitDefEqProofs (disch:=omega) [go_sem,ng,ngL]
   refine .inl (call_frz [] [] (by simp) c1 (fun H' hH'=>frzL_c (.data _) (frzL_c (.data _) (frzL_c (frz_aggL (frzL_c (.data _) (frzL_c (.data _) (frzL_c (.emp 0 1) frzL_n)))) (frzL_c (.data _) frzL_n)))) ?_)
   simp -implicitDefEqProofs (disch:=omega) [go_sem,nums_is,Tryz.f16]
 · rw [if_neg h]
   rcases go h with h | ⟨h1,h2⟩
   all_goals
    simp -implicitDefEqProofs (disch:=omega) [go_sem,ng,ngL,Tryz.f16]
    exact none4_frz n _
theorem tickL_short (a:Au):(tickL a).length≤3:=by
 unfold tickL
 repeat' split
 all_goals first | (simp;done) | exact doL_short _ _
set_option maxHeartbeats 4000000 in
theorem rntick_pc (n:Ng) (hn:FineN n) (ha:RightA n.a) (hi:n.a.id < 256):PC Tryz.prog Γ 17 [ng n] (outN (tickN n)):=by
 refine pc_by mixed Tryz.func17 rfl (fun args w=>Tryz.call17 args w) ?_
 have c1:=ratick_pc Γ n.a ha.2.1 hi (by have:=ha.2.2;omega)
 have hd:=tickL_short n.a
 have c2:=racted_pc Γ { n with a:=tickA n.a } n.a.s (tickL n.a) noP noP hn (by omega)
 unfold tickN
 unfold au at c1
 unfold ng ngL at c2
 unfold pk at c2
 rw [nums_is] at c1 c2
 simp only at c2
 generalize actedN { n with a:=tickA n.a } n.a.s (tickL n.a) noP noP = R at *
 generalize tickA n.a = a' at *
 unfold outN ngL at c2 ⊢
 simp only [List.cons_append,List.nil_append] at c2 ⊢
 simp -implicitDefEqProofs (disch:=omega) [go_sem,ng,ngL]
 refine .inl (call_data c1 (by simp [go_sem]) ?_)
 simp -implicitDefEqProofs (disch:=omega) [go_sem]
 refine .inl (call_frz [] [] (by simp) c2 (fun H' hH'=>frzL_c (.data _) (frzL_c (.data _) (frzL_c (.data _) (frzL_c (frz_aggL (frzL_c (.data _) (frzL_c (.data _) (frzL_c (.emp 0 1) frzL_n)))) (frzL_c (frz_aggL (frzL_c (.data _) (frzL_c (.data _) (frzL_c (.emp 0 1) frzL_n)))) frzL_n))))) ?_)
 simp -implicitDefEqProofs (disch:=omega) [go_sem,nums_is,Tryz.f17]
theorem rmagic_pc (n:Ng) (hn:FineN n) (hb:∀ o∈n.ours,(∀ x∈o.d,x < 256)∧o.d.length≤1000000000):PC Tryz.prog Γ 49 [ng n] (.int .u32 (magicN n)):=by
 refine pc_by mixed Tryz.func49 rfl (fun args w=>Tryz.call49 args w) ?_
 have c1:=rfind_pc Γ n.ours 5 (by have:=hn.2.1;omega)
 unfold magicN
 cases hip:n.r.ip
 · cases hf:findO n.ours 5 with
   | none =>
     rw [hf] at c1
     unfold foundO ot at c1
     simp -implicitDefEqProofs (disch:=omega) [go_sem,ng,ngL]
     refine .inl (call_data c1 (by simp [go_sem]) ?_)
     simp -implicitDefEqProofs (disch:=omega) [go_sem,hip,Tryz.f49]
   | some o =>
     rw [hf] at c1
     unfold foundO ot at c1
     have ho:=hb o (List.mem_of_find?_eq_some hf)
     have c2:=rnumber_pc Γ o.d ho.2 ho.1
     simp -implicitDefEqProofs (disch:=omega) [go_sem,ng,ngL]
     refine .inl (call_data c1 (by simp [go_sem]) ?_)
     simp -implicitDefEqProofs (disch:=omega) [go_sem,hip]
     refine .inl (call_data c2 (by simp [go_sem]) ?_)
     simp -implicitDefEqProofs (disch:=omega) [go_sem,Tryz.f49]
 · have fnd:∀ o:Option Ot,∃ x:Ot,foundO o = .tup [ot x,.bool o.isSome]:=fun o=>by cases o with | none=>exact ⟨noO,rfl⟩ | some o=>exact ⟨o,rfl⟩
   obtain ⟨x1,e1⟩:=fnd (findO n.ours 5)
   rw [e1] at c1
   unfold ot at c1
   simp -implicitDefEqProofs (disch:=omega) [go_sem,ng,ngL]
   refine .inl (call_data c1 (by simp [go_sem]) ?_)
   simp -implicitDefEqProofs (disch:=omega) [go_sem,hip,Tryz.f49]
end
end Ne
namespace Ne
open Op9 Ru Fs Pa
/-- What is read has few bytes an option,and no more options than bytes. -/
theorem got_fine {b:List Nat} (hb:∀ x∈b,x < 256):(gotO b).length≤b.length∧∀ o∈gotO b,(∀ x∈o.d,x < 256)∧o.d.length≤253:=by
 unfold gotO
 cases h:readL b with
 | none=>simp
 | some l =>
   obtain ⟨h1,h2⟩:=readL_forth hb h
   have:=otsB_get l
   rw [<- h1] at this
   exact ⟨this,fun o ho=>⟨(h2 o ho).1.d,(h2 o ho).2⟩⟩
theorem four_len (n:Nat):(fourO n).length = 4:=rfl
theorem should_len (r:Rule) (o:Ot) (h:o.d.length≤253):(shouldR r o).1.d.length≤253:=by
 unfold shouldR
 cases r.ip
 · simp only
   split
   · simp
   · split
     · rw [four_len];omega
     · exact h
 · simp only;rw [four_len];omega
theorem answer_fine (r:Rule) {l:List Ot} (n:Int) (h:∀ o∈l,o.d.length≤253):(answerR r l n).2.length≤l.length + 1∧∀ o∈(answerR r l n).2,o.d.length≤253:=by
 unfold answerR
 split
 · exact ⟨by show (oddR r.ip l).length≤_;have:=odd_len r.ip l;omega,fun o ho=>h o (List.mem_filter.1 ho).1⟩
 · split
   · exact ⟨by show (asR r l).length≤_;have:=as_len r l;omega,fun o ho=>h o (List.mem_filter.1 ho).1⟩
   · split
     · unfold toA
       have:=to_len r l
       refine ⟨by rw [List.length_append];split <;> simp <;> omega,fun o ho=>?_⟩
       rcases List.mem_append.1 ho with ho | ho
       · unfold toR at ho
         obtain ⟨x,hx,rfl⟩:=List.mem_map.1 ho
         exact should_len r x (h x (List.mem_filter.1 hx).1)
       · split at ho
         · simp only [List.mem_singleton] at ho;subst ho;rw [four_len];omega
         · cases ho
     · exact ⟨by show l.length≤_;omega,h⟩
theorem answer_code (r:Rule) (l:List Ot) (n:Int):(answerR r l n).1 = 2 ∨ (answerR r l n).1 = 3 ∨ (answerR r l n).1 = 4:=by
 unfold answerR
 repeat' split
 all_goals simp
theorem turn_fine (r:Rule) {ours:List Ot} (c:Nat) (l:List Ot) (hn:ours.length≤100000) (h:∀ o∈ours,(∀ x∈o.d,x < 256)∧o.d.length≤253) (hr:r.Ty):(turnR r ours c l).1.length≤ours.length + 1∧∀ o∈(turnR r ours c l).1,(∀ x∈o.d,x < 256)∧o.d.length≤253:=by
 unfold turnR
 split
 · exact ⟨by show ours.length≤_;omega,h⟩
 · split
   · have go:∀ (l m:List Ot),m.length≤ours.length->(∀ o∈m,(∀ x∈o.d,x < 256)∧o.d.length≤253)->(dropAll m l).length≤ours.length∧∀ o∈dropAll m l,(∀ x∈o.d,x < 256)∧o.d.length≤253:=by
      intro l
      induction l with
      | nil=>intro m h1 h2;exact ⟨h1,h2⟩
      | cons o l ih=>intro m h1 h2;exact ih (dropO m o.t) (Nat.le_trans (drop_len m o.t) h1) fun x hx=>h2 x (drop_sub x hx)
     have:=go l ours (Nat.le_refl _) h
     exact ⟨by show (dropAll ours l).length≤_;have:=this.1;omega,this.2⟩
   · split
     · exact ⟨by show ours.length≤_;omega,h⟩
     · refine ⟨putG_len _ _ _,fun o ho=>?_⟩
       have mem:∀ (m:List Ot) (lg:Bool) (p:Ot),o∈putG p lg m->o = p ∨ o∈m:=by
        intro m
        induction m with
        | nil=>intro lg p h;cases lg <;> simp [putG] at h;exact .inl h
        | cons x m ih =>
          intro lg p h
          unfold putG at h
          split at h
          · rcases List.mem_cons.1 h with h | h
            · exact .inl h
            · rcases ih _ _ h with h | h
              · exact .inl h
              · exact .inr (List.mem_cons_of_mem _ h)
          · rcases List.mem_cons.1 h with h | h
            · exact .inr (by rw [h];exact List.mem_cons_self)
            · rcases ih _ _ h with h | h
              · exact .inl h
              · exact .inr (List.mem_cons_of_mem _ h)
       rcases mem _ _ _ ho with rfl | ho
       · exact ⟨four_lt hr.other,by rw [four_len];omega⟩
       · exact h o ho
theorem event_naks (n:Ng) (e:Int) (reply:Pk) (id:Nat):(eventN n e reply id).n.naks = n.naks ∨ (eventN n e reply id).n.naks = 0:=by
 unfold eventN
 split
 · unfold actedN freshN
   simp only
   split
   · exact .inr rfl
   · exact .inl rfl
 · exact .inl rfl
theorem event_l (n:Ng) (e:Int) (reply:Pk) (id:Nat):(eventN n e reply id).l.length≤3:=by
 unfold eventN
 split
 · exact doL_short _ _
 · simp [none4]
section
variable (Γ:Nat->Option (List Data))
set_option maxHeartbeats 8000000 in
theorem rrequest_pc (n:Ng) (p:Pk) (hn:FineN n) (ha:AuR n.a) (hk:0≤n.naks∧n.naks≤1000) (hp:∀ x∈p.d,x < 256) (hpn:p.d.length≤100000):PC Tryz.prog Γ 46 [ng n,pk p] (outN (requestN n p)):=by
 refine pc_by mixed Tryz.func46 rfl (fun args w=>Tryz.call46 args w) ?_
 have c1:=roread_pc Γ p.d (by omega) hp
 obtain ⟨g1,g2⟩:=got_fine hp
 unfold requestN reqN
 generalize gotO p.d = l at *
 by_cases he:errO p.d = 0
 rotate_left
 · rw [if_neg he]
   generalize errO p.d = e at *
   simp -implicitDefEqProofs (disch:=omega) [go_sem,ng,ngL,pk]
   refine .inl (call_data c1 (by simp [go_sem]) ?_)
   simp -implicitDefEqProofs (disch:=omega) [go_sem,he,Tryz.f46]
   exact none4_frz n _
 rw [if_pos he]
 rw [he] at c1
 have hz:FineN (zeroN n)∧AuR (zeroN n).a∧(0≤(zeroN n).naks∧(zeroN n).naks≤1000)∧(zeroN n).a = n.a∧(zeroN n).r = n.r∧(zeroN n).ours = n.ours∧(zeroN n).peer = n.peer∧(zeroN n).naks = if n.a.s = 3 then 0 else n.naks:=by
  unfold zeroN
  split
  · exact ⟨hn,ha,by simp,rfl,rfl,rfl,rfl,rfl⟩
  · exact ⟨hn,ha,hk,rfl,rfl,rfl,rfl,rfl⟩
 obtain ⟨z1,z2,z3,z4,z5,z6,z7,z8⟩:=hz
 have c2:=ranswer_pc Γ n.r l (zeroN n).naks hn.1 ⟨by omega,fun o ho=>⟨(g2 o ho).1,by have:=(g2 o ho).2;omega⟩⟩
 obtain ⟨b1,b2⟩:=answer_fine n.r (zeroN n).naks fun o ho=>(g2 o ho).2
 have hcode:=answer_code n.r l (zeroN n).naks
 have c3:=robytes_pc Γ (answerR n.r l (zeroN n).naks).2 (by omega) (fun o ho=>by have:=b2 o ho;omega)
 generalize answerR n.r l (zeroN n).naks = A at *
 obtain ⟨code,m⟩:=A
 simp only at *
 have c4:=revent_pc Γ (zeroN n) (if code = 2 then 6 else 7) ⟨code,p.i,optB m⟩ p.i z1 z2
 have hek:=event_naks (zeroN n) (if code = 2 then 6 else 7) ⟨code,p.i,optB m⟩ p.i
 have hel:=event_l (zeroN n) (if code = 2 then 6 else 7) ⟨code,p.i,optB m⟩ p.i
 have hkk:0≤(eventN (zeroN n) (if code = 2 then 6 else 7) ⟨code,p.i,optB m⟩ p.i).n.naks∧(eventN (zeroN n) (if code = 2 then 6 else 7) ⟨code,p.i,optB m⟩ p.i).n.naks≤1000:=by
  rcases hek with h | h <;> rw [h] <;> omega
 generalize eventN (zeroN n) (if code = 2 then 6 else 7) ⟨code,p.i,optB m⟩ p.i = R at *
 unfold ng ngL pk outN ngL at c4
 rw [z4,z5,z6,z7,z8] at c4
 rw [z8] at c2
 simp only [List.cons_append,List.nil_append] at c4
 have c5:=rhas_pc Γ R.l 8 (by omega)
 have c6:=rhas_pc Γ R.l 9 (by omega)
 rw [nums_is] at c5 c6
 unfold rul at c2
 generalize optB m = mb at *
 generalize optE m = me at *
 by_cases hs:n.a.s = 3
 · rw [if_pos hs] at c2 c4
   rcases hcode with rfl | rfl | rfl
   · rw [if_pos rfl] at c4
     simp -implicitDefEqProofs (disch:=omega) [go_sem,ng,ngL,pk]
     refine .inl (call_data c1 (by simp [go_sem]) ?_)
     simp -implicitDefEqProofs (disch:=omega) [go_sem,hs]
     refine .inl (call_data c2 (by simp [go_sem]) ?_)
     simp -implicitDefEqProofs (disch:=omega) [go_sem]
     refine .inl (call_data c3 (by simp [go_sem]) ?_)
     simp -implicitDefEqProofs (disch:=omega) [go_sem]
     refine .inl (call_data c4 (by simp [go_sem,hs]) ?_)
     simp -implicitDefEqProofs (disch:=omega) [go_sem,nums_is]
     refine .inl (call_data c5 (by simp [go_sem]) ?_)
     simp -implicitDefEqProofs (disch:=omega) [go_sem]
     refine .inl (call_data c6 (by simp [go_sem]) ?_)
     by_cases h8:8∈R.l <;> by_cases h9:9∈R.l <;> simp -implicitDefEqProofs (disch:=omega) [go_sem,h8,h9,goodN,poorN,outN,ngL,nums_is,Tryz.f46]
   · rw [if_neg (by decide)] at c4
     simp -implicitDefEqProofs (disch:=omega) [go_sem,ng,ngL,pk]
     refine .inl (call_data c1 (by simp [go_sem]) ?_)
     simp -implicitDefEqProofs (disch:=omega) [go_sem,hs]
     refine .inl (call_data c2 (by simp [go_sem]) ?_)
     simp -implicitDefEqProofs (disch:=omega) [go_sem]
     refine .inl (call_data c3 (by simp [go_sem]) ?_)
     simp -implicitDefEqProofs (disch:=omega) [go_sem]
     refine .inl (call_data c4 (by simp [go_sem,hs]) ?_)
     simp -implicitDefEqProofs (disch:=omega) [go_sem,nums_is]
     refine .inl (call_data c5 (by simp [go_sem]) ?_)
     simp -implicitDefEqProofs (disch:=omega) [go_sem]
     refine .inl (call_data c6 (by simp [go_sem]) ?_)
     by_cases h8:8∈R.l <;> by_cases h9:9∈R.l <;> simp -implicitDefEqProofs (disch:=omega) [go_sem,h8,h9,goodN,poorN,outN,ngL,nums_is,Tryz.f46]
     all_goals first | rfl | (split <;> omega) | omega
   · rw [if_neg (by decide)] at c4
     simp -implicitDefEqProofs (disch:=omega) [go_sem,ng,ngL,pk]
     refine .inl (call_data c1 (by simp [go_sem]) ?_)
     simp -implicitDefEqProofs (disch:=omega) [go_sem,hs]
     refine .inl (call_data c2 (by simp [go_sem]) ?_)
     simp -implicitDefEqProofs (disch:=omega) [go_sem]
     refine .inl (call_data c3 (by simp [go_sem]) ?_)
     simp -implicitDefEqProofs (disch:=omega) [go_sem]
     refine .inl (call_data c4 (by simp [go_sem,hs]) ?_)
     simp -implicitDefEqProofs (disch:=omega) [go_sem,nums_is]
     refine .inl (call_data c5 (by simp [go_sem]) ?_)
     simp -implicitDefEqProofs (disch:=omega) [go_sem]
     refine .inl (call_data c6 (by simp [go_sem]) ?_)
     by_cases h8:8∈R.l <;> by_cases h9:9∈R.l <;> simp -implicitDefEqProofs (disch:=omega) [go_sem,h8,h9,goodN,poorN,outN,ngL,nums_is,Tryz.f46]
 · rw [if_neg hs] at c2 c4
   rcases hcode with rfl | rfl | rfl
   · rw [if_pos rfl] at c4
     simp -implicitDefEqProofs (disch:=omega) [go_sem,ng,ngL,pk]
     refine .inl (call_data c1 (by simp [go_sem]) ?_)
     simp -implicitDefEqProofs (disch:=omega) [go_sem,hs]
     refine .inl (call_data c2 (by simp [go_sem]) ?_)
     simp -implicitDefEqProofs (disch:=omega) [go_sem]
     refine .inl (call_data c3 (by simp [go_sem]) ?_)
     simp -implicitDefEqProofs (disch:=omega) [go_sem]
     refine .inl (call_data c4 (by simp [go_sem,hs]) ?_)
     simp -implicitDefEqProofs (disch:=omega) [go_sem,nums_is]
     refine .inl (call_data c5 (by simp [go_sem]) ?_)
     simp -implicitDefEqProofs (disch:=omega) [go_sem]
     refine .inl (call_data c6 (by simp [go_sem]) ?_)
     by_cases h8:8∈R.l <;> by_cases h9:9∈R.l <;> simp -implicitDefEqProofs (disch:=omega) [go_sem,h8,h9,goodN,poorN,outN,ngL,nums_is,Tryz.f46]
   · rw [if_neg (by decide)] at c4
     simp -implicitDefEqProofs (disch:=omega) [go_sem,ng,ngL,pk]
     refine .inl (call_data c1 (by simp [go_sem]) ?_)
     simp -implicitDefEqProofs (disch:=omega) [go_sem,hs]
     refine .inl (call_data c2 (by simp [go_sem]) ?_)
     simp -implicitDefEqProofs (disch:=omega) [go_sem]
     refine .inl (call_data c3 (by simp [go_sem]) ?_)
     simp -implicitDefEqProofs (disch:=omega) [go_sem]
     refine .inl (call_data c4 (by simp [go_sem,hs]) ?_)
     simp -implicitDefEqProofs (disch:=omega) [go_sem,nums_is]
     refine .inl (call_data c5 (by simp [go_sem]) ?_)
     simp -implicitDefEqProofs (disch:=omega) [go_sem]
     refine .inl (call_data c6 (by simp [go_sem]) ?_)
     by_cases h8:8∈R.l <;> by_cases h9:9∈R.l <;> simp -implicitDefEqProofs (disch:=omega) [go_sem,h8,h9,goodN,poorN,outN,ngL,nums_is,Tryz.f46]
     all_goals first | rfl | (split <;> omega) | omega
   · rw [if_neg (by decide)] at c4
     simp -implicitDefEqProofs (disch:=omega) [go_sem,ng,ngL,pk]
     refine .inl (call_data c1 (by simp [go_sem]) ?_)
     simp -implicitDefEqProofs (disch:=omega) [go_sem,hs]
     refine .inl (call_data c2 (by simp [go_sem]) ?_)
     simp -implicitDefEqProofs (disch:=omega) [go_sem]
     refine .inl (call_data c3 (by simp [go_sem]) ?_)
     simp -implicitDefEqProofs (disch:=omega) [go_sem]
     refine .inl (call_data c4 (by simp [go_sem,hs]) ?_)
     simp -implicitDefEqProofs (disch:=omega) [go_sem,nums_is]
     refine .inl (call_data c5 (by simp [go_sem]) ?_)
     simp -implicitDefEqProofs (disch:=omega) [go_sem]
     refine .inl (call_data c6 (by simp [go_sem]) ?_)
     by_cases h8:8∈R.l <;> by_cases h9:9∈R.l <;> simp -implicitDefEqProofs (disch:=omega) [go_sem,h8,h9,goodN,poorN,outN,ngL,nums_is,Tryz.f46]
end
end Ne
end Go.Proofs.YtlfhkplbjgcpiaaGreatDoor
