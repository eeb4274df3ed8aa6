/- The state table: the document's own functions. The state table: the document's own Next, Has, Ints, Timed, Name. Automata: the document's own functions. Automata: right ones stay right; what a table's cell does to an automaton. Automata left alone: they end. The state table: the document's own names. Strings gone through: bytes below 128 are runes. The fields of a string of bytes below 128. The state table: the program's own functions. Functions that may panic: what the walk needs. A function with a deferred call that recovers, on plain data. What a walk through a deferred call needs. -/
import Derived.Test.YticeibkffhdphaaDoorPk4
import Derived.Recover
namespace Go.Proofs.YticeibkffhdphaaDoor
open Go.RowKit
set_option linter.unusedSimpArgs false
set_option linter.unusedVariables false
set_option maxRecDepth 100000
namespace Fs
def nums (l:List Int):Data:=.sl 1 (l.map fun n=>Data.int .i64 n)
/-- Actions,a state,and whether it can be. -/
abbrev R3:=List Int × Int × Bool
def tri (r:R3):Data:=.tup [nums r.1,.int .i64 r.2.1,.bool r.2.2]
theorem frz_nums {ok:Bool} {H:Nat->Blk} {g n:Nat} {rw:Bool} {l:List Int} (hg:H g = .blk rw (l.map fun n=>D.data (.int .i64 n))) (hrw:ok = true ∨ rw = false) (hn:l.length = n):Frz ok H (.ref g 0 n 1) (nums l):=by
 refine frz_ref hg hrw (by simpa using hn) (fun x hx=>?_) ?_
 · obtain ⟨p,_,rfl⟩:=List.mem_map.1 hx
   rfl
 · clear hg hn
   induction l with
   | nil=>rfl
   | cons a l ih =>
     simp only [List.map_cons] at ih ⊢
     rw [ih]
     rfl
section
variable (Γ:Nat->Option (List Data))
theorem to_pc (s:Int) (l:List Int):PC Tryd.prog Γ 43 [.int .i64 s,nums l] (tri (l,s,true)):=by
 refine pc_by mixed Tryd.func43 rfl (fun args w=>Tryd.call43 args w) ?_
 unfold tri nums
 simp -implicitDefEqProofs (disch:=omega) [go_sem,Tryd.f43]
theorem stay_pc (s:Int):PC Tryd.prog Γ 45 [.int .i64 s] (tri ([],s,true)):=by
 refine pc_by mixed Tryd.func45 rfl (fun args w=>Tryd.call45 args w) ?_
 unfold tri nums
 simp -implicitDefEqProofs (disch:=omega) [go_sem,Tryd.f45]
 exact ⟨_,⟨_,rfl,.emp _ _⟩,rfl⟩
theorem never_pc (s:Int):PC Tryd.prog Γ 33 [.int .i64 s] (tri ([],s,false)):=by
 refine pc_by mixed Tryd.func33 rfl (fun args w=>Tryd.call33 args w) ?_
 unfold tri nums
 simp -implicitDefEqProofs (disch:=omega) [go_sem,Tryd.f33]
 exact ⟨_,⟨_,rfl,.emp _ _⟩,rfl⟩
def upF (s:Int)  : R3:=if s = 0 then ([],2,true) else if s = 1 then ([5,7],6,true) else ([],s,false)
set_option maxHeartbeats 4000000 in
theorem up_pc (s:Int)  (h:0≤s∧s≤9):PC Tryd.prog Γ 34 [.int .i64 s] (tri (upF s)):=by
 refine pc_by mixed Tryd.func34 rfl (fun args w=>Tryd.call34 args w) ?_
 obtain ⟨h1,h2⟩:=h
 have hs:s = 0 ∨ s = 1 ∨ s = 2 ∨ s = 3 ∨ s = 4 ∨ s = 5 ∨ s = 6 ∨ s = 7 ∨ s = 8 ∨ s = 9:=by omega
 rcases hs with rfl | rfl | rfl | rfl | rfl | rfl | rfl | rfl | rfl | rfl
 · rw [show upF 0 = ([],2,true) by simp [upF]]
   simp -implicitDefEqProofs (disch:=omega) [go_sem]
   refine .inl (call_data (stay_pc Γ 2) (by simp [go_sem]) ?_)
   unfold tri nums
   simp -implicitDefEqProofs (disch:=omega) [go_sem,Tryd.f34]
 · rw [show upF 1 = ([5,7],6,true) by simp [upF]]
   simp -implicitDefEqProofs (disch:=omega) [go_sem]
   refine .inl (call_keep _ (to_pc Γ 6 [5,7]) (rw:=true) (cells:=([5,7]:List Int).map fun n=>D.data (.int .i64 n)) (by simp [Hp.upd,Hp.set]) (fun H' hg=>frzL_c (.data _) (frzL_c (frz_nums (rw:=false) hg (.inr rfl) rfl) frzL_n)) ?_)
   unfold tri nums
   simp -implicitDefEqProofs (disch:=omega) [go_sem,Tryd.f34]
 · rw [show upF 2 = ([],2,false) by simp [upF]]
   simp -implicitDefEqProofs (disch:=omega) [go_sem]
   refine .inl (call_data (never_pc Γ 2) (by simp [go_sem]) ?_)
   unfold tri nums
   simp -implicitDefEqProofs (disch:=omega) [go_sem,Tryd.f34]
 · rw [show upF 3 = ([],3,false) by simp [upF]]
   simp -implicitDefEqProofs (disch:=omega) [go_sem]
   refine .inl (call_data (never_pc Γ 3) (by simp [go_sem]) ?_)
   unfold tri nums
   simp -implicitDefEqProofs (disch:=omega) [go_sem,Tryd.f34]
 · rw [show upF 4 = ([],4,false) by simp [upF]]
   simp -implicitDefEqProofs (disch:=omega) [go_sem]
   refine .inl (call_data (never_pc Γ 4) (by simp [go_sem]) ?_)
   unfold tri nums
   simp -implicitDefEqProofs (disch:=omega) [go_sem,Tryd.f34]
 · rw [show upF 5 = ([],5,false) by simp [upF]]
   simp -implicitDefEqProofs (disch:=omega) [go_sem]
   refine .inl (call_data (never_pc Γ 5) (by simp [go_sem]) ?_)
   unfold tri nums
   simp -implicitDefEqProofs (disch:=omega) [go_sem,Tryd.f34]
 · rw [show upF 6 = ([],6,false) by simp [upF]]
   simp -implicitDefEqProofs (disch:=omega) [go_sem]
   refine .inl (call_data (never_pc Γ 6) (by simp [go_sem]) ?_)
   unfold tri nums
   simp -implicitDefEqProofs (disch:=omega) [go_sem,Tryd.f34]
 · rw [show upF 7 = ([],7,false) by simp [upF]]
   simp -implicitDefEqProofs (disch:=omega) [go_sem]
   refine .inl (call_data (never_pc Γ 7) (by simp [go_sem]) ?_)
   unfold tri nums
   simp -implicitDefEqProofs (disch:=omega) [go_sem,Tryd.f34]
 · rw [show upF 8 = ([],8,false) by simp [upF]]
   simp -implicitDefEqProofs (disch:=omega) [go_sem]
   refine .inl (call_data (never_pc Γ 8) (by simp [go_sem]) ?_)
   unfold tri nums
   simp -implicitDefEqProofs (disch:=omega) [go_sem,Tryd.f34]
 · rw [show upF 9 = ([],9,false) by simp [upF]]
   simp -implicitDefEqProofs (disch:=omega) [go_sem]
   refine .inl (call_data (never_pc Γ 9) (by simp [go_sem]) ?_)
   unfold tri nums
   simp -implicitDefEqProofs (disch:=omega) [go_sem,Tryd.f34]
def downF (s:Int)  : R3:=if s = 0 ∨ s = 1 then ([],s,false) else if s = 2 ∨ s = 4 then ([],0,true) else if s = 3 then ([3],1,true) else if s = 9 then ([2],1,true) else ([],1,true)
set_option maxHeartbeats 4000000 in
theorem down_pc (s:Int)  (h:0≤s∧s≤9):PC Tryd.prog Γ 35 [.int .i64 s] (tri (downF s)):=by
 refine pc_by mixed Tryd.func35 rfl (fun args w=>Tryd.call35 args w) ?_
 obtain ⟨h1,h2⟩:=h
 have hs:s = 0 ∨ s = 1 ∨ s = 2 ∨ s = 3 ∨ s = 4 ∨ s = 5 ∨ s = 6 ∨ s = 7 ∨ s = 8 ∨ s = 9:=by omega
 rcases hs with rfl | rfl | rfl | rfl | rfl | rfl | rfl | rfl | rfl | rfl
 · rw [show downF 0 = ([],0,false) by simp [downF]]
   simp -implicitDefEqProofs (disch:=omega) [go_sem]
   refine .inl (call_data (never_pc Γ 0) (by simp [go_sem]) ?_)
   unfold tri nums
   simp -implicitDefEqProofs (disch:=omega) [go_sem,Tryd.f35]
 · rw [show downF 1 = ([],1,false) by simp [downF]]
   simp -implicitDefEqProofs (disch:=omega) [go_sem]
   refine .inl (call_data (never_pc Γ 1) (by simp [go_sem]) ?_)
   unfold tri nums
   simp -implicitDefEqProofs (disch:=omega) [go_sem,Tryd.f35]
 · rw [show downF 2 = ([],0,true) by simp [downF]]
   simp -implicitDefEqProofs (disch:=omega) [go_sem]
   refine .inl (call_data (stay_pc Γ 0) (by simp [go_sem]) ?_)
   unfold tri nums
   simp -implicitDefEqProofs (disch:=omega) [go_sem,Tryd.f35]
 · rw [show downF 3 = ([3],1,true) by simp [downF]]
   simp -implicitDefEqProofs (disch:=omega) [go_sem]
   refine .inl (call_keep _ (to_pc Γ 1 [3]) (rw:=true) (cells:=([3]:List Int).map fun n=>D.data (.int .i64 n)) (by simp [Hp.upd,Hp.set]) (fun H' hg=>frzL_c (.data _) (frzL_c (frz_nums (rw:=false) hg (.inr rfl) rfl) frzL_n)) ?_)
   unfold tri nums
   simp -implicitDefEqProofs (disch:=omega) [go_sem,Tryd.f35]
 · rw [show downF 4 = ([],0,true) by simp [downF]]
   simp -implicitDefEqProofs (disch:=omega) [go_sem]
   refine .inl (call_data (stay_pc Γ 0) (by simp [go_sem]) ?_)
   unfold tri nums
   simp -implicitDefEqProofs (disch:=omega) [go_sem,Tryd.f35]
 · rw [show downF 5 = ([],1,true) by simp [downF]]
   simp -implicitDefEqProofs (disch:=omega) [go_sem]
   refine .inl (call_data (stay_pc Γ 1) (by simp [go_sem]) ?_)
   unfold tri nums
   simp -implicitDefEqProofs (disch:=omega) [go_sem,Tryd.f35]
 · rw [show downF 6 = ([],1,true) by simp [downF]]
   simp -implicitDefEqProofs (disch:=omega) [go_sem]
   refine .inl (call_data (stay_pc Γ 1) (by simp [go_sem]) ?_)
   unfold tri nums
   simp -implicitDefEqProofs (disch:=omega) [go_sem,Tryd.f35]
 · rw [show downF 7 = ([],1,true) by simp [downF]]
   simp -implicitDefEqProofs (disch:=omega) [go_sem]
   refine .inl (call_data (stay_pc Γ 1) (by simp [go_sem]) ?_)
   unfold tri nums
   simp -implicitDefEqProofs (disch:=omega) [go_sem,Tryd.f35]
 · rw [show downF 8 = ([],1,true) by simp [downF]]
   simp -implicitDefEqProofs (disch:=omega) [go_sem]
   refine .inl (call_data (stay_pc Γ 1) (by simp [go_sem]) ?_)
   unfold tri nums
   simp -implicitDefEqProofs (disch:=omega) [go_sem,Tryd.f35]
 · rw [show downF 9 = ([2],1,true) by simp [downF]]
   simp -implicitDefEqProofs (disch:=omega) [go_sem]
   refine .inl (call_keep _ (to_pc Γ 1 [2]) (rw:=true) (cells:=([2]:List Int).map fun n=>D.data (.int .i64 n)) (by simp [Hp.upd,Hp.set]) (fun H' hg=>frzL_c (.data _) (frzL_c (frz_nums (rw:=false) hg (.inr rfl) rfl) frzL_n)) ?_)
   unfold tri nums
   simp -implicitDefEqProofs (disch:=omega) [go_sem,Tryd.f35]
def openedF (s:Int)  : R3:=if s = 0 then ([3],1,true) else if s = 2 then ([5,7],6,true) else if s = 4 then ([],5,true) else ([],s,true)
set_option maxHeartbeats 4000000 in
theorem opened_pc (s:Int)  (h:0≤s∧s≤9):PC Tryd.prog Γ 36 [.int .i64 s] (tri (openedF s)):=by
 refine pc_by mixed Tryd.func36 rfl (fun args w=>Tryd.call36 args w) ?_
 obtain ⟨h1,h2⟩:=h
 have hs:s = 0 ∨ s = 1 ∨ s = 2 ∨ s = 3 ∨ s = 4 ∨ s = 5 ∨ s = 6 ∨ s = 7 ∨ s = 8 ∨ s = 9:=by omega
 rcases hs with rfl | rfl | rfl | rfl | rfl | rfl | rfl | rfl | rfl | rfl
 · rw [show openedF 0 = ([3],1,true) by simp [openedF]]
   simp -implicitDefEqProofs (disch:=omega) [go_sem]
   refine .inl (call_keep _ (to_pc Γ 1 [3]) (rw:=true) (cells:=([3]:List Int).map fun n=>D.data (.int .i64 n)) (by simp [Hp.upd,Hp.set]) (fun H' hg=>frzL_c (.data _) (frzL_c (frz_nums (rw:=false) hg (.inr rfl) rfl) frzL_n)) ?_)
   unfold tri nums
   simp -implicitDefEqProofs (disch:=omega) [go_sem,Tryd.f36]
 · rw [show openedF 1 = ([],1,true) by simp [openedF]]
   simp -implicitDefEqProofs (disch:=omega) [go_sem]
   refine .inl (call_data (stay_pc Γ 1) (by simp [go_sem]) ?_)
   unfold tri nums
   simp -implicitDefEqProofs (disch:=omega) [go_sem,Tryd.f36]
 · rw [show openedF 2 = ([5,7],6,true) by simp [openedF]]
   simp -implicitDefEqProofs (disch:=omega) [go_sem]
   refine .inl (call_keep _ (to_pc Γ 6 [5,7]) (rw:=true) (cells:=([5,7]:List Int).map fun n=>D.data (.int .i64 n)) (by simp [Hp.upd,Hp.set]) (fun H' hg=>frzL_c (.data _) (frzL_c (frz_nums (rw:=false) hg (.inr rfl) rfl) frzL_n)) ?_)
   unfold tri nums
   simp -implicitDefEqProofs (disch:=omega) [go_sem,Tryd.f36]
 · rw [show openedF 3 = ([],3,true) by simp [openedF]]
   simp -implicitDefEqProofs (disch:=omega) [go_sem]
   refine .inl (call_data (stay_pc Γ 3) (by simp [go_sem]) ?_)
   unfold tri nums
   simp -implicitDefEqProofs (disch:=omega) [go_sem,Tryd.f36]
 · rw [show openedF 4 = ([],5,true) by simp [openedF]]
   simp -implicitDefEqProofs (disch:=omega) [go_sem]
   refine .inl (call_data (stay_pc Γ 5) (by simp [go_sem]) ?_)
   unfold tri nums
   simp -implicitDefEqProofs (disch:=omega) [go_sem,Tryd.f36]
 · rw [show openedF 5 = ([],5,true) by simp [openedF]]
   simp -implicitDefEqProofs (disch:=omega) [go_sem]
   refine .inl (call_data (stay_pc Γ 5) (by simp [go_sem]) ?_)
   unfold tri nums
   simp -implicitDefEqProofs (disch:=omega) [go_sem,Tryd.f36]
 · rw [show openedF 6 = ([],6,true) by simp [openedF]]
   simp -implicitDefEqProofs (disch:=omega) [go_sem]
   refine .inl (call_data (stay_pc Γ 6) (by simp [go_sem]) ?_)
   unfold tri nums
   simp -implicitDefEqProofs (disch:=omega) [go_sem,Tryd.f36]
 · rw [show openedF 7 = ([],7,true) by simp [openedF]]
   simp -implicitDefEqProofs (disch:=omega) [go_sem]
   refine .inl (call_data (stay_pc Γ 7) (by simp [go_sem]) ?_)
   unfold tri nums
   simp -implicitDefEqProofs (disch:=omega) [go_sem,Tryd.f36]
 · rw [show openedF 8 = ([],8,true) by simp [openedF]]
   simp -implicitDefEqProofs (disch:=omega) [go_sem]
   refine .inl (call_data (stay_pc Γ 8) (by simp [go_sem]) ?_)
   unfold tri nums
   simp -implicitDefEqProofs (disch:=omega) [go_sem,Tryd.f36]
 · rw [show openedF 9 = ([],9,true) by simp [openedF]]
   simp -implicitDefEqProofs (disch:=omega) [go_sem]
   refine .inl (call_data (stay_pc Γ 9) (by simp [go_sem]) ?_)
   unfold tri nums
   simp -implicitDefEqProofs (disch:=omega) [go_sem,Tryd.f36]
def closedF (s:Int)  : R3:=if s = 1 then ([4],0,true) else if s = 3 then ([],2,true) else if s = 5 then ([],4,true) else if s = 6 ∨ s = 7 ∨ s = 8 then ([5,10],4,true) else if s = 9 then ([2,5,10],4,true) else ([],s,true)
set_option maxHeartbeats 4000000 in
theorem closed_pc (s:Int)  (h:0≤s∧s≤9):PC Tryd.prog Γ 37 [.int .i64 s] (tri (closedF s)):=by
 refine pc_by mixed Tryd.func37 rfl (fun args w=>Tryd.call37 args w) ?_
 obtain ⟨h1,h2⟩:=h
 have hs:s = 0 ∨ s = 1 ∨ s = 2 ∨ s = 3 ∨ s = 4 ∨ s = 5 ∨ s = 6 ∨ s = 7 ∨ s = 8 ∨ s = 9:=by omega
 rcases hs with rfl | rfl | rfl | rfl | rfl | rfl | rfl | rfl | rfl | rfl
 · rw [show closedF 0 = ([],0,true) by simp [closedF]]
   simp -implicitDefEqProofs (disch:=omega) [go_sem]
   refine .inl (call_data (stay_pc Γ 0) (by simp [go_sem]) ?_)
   unfold tri nums
   simp -implicitDefEqProofs (disch:=omega) [go_sem,Tryd.f37]
 · rw [show closedF 1 = ([4],0,true) by simp [closedF]]
   simp -implicitDefEqProofs (disch:=omega) [go_sem]
   refine .inl (call_keep _ (to_pc Γ 0 [4]) (rw:=true) (cells:=([4]:List Int).map fun n=>D.data (.int .i64 n)) (by simp [Hp.upd,Hp.set]) (fun H' hg=>frzL_c (.data _) (frzL_c (frz_nums (rw:=false) hg (.inr rfl) rfl) frzL_n)) ?_)
   unfold tri nums
   simp -implicitDefEqProofs (disch:=omega) [go_sem,Tryd.f37]
 · rw [show closedF 2 = ([],2,true) by simp [closedF]]
   simp -implicitDefEqProofs (disch:=omega) [go_sem]
   refine .inl (call_data (stay_pc Γ 2) (by simp [go_sem]) ?_)
   unfold tri nums
   simp -implicitDefEqProofs (disch:=omega) [go_sem,Tryd.f37]
 · rw [show closedF 3 = ([],2,true) by simp [closedF]]
   simp -implicitDefEqProofs (disch:=omega) [go_sem]
   refine .inl (call_data (stay_pc Γ 2) (by simp [go_sem]) ?_)
   unfold tri nums
   simp -implicitDefEqProofs (disch:=omega) [go_sem,Tryd.f37]
 · rw [show closedF 4 = ([],4,true) by simp [closedF]]
   simp -implicitDefEqProofs (disch:=omega) [go_sem]
   refine .inl (call_data (stay_pc Γ 4) (by simp [go_sem]) ?_)
   unfold tri nums
   simp -implicitDefEqProofs (disch:=omega) [go_sem,Tryd.f37]
 · rw [show closedF 5 = ([],4,true) by simp [closedF]]
   simp -implicitDefEqProofs (disch:=omega) [go_sem]
   refine .inl (call_data (stay_pc Γ 4) (by simp [go_sem]) ?_)
   unfold tri nums
   simp -implicitDefEqProofs (disch:=omega) [go_sem,Tryd.f37]
 · rw [show closedF 6 = ([5,10],4,true) by simp [closedF]]
   simp -implicitDefEqProofs (disch:=omega) [go_sem]
   refine .inl (call_keep _ (to_pc Γ 4 [5,10]) (rw:=true) (cells:=([5,10]:List Int).map fun n=>D.data (.int .i64 n)) (by simp [Hp.upd,Hp.set]) (fun H' hg=>frzL_c (.data _) (frzL_c (frz_nums (rw:=false) hg (.inr rfl) rfl) frzL_n)) ?_)
   unfold tri nums
   simp -implicitDefEqProofs (disch:=omega) [go_sem,Tryd.f37]
 · rw [show closedF 7 = ([5,10],4,true) by simp [closedF]]
   simp -implicitDefEqProofs (disch:=omega) [go_sem]
   refine .inl (call_keep _ (to_pc Γ 4 [5,10]) (rw:=true) (cells:=([5,10]:List Int).map fun n=>D.data (.int .i64 n)) (by simp [Hp.upd,Hp.set]) (fun H' hg=>frzL_c (.data _) (frzL_c (frz_nums (rw:=false) hg (.inr rfl) rfl) frzL_n)) ?_)
   unfold tri nums
   simp -implicitDefEqProofs (disch:=omega) [go_sem,Tryd.f37]
 · rw [show closedF 8 = ([5,10],4,true) by simp [closedF]]
   simp -implicitDefEqProofs (disch:=omega) [go_sem]
   refine .inl (call_keep _ (to_pc Γ 4 [5,10]) (rw:=true) (cells:=([5,10]:List Int).map fun n=>D.data (.int .i64 n)) (by simp [Hp.upd,Hp.set]) (fun H' hg=>frzL_c (.data _) (frzL_c (frz_nums (rw:=false) hg (.inr rfl) rfl) frzL_n)) ?_)
   unfold tri nums
   simp -implicitDefEqProofs (disch:=omega) [go_sem,Tryd.f37]
 · rw [show closedF 9 = ([2,5,10],4,true) by simp [closedF]]
   simp -implicitDefEqProofs (disch:=omega) [go_sem]
   refine .inl (call_keep _ (to_pc Γ 4 [2,5,10]) (rw:=true) (cells:=([2,5,10]:List Int).map fun n=>D.data (.int .i64 n)) (by simp [Hp.upd,Hp.set]) (fun H' hg=>frzL_c (.data _) (frzL_c (frz_nums (rw:=false) hg (.inr rfl) rfl) frzL_n)) ?_)
   unfold tri nums
   simp -implicitDefEqProofs (disch:=omega) [go_sem,Tryd.f37]
def timeoutF (s:Int) (more:Bool):R3:=if s < 4 ∨ 8 < s then ([],s,false) else if more = false∧s = 4 then ([4],2,true) else if more = false then ([4],3,true) else if s = 4 ∨ s = 5 then ([10],s,true) else if s = 7 then ([7],6,true) else ([7],s,true)
set_option maxHeartbeats 4000000 in
theorem timeout_pc (s:Int) (more:Bool) (h:0≤s∧s≤9):PC Tryd.prog Γ 38 [.int .i64 s,.bool more] (tri (timeoutF s more)):=by
 refine pc_by mixed Tryd.func38 rfl (fun args w=>Tryd.call38 args w) ?_
 obtain ⟨h1,h2⟩:=h
 have hs:s = 0 ∨ s = 1 ∨ s = 2 ∨ s = 3 ∨ s = 4 ∨ s = 5 ∨ s = 6 ∨ s = 7 ∨ s = 8 ∨ s = 9:=by omega
 rcases hs with rfl | rfl | rfl | rfl | rfl | rfl | rfl | rfl | rfl | rfl
 · cases more
   · rw [show timeoutF 0 false = ([],0,false) by simp [timeoutF]]
     simp -implicitDefEqProofs (disch:=omega) [go_sem]
     refine .inl (call_data (never_pc Γ 0) (by simp [go_sem]) ?_)
     unfold tri nums
     simp -implicitDefEqProofs (disch:=omega) [go_sem,Tryd.f38]
   · rw [show timeoutF 0 true = ([],0,false) by simp [timeoutF]]
     simp -implicitDefEqProofs (disch:=omega) [go_sem]
     refine .inl (call_data (never_pc Γ 0) (by simp [go_sem]) ?_)
     unfold tri nums
     simp -implicitDefEqProofs (disch:=omega) [go_sem,Tryd.f38]
 · cases more
   · rw [show timeoutF 1 false = ([],1,false) by simp [timeoutF]]
     simp -implicitDefEqProofs (disch:=omega) [go_sem]
     refine .inl (call_data (never_pc Γ 1) (by simp [go_sem]) ?_)
     unfold tri nums
     simp -implicitDefEqProofs (disch:=omega) [go_sem,Tryd.f38]
   · rw [show timeoutF 1 true = ([],1,false) by simp [timeoutF]]
     simp -implicitDefEqProofs (disch:=omega) [go_sem]
     refine .inl (call_data (never_pc Γ 1) (by simp [go_sem]) ?_)
     unfold tri nums
     simp -implicitDefEqProofs (disch:=omega) [go_sem,Tryd.f38]
 · cases more
   · rw [show timeoutF 2 false = ([],2,false) by simp [timeoutF]]
     simp -implicitDefEqProofs (disch:=omega) [go_sem]
     refine .inl (call_data (never_pc Γ 2) (by simp [go_sem]) ?_)
     unfold tri nums
     simp -implicitDefEqProofs (disch:=omega) [go_sem,Tryd.f38]
   · rw [show timeoutF 2 true = ([],2,false) by simp [timeoutF]]
     simp -implicitDefEqProofs (disch:=omega) [go_sem]
     refine .inl (call_data (never_pc Γ 2) (by simp [go_sem]) ?_)
     unfold tri nums
     simp -implicitDefEqProofs (disch:=omega) [go_sem,Tryd.f38]
 · cases more
   · rw [show timeoutF 3 false = ([],3,false) by simp [timeoutF]]
     simp -implicitDefEqProofs (disch:=omega) [go_sem]
     refine .inl (call_data (never_pc Γ 3) (by simp [go_sem]) ?_)
     unfold tri nums
     simp -implicitDefEqProofs (disch:=omega) [go_sem,Tryd.f38]
   · rw [show timeoutF 3 true = ([],3,false) by simp [timeoutF]]
     simp -implicitDefEqProofs (disch:=omega) [go_sem]
     refine .inl (call_data (never_pc Γ 3) (by simp [go_sem]) ?_)
     unfold tri nums
     simp -implicitDefEqProofs (disch:=omega) [go_sem,Tryd.f38]
 · cases more
   · rw [show timeoutF 4 false = ([4],2,true) by simp [timeoutF]]
     simp -implicitDefEqProofs (disch:=omega) [go_sem]
     refine .inl (call_keep _ (to_pc Γ 2 [4]) (rw:=true) (cells:=([4]:List Int).map fun n=>D.data (.int .i64 n)) (by simp [Hp.upd,Hp.set]) (fun H' hg=>frzL_c (.data _) (frzL_c (frz_nums (rw:=false) hg (.inr rfl) rfl) frzL_n)) ?_)
     unfold tri nums
     simp -implicitDefEqProofs (disch:=omega) [go_sem,Tryd.f38]
   · rw [show timeoutF 4 true = ([10],4,true) by simp [timeoutF]]
     simp -implicitDefEqProofs (disch:=omega) [go_sem]
     refine .inl (call_keep _ (to_pc Γ 4 [10]) (rw:=true) (cells:=([10]:List Int).map fun n=>D.data (.int .i64 n)) (by simp [Hp.upd,Hp.set]) (fun H' hg=>frzL_c (.data _) (frzL_c (frz_nums (rw:=false) hg (.inr rfl) rfl) frzL_n)) ?_)
     unfold tri nums
     simp -implicitDefEqProofs (disch:=omega) [go_sem,Tryd.f38]
 · cases more
   · rw [show timeoutF 5 false = ([4],3,true) by simp [timeoutF]]
     simp -implicitDefEqProofs (disch:=omega) [go_sem]
     refine .inl (call_keep _ (to_pc Γ 3 [4]) (rw:=true) (cells:=([4]:List Int).map fun n=>D.data (.int .i64 n)) (by simp [Hp.upd,Hp.set]) (fun H' hg=>frzL_c (.data _) (frzL_c (frz_nums (rw:=false) hg (.inr rfl) rfl) frzL_n)) ?_)
     unfold tri nums
     simp -implicitDefEqProofs (disch:=omega) [go_sem,Tryd.f38]
   · rw [show timeoutF 5 true = ([10],5,true) by simp [timeoutF]]
     simp -implicitDefEqProofs (disch:=omega) [go_sem]
     refine .inl (call_keep _ (to_pc Γ 5 [10]) (rw:=true) (cells:=([10]:List Int).map fun n=>D.data (.int .i64 n)) (by simp [Hp.upd,Hp.set]) (fun H' hg=>frzL_c (.data _) (frzL_c (frz_nums (rw:=false) hg (.inr rfl) rfl) frzL_n)) ?_)
     unfold tri nums
     simp -implicitDefEqProofs (disch:=omega) [go_sem,Tryd.f38]
 · cases more
   · rw [show timeoutF 6 false = ([4],3,true) by simp [timeoutF]]
     simp -implicitDefEqProofs (disch:=omega) [go_sem]
     refine .inl (call_keep _ (to_pc Γ 3 [4]) (rw:=true) (cells:=([4]:List Int).map fun n=>D.data (.int .i64 n)) (by simp [Hp.upd,Hp.set]) (fun H' hg=>frzL_c (.data _) (frzL_c (frz_nums (rw:=false) hg (.inr rfl) rfl) frzL_n)) ?_)
     unfold tri nums
     simp -implicitDefEqProofs (disch:=omega) [go_sem,Tryd.f38]
   · rw [show timeoutF 6 true = ([7],6,true) by simp [timeoutF]]
     simp -implicitDefEqProofs (disch:=omega) [go_sem]
     refine .inl (call_keep _ (to_pc Γ 6 [7]) (rw:=true) (cells:=([7]:List Int).map fun n=>D.data (.int .i64 n)) (by simp [Hp.upd,Hp.set]) (fun H' hg=>frzL_c (.data _) (frzL_c (frz_nums (rw:=false) hg (.inr rfl) rfl) frzL_n)) ?_)
     unfold tri nums
     simp -implicitDefEqProofs (disch:=omega) [go_sem,Tryd.f38]
 · cases more
   · rw [show timeoutF 7 false = ([4],3,true) by simp [timeoutF]]
     simp -implicitDefEqProofs (disch:=omega) [go_sem]
     refine .inl (call_keep _ (to_pc Γ 3 [4]) (rw:=true) (cells:=([4]:List Int).map fun n=>D.data (.int .i64 n)) (by simp [Hp.upd,Hp.set]) (fun H' hg=>frzL_c (.data _) (frzL_c (frz_nums (rw:=false) hg (.inr rfl) rfl) frzL_n)) ?_)
     unfold tri nums
     simp -implicitDefEqProofs (disch:=omega) [go_sem,Tryd.f38]
   · rw [show timeoutF 7 true = ([7],6,true) by simp [timeoutF]]
     simp -implicitDefEqProofs (disch:=omega) [go_sem]
     refine .inl (call_keep _ (to_pc Γ 6 [7]) (rw:=true) (cells:=([7]:List Int).map fun n=>D.data (.int .i64 n)) (by simp [Hp.upd,Hp.set]) (fun H' hg=>frzL_c (.data _) (frzL_c (frz_nums (rw:=false) hg (.inr rfl) rfl) frzL_n)) ?_)
     unfold tri nums
     simp -implicitDefEqProofs (disch:=omega) [go_sem,Tryd.f38]
 · cases more
   · rw [show timeoutF 8 false = ([4],3,true) by simp [timeoutF]]
     simp -implicitDefEqProofs (disch:=omega) [go_sem]
     refine .inl (call_keep _ (to_pc Γ 3 [4]) (rw:=true) (cells:=([4]:List Int).map fun n=>D.data (.int .i64 n)) (by simp [Hp.upd,Hp.set]) (fun H' hg=>frzL_c (.data _) (frzL_c (frz_nums (rw:=false) hg (.inr rfl) rfl) frzL_n)) ?_)
     unfold tri nums
     simp -implicitDefEqProofs (disch:=omega) [go_sem,Tryd.f38]
   · rw [show timeoutF 8 true = ([7],8,true) by simp [timeoutF]]
     simp -implicitDefEqProofs (disch:=omega) [go_sem]
     refine .inl (call_keep _ (to_pc Γ 8 [7]) (rw:=true) (cells:=([7]:List Int).map fun n=>D.data (.int .i64 n)) (by simp [Hp.upd,Hp.set]) (fun H' hg=>frzL_c (.data _) (frzL_c (frz_nums (rw:=false) hg (.inr rfl) rfl) frzL_n)) ?_)
     unfold tri nums
     simp -implicitDefEqProofs (disch:=omega) [go_sem,Tryd.f38]
 · cases more
   · rw [show timeoutF 9 false = ([],9,false) by simp [timeoutF]]
     simp -implicitDefEqProofs (disch:=omega) [go_sem]
     refine .inl (call_data (never_pc Γ 9) (by simp [go_sem]) ?_)
     unfold tri nums
     simp -implicitDefEqProofs (disch:=omega) [go_sem,Tryd.f38]
   · rw [show timeoutF 9 true = ([],9,false) by simp [timeoutF]]
     simp -implicitDefEqProofs (disch:=omega) [go_sem]
     refine .inl (call_data (never_pc Γ 9) (by simp [go_sem]) ?_)
     unfold tri nums
     simp -implicitDefEqProofs (disch:=omega) [go_sem,Tryd.f38]
def requestF (s:Int) (good:Bool) (act:Int):R3:=if s = 2 then ([11],2,true) else if s = 3 then ([5,7,act],(if good = true then 8 else 6),true) else if s = 4 ∨ s = 5 then ([],s,true) else if s = 7∧good = true then ([act,1],9,true) else if s = 7 then ([act],7,true) else if s = 9 then ([2,7,act],(if good = true then 8 else 6),true) else ([act],(if good = true then 8 else 6),true)
set_option maxHeartbeats 4000000 in
theorem request_pc (s:Int) (good:Bool) (act:Int) (h:0≤s∧s≤9):PC Tryd.prog Γ 39 [.int .i64 s,.bool good,.int .i64 act] (tri (requestF s good act)):=by
 refine pc_by mixed Tryd.func39 rfl (fun args w=>Tryd.call39 args w) ?_
 obtain ⟨h1,h2⟩:=h
 have hs:s = 0 ∨ s = 1 ∨ s = 2 ∨ s = 3 ∨ s = 4 ∨ s = 5 ∨ s = 6 ∨ s = 7 ∨ s = 8 ∨ s = 9:=by omega
 rcases hs with rfl | rfl | rfl | rfl | rfl | rfl | rfl | rfl | rfl | rfl
 · cases good
   · rw [show requestF 0 false act = ([act],6,true) by simp [requestF]]
     simp -implicitDefEqProofs (disch:=omega) [go_sem]
     refine .inl (call_keep _ (to_pc Γ 6 [act]) (rw:=true) (cells:=([act]:List Int).map fun n=>D.data (.int .i64 n)) (by simp [Hp.upd,Hp.set]) (fun H' hg=>frzL_c (.data _) (frzL_c (frz_nums (rw:=false) hg (.inr rfl) rfl) frzL_n)) ?_)
     unfold tri nums
     simp -implicitDefEqProofs (disch:=omega) [go_sem,Tryd.f39]
   · rw [show requestF 0 true act = ([act],8,true) by simp [requestF]]
     simp -implicitDefEqProofs (disch:=omega) [go_sem]
     refine .inl (call_keep _ (to_pc Γ 8 [act]) (rw:=true) (cells:=([act]:List Int).map fun n=>D.data (.int .i64 n)) (by simp [Hp.upd,Hp.set]) (fun H' hg=>frzL_c (.data _) (frzL_c (frz_nums (rw:=false) hg (.inr rfl) rfl) frzL_n)) ?_)
     unfold tri nums
     simp -implicitDefEqProofs (disch:=omega) [go_sem,Tryd.f39]
 · cases good
   · rw [show requestF 1 false act = ([act],6,true) by simp [requestF]]
     simp -implicitDefEqProofs (disch:=omega) [go_sem]
     refine .inl (call_keep _ (to_pc Γ 6 [act]) (rw:=true) (cells:=([act]:List Int).map fun n=>D.data (.int .i64 n)) (by simp [Hp.upd,Hp.set]) (fun H' hg=>frzL_c (.data _) (frzL_c (frz_nums (rw:=false) hg (.inr rfl) rfl) frzL_n)) ?_)
     unfold tri nums
     simp -implicitDefEqProofs (disch:=omega) [go_sem,Tryd.f39]
   · rw [show requestF 1 true act = ([act],8,true) by simp [requestF]]
     simp -implicitDefEqProofs (disch:=omega) [go_sem]
     refine .inl (call_keep _ (to_pc Γ 8 [act]) (rw:=true) (cells:=([act]:List Int).map fun n=>D.data (.int .i64 n)) (by simp [Hp.upd,Hp.set]) (fun H' hg=>frzL_c (.data _) (frzL_c (frz_nums (rw:=false) hg (.inr rfl) rfl) frzL_n)) ?_)
     unfold tri nums
     simp -implicitDefEqProofs (disch:=omega) [go_sem,Tryd.f39]
 · cases good
   · rw [show requestF 2 false act = ([11],2,true) by simp [requestF]]
     simp -implicitDefEqProofs (disch:=omega) [go_sem]
     refine .inl (call_keep _ (to_pc Γ 2 [11]) (rw:=true) (cells:=([11]:List Int).map fun n=>D.data (.int .i64 n)) (by simp [Hp.upd,Hp.set]) (fun H' hg=>frzL_c (.data _) (frzL_c (frz_nums (rw:=false) hg (.inr rfl) rfl) frzL_n)) ?_)
     unfold tri nums
     simp -implicitDefEqProofs (disch:=omega) [go_sem,Tryd.f39]
   · rw [show requestF 2 true act = ([11],2,true) by simp [requestF]]
     simp -implicitDefEqProofs (disch:=omega) [go_sem]
     refine .inl (call_keep _ (to_pc Γ 2 [11]) (rw:=true) (cells:=([11]:List Int).map fun n=>D.data (.int .i64 n)) (by simp [Hp.upd,Hp.set]) (fun H' hg=>frzL_c (.data _) (frzL_c (frz_nums (rw:=false) hg (.inr rfl) rfl) frzL_n)) ?_)
     unfold tri nums
     simp -implicitDefEqProofs (disch:=omega) [go_sem,Tryd.f39]
 · cases good
   · rw [show requestF 3 false act = ([5,7,act],6,true) by simp [requestF]]
     simp -implicitDefEqProofs (disch:=omega) [go_sem]
     refine .inl (call_keep _ (to_pc Γ 6 [5,7,act]) (rw:=true) (cells:=([5,7,act]:List Int).map fun n=>D.data (.int .i64 n)) (by simp [Hp.upd,Hp.set]) (fun H' hg=>frzL_c (.data _) (frzL_c (frz_nums (rw:=false) hg (.inr rfl) rfl) frzL_n)) ?_)
     unfold tri nums
     simp -implicitDefEqProofs (disch:=omega) [go_sem,Tryd.f39]
   · rw [show requestF 3 true act = ([5,7,act],8,true) by simp [requestF]]
     simp -implicitDefEqProofs (disch:=omega) [go_sem]
     refine .inl (call_keep _ (to_pc Γ 8 [5,7,act]) (rw:=true) (cells:=([5,7,act]:List Int).map fun n=>D.data (.int .i64 n)) (by simp [Hp.upd,Hp.set]) (fun H' hg=>frzL_c (.data _) (frzL_c (frz_nums (rw:=false) hg (.inr rfl) rfl) frzL_n)) ?_)
     unfold tri nums
     simp -implicitDefEqProofs (disch:=omega) [go_sem,Tryd.f39]
 · cases good
   · rw [show requestF 4 false act = ([],4,true) by simp [requestF]]
     simp -implicitDefEqProofs (disch:=omega) [go_sem]
     refine .inl (call_data (stay_pc Γ 4) (by simp [go_sem]) ?_)
     unfold tri nums
     simp -implicitDefEqProofs (disch:=omega) [go_sem,Tryd.f39]
   · rw [show requestF 4 true act = ([],4,true) by simp [requestF]]
     simp -implicitDefEqProofs (disch:=omega) [go_sem]
     refine .inl (call_data (stay_pc Γ 4) (by simp [go_sem]) ?_)
     unfold tri nums
     simp -implicitDefEqProofs (disch:=omega) [go_sem,Tryd.f39]
 · cases good
   · rw [show requestF 5 false act = ([],5,true) by simp [requestF]]
     simp -implicitDefEqProofs (disch:=omega) [go_sem]
     refine .inl (call_data (stay_pc Γ 5) (by simp [go_sem]) ?_)
     unfold tri nums
     simp -implicitDefEqProofs (disch:=omega) [go_sem,Tryd.f39]
   · rw [show requestF 5 true act = ([],5,true) by simp [requestF]]
     simp -implicitDefEqProofs (disch:=omega) [go_sem]
     refine .inl (call_data (stay_pc Γ 5) (by simp [go_sem]) ?_)
     unfold tri nums
     simp -implicitDefEqProofs (disch:=omega) [go_sem,Tryd.f39]
 · cases good
   · rw [show requestF 6 false act = ([act],6,true) by simp [requestF]]
     simp -implicitDefEqProofs (disch:=omega) [go_sem]
     refine .inl (call_keep _ (to_pc Γ 6 [act]) (rw:=true) (cells:=([act]:List Int).map fun n=>D.data (.int .i64 n)) (by simp [Hp.upd,Hp.set]) (fun H' hg=>frzL_c (.data _) (frzL_c (frz_nums (rw:=false) hg (.inr rfl) rfl) frzL_n)) ?_)
     unfold tri nums
     simp -implicitDefEqProofs (disch:=omega) [go_sem,Tryd.f39]
   · rw [show requestF 6 true act = ([act],8,true) by simp [requestF]]
     simp -implicitDefEqProofs (disch:=omega) [go_sem]
     refine .inl (call_keep _ (to_pc Γ 8 [act]) (rw:=true) (cells:=([act]:List Int).map fun n=>D.data (.int .i64 n)) (by simp [Hp.upd,Hp.set]) (fun H' hg=>frzL_c (.data _) (frzL_c (frz_nums (rw:=false) hg (.inr rfl) rfl) frzL_n)) ?_)
     unfold tri nums
     simp -implicitDefEqProofs (disch:=omega) [go_sem,Tryd.f39]
 · cases good
   · rw [show requestF 7 false act = ([act],7,true) by simp [requestF]]
     simp -implicitDefEqProofs (disch:=omega) [go_sem]
     refine .inl (call_keep _ (to_pc Γ 7 [act]) (rw:=true) (cells:=([act]:List Int).map fun n=>D.data (.int .i64 n)) (by simp [Hp.upd,Hp.set]) (fun H' hg=>frzL_c (.data _) (frzL_c (frz_nums (rw:=false) hg (.inr rfl) rfl) frzL_n)) ?_)
     unfold tri nums
     simp -implicitDefEqProofs (disch:=omega) [go_sem,Tryd.f39]
   · rw [show requestF 7 true act = ([act,1],9,true) by simp [requestF]]
     simp -implicitDefEqProofs (disch:=omega) [go_sem]
     refine .inl (call_keep _ (to_pc Γ 9 [act,1]) (rw:=true) (cells:=([act,1]:List Int).map fun n=>D.data (.int .i64 n)) (by simp [Hp.upd,Hp.set]) (fun H' hg=>frzL_c (.data _) (frzL_c (frz_nums (rw:=false) hg (.inr rfl) rfl) frzL_n)) ?_)
     unfold tri nums
     simp -implicitDefEqProofs (disch:=omega) [go_sem,Tryd.f39]
 · cases good
   · rw [show requestF 8 false act = ([act],6,true) by simp [requestF]]
     simp -implicitDefEqProofs (disch:=omega) [go_sem]
     refine .inl (call_keep _ (to_pc Γ 6 [act]) (rw:=true) (cells:=([act]:List Int).map fun n=>D.data (.int .i64 n)) (by simp [Hp.upd,Hp.set]) (fun H' hg=>frzL_c (.data _) (frzL_c (frz_nums (rw:=false) hg (.inr rfl) rfl) frzL_n)) ?_)
     unfold tri nums
     simp -implicitDefEqProofs (disch:=omega) [go_sem,Tryd.f39]
   · rw [show requestF 8 true act = ([act],8,true) by simp [requestF]]
     simp -implicitDefEqProofs (disch:=omega) [go_sem]
     refine .inl (call_keep _ (to_pc Γ 8 [act]) (rw:=true) (cells:=([act]:List Int).map fun n=>D.data (.int .i64 n)) (by simp [Hp.upd,Hp.set]) (fun H' hg=>frzL_c (.data _) (frzL_c (frz_nums (rw:=false) hg (.inr rfl) rfl) frzL_n)) ?_)
     unfold tri nums
     simp -implicitDefEqProofs (disch:=omega) [go_sem,Tryd.f39]
 · cases good
   · rw [show requestF 9 false act = ([2,7,act],6,true) by simp [requestF]]
     simp -implicitDefEqProofs (disch:=omega) [go_sem]
     refine .inl (call_keep _ (to_pc Γ 6 [2,7,act]) (rw:=true) (cells:=([2,7,act]:List Int).map fun n=>D.data (.int .i64 n)) (by simp [Hp.upd,Hp.set]) (fun H' hg=>frzL_c (.data _) (frzL_c (frz_nums (rw:=false) hg (.inr rfl) rfl) frzL_n)) ?_)
     unfold tri nums
     simp -implicitDefEqProofs (disch:=omega) [go_sem,Tryd.f39]
   · rw [show requestF 9 true act = ([2,7,act],8,true) by simp [requestF]]
     simp -implicitDefEqProofs (disch:=omega) [go_sem]
     refine .inl (call_keep _ (to_pc Γ 8 [2,7,act]) (rw:=true) (cells:=([2,7,act]:List Int).map fun n=>D.data (.int .i64 n)) (by simp [Hp.upd,Hp.set]) (fun H' hg=>frzL_c (.data _) (frzL_c (frz_nums (rw:=false) hg (.inr rfl) rfl) frzL_n)) ?_)
     unfold tri nums
     simp -implicitDefEqProofs (disch:=omega) [go_sem,Tryd.f39]
def answerF (s:Int) (ack:Bool):R3:=if s = 2 ∨ s = 3 then ([11],s,true) else if s = 4 ∨ s = 5 then ([],s,true) else if s = 7 then ([7],6,true) else if s = 9 then ([2,7],6,true) else if ack = true∧s = 6 then ([5],7,true) else if ack = true then ([5,1],9,true) else ([5,7],s,true)
set_option maxHeartbeats 4000000 in
theorem answer_pc (s:Int) (ack:Bool) (h:0≤s∧s≤9):PC Tryd.prog Γ 40 [.int .i64 s,.bool ack] (tri (answerF s ack)):=by
 refine pc_by mixed Tryd.func40 rfl (fun args w=>Tryd.call40 args w) ?_
 obtain ⟨h1,h2⟩:=h
 have hs:s = 0 ∨ s = 1 ∨ s = 2 ∨ s = 3 ∨ s = 4 ∨ s = 5 ∨ s = 6 ∨ s = 7 ∨ s = 8 ∨ s = 9:=by omega
 rcases hs with rfl | rfl | rfl | rfl | rfl | rfl | rfl | rfl | rfl | rfl
 · cases ack
   · rw [show answerF 0 false = ([5,7],0,true) by simp [answerF]]
     simp -implicitDefEqProofs (disch:=omega) [go_sem]
     refine .inl (call_keep _ (to_pc Γ 0 [5,7]) (rw:=true) (cells:=([5,7]:List Int).map fun n=>D.data (.int .i64 n)) (by simp [Hp.upd,Hp.set]) (fun H' hg=>frzL_c (.data _) (frzL_c (frz_nums (rw:=false) hg (.inr rfl) rfl) frzL_n)) ?_)
     unfold tri nums
     simp -implicitDefEqProofs (disch:=omega) [go_sem,Tryd.f40]
   · rw [show answerF 0 true = ([5,1],9,true) by simp [answerF]]
     simp -implicitDefEqProofs (disch:=omega) [go_sem]
     refine .inl (call_keep _ (to_pc Γ 9 [5,1]) (rw:=true) (cells:=([5,1]:List Int).map fun n=>D.data (.int .i64 n)) (by simp [Hp.upd,Hp.set]) (fun H' hg=>frzL_c (.data _) (frzL_c (frz_nums (rw:=false) hg (.inr rfl) rfl) frzL_n)) ?_)
     unfold tri nums
     simp -implicitDefEqProofs (disch:=omega) [go_sem,Tryd.f40]
 · cases ack
   · rw [show answerF 1 false = ([5,7],1,true) by simp [answerF]]
     simp -implicitDefEqProofs (disch:=omega) [go_sem]
     refine .inl (call_keep _ (to_pc Γ 1 [5,7]) (rw:=true) (cells:=([5,7]:List Int).map fun n=>D.data (.int .i64 n)) (by simp [Hp.upd,Hp.set]) (fun H' hg=>frzL_c (.data _) (frzL_c (frz_nums (rw:=false) hg (.inr rfl) rfl) frzL_n)) ?_)
     unfold tri nums
     simp -implicitDefEqProofs (disch:=omega) [go_sem,Tryd.f40]
   · rw [show answerF 1 true = ([5,1],9,true) by simp [answerF]]
     simp -implicitDefEqProofs (disch:=omega) [go_sem]
     refine .inl (call_keep _ (to_pc Γ 9 [5,1]) (rw:=true) (cells:=([5,1]:List Int).map fun n=>D.data (.int .i64 n)) (by simp [Hp.upd,Hp.set]) (fun H' hg=>frzL_c (.data _) (frzL_c (frz_nums (rw:=false) hg (.inr rfl) rfl) frzL_n)) ?_)
     unfold tri nums
     simp -implicitDefEqProofs (disch:=omega) [go_sem,Tryd.f40]
 · cases ack
   · rw [show answerF 2 false = ([11],2,true) by simp [answerF]]
     simp -implicitDefEqProofs (disch:=omega) [go_sem]
     refine .inl (call_keep _ (to_pc Γ 2 [11]) (rw:=true) (cells:=([11]:List Int).map fun n=>D.data (.int .i64 n)) (by simp [Hp.upd,Hp.set]) (fun H' hg=>frzL_c (.data _) (frzL_c (frz_nums (rw:=false) hg (.inr rfl) rfl) frzL_n)) ?_)
     unfold tri nums
     simp -implicitDefEqProofs (disch:=omega) [go_sem,Tryd.f40]
   · rw [show answerF 2 true = ([11],2,true) by simp [answerF]]
     simp -implicitDefEqProofs (disch:=omega) [go_sem]
     refine .inl (call_keep _ (to_pc Γ 2 [11]) (rw:=true) (cells:=([11]:List Int).map fun n=>D.data (.int .i64 n)) (by simp [Hp.upd,Hp.set]) (fun H' hg=>frzL_c (.data _) (frzL_c (frz_nums (rw:=false) hg (.inr rfl) rfl) frzL_n)) ?_)
     unfold tri nums
     simp -implicitDefEqProofs (disch:=omega) [go_sem,Tryd.f40]
 · cases ack
   · rw [show answerF 3 false = ([11],3,true) by simp [answerF]]
     simp -implicitDefEqProofs (disch:=omega) [go_sem]
     refine .inl (call_keep _ (to_pc Γ 3 [11]) (rw:=true) (cells:=([11]:List Int).map fun n=>D.data (.int .i64 n)) (by simp [Hp.upd,Hp.set]) (fun H' hg=>frzL_c (.data _) (frzL_c (frz_nums (rw:=false) hg (.inr rfl) rfl) frzL_n)) ?_)
     unfold tri nums
     simp -implicitDefEqProofs (disch:=omega) [go_sem,Tryd.f40]
   · rw [show answerF 3 true = ([11],3,true) by simp [answerF]]
     simp -implicitDefEqProofs (disch:=omega) [go_sem]
     refine .inl (call_keep _ (to_pc Γ 3 [11]) (rw:=true) (cells:=([11]:List Int).map fun n=>D.data (.int .i64 n)) (by simp [Hp.upd,Hp.set]) (fun H' hg=>frzL_c (.data _) (frzL_c (frz_nums (rw:=false) hg (.inr rfl) rfl) frzL_n)) ?_)
     unfold tri nums
     simp -implicitDefEqProofs (disch:=omega) [go_sem,Tryd.f40]
 · cases ack
   · rw [show answerF 4 false = ([],4,true) by simp [answerF]]
     simp -implicitDefEqProofs (disch:=omega) [go_sem]
     refine .inl (call_data (stay_pc Γ 4) (by simp [go_sem]) ?_)
     unfold tri nums
     simp -implicitDefEqProofs (disch:=omega) [go_sem,Tryd.f40]
   · rw [show answerF 4 true = ([],4,true) by simp [answerF]]
     simp -implicitDefEqProofs (disch:=omega) [go_sem]
     refine .inl (call_data (stay_pc Γ 4) (by simp [go_sem]) ?_)
     unfold tri nums
     simp -implicitDefEqProofs (disch:=omega) [go_sem,Tryd.f40]
 · cases ack
   · rw [show answerF 5 false = ([],5,true) by simp [answerF]]
     simp -implicitDefEqProofs (disch:=omega) [go_sem]
     refine .inl (call_data (stay_pc Γ 5) (by simp [go_sem]) ?_)
     unfold tri nums
     simp -implicitDefEqProofs (disch:=omega) [go_sem,Tryd.f40]
   · rw [show answerF 5 true = ([],5,true) by simp [answerF]]
     simp -implicitDefEqProofs (disch:=omega) [go_sem]
     refine .inl (call_data (stay_pc Γ 5) (by simp [go_sem]) ?_)
     unfold tri nums
     simp -implicitDefEqProofs (disch:=omega) [go_sem,Tryd.f40]
 · cases ack
   · rw [show answerF 6 false = ([5,7],6,true) by simp [answerF]]
     simp -implicitDefEqProofs (disch:=omega) [go_sem]
     refine .inl (call_keep _ (to_pc Γ 6 [5,7]) (rw:=true) (cells:=([5,7]:List Int).map fun n=>D.data (.int .i64 n)) (by simp [Hp.upd,Hp.set]) (fun H' hg=>frzL_c (.data _) (frzL_c (frz_nums (rw:=false) hg (.inr rfl) rfl) frzL_n)) ?_)
     unfold tri nums
     simp -implicitDefEqProofs (disch:=omega) [go_sem,Tryd.f40]
   · rw [show answerF 6 true = ([5],7,true) by simp [answerF]]
     simp -implicitDefEqProofs (disch:=omega) [go_sem]
     refine .inl (call_keep _ (to_pc Γ 7 [5]) (rw:=true) (cells:=([5]:List Int).map fun n=>D.data (.int .i64 n)) (by simp [Hp.upd,Hp.set]) (fun H' hg=>frzL_c (.data _) (frzL_c (frz_nums (rw:=false) hg (.inr rfl) rfl) frzL_n)) ?_)
     unfold tri nums
     simp -implicitDefEqProofs (disch:=omega) [go_sem,Tryd.f40]
 · cases ack
   · rw [show answerF 7 false = ([7],6,true) by simp [answerF]]
     simp -implicitDefEqProofs (disch:=omega) [go_sem]
     refine .inl (call_keep _ (to_pc Γ 6 [7]) (rw:=true) (cells:=([7]:List Int).map fun n=>D.data (.int .i64 n)) (by simp [Hp.upd,Hp.set]) (fun H' hg=>frzL_c (.data _) (frzL_c (frz_nums (rw:=false) hg (.inr rfl) rfl) frzL_n)) ?_)
     unfold tri nums
     simp -implicitDefEqProofs (disch:=omega) [go_sem,Tryd.f40]
   · rw [show answerF 7 true = ([7],6,true) by simp [answerF]]
     simp -implicitDefEqProofs (disch:=omega) [go_sem]
     refine .inl (call_keep _ (to_pc Γ 6 [7]) (rw:=true) (cells:=([7]:List Int).map fun n=>D.data (.int .i64 n)) (by simp [Hp.upd,Hp.set]) (fun H' hg=>frzL_c (.data _) (frzL_c (frz_nums (rw:=false) hg (.inr rfl) rfl) frzL_n)) ?_)
     unfold tri nums
     simp -implicitDefEqProofs (disch:=omega) [go_sem,Tryd.f40]
 · cases ack
   · rw [show answerF 8 false = ([5,7],8,true) by simp [answerF]]
     simp -implicitDefEqProofs (disch:=omega) [go_sem]
     refine .inl (call_keep _ (to_pc Γ 8 [5,7]) (rw:=true) (cells:=([5,7]:List Int).map fun n=>D.data (.int .i64 n)) (by simp [Hp.upd,Hp.set]) (fun H' hg=>frzL_c (.data _) (frzL_c (frz_nums (rw:=false) hg (.inr rfl) rfl) frzL_n)) ?_)
     unfold tri nums
     simp -implicitDefEqProofs (disch:=omega) [go_sem,Tryd.f40]
   · rw [show answerF 8 true = ([5,1],9,true) by simp [answerF]]
     simp -implicitDefEqProofs (disch:=omega) [go_sem]
     refine .inl (call_keep _ (to_pc Γ 9 [5,1]) (rw:=true) (cells:=([5,1]:List Int).map fun n=>D.data (.int .i64 n)) (by simp [Hp.upd,Hp.set]) (fun H' hg=>frzL_c (.data _) (frzL_c (frz_nums (rw:=false) hg (.inr rfl) rfl) frzL_n)) ?_)
     unfold tri nums
     simp -implicitDefEqProofs (disch:=omega) [go_sem,Tryd.f40]
 · cases ack
   · rw [show answerF 9 false = ([2,7],6,true) by simp [answerF]]
     simp -implicitDefEqProofs (disch:=omega) [go_sem]
     refine .inl (call_keep _ (to_pc Γ 6 [2,7]) (rw:=true) (cells:=([2,7]:List Int).map fun n=>D.data (.int .i64 n)) (by simp [Hp.upd,Hp.set]) (fun H' hg=>frzL_c (.data _) (frzL_c (frz_nums (rw:=false) hg (.inr rfl) rfl) frzL_n)) ?_)
     unfold tri nums
     simp -implicitDefEqProofs (disch:=omega) [go_sem,Tryd.f40]
   · rw [show answerF 9 true = ([2,7],6,true) by simp [answerF]]
     simp -implicitDefEqProofs (disch:=omega) [go_sem]
     refine .inl (call_keep _ (to_pc Γ 6 [2,7]) (rw:=true) (cells:=([2,7]:List Int).map fun n=>D.data (.int .i64 n)) (by simp [Hp.upd,Hp.set]) (fun H' hg=>frzL_c (.data _) (frzL_c (frz_nums (rw:=false) hg (.inr rfl) rfl) frzL_n)) ?_)
     unfold tri nums
     simp -implicitDefEqProofs (disch:=omega) [go_sem,Tryd.f40]
def endF (s:Int)  : R3:=if s = 9 then ([2,6,11],5,true) else if 6≤s then ([11],6,true) else ([11],s,true)
set_option maxHeartbeats 4000000 in
theorem end_pc (s:Int)  (h:0≤s∧s≤9):PC Tryd.prog Γ 41 [.int .i64 s] (tri (endF s)):=by
 refine pc_by mixed Tryd.func41 rfl (fun args w=>Tryd.call41 args w) ?_
 obtain ⟨h1,h2⟩:=h
 have hs:s = 0 ∨ s = 1 ∨ s = 2 ∨ s = 3 ∨ s = 4 ∨ s = 5 ∨ s = 6 ∨ s = 7 ∨ s = 8 ∨ s = 9:=by omega
 rcases hs with rfl | rfl | rfl | rfl | rfl | rfl | rfl | rfl | rfl | rfl
 · rw [show endF 0 = ([11],0,true) by simp [endF]]
   simp -implicitDefEqProofs (disch:=omega) [go_sem]
   refine .inl (call_keep _ (to_pc Γ 0 [11]) (rw:=true) (cells:=([11]:List Int).map fun n=>D.data (.int .i64 n)) (by simp [Hp.upd,Hp.set]) (fun H' hg=>frzL_c (.data _) (frzL_c (frz_nums (rw:=false) hg (.inr rfl) rfl) frzL_n)) ?_)
   unfold tri nums
   simp -implicitDefEqProofs (disch:=omega) [go_sem,Tryd.f41]
 · rw [show endF 1 = ([11],1,true) by simp [endF]]
   simp -implicitDefEqProofs (disch:=omega) [go_sem]
   refine .inl (call_keep _ (to_pc Γ 1 [11]) (rw:=true) (cells:=([11]:List Int).map fun n=>D.data (.int .i64 n)) (by simp [Hp.upd,Hp.set]) (fun H' hg=>frzL_c (.data _) (frzL_c (frz_nums (rw:=false) hg (.inr rfl) rfl) frzL_n)) ?_)
   unfold tri nums
   simp -implicitDefEqProofs (disch:=omega) [go_sem,Tryd.f41]
 · rw [show endF 2 = ([11],2,true) by simp [endF]]
   simp -implicitDefEqProofs (disch:=omega) [go_sem]
   refine .inl (call_keep _ (to_pc Γ 2 [11]) (rw:=true) (cells:=([11]:List Int).map fun n=>D.data (.int .i64 n)) (by simp [Hp.upd,Hp.set]) (fun H' hg=>frzL_c (.data _) (frzL_c (frz_nums (rw:=false) hg (.inr rfl) rfl) frzL_n)) ?_)
   unfold tri nums
   simp -implicitDefEqProofs (disch:=omega) [go_sem,Tryd.f41]
 · rw [show endF 3 = ([11],3,true) by simp [endF]]
   simp -implicitDefEqProofs (disch:=omega) [go_sem]
   refine .inl (call_keep _ (to_pc Γ 3 [11]) (rw:=true) (cells:=([11]:List Int).map fun n=>D.data (.int .i64 n)) (by simp [Hp.upd,Hp.set]) (fun H' hg=>frzL_c (.data _) (frzL_c (frz_nums (rw:=false) hg (.inr rfl) rfl) frzL_n)) ?_)
   unfold tri nums
   simp -implicitDefEqProofs (disch:=omega) [go_sem,Tryd.f41]
 · rw [show endF 4 = ([11],4,true) by simp [endF]]
   simp -implicitDefEqProofs (disch:=omega) [go_sem]
   refine .inl (call_keep _ (to_pc Γ 4 [11]) (rw:=true) (cells:=([11]:List Int).map fun n=>D.data (.int .i64 n)) (by simp [Hp.upd,Hp.set]) (fun H' hg=>frzL_c (.data _) (frzL_c (frz_nums (rw:=false) hg (.inr rfl) rfl) frzL_n)) ?_)
   unfold tri nums
   simp -implicitDefEqProofs (disch:=omega) [go_sem,Tryd.f41]
 · rw [show endF 5 = ([11],5,true) by simp [endF]]
   simp -implicitDefEqProofs (disch:=omega) [go_sem]
   refine .inl (call_keep _ (to_pc Γ 5 [11]) (rw:=true) (cells:=([11]:List Int).map fun n=>D.data (.int .i64 n)) (by simp [Hp.upd,Hp.set]) (fun H' hg=>frzL_c (.data _) (frzL_c (frz_nums (rw:=false) hg (.inr rfl) rfl) frzL_n)) ?_)
   unfold tri nums
   simp -implicitDefEqProofs (disch:=omega) [go_sem,Tryd.f41]
 · rw [show endF 6 = ([11],6,true) by simp [endF]]
   simp -implicitDefEqProofs (disch:=omega) [go_sem]
   refine .inl (call_keep _ (to_pc Γ 6 [11]) (rw:=true) (cells:=([11]:List Int).map fun n=>D.data (.int .i64 n)) (by simp [Hp.upd,Hp.set]) (fun H' hg=>frzL_c (.data _) (frzL_c (frz_nums (rw:=false) hg (.inr rfl) rfl) frzL_n)) ?_)
   unfold tri nums
   simp -implicitDefEqProofs (disch:=omega) [go_sem,Tryd.f41]
 · rw [show endF 7 = ([11],6,true) by simp [endF]]
   simp -implicitDefEqProofs (disch:=omega) [go_sem]
   refine .inl (call_keep _ (to_pc Γ 6 [11]) (rw:=true) (cells:=([11]:List Int).map fun n=>D.data (.int .i64 n)) (by simp [Hp.upd,Hp.set]) (fun H' hg=>frzL_c (.data _) (frzL_c (frz_nums (rw:=false) hg (.inr rfl) rfl) frzL_n)) ?_)
   unfold tri nums
   simp -implicitDefEqProofs (disch:=omega) [go_sem,Tryd.f41]
 · rw [show endF 8 = ([11],6,true) by simp [endF]]
   simp -implicitDefEqProofs (disch:=omega) [go_sem]
   refine .inl (call_keep _ (to_pc Γ 6 [11]) (rw:=true) (cells:=([11]:List Int).map fun n=>D.data (.int .i64 n)) (by simp [Hp.upd,Hp.set]) (fun H' hg=>frzL_c (.data _) (frzL_c (frz_nums (rw:=false) hg (.inr rfl) rfl) frzL_n)) ?_)
   unfold tri nums
   simp -implicitDefEqProofs (disch:=omega) [go_sem,Tryd.f41]
 · rw [show endF 9 = ([2,6,11],5,true) by simp [endF]]
   simp -implicitDefEqProofs (disch:=omega) [go_sem]
   refine .inl (call_keep _ (to_pc Γ 5 [2,6,11]) (rw:=true) (cells:=([2,6,11]:List Int).map fun n=>D.data (.int .i64 n)) (by simp [Hp.upd,Hp.set]) (fun H' hg=>frzL_c (.data _) (frzL_c (frz_nums (rw:=false) hg (.inr rfl) rfl) frzL_n)) ?_)
   unfold tri nums
   simp -implicitDefEqProofs (disch:=omega) [go_sem,Tryd.f41]
def endedF (s:Int)  : R3:=if s = 4 then ([4],2,true) else if s = 5 then ([4],3,true) else if s = 7 then ([],6,true) else if s = 9 then ([2,7],6,true) else ([],s,true)
set_option maxHeartbeats 4000000 in
theorem ended_pc (s:Int)  (h:0≤s∧s≤9):PC Tryd.prog Γ 42 [.int .i64 s] (tri (endedF s)):=by
 refine pc_by mixed Tryd.func42 rfl (fun args w=>Tryd.call42 args w) ?_
 obtain ⟨h1,h2⟩:=h
 have hs:s = 0 ∨ s = 1 ∨ s = 2 ∨ s = 3 ∨ s = 4 ∨ s = 5 ∨ s = 6 ∨ s = 7 ∨ s = 8 ∨ s = 9:=by omega
 rcases hs with rfl | rfl | rfl | rfl | rfl | rfl | rfl | rfl | rfl | rfl
 · rw [show endedF 0 = ([],0,true) by simp [endedF]]
   simp -implicitDefEqProofs (disch:=omega) [go_sem]
   refine .inl (call_data (stay_pc Γ 0) (by simp [go_sem]) ?_)
   unfold tri nums
   simp -implicitDefEqProofs (disch:=omega) [go_sem,Tryd.f42]
 · rw [show endedF 1 = ([],1,true) by simp [endedF]]
   simp -implicitDefEqProofs (disch:=omega) [go_sem]
   refine .inl (call_data (stay_pc Γ 1) (by simp [go_sem]) ?_)
   unfold tri nums
   simp -implicitDefEqProofs (disch:=omega) [go_sem,Tryd.f42]
 · rw [show endedF 2 = ([],2,true) by simp [endedF]]
   simp -implicitDefEqProofs (disch:=omega) [go_sem]
   refine .inl (call_data (stay_pc Γ 2) (by simp [go_sem]) ?_)
   unfold tri nums
   simp -implicitDefEqProofs (disch:=omega) [go_sem,Tryd.f42]
 · rw [show endedF 3 = ([],3,true) by simp [endedF]]
   simp -implicitDefEqProofs (disch:=omega) [go_sem]
   refine .inl (call_data (stay_pc Γ 3) (by simp [go_sem]) ?_)
   unfold tri nums
   simp -implicitDefEqProofs (disch:=omega) [go_sem,Tryd.f42]
 · rw [show endedF 4 = ([4],2,true) by simp [endedF]]
   simp -implicitDefEqProofs (disch:=omega) [go_sem]
   refine .inl (call_keep _ (to_pc Γ 2 [4]) (rw:=true) (cells:=([4]:List Int).map fun n=>D.data (.int .i64 n)) (by simp [Hp.upd,Hp.set]) (fun H' hg=>frzL_c (.data _) (frzL_c (frz_nums (rw:=false) hg (.inr rfl) rfl) frzL_n)) ?_)
   unfold tri nums
   simp -implicitDefEqProofs (disch:=omega) [go_sem,Tryd.f42]
 · rw [show endedF 5 = ([4],3,true) by simp [endedF]]
   simp -implicitDefEqProofs (disch:=omega) [go_sem]
   refine .inl (call_keep _ (to_pc Γ 3 [4]) (rw:=true) (cells:=([4]:List Int).map fun n=>D.data (.int .i64 n)) (by simp [Hp.upd,Hp.set]) (fun H' hg=>frzL_c (.data _) (frzL_c (frz_nums (rw:=false) hg (.inr rfl) rfl) frzL_n)) ?_)
   unfold tri nums
   simp -implicitDefEqProofs (disch:=omega) [go_sem,Tryd.f42]
 · rw [show endedF 6 = ([],6,true) by simp [endedF]]
   simp -implicitDefEqProofs (disch:=omega) [go_sem]
   refine .inl (call_data (stay_pc Γ 6) (by simp [go_sem]) ?_)
   unfold tri nums
   simp -implicitDefEqProofs (disch:=omega) [go_sem,Tryd.f42]
 · rw [show endedF 7 = ([],6,true) by simp [endedF]]
   simp -implicitDefEqProofs (disch:=omega) [go_sem]
   refine .inl (call_data (stay_pc Γ 6) (by simp [go_sem]) ?_)
   unfold tri nums
   simp -implicitDefEqProofs (disch:=omega) [go_sem,Tryd.f42]
 · rw [show endedF 8 = ([],8,true) by simp [endedF]]
   simp -implicitDefEqProofs (disch:=omega) [go_sem]
   refine .inl (call_data (stay_pc Γ 8) (by simp [go_sem]) ?_)
   unfold tri nums
   simp -implicitDefEqProofs (disch:=omega) [go_sem,Tryd.f42]
 · rw [show endedF 9 = ([2,7],6,true) by simp [endedF]]
   simp -implicitDefEqProofs (disch:=omega) [go_sem]
   refine .inl (call_keep _ (to_pc Γ 6 [2,7]) (rw:=true) (cells:=([2,7]:List Int).map fun n=>D.data (.int .i64 n)) (by simp [Hp.upd,Hp.set]) (fun H' hg=>frzL_c (.data _) (frzL_c (frz_nums (rw:=false) hg (.inr rfl) rfl) frzL_n)) ?_)
   unfold tri nums
   simp -implicitDefEqProofs (disch:=omega) [go_sem,Tryd.f42]
def rejectF (s:Int) (may:Bool):R3:=if may = true∧s = 7 then ([],6,true) else if may = true then ([],s,true) else if s = 9 then ([2,5,10],5,true) else if s = 2 ∨ s = 4 then ([4],2,true) else ([4],3,true)
set_option maxHeartbeats 4000000 in
theorem reject_pc (s:Int) (may:Bool) (h:0≤s∧s≤9):PC Tryd.prog Γ 44 [.int .i64 s,.bool may] (tri (rejectF s may)):=by
 refine pc_by mixed Tryd.func44 rfl (fun args w=>Tryd.call44 args w) ?_
 obtain ⟨h1,h2⟩:=h
 have hs:s = 0 ∨ s = 1 ∨ s = 2 ∨ s = 3 ∨ s = 4 ∨ s = 5 ∨ s = 6 ∨ s = 7 ∨ s = 8 ∨ s = 9:=by omega
 rcases hs with rfl | rfl | rfl | rfl | rfl | rfl | rfl | rfl | rfl | rfl
 · cases may
   · rw [show rejectF 0 false = ([4],3,true) by simp [rejectF]]
     simp -implicitDefEqProofs (disch:=omega) [go_sem]
     refine .inl (call_keep _ (to_pc Γ 3 [4]) (rw:=true) (cells:=([4]:List Int).map fun n=>D.data (.int .i64 n)) (by simp [Hp.upd,Hp.set]) (fun H' hg=>frzL_c (.data _) (frzL_c (frz_nums (rw:=false) hg (.inr rfl) rfl) frzL_n)) ?_)
     unfold tri nums
     simp -implicitDefEqProofs (disch:=omega) [go_sem,Tryd.f44]
   · rw [show rejectF 0 true = ([],0,true) by simp [rejectF]]
     simp -implicitDefEqProofs (disch:=omega) [go_sem]
     refine .inl (call_data (stay_pc Γ 0) (by simp [go_sem]) ?_)
     unfold tri nums
     simp -implicitDefEqProofs (disch:=omega) [go_sem,Tryd.f44]
 · cases may
   · rw [show rejectF 1 false = ([4],3,true) by simp [rejectF]]
     simp -implicitDefEqProofs (disch:=omega) [go_sem]
     refine .inl (call_keep _ (to_pc Γ 3 [4]) (rw:=true) (cells:=([4]:List Int).map fun n=>D.data (.int .i64 n)) (by simp [Hp.upd,Hp.set]) (fun H' hg=>frzL_c (.data _) (frzL_c (frz_nums (rw:=false) hg (.inr rfl) rfl) frzL_n)) ?_)
     unfold tri nums
     simp -implicitDefEqProofs (disch:=omega) [go_sem,Tryd.f44]
   · rw [show rejectF 1 true = ([],1,true) by simp [rejectF]]
     simp -implicitDefEqProofs (disch:=omega) [go_sem]
     refine .inl (call_data (stay_pc Γ 1) (by simp [go_sem]) ?_)
     unfold tri nums
     simp -implicitDefEqProofs (disch:=omega) [go_sem,Tryd.f44]
 · cases may
   · rw [show rejectF 2 false = ([4],2,true) by simp [rejectF]]
     simp -implicitDefEqProofs (disch:=omega) [go_sem]
     refine .inl (call_keep _ (to_pc Γ 2 [4]) (rw:=true) (cells:=([4]:List Int).map fun n=>D.data (.int .i64 n)) (by simp [Hp.upd,Hp.set]) (fun H' hg=>frzL_c (.data _) (frzL_c (frz_nums (rw:=false) hg (.inr rfl) rfl) frzL_n)) ?_)
     unfold tri nums
     simp -implicitDefEqProofs (disch:=omega) [go_sem,Tryd.f44]
   · rw [show rejectF 2 true = ([],2,true) by simp [rejectF]]
     simp -implicitDefEqProofs (disch:=omega) [go_sem]
     refine .inl (call_data (stay_pc Γ 2) (by simp [go_sem]) ?_)
     unfold tri nums
     simp -implicitDefEqProofs (disch:=omega) [go_sem,Tryd.f44]
 · cases may
   · rw [show rejectF 3 false = ([4],3,true) by simp [rejectF]]
     simp -implicitDefEqProofs (disch:=omega) [go_sem]
     refine .inl (call_keep _ (to_pc Γ 3 [4]) (rw:=true) (cells:=([4]:List Int).map fun n=>D.data (.int .i64 n)) (by simp [Hp.upd,Hp.set]) (fun H' hg=>frzL_c (.data _) (frzL_c (frz_nums (rw:=false) hg (.inr rfl) rfl) frzL_n)) ?_)
     unfold tri nums
     simp -implicitDefEqProofs (disch:=omega) [go_sem,Tryd.f44]
   · rw [show rejectF 3 true = ([],3,true) by simp [rejectF]]
     simp -implicitDefEqProofs (disch:=omega) [go_sem]
     refine .inl (call_data (stay_pc Γ 3) (by simp [go_sem]) ?_)
     unfold tri nums
     simp -implicitDefEqProofs (disch:=omega) [go_sem,Tryd.f44]
 · cases may
   · rw [show rejectF 4 false = ([4],2,true) by simp [rejectF]]
     simp -implicitDefEqProofs (disch:=omega) [go_sem]
     refine .inl (call_keep _ (to_pc Γ 2 [4]) (rw:=true) (cells:=([4]:List Int).map fun n=>D.data (.int .i64 n)) (by simp [Hp.upd,Hp.set]) (fun H' hg=>frzL_c (.data _) (frzL_c (frz_nums (rw:=false) hg (.inr rfl) rfl) frzL_n)) ?_)
     unfold tri nums
     simp -implicitDefEqProofs (disch:=omega) [go_sem,Tryd.f44]
   · rw [show rejectF 4 true = ([],4,true) by simp [rejectF]]
     simp -implicitDefEqProofs (disch:=omega) [go_sem]
     refine .inl (call_data (stay_pc Γ 4) (by simp [go_sem]) ?_)
     unfold tri nums
     simp -implicitDefEqProofs (disch:=omega) [go_sem,Tryd.f44]
 · cases may
   · rw [show rejectF 5 false = ([4],3,true) by simp [rejectF]]
     simp -implicitDefEqProofs (disch:=omega) [go_sem]
     refine .inl (call_keep _ (to_pc Γ 3 [4]) (rw:=true) (cells:=([4]:List Int).map fun n=>D.data (.int .i64 n)) (by simp [Hp.upd,Hp.set]) (fun H' hg=>frzL_c (.data _) (frzL_c (frz_nums (rw:=false) hg (.inr rfl) rfl) frzL_n)) ?_)
     unfold tri nums
     simp -implicitDefEqProofs (disch:=omega) [go_sem,Tryd.f44]
   · rw [show rejectF 5 true = ([],5,true) by simp [rejectF]]
     simp -implicitDefEqProofs (disch:=omega) [go_sem]
     refine .inl (call_data (stay_pc Γ 5) (by simp [go_sem]) ?_)
     unfold tri nums
     simp -implicitDefEqProofs (disch:=omega) [go_sem,Tryd.f44]
 · cases may
   · rw [show rejectF 6 false = ([4],3,true) by simp [rejectF]]
     simp -implicitDefEqProofs (disch:=omega) [go_sem]
     refine .inl (call_keep _ (to_pc Γ 3 [4]) (rw:=true) (cells:=([4]:List Int).map fun n=>D.data (.int .i64 n)) (by simp [Hp.upd,Hp.set]) (fun H' hg=>frzL_c (.data _) (frzL_c (frz_nums (rw:=false) hg (.inr rfl) rfl) frzL_n)) ?_)
     unfold tri nums
     simp -implicitDefEqProofs (disch:=omega) [go_sem,Tryd.f44]
   · rw [show rejectF 6 true = ([],6,true) by simp [rejectF]]
     simp -implicitDefEqProofs (disch:=omega) [go_sem]
     refine .inl (call_data (stay_pc Γ 6) (by simp [go_sem]) ?_)
     unfold tri nums
     simp -implicitDefEqProofs (disch:=omega) [go_sem,Tryd.f44]
 · cases may
   · rw [show rejectF 7 false = ([4],3,true) by simp [rejectF]]
     simp -implicitDefEqProofs (disch:=omega) [go_sem]
     refine .inl (call_keep _ (to_pc Γ 3 [4]) (rw:=true) (cells:=([4]:List Int).map fun n=>D.data (.int .i64 n)) (by simp [Hp.upd,Hp.set]) (fun H' hg=>frzL_c (.data _) (frzL_c (frz_nums (rw:=false) hg (.inr rfl) rfl) frzL_n)) ?_)
     unfold tri nums
     simp -implicitDefEqProofs (disch:=omega) [go_sem,Tryd.f44]
   · rw [show rejectF 7 true = ([],6,true) by simp [rejectF]]
     simp -implicitDefEqProofs (disch:=omega) [go_sem]
     refine .inl (call_data (stay_pc Γ 6) (by simp [go_sem]) ?_)
     unfold tri nums
     simp -implicitDefEqProofs (disch:=omega) [go_sem,Tryd.f44]
 · cases may
   · rw [show rejectF 8 false = ([4],3,true) by simp [rejectF]]
     simp -implicitDefEqProofs (disch:=omega) [go_sem]
     refine .inl (call_keep _ (to_pc Γ 3 [4]) (rw:=true) (cells:=([4]:List Int).map fun n=>D.data (.int .i64 n)) (by simp [Hp.upd,Hp.set]) (fun H' hg=>frzL_c (.data _) (frzL_c (frz_nums (rw:=false) hg (.inr rfl) rfl) frzL_n)) ?_)
     unfold tri nums
     simp -implicitDefEqProofs (disch:=omega) [go_sem,Tryd.f44]
   · rw [show rejectF 8 true = ([],8,true) by simp [rejectF]]
     simp -implicitDefEqProofs (disch:=omega) [go_sem]
     refine .inl (call_data (stay_pc Γ 8) (by simp [go_sem]) ?_)
     unfold tri nums
     simp -implicitDefEqProofs (disch:=omega) [go_sem,Tryd.f44]
 · cases may
   · rw [show rejectF 9 false = ([2,5,10],5,true) by simp [rejectF]]
     simp -implicitDefEqProofs (disch:=omega) [go_sem]
     refine .inl (call_keep _ (to_pc Γ 5 [2,5,10]) (rw:=true) (cells:=([2,5,10]:List Int).map fun n=>D.data (.int .i64 n)) (by simp [Hp.upd,Hp.set]) (fun H' hg=>frzL_c (.data _) (frzL_c (frz_nums (rw:=false) hg (.inr rfl) rfl) frzL_n)) ?_)
     unfold tri nums
     simp -implicitDefEqProofs (disch:=omega) [go_sem,Tryd.f44]
   · rw [show rejectF 9 true = ([],9,true) by simp [rejectF]]
     simp -implicitDefEqProofs (disch:=omega) [go_sem]
     refine .inl (call_data (stay_pc Γ 9) (by simp [go_sem]) ?_)
     unfold tri nums
     simp -implicitDefEqProofs (disch:=omega) [go_sem,Tryd.f44]
end
end Fs
namespace Fs
def Out (s e:Int):Prop:=s < 0 ∨ 9 < s ∨ e < 0 ∨ 15 < e ∨ (5 < e∧s < 2)
instance (s e:Int):Decidable (Out s e):=by unfold Out;infer_instance
def rowF (s e:Int):R3 :=
 if e = 0 then upF s else
 if e = 1 then downF s else
 if e = 2 then openedF s else
 if e = 3 then closedF s else
 if e = 4 then timeoutF s true else
 if e = 5 then timeoutF s false else
 if e = 6 then requestF s true 8 else
 if e = 7 then requestF s false 9 else
 if e = 8 then answerF s true else
 if e = 9 then answerF s false else
 if e = 10 then endF s else
 if e = 11 then endedF s else
 if e = 12 then ([12],s,true) else
 if e = 13 then rejectF s true else
 if e = 14 then rejectF s false else
 if s = 9 then ([13],9,true) else ([],s,true)
def nextF (s e:Int):R3:=if Out s e then ([],s,false) else rowF s e
section
variable (Γ:Nat->Option (List Data))
set_option maxHeartbeats 8000000 in
theorem rnext_pc (s e:Int):PC Tryd.prog Γ 25 [.int .i64 s,.int .i64 e] (tri (nextF s e)):=by
 refine pc_by mixed Tryd.func25 rfl (fun args w=>Tryd.call25 args w) ?_
 by_cases ho:Out s e
 · rw [show nextF s e = ([],s,false) from if_pos ho]
   have c:=never_pc Γ s
   unfold tri nums at c ⊢
   unfold Out at ho
   by_cases k0:s < 0
   · simp -implicitDefEqProofs (disch:=omega) [go_sem]
     refine .inl (call_data c (by simp [go_sem]) ?_)
     simp -implicitDefEqProofs (disch:=omega) [go_sem,Tryd.f25]
   by_cases k1:9 < s
   · simp -implicitDefEqProofs (disch:=omega) [go_sem]
     refine .inl (call_data c (by simp [go_sem]) ?_)
     simp -implicitDefEqProofs (disch:=omega) [go_sem,Tryd.f25]
   by_cases k2:e < 0
   · simp -implicitDefEqProofs (disch:=omega) [go_sem]
     refine .inl (call_data c (by simp [go_sem]) ?_)
     simp -implicitDefEqProofs (disch:=omega) [go_sem,Tryd.f25]
   by_cases k3:15 < e
   · simp -implicitDefEqProofs (disch:=omega) [go_sem]
     refine .inl (call_data c (by simp [go_sem]) ?_)
     simp -implicitDefEqProofs (disch:=omega) [go_sem,Tryd.f25]
   have k4:5 < e∧s < 2:=by omega
   obtain ⟨k5,k6⟩:=k4
   simp -implicitDefEqProofs (disch:=omega) [go_sem]
   refine .inl (call_data c (by simp [go_sem]) ?_)
   simp -implicitDefEqProofs (disch:=omega) [go_sem,Tryd.f25]
 rw [show nextF s e = rowF s e from if_neg ho]
 have h1:¬ s < 0:=fun k=>ho (.inl k)
 have h2:¬ 9 < s:=fun k=>ho (.inr (.inl k))
 have h3:¬ e < 0:=fun k=>ho (.inr (.inr (.inl k)))
 have h4:¬ 15 < e:=fun k=>ho (.inr (.inr (.inr (.inl k))))
 have h5:¬ (5 < e∧s < 2):=fun k=>ho (.inr (.inr (.inr (.inr k))))
 clear ho
 have he:e = 0 ∨ e = 1 ∨ e = 2 ∨ e = 3 ∨ e = 4 ∨ e = 5 ∨ e = 6 ∨ e = 7 ∨ e = 8 ∨ e = 9 ∨ e = 10 ∨ e = 11 ∨ e = 12 ∨ e = 13 ∨ e = 14 ∨ e = 15:=by omega
 rcases he with rfl | rfl | rfl | rfl | rfl | rfl | rfl | rfl | rfl | rfl | rfl | rfl | rfl | rfl | rfl | rfl
 · rw [show rowF s 0 = upF s by simp [rowF]]
   have c:=up_pc Γ s ⟨by omega,by omega⟩
   generalize upF s = r at *
   obtain ⟨l,t,b⟩:=r
   unfold tri nums at c ⊢
   simp -implicitDefEqProofs (disch:=omega) [go_sem]
   refine .inl (call_data c (by simp [go_sem]) ?_)
   simp -implicitDefEqProofs (disch:=omega) [go_sem,Tryd.f25]
 · rw [show rowF s 1 = downF s by simp [rowF]]
   have c:=down_pc Γ s ⟨by omega,by omega⟩
   generalize downF s = r at *
   obtain ⟨l,t,b⟩:=r
   unfold tri nums at c ⊢
   simp -implicitDefEqProofs (disch:=omega) [go_sem]
   refine .inl (call_data c (by simp [go_sem]) ?_)
   simp -implicitDefEqProofs (disch:=omega) [go_sem,Tryd.f25]
 · rw [show rowF s 2 = openedF s by simp [rowF]]
   have c:=opened_pc Γ s ⟨by omega,by omega⟩
   generalize openedF s = r at *
   obtain ⟨l,t,b⟩:=r
   unfold tri nums at c ⊢
   simp -implicitDefEqProofs (disch:=omega) [go_sem]
   refine .inl (call_data c (by simp [go_sem]) ?_)
   simp -implicitDefEqProofs (disch:=omega) [go_sem,Tryd.f25]
 · rw [show rowF s 3 = closedF s by simp [rowF]]
   have c:=closed_pc Γ s ⟨by omega,by omega⟩
   generalize closedF s = r at *
   obtain ⟨l,t,b⟩:=r
   unfold tri nums at c ⊢
   simp -implicitDefEqProofs (disch:=omega) [go_sem]
   refine .inl (call_data c (by simp [go_sem]) ?_)
   simp -implicitDefEqProofs (disch:=omega) [go_sem,Tryd.f25]
 · rw [show rowF s 4 = timeoutF s true by simp [rowF]]
   have c:=timeout_pc Γ s true ⟨by omega,by omega⟩
   generalize timeoutF s true = r at *
   obtain ⟨l,t,b⟩:=r
   unfold tri nums at c ⊢
   simp -implicitDefEqProofs (disch:=omega) [go_sem]
   refine .inl (call_data c (by simp [go_sem]) ?_)
   simp -implicitDefEqProofs (disch:=omega) [go_sem,Tryd.f25]
 · rw [show rowF s 5 = timeoutF s false by simp [rowF]]
   have c:=timeout_pc Γ s false ⟨by omega,by omega⟩
   generalize timeoutF s false = r at *
   obtain ⟨l,t,b⟩:=r
   unfold tri nums at c ⊢
   simp -implicitDefEqProofs (disch:=omega) [go_sem]
   refine .inl (call_data c (by simp [go_sem]) ?_)
   simp -implicitDefEqProofs (disch:=omega) [go_sem,Tryd.f25]
 · rw [show rowF s 6 = requestF s true 8 by simp [rowF]]
   have h6:¬ s < 2:=fun k=>h5 ⟨by omega,k⟩
   have c:=request_pc Γ s true 8 ⟨by omega,by omega⟩
   generalize requestF s true 8 = r at *
   obtain ⟨l,t,b⟩:=r
   unfold tri nums at c ⊢
   simp -implicitDefEqProofs (disch:=omega) [go_sem]
   refine .inl (call_data c (by simp [go_sem]) ?_)
   simp -implicitDefEqProofs (disch:=omega) [go_sem,Tryd.f25]
 · rw [show rowF s 7 = requestF s false 9 by simp [rowF]]
   have h6:¬ s < 2:=fun k=>h5 ⟨by omega,k⟩
   have c:=request_pc Γ s false 9 ⟨by omega,by omega⟩
   generalize requestF s false 9 = r at *
   obtain ⟨l,t,b⟩:=r
   unfold tri nums at c ⊢
   simp -implicitDefEqProofs (disch:=omega) [go_sem]
   refine .inl (call_data c (by simp [go_sem]) ?_)
   simp -implicitDefEqProofs (disch:=omega) [go_sem,Tryd.f25]
 · rw [show rowF s 8 = answerF s true by simp [rowF]]
   have h6:¬ s < 2:=fun k=>h5 ⟨by omega,k⟩
   have c:=answer_pc Γ s true ⟨by omega,by omega⟩
   generalize answerF s true = r at *
   obtain ⟨l,t,b⟩:=r
   unfold tri nums at c ⊢
   simp -implicitDefEqProofs (disch:=omega) [go_sem]
   refine .inl (call_data c (by simp [go_sem]) ?_)
   simp -implicitDefEqProofs (disch:=omega) [go_sem,Tryd.f25]
 · rw [show rowF s 9 = answerF s false by simp [rowF]]
   have h6:¬ s < 2:=fun k=>h5 ⟨by omega,k⟩
   have c:=answer_pc Γ s false ⟨by omega,by omega⟩
   generalize answerF s false = r at *
   obtain ⟨l,t,b⟩:=r
   unfold tri nums at c ⊢
   simp -implicitDefEqProofs (disch:=omega) [go_sem]
   refine .inl (call_data c (by simp [go_sem]) ?_)
   simp -implicitDefEqProofs (disch:=omega) [go_sem,Tryd.f25]
 · rw [show rowF s 10 = endF s by simp [rowF]]
   have h6:¬ s < 2:=fun k=>h5 ⟨by omega,k⟩
   have c:=end_pc Γ s ⟨by omega,by omega⟩
   generalize endF s = r at *
   obtain ⟨l,t,b⟩:=r
   unfold tri nums at c ⊢
   simp -implicitDefEqProofs (disch:=omega) [go_sem]
   refine .inl (call_data c (by simp [go_sem]) ?_)
   simp -implicitDefEqProofs (disch:=omega) [go_sem,Tryd.f25]
 · rw [show rowF s 11 = endedF s by simp [rowF]]
   have h6:¬ s < 2:=fun k=>h5 ⟨by omega,k⟩
   have c:=ended_pc Γ s ⟨by omega,by omega⟩
   generalize endedF s = r at *
   obtain ⟨l,t,b⟩:=r
   unfold tri nums at c ⊢
   simp -implicitDefEqProofs (disch:=omega) [go_sem]
   refine .inl (call_data c (by simp [go_sem]) ?_)
   simp -implicitDefEqProofs (disch:=omega) [go_sem,Tryd.f25]
 · rw [show rowF s 12 = ([12],s,true) by simp [rowF]]
   have h6:¬ s < 2:=fun k=>h5 ⟨by omega,k⟩
   simp -implicitDefEqProofs (disch:=omega) [go_sem]
   refine .inl (call_keep _ (to_pc Γ s [12]) (rw:=true) (cells:=([12]:List Int).map fun n=>D.data (.int .i64 n)) (by simp [Hp.upd,Hp.set]) (fun H' hg=>frzL_c (.data _) (frzL_c (frz_nums (rw:=false) hg (.inr rfl) rfl) frzL_n)) ?_)
   unfold tri nums
   simp -implicitDefEqProofs (disch:=omega) [go_sem,Tryd.f25]
 · rw [show rowF s 13 = rejectF s true by simp [rowF]]
   have h6:¬ s < 2:=fun k=>h5 ⟨by omega,k⟩
   have c:=reject_pc Γ s true ⟨by omega,by omega⟩
   generalize rejectF s true = r at *
   obtain ⟨l,t,b⟩:=r
   unfold tri nums at c ⊢
   simp -implicitDefEqProofs (disch:=omega) [go_sem]
   refine .inl (call_data c (by simp [go_sem]) ?_)
   simp -implicitDefEqProofs (disch:=omega) [go_sem,Tryd.f25]
 · rw [show rowF s 14 = rejectF s false by simp [rowF]]
   have h6:¬ s < 2:=fun k=>h5 ⟨by omega,k⟩
   have c:=reject_pc Γ s false ⟨by omega,by omega⟩
   generalize rejectF s false = r at *
   obtain ⟨l,t,b⟩:=r
   unfold tri nums at c ⊢
   simp -implicitDefEqProofs (disch:=omega) [go_sem]
   refine .inl (call_data c (by simp [go_sem]) ?_)
   simp -implicitDefEqProofs (disch:=omega) [go_sem,Tryd.f25]
 · rw [show rowF s 15 = (if s = 9 then ([13],9,true) else ([],s,true)) by simp [rowF]]
   have h6:¬ s < 2:=fun k=>h5 ⟨by omega,k⟩
   by_cases h9:s = 9
   · subst h9
     rw [if_pos rfl]
     simp -implicitDefEqProofs (disch:=omega) [go_sem]
     refine .inl (call_keep _ (to_pc Γ 9 [13]) (rw:=true) (cells:=([13]:List Int).map fun n=>D.data (.int .i64 n)) (by simp [Hp.upd,Hp.set]) (fun H' hg=>frzL_c (.data _) (frzL_c (frz_nums (rw:=false) hg (.inr rfl) rfl) frzL_n)) ?_)
     unfold tri nums
     simp -implicitDefEqProofs (disch:=omega) [go_sem,Tryd.f25]
   · rw [if_neg h9]
     have c:=stay_pc Γ s
     unfold tri nums at c ⊢
     simp -implicitDefEqProofs (disch:=omega) [go_sem,h9]
     refine .inl (call_data c (by simp [go_sem]) ?_)
     simp -implicitDefEqProofs (disch:=omega) [go_sem,Tryd.f25]
theorem rtimed_pc (s:Int):PC Tryd.prog Γ 21 [.int .i64 s] (.bool (decide (4≤s∧s≤8))):=by
 refine pc_by mixed Tryd.func21 rfl (fun args w=>Tryd.call21 args w) ?_
 by_cases h1:4≤s
 · by_cases h2:s≤8
   · rw [decide_eq_true ⟨h1,h2⟩]
     simp -implicitDefEqProofs (disch:=omega) [go_sem,Tryd.f21]
   · rw [decide_eq_false fun h=>h2 h.2]
     simp -implicitDefEqProofs (disch:=omega) [go_sem,Tryd.f21]
 · rw [decide_eq_false fun h=>h1 h.1]
   simp -implicitDefEqProofs (disch:=omega) [go_sem,Tryd.f21]
theorem rhas_pc (l:List Int) (n:Int) (hl:l.length≤1000000000):PC Tryd.prog Γ 20 [nums l,.int .i64 n] (.bool (decide (n∈l))):=by
 refine pc_by mixed Tryd.func20 rfl (fun args w=>Tryd.call20 args w) ?_
 unfold nums
 simp -implicitDefEqProofs (disch:=omega) [go_sem]
 refine loop_ren (σ:={ i:Nat // i≤l.length∧∀ (j:Nat) (h:j < l.length),j < i->l[j]≠n }) (fun i=>⟨envL [(0,.data (.sl 1 (l.map fun n=>Data.int .i64 n))),(1,.data (.int .i64 n)),(5,.data (.int .i64 i.1))],hpL [],0,0,18⟩) (fun i=>l.length - i.1) ⟨0,by omega,fun j _ h=>absurd h (Nat.not_lt_zero _)⟩ [] (rhoL []) ?_ ?_
 · apply ren_lists <;> simp -implicitDefEqProofs [go_sem]
 rintro ⟨i,hi,hall⟩
 by_cases h:i < l.length
 · by_cases e:l[i] = n
   · rw [decide_eq_true (e ▸ List.getElem_mem h)]
     simp -implicitDefEqProofs (disch:=omega) [go_sem,e,Tryd.f20]
   · simp -implicitDefEqProofs (disch:=omega) [go_sem,e]
     refine next_ren ⟨i + 1,by omega,fun j hj hji=>by
      by_cases q:j = i
      · subst q;exact e
      · exact hall j hj (by omega)⟩ (by simp only;omega) [] (rhoL []) ?_
     apply ren_lists <;> simp -implicitDefEqProofs [go_sem]
 · rw [decide_eq_false fun k=>by
    obtain ⟨j,hj,e⟩:=List.getElem_of_mem k
    exact hall j hj (by omega) e]
   simp -implicitDefEqProofs (disch:=omega) [go_sem,Tryd.f20]
theorem rints_pc (a b:List Int) (ha:a.length≤1000000000) (hb:b.length≤1000000000):PC Tryd.prog Γ 17 [nums a,nums b] (.bool (decide (a = b))):=by
 refine pc_by mixed Tryd.func17 rfl (fun args w=>Tryd.call17 args w) ?_
 unfold nums
 by_cases hn:a.length = b.length
 rotate_left
 · rw [decide_eq_false fun e=>hn (by rw [e])]
   simp -implicitDefEqProofs (disch:=omega) [go_sem,hn,Tryd.f17]
 simp -implicitDefEqProofs (disch:=omega) [go_sem,hn]
 refine loop_ren (σ:={ i:Nat // i≤b.length∧a.take i = b.take i }) (fun i=>⟨envL [(0,.data (.sl 1 (a.map fun n=>Data.int .i64 n))),(1,.data (.sl 1 (b.map fun n=>Data.int .i64 n))),(5,.data (.int .i64 i.1))],hpL [],0,0,26⟩) (fun i=>b.length - i.1) ⟨0,by omega,rfl⟩ [] (rhoL []) ?_ ?_
 · apply ren_lists <;> simp -implicitDefEqProofs [go_sem]
 rintro ⟨i,hi,hall⟩
 by_cases h:i < b.length
 · have h2:i < a.length:=by omega
   by_cases he:a[i] = b[i]
   · simp -implicitDefEqProofs (disch:=omega) [go_sem,he]
     refine side (by kernel_rfl) ?_
     simp -implicitDefEqProofs (disch:=omega) [go_sem,he]
     refine next_ren ⟨i + 1,by omega,by rw [List.take_add_one,List.take_add_one,hall,List.getElem?_eq_getElem h,List.getElem?_eq_getElem h2,he]⟩ (by simp only;omega) [] (rhoL []) ?_
     apply ren_lists <;> simp -implicitDefEqProofs [go_sem]
   · rw [decide_eq_false fun e=>he (by simp [e])]
     simp -implicitDefEqProofs (disch:=omega) [go_sem,he]
     refine side (by kernel_rfl) ?_
     simp -implicitDefEqProofs (disch:=omega) [go_sem,he,Tryd.f17]
 · have:i = b.length:=by omega
   subst this
   rw [List.take_length,List.take_of_length_le (by omega)] at hall
   rw [decide_eq_true hall]
   simp -implicitDefEqProofs (disch:=omega) [go_sem,hn,Tryd.f17]
end
end Fs
namespace Fs
structure Au where
 s:Int
 c:Int
 l:Int
 id:Nat
deriving DecidableEq
def au (a:Au):Data:=.agg [.int .i64 a.s,.int .i64 a.c,.int .i64 a.l,.int .u8 a.id]
def Tm (s:Int):Prop:=4≤s∧s≤8
instance (s:Int):Decidable (Tm s):=by unfold Tm;infer_instance
/-- An automaton that may be. -/
def RightA (a:Au):Prop:=(0≤a.s∧a.s≤9)∧(0≤a.c∧a.c≤5)∧(Tm a.s∧1≤a.l∧a.l≤3 ∨ ¬ Tm a.s∧a.l = 0)
instance (a:Au):Decidable (RightA a):=by unfold RightA;infer_instance
def stepA (ends:Bool) (a:Au) (x:Int):Au :=
 if x = 5 then { a with c:=if ends = true then 2 else 5 } else
 if x = 6 then { a with c:=0,l:=3 } else
 if x = 7 ∨ x = 10 then { a with c:=if 1 < a.c then a.c - 1 else 0,l:=3,id:=(a.id + 1) % 256 } else a
def foldA (a:Au) (l:List Int):Au:=l.foldl (stepA (decide (10∈l))) a
def setA (a:Au) (s:Int):Au:={ a with s:=s,l:=if Tm s then a.l else 0 }
def doA (a:Au) (e:Int):Au:=if (nextF a.s e).2.2 = true then setA (foldA a (nextF a.s e).1) (nextF a.s e).2.1 else a
def doL (a:Au) (e:Int):List Int:=if (nextF a.s e).2.2 = true then (nextF a.s e).1 else []
def doE (a:Au) (e:Int):Int:=if (nextF a.s e).2.2 = true then 0 else 1
def downA (a:Au):Au:={ a with l:=a.l - 1 }
def tickA (a:Au):Au:=if a.l = 0 then a else if 1 < a.l then downA a else if 0 < a.c then doA (downA a) 4 else doA (downA a) 5
def tickL (a:Au):List Int:=if a.l = 0 then [] else if 1 < a.l then [] else if 0 < a.c then doL (downA a) 4 else doL (downA a) 5
def quietA (a:Au):Nat->Au
 | 0=>a
 | n + 1=>tickA (quietA a n)
theorem stepA_fit {ends:Bool} {a:Au} (h:0≤a.c∧a.c≤5) (hi:a.id < 256) (x:Int):(0≤(stepA ends a x).c∧(stepA ends a x).c≤5)∧(stepA ends a x).id < 256:=by
 unfold stepA
 by_cases h5:x = 5
 · rw [if_pos h5]
   exact ⟨by simp only;split <;> omega,hi⟩
 rw [if_neg h5]
 by_cases h6:x = 6
 · rw [if_pos h6];exact ⟨by simp only;omega,hi⟩
 rw [if_neg h6]
 by_cases h7:x = 7 ∨ x = 10
 · rw [if_pos h7]
   exact ⟨by simp only;split <;> omega,by simp only;omega⟩
 · rw [if_neg h7];exact ⟨h,hi⟩
theorem foldl_fit {ends:Bool}:∀ (l:List Int) {a:Au},0≤a.c∧a.c≤5->a.id < 256->(0≤(l.foldl (stepA ends) a).c∧(l.foldl (stepA ends) a).c≤5)∧(l.foldl (stepA ends) a).id < 256
 | [],a,h,hi=>⟨h,hi⟩
 | x :: l,a,h,hi=>by
   obtain ⟨h1,h2⟩:=stepA_fit (ends:=ends) h hi x
   exact foldl_fit l h1 h2
theorem foldl_take {ends:Bool} (l:List Int) (a:Au) (i:Nat) (h:i < l.length):(l.take (i + 1)).foldl (stepA ends) a = stepA ends ((l.take i).foldl (stepA ends) a) l[i]:=by
 rw [List.take_add_one,List.getElem?_eq_getElem h,Option.toList_some,List.foldl_append]
 rfl
theorem short_ite {c:Prop} [Decidable c] {a b:R3} (ha:a.1.length≤3) (hb:b.1.length≤3):(if c then a else b).1.length≤3:=by
 by_cases h:c
 · rw [if_pos h];exact ha
 · rw [if_neg h];exact hb
theorem nextF_short (s e:Int):(nextF s e).1.length≤3:=by
 unfold nextF rowF upF downF openedF closedF timeoutF requestF answerF endF endedF rejectF
 repeat' first | apply short_ite | (simp;done)
section
variable (Γ:Nat->Option (List Data))
theorem raright_pc (a:Au):PC Tryd.prog Γ 10 [au a] (.bool (decide (RightA a))):=by
 refine pc_by mixed Tryd.func10 rfl (fun args w=>Tryd.call10 args w) ?_
 have c1:=rtimed_pc Γ a.s
 unfold au
 have no:¬ RightA a->decide (RightA a) = false:=fun h=>decide_eq_false h
 by_cases h1:a.s < 0
 · rw [no fun h=>by unfold RightA at h;omega]
   simp -implicitDefEqProofs (disch:=omega) [go_sem,Tryd.f10]
 by_cases h2:9 < a.s
 · rw [no fun h=>by unfold RightA at h;omega]
   simp -implicitDefEqProofs (disch:=omega) [go_sem,Tryd.f10]
 by_cases h3:a.c < 0
 · rw [no fun h=>by unfold RightA at h;omega]
   simp -implicitDefEqProofs (disch:=omega) [go_sem,Tryd.f10]
 by_cases h4:5 < a.c
 · rw [no fun h=>by unfold RightA at h;omega]
   simp -implicitDefEqProofs (disch:=omega) [go_sem,Tryd.f10]
 simp -implicitDefEqProofs (disch:=omega) [go_sem]
 refine .inl (call_data c1 (by simp [go_sem]) ?_)
 by_cases ht:4≤a.s∧a.s≤8
 · rw [decide_eq_true ht] at *
   by_cases h5:1≤a.l
   · by_cases h6:a.l≤3
     · rw [show decide (RightA a) = true from decide_eq_true ⟨by omega,by omega,.inl ⟨ht,h5,h6⟩⟩]
       simp -implicitDefEqProofs (disch:=omega) [go_sem,ht,Tryd.f10]
     · rw [no fun h=>by unfold RightA Tm at h;omega]
       simp -implicitDefEqProofs (disch:=omega) [go_sem,ht,Tryd.f10]
   · rw [no fun h=>by unfold RightA Tm at h;omega]
     simp -implicitDefEqProofs (disch:=omega) [go_sem,ht,Tryd.f10]
 · by_cases h7:a.l = 0
   · rw [show decide (RightA a) = true from decide_eq_true ⟨by omega,by omega,.inr ⟨ht,h7⟩⟩]
     simp -implicitDefEqProofs (disch:=omega) [go_sem,ht,h7,Tryd.f10]
   · rw [no fun h=>by unfold RightA Tm at h;omega]
     simp -implicitDefEqProofs (disch:=omega) [go_sem,ht,h7,Tryd.f10]
set_option maxHeartbeats 2000000 in
theorem rado_pc (a:Au) (e:Int) (hc:0≤a.c∧a.c≤5) (hi:a.id < 256):PC Tryd.prog Γ 14 [au a,.int .i64 e] (.tup [au (doA a e),nums (doL a e),.int .i64 (doE a e)]):=by
 refine pc_by mixed Tryd.func14 rfl (fun args w=>Tryd.call14 args w) ?_
 have c1:=rnext_pc Γ a.s e
 have hsh:=nextF_short a.s e
 unfold doA doL doE
 generalize nextF a.s e = r at *
 obtain ⟨l,t,b⟩:=r
 simp only at hsh
 unfold tri nums at c1
 cases b
 · simp only [Bool.false_eq_true,if_false]
   unfold au nums
   simp -implicitDefEqProofs (disch:=omega) [go_sem]
   refine .inl (call_data c1 (by simp [go_sem]) ?_)
   simp -implicitDefEqProofs (disch:=omega) [go_sem,Tryd.f14]
   exact ⟨_,⟨_,_,rfl,rfl,_,rfl,.emp _ _⟩,rfl⟩
 simp only [if_true]
 have c2:=rhas_pc Γ l 10 (by omega)
 have c3:=rtimed_pc Γ t
 unfold foldA
 generalize decide (10∈l) = ends at *
 unfold nums at c2
 have fit:=fun i=>foldl_fit (ends:=ends) (l.take i) hc hi
 unfold au nums
 simp -implicitDefEqProofs (disch:=omega) [go_sem]
 refine .inl (call_data c1 (by simp [go_sem]) ?_)
 simp -implicitDefEqProofs (disch:=omega) [go_sem]
 refine .inl (call_data c2 (by simp [go_sem]) ?_)
 simp -implicitDefEqProofs (disch:=omega) [go_sem]
 refine loop_ren (σ:={ i:Nat // i≤l.length }) (fun i=>⟨envL [(2,.ptr 0 0),(4,.ptr 1 0),(7,.data (.sl 1 (l.map fun n=>Data.int .i64 n))),(8,.data (.int .i64 t)),(10,.data (.bool ends)),(11,.data (.int .i64 i.1))],hpL [(0,.blk true [.data (.int .i64 ((l.take i.1).foldl (stepA ends) a).s),.data (.int .i64 ((l.take i.1).foldl (stepA ends) a).c),.data (.int .i64 ((l.take i.1).foldl (stepA ends) a).l),.data (.int .u8 ((l.take i.1).foldl (stepA ends) a).id)]),(1,.blk true [.data (.int .i64 0),.data (.int .i64 0),.data (.int .i64 0),.data (.int .u8 0)])],2,0,67⟩) (fun i=>l.length - i.1) ⟨0,by omega⟩ [] (rhoL [(0,some 0),(1,some 1)]) ?_ ?_
 · apply ren_lists <;> simp -implicitDefEqProofs [go_sem]
 rintro ⟨i,hile⟩
 have fi:=fit i
 by_cases h:i < l.length
 · have hst:=foldl_take (ends:=ends) l a i h
   generalize (l.take i).foldl (stepA ends) a = A at *
   by_cases h5:l[i] = 5
   · cases ends
     · have e2:stepA false A l[i] = { A with c:=5 }:=by unfold stepA;rw [if_pos h5];rfl
       rw [e2] at hst
       simp -implicitDefEqProofs (disch:=omega) [go_sem,h5]
       refine next_ren ⟨i + 1,by omega⟩ (by simp only;omega) [] (rhoL [(0,some 0),(1,some 1)]) ?_
       simp only [hst]
       apply ren_lists <;> simp -implicitDefEqProofs [go_sem]
     · have e2:stepA true A l[i] = { A with c:=2 }:=by unfold stepA;rw [if_pos h5];rfl
       rw [e2] at hst
       simp -implicitDefEqProofs (disch:=omega) [go_sem,h5]
       refine next_ren ⟨i + 1,by omega⟩ (by simp only;omega) [] (rhoL [(0,some 0),(1,some 1)]) ?_
       simp only [hst]
       apply ren_lists <;> simp -implicitDefEqProofs [go_sem]
   by_cases h6:l[i] = 6
   · have e2:stepA ends A l[i] = { A with c:=0,l:=3 }:=by unfold stepA;rw [if_neg h5,if_pos h6]
     rw [e2] at hst
     simp -implicitDefEqProofs (disch:=omega) [go_sem,h6]
     refine next_ren ⟨i + 1,by omega⟩ (by simp only;omega) [] (rhoL [(0,some 0),(1,some 1)]) ?_
     simp only [hst]
     apply ren_lists <;> simp -implicitDefEqProofs [go_sem]
   by_cases h7:l[i] = 7
   · have e2:stepA ends A l[i] = { A with c:=if 1 < A.c then A.c - 1 else 0,l:=3,id:=(A.id + 1) % 256 }:=by unfold stepA;rw [if_neg h5,if_neg h6,if_pos (.inl h7)]
     rw [e2] at hst
     simp -implicitDefEqProofs (disch:=omega) [go_sem,h7]
     refine next_ren ⟨i + 1,by omega⟩ (by simp only;omega) [] (rhoL [(0,some 0),(1,some 1)]) ?_
     simp only [hst]
     apply ren_lists <;> simp -implicitDefEqProofs [go_sem]
   by_cases h10:l[i] = 10
   · have e2:stepA ends A l[i] = { A with c:=if 1 < A.c then A.c - 1 else 0,l:=3,id:=(A.id + 1) % 256 }:=by unfold stepA;rw [if_neg h5,if_neg h6,if_pos (.inr h10)]
     rw [e2] at hst
     simp -implicitDefEqProofs (disch:=omega) [go_sem,h10]
     refine next_ren ⟨i + 1,by omega⟩ (by simp only;omega) [] (rhoL [(0,some 0),(1,some 1)]) ?_
     simp only [hst]
     apply ren_lists <;> simp -implicitDefEqProofs [go_sem]
   · have e2:stepA ends A l[i] = A:=by unfold stepA;rw [if_neg h5,if_neg h6,if_neg (by rintro (k | k);exact h7 k;exact h10 k)]
     rw [e2] at hst
     simp -implicitDefEqProofs (disch:=omega) [go_sem,h5,h6,h7,h10]
     refine next_ren ⟨i + 1,by omega⟩ (by simp only;omega) [] (rhoL [(0,some 0),(1,some 1)]) ?_
     simp only [hst]
     apply ren_lists <;> simp -implicitDefEqProofs [go_sem]
 · have:i = l.length:=by omega
   subst this
   rw [List.take_length] at fi
   generalize hA:l.foldl (stepA ends) a = A at *
   by_cases ht:4≤t∧t≤8
   · rw [show setA A t = ⟨t,A.c,A.l,A.id⟩ by unfold setA;rw [if_pos (show Tm t from ht)]]
     simp -implicitDefEqProofs (disch:=omega) [go_sem,List.take_length,hA]
     refine .inl (call_data c3 (by simp [go_sem]) ?_)
     simp -implicitDefEqProofs (disch:=omega) [go_sem,ht,Tryd.f14]
   · rw [show setA A t = ⟨t,A.c,0,A.id⟩ by unfold setA;rw [if_neg (show ¬ Tm t from ht)]]
     simp -implicitDefEqProofs (disch:=omega) [go_sem,List.take_length,hA]
     refine .inl (call_data c3 (by simp [go_sem]) ?_)
     simp -implicitDefEqProofs (disch:=omega) [go_sem,ht,Tryd.f14]
end
theorem doA_fit {a:Au} {e:Int} (hc:0≤a.c∧a.c≤5) (hi:a.id < 256):(0≤(doA a e).c∧(doA a e).c≤5)∧(doA a e).id < 256:=by
 unfold doA
 by_cases h:(nextF a.s e).2.2 = true
 · rw [if_pos h]
   exact foldl_fit (nextF a.s e).1 hc hi
 · rw [if_neg h];exact ⟨hc,hi⟩
theorem tickA_fit {a:Au} (hc:0≤a.c∧a.c≤5) (hi:a.id < 256):(0≤(tickA a).c∧(tickA a).c≤5)∧(tickA a).id < 256:=by
 unfold tickA
 split
 · exact ⟨hc,hi⟩
 · split
   · exact ⟨hc,hi⟩
   · split
     · exact doA_fit (a:=downA a) hc hi
     · exact doA_fit (a:=downA a) hc hi
theorem quietA_fit {a:Au} (hc:0≤a.c∧a.c≤5) (hi:a.id < 256):∀ n,(0≤(quietA a n).c∧(quietA a n).c≤5)∧(quietA a n).id < 256
 | 0=>⟨hc,hi⟩
 | n + 1=>tickA_fit (quietA_fit hc hi n).1 (quietA_fit hc hi n).2
section
variable (Γ:Nat->Option (List Data))
set_option maxHeartbeats 1000000 in
theorem ratick_pc (a:Au) (hc:0≤a.c∧a.c≤5) (hi:a.id < 256) (hl:-1000000≤a.l∧a.l≤1000000):PC Tryd.prog Γ 16 [au a] (.tup [au (tickA a),nums (tickL a)]):=by
 refine pc_by mixed Tryd.func16 rfl (fun args w=>Tryd.call16 args w) ?_
 by_cases h0:a.l = 0
 · rw [show tickA a = a by unfold tickA;rw [if_pos h0],show tickL a = [] by unfold tickL;rw [if_pos h0]]
   unfold au nums
   simp -implicitDefEqProofs (disch:=omega) [go_sem,h0,Tryd.f16]
   exact ⟨_,⟨_,_,rfl,rfl,_,rfl,.emp _ _⟩,rfl⟩
 by_cases h1:1 < a.l
 · rw [show tickA a = downA a by unfold tickA;rw [if_neg h0,if_pos h1],show tickL a = [] by unfold tickL;rw [if_neg h0,if_pos h1]]
   unfold au nums downA
   simp -implicitDefEqProofs (disch:=omega) [go_sem,h0,Tryd.f16]
   exact ⟨_,⟨_,_,rfl,rfl,_,rfl,.emp _ _⟩,rfl⟩
 by_cases h2:0 < a.c
 · rw [show tickA a = doA (downA a) 4 by unfold tickA;rw [if_neg h0,if_neg h1,if_pos h2],show tickL a = doL (downA a) 4 by unfold tickL;rw [if_neg h0,if_neg h1,if_pos h2]]
   have c1:=rado_pc Γ (downA a) 4 hc hi
   generalize doA (downA a) 4 = A at *
   generalize doL (downA a) 4 = L at *
   generalize doE (downA a) 4 = E at *
   unfold au nums downA at *
   simp -implicitDefEqProofs (disch:=omega) [go_sem,h0]
   refine .inl (call_data c1 (by simp [go_sem]) ?_)
   simp -implicitDefEqProofs (disch:=omega) [go_sem,Tryd.f16]
 · rw [show tickA a = doA (downA a) 5 by unfold tickA;rw [if_neg h0,if_neg h1,if_neg h2],show tickL a = doL (downA a) 5 by unfold tickL;rw [if_neg h0,if_neg h1,if_neg h2]]
   have c1:=rado_pc Γ (downA a) 5 hc hi
   generalize doA (downA a) 5 = A at *
   generalize doL (downA a) 5 = L at *
   generalize doE (downA a) 5 = E at *
   unfold au nums downA at *
   simp -implicitDefEqProofs (disch:=omega) [go_sem,h0]
   refine .inl (call_data c1 (by simp [go_sem]) ?_)
   simp -implicitDefEqProofs (disch:=omega) [go_sem,Tryd.f16]
end
end Fs
namespace Fs
/-- It starts its timer anew. -/
def Sends (l:List Int):Prop:=6∈l ∨ 7∈l ∨ 10∈l
instance (l:List Int):Decidable (Sends l):=by unfold Sends;infer_instance
theorem in_table {s e:Int} (h:(nextF s e).2.2 = true):(0≤s∧s≤9)∧0≤e∧e≤15:=by
 by_cases ho:Out s e
 · rw [show nextF s e = ([],s,false) from if_pos ho] at h
   cases h
 · unfold Out at ho
   omega
theorem table_all (p:Int->Int->Prop) (h:∀ (s:Fin 10) (e:Fin 16),p s.val e.val) {s e:Int} (hs:0≤s∧s≤9) (he:0≤e∧e≤15):p s e:=by
 have:=h ⟨s.toNat,by omega⟩ ⟨e.toNat,by omega⟩
 simp only at this
 rwa [Int.toNat_of_nonneg hs.1,Int.toNat_of_nonneg he.1] at this
theorem tab_state:∀ (s:Fin 10) (e:Fin 16),0≤(nextF s.val e.val).2.1∧(nextF s.val e.val).2.1≤9:=by decide +kernel
theorem tab_timed:∀ (s:Fin 10) (e:Fin 16),(nextF s.val e.val).2.2 = true->Tm (nextF s.val e.val).2.1->Sends (nextF s.val e.val).1 ∨ (Tm s.val∧e.val≠4):=by decide +kernel
theorem tab_tick:∀ (s:Fin 10),Tm s.val->(nextF s.val 4).2.2 = true∧(nextF s.val 5).2.2 = true∧¬ Tm (nextF s.val 5).2.1:=by decide +kernel
theorem fold_left {ends:Bool}:∀ (l:List Int) (a:Au),(l.foldl (stepA ends) a).l = if Sends l then 3 else a.l
 | [],a=>by simp [Sends]
 | x :: l,a=>by
   rw [List.foldl_cons,fold_left l]
   unfold stepA
   by_cases h:Sends l
   · rw [if_pos h,if_pos (show Sends (x :: l) by
      unfold Sends at *
      rcases h with h | h | h
      · exact .inl (by simp [h])
      · exact .inr (.inl (by simp [h]))
      · exact .inr (.inr (by simp [h])))]
   rw [if_neg h]
   unfold Sends at h
   by_cases h5:x = 5
   · rw [if_pos h5]
     show a.l = _
     rw [if_neg (by unfold Sends;subst h5;simp;exact ⟨fun k=>h (.inl k),fun k=>h (.inr (.inl k)),fun k=>h (.inr (.inr k))⟩)]
   rw [if_neg h5]
   by_cases h6:x = 6
   · rw [if_pos h6,if_pos (by unfold Sends;subst h6;simp)]
   rw [if_neg h6]
   by_cases h7:x = 7 ∨ x = 10
   · rw [if_pos h7]
     show (3:Int) = _
     rw [if_pos (by unfold Sends;rcases h7 with rfl | rfl <;> simp)]
   · rw [if_neg h7,if_neg (by
      unfold Sends
      simp only [List.mem_cons]
      rintro (k | k | k)
      · rcases k with k | k
        · exact h6 k.symm
        · exact h (.inl k)
      · rcases k with k | k
        · exact h7 (.inl k.symm)
        · exact h (.inr (.inl k))
      · rcases k with k | k
        · exact h7 (.inr k.symm)
        · exact h (.inr (.inr k)))]
theorem do_right {a:Au} {e:Int} (hc:0≤a.c∧a.c≤5) (hi:a.id < 256) (hn:(nextF a.s e).2.2 = true) (hl:Tm (nextF a.s e).2.1->Sends (nextF a.s e).1 ∨ 1≤a.l∧a.l≤3):RightA (doA a e):=by
 obtain ⟨hs,he⟩:=in_table hn
 have ht:0≤(nextF a.s e).2.1∧(nextF a.s e).2.1≤9:=table_all (fun s e=>0≤(nextF s e).2.1∧(nextF s e).2.1≤9) tab_state hs he
 have hf:=foldl_fit (ends:=decide (10∈(nextF a.s e).1)) (nextF a.s e).1 hc hi
 have hfl:=fold_left (ends:=decide (10∈(nextF a.s e).1)) (nextF a.s e).1 a
 unfold doA
 rw [if_pos hn]
 unfold setA foldA RightA
 simp only
 refine ⟨ht,hf.1,?_⟩
 by_cases htm:Tm (nextF a.s e).2.1
 · refine .inl ⟨htm,?_⟩
   rw [if_pos htm,hfl]
   rcases hl htm with h | h
   · rw [if_pos h];omega
   · split <;> omega
 · exact .inr ⟨htm,by rw [if_neg htm]⟩
/-- What comes out is right. -/
theorem right_do {a:Au} {e:Int} (h:RightA a) (hi:a.id < 256):RightA (doA a e):=by
 by_cases hn:(nextF a.s e).2.2 = true
 · obtain ⟨hs,he⟩:=in_table hn
   refine do_right h.2.1 hi hn fun ht=>?_
   have:=table_all (fun s e=>(nextF s e).2.2 = true->Tm (nextF s e).2.1->Sends (nextF s e).1 ∨ (Tm s∧e≠4)) (fun s e k1 k2=>by
    rcases tab_timed s e k1 k2 with q | ⟨q,q2⟩
    · exact .inl q
    · exact .inr ⟨q,by omega⟩) hs he hn ht
   rcases this with q | ⟨q,_⟩
   · exact .inl q
   · rcases h.2.2 with ⟨_,k⟩ | ⟨k,_⟩
     · exact .inr k
     · exact absurd q k
 · unfold doA
   rw [if_neg hn];exact h
theorem right_tick {a:Au} (h:RightA a) (hi:a.id < 256):RightA (tickA a):=by
 unfold tickA
 by_cases h0:a.l = 0
 · rw [if_pos h0];exact h
 rw [if_neg h0]
 obtain ⟨hs,hc,hl⟩:=h
 obtain ⟨ht,l1,l2⟩:Tm a.s∧1≤a.l∧a.l≤3:=by
  rcases hl with q | ⟨_,q⟩
  · exact q
  · exact absurd q h0
 by_cases h1:1 < a.l
 · rw [if_pos h1]
   exact ⟨hs,hc,.inl ⟨ht,by unfold downA;simp only;omega,by unfold downA;simp only;omega⟩⟩
 rw [if_neg h1]
 have tt:=tab_tick ⟨a.s.toNat,by omega⟩
 simp only [Int.toNat_of_nonneg hs.1] at tt
 obtain ⟨t1,t2,t3⟩:=tt ht
 by_cases h2:0 < a.c
 · rw [if_pos h2]
   refine do_right (a:=downA a) hc hi t1 fun ht2=>.inl ?_
   have:=table_all (fun s e=>(nextF s e).2.2 = true->Tm (nextF s e).2.1->Sends (nextF s e).1 ∨ (Tm s∧e≠4)) (fun s e k1 k2=>by
    rcases tab_timed s e k1 k2 with q | ⟨q,q2⟩
    · exact .inl q
    · exact .inr ⟨q,by omega⟩) (s:=a.s) (e:=4) hs (by omega) t1 ht2
   rcases this with q | ⟨_,q⟩
   · exact q
   · exact absurd rfl q
 · rw [if_neg h2]
   exact do_right (a:=downA a) hc hi t2 fun ht2=>absurd ht2 t3
theorem right_quiet {a:Au} (h:RightA a) (hi:a.id < 256):∀ n,RightA (quietA a n)
 | 0=>h
 | n + 1=>right_tick (right_quiet h hi n) (quietA_fit h.2.1 hi n).2
section
variable (Γ:Nat->Option (List Data))
theorem raquiet_pc (a:Au) (n:Int) (h:RightA a) (hi:a.id < 256) (hn:-1000000≤n∧n≤1000000):PC Tryd.prog Γ 19 [au a,.int .i64 n] (au (quietA a (min n.toNat 100))):=by
 refine pc_by mixed Tryd.func19 rfl (fun args w=>Tryd.call19 args w) ?_
 obtain ⟨m,hm⟩:∃ m,m = min n.toNat 100:=⟨_,rfl⟩
 rw [<- hm]
 unfold au
 simp -implicitDefEqProofs (disch:=omega) [go_sem]
 refine loop_ren (σ:={ i:Nat // i≤m }) (fun i=>⟨envL [(1,.data (.int .i64 n)),(2,.ptr 0 0),(4,.ptr 1 0),(5,.data (.int .i64 i.1))],hpL [(0,.blk true [.data (.int .i64 (quietA a i.1).s),.data (.int .i64 (quietA a i.1).c),.data (.int .i64 (quietA a i.1).l),.data (.int .u8 (quietA a i.1).id)]),(1,.blk true [.data (.int .i64 0),.data (.int .i64 0),.data (.int .i64 0),.data (.int .u8 0)])],2,0,24⟩) (fun i=>100 - i.1) ⟨0,by omega⟩ [] (rhoL [(0,some 0),(1,some 1)]) ?_ ?_
 · apply ren_lists <;> simp -implicitDefEqProofs [go_sem,quietA]
 rintro ⟨i,hile⟩
 have hr:=right_quiet h hi i
 have hf:=quietA_fit h.2.1 hi i
 by_cases hlt:i < m
 · have c1:=ratick_pc Γ (quietA a i) hf.1 hf.2 (by have:=hr.2.2;omega)
   rw [show tickA (quietA a i) = quietA a (i + 1) from rfl] at c1
   generalize tickL (quietA a i) = L at *
   unfold au nums at c1
   simp -implicitDefEqProofs (disch:=omega) [go_sem]
   refine .inl (call_data c1 (by simp [go_sem]) ?_)
   simp -implicitDefEqProofs (disch:=omega) [go_sem]
   refine next_ren ⟨i + 1,by omega⟩ (by simp only;omega) [] (rhoL [(0,some 0),(1,some 1)]) ?_
   apply ren_lists <;> simp -implicitDefEqProofs [go_sem]
 · have:i = m:=by omega
   subst this
   by_cases h1:(i:Int) < n
   · have h2:¬ ((i:Int) < 100):=by omega
     simp -implicitDefEqProofs (disch:=omega) [go_sem,Tryd.f19]
   · simp -implicitDefEqProofs (disch:=omega) [go_sem,Tryd.f19]
end
end Fs
namespace Fs
theorem tab_more:∀ (s:Fin 10),Tm s.val->nextF s.val 4 = ((if (s.val:Int) = 4 ∨ (s.val:Int) = 5 then [10] else [7],if (s.val:Int) = 7 then 6 else (s.val:Int),true):R3):=by decide +kernel
theorem tab_over:∀ (s:Fin 10),Tm s.val->nextF s.val 5 = (([4],if (s.val:Int) = 4 then 2 else 3,true):R3):=by decide +kernel
theorem more_is {s:Int} (h:Tm s):nextF s 4 = (if s = 4 ∨ s = 5 then [10] else [7],if s = 7 then 6 else s,true):=by
 have hh:=h
 unfold Tm at hh
 have:=tab_more ⟨s.toNat,by omega⟩
 simp only [Int.toNat_of_nonneg (show 0≤s by omega)] at this
 exact this h
theorem over_is {s:Int} (h:Tm s):nextF s 5 = ([4],if s = 4 then 2 else 3,true):=by
 have hh:=h
 unfold Tm at hh
 have:=tab_over ⟨s.toNat,by omega⟩
 simp only [Int.toNat_of_nonneg (show 0≤s by omega)] at this
 exact this h
/-- A timeout with the counter not used up. -/
theorem do_more {a:Au} (h:Tm a.s) (hc:1≤a.c∧a.c≤5):doA a 4 = ⟨if a.s = 7 then 6 else a.s,a.c - 1,3,(a.id + 1) % 256⟩∧doL a 4 = (if a.s = 4 ∨ a.s = 5 then [10] else [7]):=by
 have e:=more_is h
 have hm:(if 1 < a.c then a.c - 1 else 0) = a.c - 1:=by split <;> omega
 have ht:Tm (if a.s = 7 then 6 else a.s):=by
  unfold Tm at *
  split <;> omega
 unfold doA doL
 rw [e]
 simp only [if_true]
 refine ⟨?_,trivial⟩
 unfold setA foldA
 by_cases h4:a.s = 4 ∨ a.s = 5
 · simp only [h4,if_true,List.foldl_cons,List.foldl_nil,stepA]
   simp [hm,ht]
 · simp only [h4,if_false,List.foldl_cons,List.foldl_nil,stepA]
   simp [hm,ht]
/-- A timeout with the counter used up. -/
theorem do_over {a:Au} (h:Tm a.s):doA a 5 = ⟨if a.s = 4 then 2 else 3,a.c,0,a.id⟩∧doL a 5 = [4]:=by
 have e:=over_is h
 have ht:¬ Tm (if a.s = 4 then 2 else 3):=by
  unfold Tm
  split <;> omega
 unfold doA doL
 rw [e]
 simp only [if_true]
 refine ⟨?_,trivial⟩
 unfold setA foldA
 simp [stepA,ht]
/-- How many ticks it still goes. -/
def Au.rest (a:Au):Int:=if Tm a.s then a.l + 3 * a.c else 0
theorem rest_le {a:Au} (h:RightA a):0≤a.rest∧a.rest≤18∧(a.rest = 0 ↔ ¬ Tm a.s):=by
 obtain ⟨h1,h2,h3⟩:=h
 unfold Au.rest
 by_cases ht:Tm a.s
 · rw [if_pos ht]
   rcases h3 with ⟨_,k⟩ | ⟨k,_⟩
   · exact ⟨by omega,by omega,⟨fun q=>by omega,fun q=>absurd ht q⟩⟩
   · exact absurd ht k
 · rw [if_neg ht]
   exact ⟨by omega,by omega,⟨fun _=>ht,fun _=>rfl⟩⟩
theorem tick_still {a:Au} (h:RightA a) (ht:¬ Tm a.s):tickA a = a∧tickL a = []:=by
 obtain ⟨h1,h2,h3⟩:=h
 have hl:a.l = 0:=by
  rcases h3 with ⟨k,_⟩ | ⟨_,k⟩
  · exact absurd k ht
  · exact k
 unfold tickA tickL
 rw [if_pos hl,if_pos hl]
 exact ⟨rfl,rfl⟩
theorem tick_rest {a:Au} (h:RightA a) (ht:Tm a.s):(tickA a).rest = a.rest - 1:=by
 have hr:=h
 obtain ⟨h1,h2,h3⟩:=h
 obtain ⟨l1,l2⟩:1≤a.l∧a.l≤3:=by
  rcases h3 with ⟨_,k⟩ | ⟨k,_⟩
  · exact k
  · exact absurd ht k
 have e:a.rest = a.l + 3 * a.c:=if_pos ht
 rw [e]
 unfold tickA
 rw [if_neg (by omega)]
 by_cases h1':1 < a.l
 · rw [if_pos h1']
   show (if Tm a.s then a.l - 1 + 3 * a.c else 0) = _
   rw [if_pos ht];omega
 rw [if_neg h1']
 by_cases h2':0 < a.c
 · rw [if_pos h2',(do_more (a:=downA a) ht (by show 1≤a.c∧a.c≤5;omega)).1]
   have ht2:Tm (if a.s = 7 then 6 else a.s):=by
    unfold Tm at *
    split <;> omega
   show (if Tm (if a.s = 7 then 6 else a.s) then 3 + 3 * (a.c - 1) else 0) = _
   rw [if_pos ht2];omega
 · rw [if_neg h2',(do_over (a:=downA a) ht).1]
   have ht2:¬ Tm (if a.s = 4 then 2 else 3):=by
    unfold Tm
    split <;> omega
   show (if Tm (if a.s = 4 then 2 else 3) then 0 + 3 * a.c else 0) = _
   rw [if_neg ht2];omega
/-- Behind so many ticks it is at rest. -/
theorem quiet_rest {a:Au} (h:RightA a) (hi:a.id < 256):∀ n:Nat,(quietA a n).rest = max 0 (a.rest - n)
 | 0=>by have:=rest_le h;simp [quietA];omega
 | n + 1=>by
   have ih:=quiet_rest h hi n
   have hr:=right_quiet h hi n
   have hl:=rest_le hr
   show (tickA (quietA a n)).rest = _
   by_cases ht:Tm (quietA a n).s
   · rw [tick_rest hr ht,ih]
     have:=fun k=>(hl.2.2.1 k) ht
     have h0:(quietA a n).rest≠0:=fun k=>this k
     omega
   · rw [(tick_still hr ht).1,ih]
     have h0:=hl.2.2.2 ht
     omega
theorem quiet_end {a:Au} (h:RightA a) (hi:a.id < 256) {n:Nat} (hn:18≤n):¬ Tm (quietA a n).s:=by
 have h1:=quiet_rest h hi n
 have h2:=rest_le h
 exact (rest_le (right_quiet h hi n)).2.2.1 (by omega)
theorem quiet_more {a:Au} (h:RightA a) (hi:a.id < 256) (m:Nat):∀ k,quietA a (18 + m + k) = quietA a (18 + m)
 | 0=>rfl
 | k + 1=>by
   show tickA (quietA a (18 + m + k)) = _
   rw [(tick_still (right_quiet h hi _) (quiet_end h hi (by omega))).1,quiet_more h hi m k]
end Fs
namespace Fs
def names:List ByteArray:=[⟨#[73,110,105,116,105,97,108]⟩,⟨#[83,116,97,114,116,105,110,103]⟩,⟨#[67,108,111,115,101,100]⟩,⟨#[83,116,111,112,112,101,100]⟩,⟨#[67,108,111,115,105,110,103]⟩,⟨#[83,116,111,112,112,105,110,103]⟩,⟨#[82,101,113,45,83,101,110,116]⟩,⟨#[65,99,107,45,82,99,118,100]⟩,⟨#[65,99,107,45,83,101,110,116]⟩,⟨#[79,112,101,110,101,100]⟩]
end Fs
end Go.Proofs.YticeibkffhdphaaDoor
namespace Go.Proofs.YticeibkffhdphaaDoor
set_option linter.unusedSimpArgs false
set_option linter.unusedVariables false
set_option maxRecDepth 100000
namespace Fs
theorem dec_ascii {s:ByteArray} {p:Nat} (h:(s.get! p).toNat < 128):Utf8.decode s p = ((s.get! p).toNat,1):=by
 unfold Utf8.decode
 simp only [Nat.add_zero]
 rw [if_pos h]
/-- A string of such bytes. -/
def Ascii (s:ByteArray):Prop:=∀ p,p < s.size->(s.get! p).toNat < 128
theorem Ascii.dec {s:ByteArray} (h:Ascii s) {p:Nat} (hp:p < s.size):Utf8.decode s p = ((s.get! p).toNat,1):=dec_ascii (h p hp)
end Fs
end Go.Proofs.YticeibkffhdphaaDoor
namespace Go.Proofs.YticeibkffhdphaaDoor
open Go.RowKit
set_option linter.unusedSimpArgs false
set_option linter.unusedVariables false
set_option maxRecDepth 100000
namespace Fs
/-- Is a byte a space? -/
def spN (n:Nat):Nat:=if n = 9 ∨ n = 10 ∨ n = 11 ∨ n = 12 ∨ n = 13 ∨ n = 32 then 1 else 0
theorem spN_le (n:Nat):spN n≤1:=by unfold spN;split <;> omega
def spD:List Data:=(List.range 256).map fun i=>.int .u8 (spN i:Nat)
/-- The table of spaces of the package strings. -/
structure Spaces (Γ:Nat->Option (List Data)):Prop where
 sp:Γ 0 = some spD
theorem sp_at (i:Nat) (h:i < 256):spD[i]? = some (.int .u8 (spN i:Nat)):=by simp [spD,h]
/-- A byte of a string. -/
def chN (s:ByteArray) (i:Nat):Nat:=(s.get! i).toNat
theorem chN_at {s:ByteArray} {i:Nat} (h:i < s.size):∃ b:UInt8,s[i]? = some b∧b.toNat = chN s i:=by
 refine ⟨s[i],getElem?_pos s i h,?_⟩
 unfold chN
 obtain ⟨a⟩:=s
 rw [show ByteArray.get! ⟨a⟩ i = a[i]'h from getElem!_pos a i h]
 rfl
def cntS (s:ByteArray):Nat->Nat × Nat × Nat
 | 0=>(0,1,0)
 | i + 1=>((cntS s i).1 + (if (cntS s i).2.1 = 1∧spN (chN s i) = 0 then 1 else 0),spN (chN s i),(cntS s i).2.2 ||| chN s i)
theorem cntS_is (s:ByteArray) (hs:Ascii s):∀ i,i≤s.size->(cntS s i).1≤i∧(cntS s i).2.1≤1∧(cntS s i).2.2 < 128
 | 0,_=>by simp [cntS]
 | i + 1,h=>by
   obtain ⟨h1,h2,h3⟩:=cntS_is s hs i (by omega)
   have h4:=hs i (by omega)
   refine ⟨?_,spN_le _,Nat.or_lt_two_pow (n:=7) h3 h4⟩
   unfold cntS
   dsimp only
   split <;> omega
theorem or_u8 {a b:Nat} (ha:a < 256) (hb:b < 256):orI .u8 a b = ((a ||| b:Nat):Int):=by
 have h:a ||| b < 2 ^ 8:=Nat.or_lt_two_pow (by simpa using ha) (by simpa using hb)
 unfold orI
 rw [IntKind.wrap_u8,BitVec.ofInt_natCast,BitVec.ofInt_natCast,BitVec.toNat_or,BitVec.toNat_ofNat,BitVec.toNat_ofNat,mod_of (show a < 2 ^ IntKind.u8.bits from ha),mod_of (show b < 2 ^ IntKind.u8.bits from hb)]
 omega
theorem andnot_bit {a b:Nat} (ha:a≤1) (hb:b≤1):andI .i64 a (notI .i64 b) = ((if a = 1∧b = 0 then 1 else 0:Nat):Int):=by
 have ha':a = 0 ∨ a = 1:=by omega
 have hb':b = 0 ∨ b = 1:=by omega
 rcases ha' with rfl | rfl <;> rcases hb' with rfl | rfl <;> decide
/-- The machine: k bytes are left;among spaces,or in a field that began at a place. -/
def finF (s:ByteArray) (n:Nat):Nat->Option Nat->List ByteArray->Option (List ByteArray)
 | 0,none,acc=>some acc
 | 0,some st,acc=>if st < s.size then (if acc.length < n then some (acc++[s.extract st s.size]) else none) else some acc
 | k + 1,none,acc=>if spN (chN s (s.size - (k + 1))) = 0 then finF s n k (some (s.size - (k + 1))) acc else finF s n k none acc
 | k + 1,some st,acc=>if spN (chN s (s.size - (k + 1))) = 0 then finF s n k (some st) acc else
    if acc.length < n then finF s n k none (acc++[s.extract st (s.size - (k + 1))]) else none
def fieldsF (s:ByteArray):Option (List ByteArray):=(finF s (cntS s s.size).1 s.size none []).filter fun r=>r.length = (cntS s s.size).1
theorem fin_sp {s:ByteArray} {n i:Nat} {acc:List ByteArray} (h:i < s.size) (hc:spN (chN s i) = 1):finF s n (s.size - i) none acc = finF s n (s.size - (i + 1)) none acc:=by
 obtain ⟨k,hk⟩:∃ k,s.size - i = k + 1:=⟨s.size - i - 1,by omega⟩
 have e:s.size - (i + 1) = k:=by omega
 have e2:s.size - (k + 1) = i:=by omega
 rw [hk,e,finF,e2,if_neg (by omega)]
theorem fin_go {s:ByteArray} {n i:Nat} {acc:List ByteArray} (h:i < s.size) (hc:spN (chN s i) = 0):finF s n (s.size - i) none acc = finF s n (s.size - i) (some i) acc:=by
 obtain ⟨k,hk⟩:∃ k,s.size - i = k + 1:=⟨s.size - i - 1,by omega⟩
 have e2:s.size - (k + 1) = i:=by omega
 rw [hk,finF,finF,e2,if_pos hc,if_pos hc]
theorem fin_in {s:ByteArray} {n i st:Nat} {acc:List ByteArray} (h:i < s.size) (hc:spN (chN s i) = 0):finF s n (s.size - i) (some st) acc = finF s n (s.size - (i + 1)) (some st) acc:=by
 obtain ⟨k,hk⟩:∃ k,s.size - i = k + 1:=⟨s.size - i - 1,by omega⟩
 have e:s.size - (i + 1) = k:=by omega
 have e2:s.size - (k + 1) = i:=by omega
 rw [hk,e,finF,e2,if_pos hc]
theorem fin_out {s:ByteArray} {n i st:Nat} {acc:List ByteArray} (h:i < s.size) (hc:spN (chN s i) = 1):finF s n (s.size - i) (some st) acc = if acc.length < n then finF s n (s.size - (i + 1)) none (acc++[s.extract st i]) else none:=by
 obtain ⟨k,hk⟩:∃ k,s.size - i = k + 1:=⟨s.size - i - 1,by omega⟩
 have e:s.size - (i + 1) = k:=by omega
 have e2:s.size - (k + 1) = i:=by omega
 rw [hk,e,finF,e2,if_neg (by omega)]
theorem fin_end {s:ByteArray} {n st:Nat} {acc:List ByteArray}:finF s n (s.size - s.size) (some st) acc = if st < s.size then (if acc.length < n then some (acc++[s.extract st s.size]) else none) else some acc:=by
 rw [Nat.sub_self,finF]
theorem fin_nil {s:ByteArray} {n:Nat} {acc:List ByteArray}:finF s n (s.size - s.size) none acc = finF s n (s.size - s.size) (some s.size) acc:=by
 rw [Nat.sub_self,finF,finF,if_neg (by omega)]
/-- The row of fields,so far. -/
def accD (n:Nat) (acc:List ByteArray):List D:=(acc++List.replicate (n - acc.length) ByteArray.empty).map fun b=>D.data (.str b)
theorem accD_length {n:Nat} {acc:List ByteArray} (h:acc.length≤n):(accD n acc).length = n:=by simp [accD];omega
theorem accD_set {n:Nat} {acc:List ByteArray} (h:acc.length < n) (b:ByteArray):(accD n acc).set acc.length (.data (.str b)) = accD n (acc++[b]):=by
 obtain ⟨m,hm⟩:∃ m,n - acc.length = m + 1:=⟨n - acc.length - 1,by omega⟩
 unfold accD
 rw [hm,List.map_append,List.set_append_right _ _ (by simp),List.length_append,List.length_singleton,show n - (acc.length + 1) = m by omega]
 simp [List.replicate_succ]
theorem accD_plain (n:Nat) (acc:List ByteArray):(accD n acc).all plainD = true:=by
 rw [List.all_eq_true]
 intro x hx
 obtain ⟨b,_,rfl⟩:=List.mem_map.1 hx
 rfl
theorem accD_full {n:Nat} {acc:List ByteArray} (h:acc.length = n):accD n acc = acc.map fun b=>D.data (.str b):=by
 unfold accD
 rw [h,Nat.sub_self]
 simp
def strsD (l:List ByteArray):List Data:=l.map .str
theorem frz_strs {ok:Bool} {H:Nat->Blk} {g n:Nat} {rw:Bool} {l:List ByteArray} (hg:H g = .blk rw (l.map fun b=>D.data (.str b))) (hrw:ok = true ∨ rw = false) (hn:l.length = n):Frz ok H (.ref g 0 n 1) (.sl 1 (strsD l)):=by
 unfold strsD
 refine frz_ref hg hrw (by simpa using hn) (fun x hx=>?_) ?_
 · obtain ⟨p,_,rfl⟩:=List.mem_map.1 hx
   rfl
 · clear hg hn
   induction l with
   | nil=>rfl
   | cons a l ih =>
     simp only [List.map_cons] at ih ⊢
     rw [ih]
     rfl
section
variable (Γ:Nat->Option (List Data))
set_option maxHeartbeats 4000000 in
theorem fields_pc (hΓ:Spaces Γ) (s:ByteArray) (hs:Ascii s) (hl:s.size≤100000) (r:List ByteArray) (hr:fieldsF s = some r):PC Tryd.prog Γ 29 [.str s] (.sl 1 (strsD r)):=by
 refine pc_by mixed Tryd.func29 rfl (fun args w=>Tryd.call29 args w) ?_
 obtain ⟨hfin,hlen⟩:finF s (cntS s s.size).1 s.size none [] = some r∧r.length = (cntS s s.size).1:=by
  unfold fieldsF at hr
  rw [Option.filter_eq_some_iff] at hr
  exact ⟨hr.1,by simpa using hr.2⟩
 clear hr
 simp -implicitDefEqProofs (disch:=omega) [go_sem]
 refine loop_ren (σ:={ i:Nat // i≤s.size }) (fun i=>⟨envL [(0,.data (.str s)),(3,.data (.int .i64 (cntS s i.1).1)),(4,.data (.int .i64 (cntS s i.1).2.1)),(5,.data (.int .u8 (cntS s i.1).2.2)),(6,.data (.int .i64 i.1))],hpL [],0,0,106⟩) (fun i=>s.size - i.1) ⟨0,by omega⟩ [] (rhoL []) ?_ ?_
 · apply ren_lists <;> simp -implicitDefEqProofs [go_sem,cntS]
 rintro ⟨i,hi⟩
 obtain ⟨b1,b2,b3⟩:=cntS_is s hs i hi
 by_cases h:i < s.size
 · obtain ⟨c,hc,hcn⟩:=chN_at h
   have hlt:=hs i h
   have hlt':chN s i < 128:=hlt
   have hsp:=sp_at (chN s i) (by omega)
   have hn:cntS s (i + 1) = ((cntS s i).1 + (if (cntS s i).2.1 = 1∧spN (chN s i) = 0 then 1 else 0),spN (chN s i),(cntS s i).2.2 ||| chN s i):=rfl
   have hp:=spN_le (chN s i)
   generalize cntS s i = q at *
   obtain ⟨n,w,b⟩:=q
   dsimp only at *
   have e1:=or_u8 (a:=b) (b:=chN s i) (by omega) (by omega)
   have e2:=andnot_bit b2 hp
   have hz:(if w = 1∧spN (chN s i) = 0 then 1 else 0)≤1:=by split <;> omega
   generalize (if w = 1∧spN (chN s i) = 0 then 1 else 0) = z at *
   generalize spN (chN s i) = p at *
   have hnot:∃ m:Int,notI .i64 p = m:=⟨_,rfl⟩
   obtain ⟨m,hm⟩:=hnot
   rw [hm] at e2
   simp -implicitDefEqProofs (disch:=omega) [-getElem?_pos,go_sem,hc,hcn,evalD_global _ _ hΓ.sp,hsp]
   refine next_ren ⟨i + 1,by omega⟩ (by simp only;omega) [] (rhoL []) ?_
   apply ren_lists <;> simp -implicitDefEqProofs [go_sem,hn]
   refine ⟨?_,e1.symm⟩
   rw [hm,e2,IntKind.wrap_i64]
   omega
 have hie:i = s.size:=by omega
 subst hie
 have hp:(cntS s s.size).1≤100000:=by omega
 generalize cntS s s.size = q at *
 obtain ⟨n,w,b⟩:=q
 dsimp only at *
 have b4:¬ (128:Int)≤b:=by omega
 simp -implicitDefEqProofs (disch:=omega) [-getElem?_pos,go_sem,b4]
 have hac:∀ acc:List ByteArray,acc.length≤n->(accD n acc).length = n:=fun acc h=>accD_length h
 refine loop_ren (σ:={ i:Nat // i≤s.size∧finF s n (s.size - i) none [] = some r }) (fun i=>⟨envL [(0,.data (.str s)),(9,.ref 0 0 n 1),(10,.data (.int .i64 0)),(12,.data (.int .i64 i.1))],hpL [(0,.blk true (accD n []))],1,0,106⟩) (fun i=>s.size - i.1) ⟨0,by omega,hfin⟩ [] (rhoL [(0,some 7)]) ?_ ?_
 · apply ren_lists <;> simp -implicitDefEqProofs [go_sem]
   exact renCells_plain (by simp [accD]) (accD_plain n [])
 clear hfin
 rintro ⟨i,hi,hf⟩
 by_cases g1:i < s.size
 · obtain ⟨c,hc,hcn⟩:=chN_at g1
   have hlt':chN s i < 128:=hs i g1
   have hsp:=sp_at (chN s i) (by omega)
   rcases (show spN (chN s i) = 0 ∨ spN (chN s i) = 1 by have:=spN_le (chN s i);omega) with h2 | h2
   · rw [h2] at hsp
     have hf3:=fin_go (n:=n) (acc:=[]) g1 h2
     rw [hf] at hf3
     replace hf3:=hf3.symm
     simp -implicitDefEqProofs (disch:=omega) [-getElem?_pos,go_sem,hc,hcn,evalD_global _ _ hΓ.sp,hsp]
     clear hc hcn hsp g1 h2
     refine loop_ren (σ:={ x:Nat × Nat × List ByteArray // x.1≤s.size∧x.2.1≤x.1∧x.2.2.length≤n∧finF s n (s.size - x.1) (some x.2.1) x.2.2 = some r }) (fun x=>⟨envL [(0,.data (.str s)),(9,.ref 0 0 n 1),(10,.data (.int .i64 x.1.2.2.length)),(11,.data (.int .i64 x.1.2.1)),(12,.data (.int .i64 x.1.1))],hpL [(0,.blk true (accD n x.1.2.2))],1,0,106⟩) (fun x=>s.size - x.1.1) ⟨(i,i,[]),hi,Nat.le_refl _,Nat.zero_le _,hf3⟩ [] (rhoL [(0,some 0)]) ?_ ?_
     · apply ren_lists <;> simp -implicitDefEqProofs [go_sem]
       exact renCells_plain rfl (accD_plain n [])
     clear hf hf3 hi hac
     rintro ⟨⟨j,st,acc⟩,hj,hst,hac,hf⟩
     dsimp only at hj hst hac hf
     by_cases h1:j < s.size
     · obtain ⟨c,hc,hcn⟩:=chN_at h1
       have hlt':chN s j < 128:=hs j h1
       have hsp:=sp_at (chN s j) (by omega)
       rcases (show spN (chN s j) = 0 ∨ spN (chN s j) = 1 by have:=spN_le (chN s j);omega) with h2 | h2
       · rw [h2] at hsp
         have hf2:=fin_in (n:=n) (acc:=acc) (st:=st) h1 h2
         rw [hf] at hf2
         simp -implicitDefEqProofs (disch:=omega) [-getElem?_pos,go_sem,hc,hcn,evalD_global _ _ hΓ.sp,hsp]
         refine next_ren ⟨(j + 1,st,acc),by simp only;omega,by simp only;omega,hac,hf2.symm⟩ (by simp only;omega) [] (rhoL [(0,some 0)]) ?_
         apply ren_lists <;> simp -implicitDefEqProofs [go_sem]
         exact renCells_plain rfl (accD_plain n _)
       · rw [h2] at hsp
         rw [fin_out h1 h2] at hf
         by_cases hn:acc.length < n
         rotate_left
         · rw [if_neg hn] at hf;cases hf
         rw [if_pos hn] at hf
         have hset:=accD_set hn (s.extract st j)
         have hln:(accD n acc).length = n:=accD_length hac
         have hln2:(acc++[s.extract st j]).length = acc.length + 1:=by simp
         simp -implicitDefEqProofs (disch:=omega) [-getElem?_pos,go_sem,hc,hcn,evalD_global _ _ hΓ.sp,hsp,hln]
         simp -implicitDefEqProofs only [over,hset]
         generalize acc++[s.extract st j] = acc' at *
         refine loop_ren (σ:={ x:Nat // j < x∧x≤s.size∧finF s n (s.size - x) none acc' = some r }) (fun x=>⟨envL [(0,.data (.str s)),(9,.ref 0 0 n 1),(10,.data (.int .i64 acc'.length)),(12,.data (.int .i64 x.1))],hpL [(0,.blk true (accD n acc'))],1,0,106⟩) (fun x=>s.size - x.1) ⟨j + 1,by omega,by omega,hf⟩ [] (rhoL [(0,some 0)]) ?_ ?_
         · apply ren_lists <;> simp -implicitDefEqProofs [go_sem,hln2]
           exact renCells_plain rfl (accD_plain n _)
         clear hf
         rintro ⟨x,hx1,hx2,hf⟩
         by_cases g1:x < s.size
         · obtain ⟨c,hc,hcn⟩:=chN_at g1
           have hlt':chN s x < 128:=hs x g1
           have hsp:=sp_at (chN s x) (by omega)
           rcases (show spN (chN s x) = 0 ∨ spN (chN s x) = 1 by have:=spN_le (chN s x);omega) with g2 | g2
           · rw [g2] at hsp
             have hf2:=fin_go (n:=n) (acc:=acc') g1 g2
             rw [hf] at hf2
             simp -implicitDefEqProofs (disch:=omega) [-getElem?_pos,go_sem,hc,hcn,evalD_global _ _ hΓ.sp,hsp]
             refine next_ren ⟨(x,x,acc'),hx2,Nat.le_refl _,by simp only;omega,hf2.symm⟩ (by simp only;omega) [] (rhoL [(0,some 0)]) ?_
             apply ren_lists <;> simp -implicitDefEqProofs [go_sem]
             exact renCells_plain rfl (accD_plain n _)
           · rw [g2] at hsp
             have hf2:=fin_sp (n:=n) (acc:=acc') g1 g2
             rw [hf] at hf2
             simp -implicitDefEqProofs (disch:=omega) [-getElem?_pos,go_sem,hc,hcn,evalD_global _ _ hΓ.sp,hsp]
             refine next_ren ⟨x + 1,by omega,by omega,hf2.symm⟩ (by simp only;omega) [] (rhoL [(0,some 0)]) ?_
             apply ren_lists <;> simp -implicitDefEqProofs [go_sem]
             exact renCells_plain rfl (accD_plain n _)
         · have:x = s.size:=by omega
           subst this
           rw [fin_nil] at hf
           simp -implicitDefEqProofs (disch:=omega) [-getElem?_pos,go_sem]
           refine next_ren ⟨(s.size,s.size,acc'),Nat.le_refl _,Nat.le_refl _,by simp only;omega,hf⟩ (by simp only;omega) [] (rhoL [(0,some 0)]) ?_
           apply ren_lists <;> simp -implicitDefEqProofs [go_sem]
           exact renCells_plain rfl (accD_plain n _)
     · have:j = s.size:=by omega
       subst this
       rw [fin_end] at hf
       by_cases k1:st < s.size
       · rw [if_pos k1] at hf
         by_cases hn:acc.length < n
         rotate_left
         · rw [if_neg hn] at hf;cases hf
         rw [if_pos hn] at hf
         have hset:=accD_set hn (s.extract st s.size)
         have hln:(accD n acc).length = n:=accD_length hac
         obtain rfl:=Option.some.inj hf
         rw [accD_full hlen] at hset
         simp -implicitDefEqProofs (disch:=omega) [-getElem?_pos,go_sem,hln]
         simp -implicitDefEqProofs (disch:=omega) [go_sem,over,hset,Tryd.f29]
         exact ⟨_,⟨_,rfl,frz_strs (rw:=true) (by simp [Hp.upd,Hp.set,hset]) (.inl rfl) hlen⟩,rfl⟩
       · rw [if_neg k1] at hf
         obtain rfl:=Option.some.inj hf
         simp -implicitDefEqProofs (disch:=omega) [-getElem?_pos,go_sem,Tryd.f29]
         exact ⟨_,⟨_,rfl,frz_strs (rw:=true) (by rw [accD_full hlen];rfl) (.inl rfl) hlen⟩,rfl⟩
   · rw [h2] at hsp
     have hf2:=fin_sp (n:=n) (acc:=[]) g1 h2
     rw [hf] at hf2
     simp -implicitDefEqProofs (disch:=omega) [-getElem?_pos,go_sem,hc,hcn,evalD_global _ _ hΓ.sp,hsp]
     refine next_ren ⟨i + 1,by omega,hf2.symm⟩ (by simp only;omega) [] (rhoL [(0,some 0)]) ?_
     apply ren_lists <;> simp -implicitDefEqProofs [go_sem]
     exact renCells_plain rfl (accD_plain n [])
 · have:i = s.size:=by omega
   subst this
   have hf3:=hf
   rw [fin_nil] at hf3
   simp -implicitDefEqProofs (disch:=omega) [-getElem?_pos,go_sem]
   refine loop_ren (σ:={ x:Nat × Nat × List ByteArray // x.1≤s.size∧x.2.1≤x.1∧x.2.2.length≤n∧finF s n (s.size - x.1) (some x.2.1) x.2.2 = some r }) (fun x=>⟨envL [(0,.data (.str s)),(9,.ref 0 0 n 1),(10,.data (.int .i64 x.1.2.2.length)),(11,.data (.int .i64 x.1.2.1)),(12,.data (.int .i64 x.1.1))],hpL [(0,.blk true (accD n x.1.2.2))],1,0,106⟩) (fun x=>s.size - x.1.1) ⟨(s.size,s.size,[]),hi,Nat.le_refl _,Nat.zero_le _,hf3⟩ [] (rhoL [(0,some 0)]) ?_ ?_
   · apply ren_lists <;> simp -implicitDefEqProofs [go_sem]
     exact renCells_plain rfl (accD_plain n [])
   clear hf hf3 hi hac
   rintro ⟨⟨j,st,acc⟩,hj,hst,hac,hf⟩
   dsimp only at hj hst hac hf
   by_cases h1:j < s.size
   · obtain ⟨c,hc,hcn⟩:=chN_at h1
     have hlt':chN s j < 128:=hs j h1
     have hsp:=sp_at (chN s j) (by omega)
     rcases (show spN (chN s j) = 0 ∨ spN (chN s j) = 1 by have:=spN_le (chN s j);omega) with h2 | h2
     · rw [h2] at hsp
       have hf2:=fin_in (n:=n) (acc:=acc) (st:=st) h1 h2
       rw [hf] at hf2
       simp -implicitDefEqProofs (disch:=omega) [-getElem?_pos,go_sem,hc,hcn,evalD_global _ _ hΓ.sp,hsp]
       refine next_ren ⟨(j + 1,st,acc),by simp only;omega,by simp only;omega,hac,hf2.symm⟩ (by simp only;omega) [] (rhoL [(0,some 0)]) ?_
       apply ren_lists <;> simp -implicitDefEqProofs [go_sem]
       exact renCells_plain rfl (accD_plain n _)
     · rw [h2] at hsp
       rw [fin_out h1 h2] at hf
       by_cases hn:acc.length < n
       rotate_left
       · rw [if_neg hn] at hf;cases hf
       rw [if_pos hn] at hf
       have hset:=accD_set hn (s.extract st j)
       have hln:(accD n acc).length = n:=accD_length hac
       have hln2:(acc++[s.extract st j]).length = acc.length + 1:=by simp
       simp -implicitDefEqProofs (disch:=omega) [-getElem?_pos,go_sem,hc,hcn,evalD_global _ _ hΓ.sp,hsp,hln]
       simp -implicitDefEqProofs only [over,hset]
       generalize acc++[s.extract st j] = acc' at *
       refine loop_ren (σ:={ x:Nat // j < x∧x≤s.size∧finF s n (s.size - x) none acc' = some r }) (fun x=>⟨envL [(0,.data (.str s)),(9,.ref 0 0 n 1),(10,.data (.int .i64 acc'.length)),(12,.data (.int .i64 x.1))],hpL [(0,.blk true (accD n acc'))],1,0,106⟩) (fun x=>s.size - x.1) ⟨j + 1,by omega,by omega,hf⟩ [] (rhoL [(0,some 0)]) ?_ ?_
       · apply ren_lists <;> simp -implicitDefEqProofs [go_sem,hln2]
         exact renCells_plain rfl (accD_plain n _)
       clear hf
       rintro ⟨x,hx1,hx2,hf⟩
       by_cases g1:x < s.size
       · obtain ⟨c,hc,hcn⟩:=chN_at g1
         have hlt':chN s x < 128:=hs x g1
         have hsp:=sp_at (chN s x) (by omega)
         rcases (show spN (chN s x) = 0 ∨ spN (chN s x) = 1 by have:=spN_le (chN s x);omega) with g2 | g2
         · rw [g2] at hsp
           have hf2:=fin_go (n:=n) (acc:=acc') g1 g2
           rw [hf] at hf2
           simp -implicitDefEqProofs (disch:=omega) [-getElem?_pos,go_sem,hc,hcn,evalD_global _ _ hΓ.sp,hsp]
           refine next_ren ⟨(x,x,acc'),hx2,Nat.le_refl _,by simp only;omega,hf2.symm⟩ (by simp only;omega) [] (rhoL [(0,some 0)]) ?_
           apply ren_lists <;> simp -implicitDefEqProofs [go_sem]
           exact renCells_plain rfl (accD_plain n _)
         · rw [g2] at hsp
           have hf2:=fin_sp (n:=n) (acc:=acc') g1 g2
           rw [hf] at hf2
           simp -implicitDefEqProofs (disch:=omega) [-getElem?_pos,go_sem,hc,hcn,evalD_global _ _ hΓ.sp,hsp]
           refine next_ren ⟨x + 1,by omega,by omega,hf2.symm⟩ (by simp only;omega) [] (rhoL [(0,some 0)]) ?_
           apply ren_lists <;> simp -implicitDefEqProofs [go_sem]
           exact renCells_plain rfl (accD_plain n _)
       · have:x = s.size:=by omega
         subst this
         rw [fin_nil] at hf
         simp -implicitDefEqProofs (disch:=omega) [-getElem?_pos,go_sem]
         refine next_ren ⟨(s.size,s.size,acc'),Nat.le_refl _,Nat.le_refl _,by simp only;omega,hf⟩ (by simp only;omega) [] (rhoL [(0,some 0)]) ?_
         apply ren_lists <;> simp -implicitDefEqProofs [go_sem]
         exact renCells_plain rfl (accD_plain n _)
   · have:j = s.size:=by omega
     subst this
     rw [fin_end] at hf
     by_cases k1:st < s.size
     · rw [if_pos k1] at hf
       by_cases hn:acc.length < n
       rotate_left
       · rw [if_neg hn] at hf;cases hf
       rw [if_pos hn] at hf
       have hset:=accD_set hn (s.extract st s.size)
       have hln:(accD n acc).length = n:=accD_length hac
       obtain rfl:=Option.some.inj hf
       rw [accD_full hlen] at hset
       simp -implicitDefEqProofs (disch:=omega) [-getElem?_pos,go_sem,hln]
       simp -implicitDefEqProofs (disch:=omega) [go_sem,over,hset,Tryd.f29]
       exact ⟨_,⟨_,rfl,frz_strs (rw:=true) (by simp [Hp.upd,Hp.set,hset]) (.inl rfl) hlen⟩,rfl⟩
     · rw [if_neg k1] at hf
       obtain rfl:=Option.some.inj hf
       simp -implicitDefEqProofs (disch:=omega) [-getElem?_pos,go_sem,Tryd.f29]
       exact ⟨_,⟨_,rfl,frz_strs (rw:=true) (by rw [accD_full hlen];rfl) (.inl rfl) hlen⟩,rfl⟩
end
end Fs
namespace Fs
/-- The table's rows,as the program writes them,and their fields. -/
def rowsB:List ByteArray:=[⟨#[50,32,32,105,114,54,32,45,32,32,32,45,32,32,32,32,45,32,32,45,32,32,45,32,32,32,45,32,32,32,45,32,32,32,45]⟩,⟨#[45,32,32,45,32,32,32,48,32,32,32,116,49,32,32,32,48,32,32,49,32,32,49,32,32,32,49,32,32,32,49,32,32,32,100,49]⟩,⟨#[116,49,32,49,32,32,32,105,114,54,32,51,32,32,32,32,53,32,32,53,32,32,54,32,32,32,55,32,32,32,56,32,32,32,57]⟩,⟨#[48,32,32,102,48,32,32,50,32,32,32,50,32,32,32,32,52,32,32,52,32,32,105,115,52,32,105,115,52,32,105,115,52,32,100,105,115,52]⟩,⟨#[45,32,32,45,32,32,32,45,32,32,32,45,32,32,32,32,115,52,32,115,53,32,114,54,32,32,114,54,32,32,114,56,32,32,45]⟩,⟨#[45,32,32,45,32,32,32,45,32,32,32,45,32,32,32,32,102,50,32,102,51,32,102,51,32,32,102,51,32,32,102,51,32,32,45]⟩,⟨#[45,32,32,45,32,32,32,107,50,32,32,105,114,97,56,32,52,32,32,53,32,32,97,56,32,32,97,117,57,32,97,56,32,32,100,114,97,56]⟩,⟨#[45,32,32,45,32,32,32,107,50,32,32,105,114,110,54,32,52,32,32,53,32,32,110,54,32,32,110,55,32,32,110,54,32,32,100,114,110,54]⟩,⟨#[45,32,32,45,32,32,32,107,50,32,32,107,51,32,32,32,52,32,32,53,32,32,105,55,32,32,114,54,32,32,105,117,57,32,100,114,54]⟩,⟨#[45,32,32,45,32,32,32,107,50,32,32,107,51,32,32,32,52,32,32,53,32,32,105,114,54,32,114,54,32,32,105,114,56,32,100,114,54]⟩,⟨#[45,32,32,45,32,32,32,107,50,32,32,107,51,32,32,32,107,52,32,107,53,32,107,54,32,32,107,54,32,32,107,54,32,32,100,122,107,53]⟩,⟨#[45,32,32,45,32,32,32,50,32,32,32,51,32,32,32,32,102,50,32,102,51,32,54,32,32,32,54,32,32,32,56,32,32,32,100,114,54]⟩,⟨#[45,32,32,45,32,32,32,106,50,32,32,106,51,32,32,32,106,52,32,106,53,32,106,54,32,32,106,55,32,32,106,56,32,32,106,57]⟩,⟨#[45,32,32,45,32,32,32,50,32,32,32,51,32,32,32,32,52,32,32,53,32,32,54,32,32,32,54,32,32,32,56,32,32,32,57]⟩,⟨#[45,32,32,45,32,32,32,102,50,32,32,102,51,32,32,32,102,50,32,102,51,32,102,51,32,32,102,51,32,32,102,51,32,32,100,105,115,53]⟩,⟨#[45,32,32,45,32,32,32,50,32,32,32,51,32,32,32,32,52,32,32,53,32,32,54,32,32,32,55,32,32,32,56,32,32,32,101,57]⟩]
def fldsB:List (List ByteArray):=[[⟨#[50]⟩,⟨#[105,114,54]⟩,⟨#[45]⟩,⟨#[45]⟩,⟨#[45]⟩,⟨#[45]⟩,⟨#[45]⟩,⟨#[45]⟩,⟨#[45]⟩,⟨#[45]⟩],
 [⟨#[45]⟩,⟨#[45]⟩,⟨#[48]⟩,⟨#[116,49]⟩,⟨#[48]⟩,⟨#[49]⟩,⟨#[49]⟩,⟨#[49]⟩,⟨#[49]⟩,⟨#[100,49]⟩],
 [⟨#[116,49]⟩,⟨#[49]⟩,⟨#[105,114,54]⟩,⟨#[51]⟩,⟨#[53]⟩,⟨#[53]⟩,⟨#[54]⟩,⟨#[55]⟩,⟨#[56]⟩,⟨#[57]⟩],
 [⟨#[48]⟩,⟨#[102,48]⟩,⟨#[50]⟩,⟨#[50]⟩,⟨#[52]⟩,⟨#[52]⟩,⟨#[105,115,52]⟩,⟨#[105,115,52]⟩,⟨#[105,115,52]⟩,⟨#[100,105,115,52]⟩],
 [⟨#[45]⟩,⟨#[45]⟩,⟨#[45]⟩,⟨#[45]⟩,⟨#[115,52]⟩,⟨#[115,53]⟩,⟨#[114,54]⟩,⟨#[114,54]⟩,⟨#[114,56]⟩,⟨#[45]⟩],
 [⟨#[45]⟩,⟨#[45]⟩,⟨#[45]⟩,⟨#[45]⟩,⟨#[102,50]⟩,⟨#[102,51]⟩,⟨#[102,51]⟩,⟨#[102,51]⟩,⟨#[102,51]⟩,⟨#[45]⟩],
 [⟨#[45]⟩,⟨#[45]⟩,⟨#[107,50]⟩,⟨#[105,114,97,56]⟩,⟨#[52]⟩,⟨#[53]⟩,⟨#[97,56]⟩,⟨#[97,117,57]⟩,⟨#[97,56]⟩,⟨#[100,114,97,56]⟩],
 [⟨#[45]⟩,⟨#[45]⟩,⟨#[107,50]⟩,⟨#[105,114,110,54]⟩,⟨#[52]⟩,⟨#[53]⟩,⟨#[110,54]⟩,⟨#[110,55]⟩,⟨#[110,54]⟩,⟨#[100,114,110,54]⟩],
 [⟨#[45]⟩,⟨#[45]⟩,⟨#[107,50]⟩,⟨#[107,51]⟩,⟨#[52]⟩,⟨#[53]⟩,⟨#[105,55]⟩,⟨#[114,54]⟩,⟨#[105,117,57]⟩,⟨#[100,114,54]⟩],
 [⟨#[45]⟩,⟨#[45]⟩,⟨#[107,50]⟩,⟨#[107,51]⟩,⟨#[52]⟩,⟨#[53]⟩,⟨#[105,114,54]⟩,⟨#[114,54]⟩,⟨#[105,114,56]⟩,⟨#[100,114,54]⟩],
 [⟨#[45]⟩,⟨#[45]⟩,⟨#[107,50]⟩,⟨#[107,51]⟩,⟨#[107,52]⟩,⟨#[107,53]⟩,⟨#[107,54]⟩,⟨#[107,54]⟩,⟨#[107,54]⟩,⟨#[100,122,107,53]⟩],
 [⟨#[45]⟩,⟨#[45]⟩,⟨#[50]⟩,⟨#[51]⟩,⟨#[102,50]⟩,⟨#[102,51]⟩,⟨#[54]⟩,⟨#[54]⟩,⟨#[56]⟩,⟨#[100,114,54]⟩],
 [⟨#[45]⟩,⟨#[45]⟩,⟨#[106,50]⟩,⟨#[106,51]⟩,⟨#[106,52]⟩,⟨#[106,53]⟩,⟨#[106,54]⟩,⟨#[106,55]⟩,⟨#[106,56]⟩,⟨#[106,57]⟩],
 [⟨#[45]⟩,⟨#[45]⟩,⟨#[50]⟩,⟨#[51]⟩,⟨#[52]⟩,⟨#[53]⟩,⟨#[54]⟩,⟨#[54]⟩,⟨#[56]⟩,⟨#[57]⟩],
 [⟨#[45]⟩,⟨#[45]⟩,⟨#[102,50]⟩,⟨#[102,51]⟩,⟨#[102,50]⟩,⟨#[102,51]⟩,⟨#[102,51]⟩,⟨#[102,51]⟩,⟨#[102,51]⟩,⟨#[100,105,115,53]⟩],
 [⟨#[45]⟩,⟨#[45]⟩,⟨#[50]⟩,⟨#[51]⟩,⟨#[52]⟩,⟨#[53]⟩,⟨#[54]⟩,⟨#[55]⟩,⟨#[56]⟩,⟨#[101,57]⟩]]
def rowB (e:Nat):ByteArray:=rowsB.getD e ByteArray.empty
def fldB (e:Nat):List ByteArray:=fldsB.getD e []
def doesB (e s:Nat):ByteArray:=(fldB e).getD s ByteArray.empty
def dashB:ByteArray:=⟨#[45]⟩
/-- The action of a letter. -/
def codeN (c:Nat):Option Nat:=if c = 117 then some 1 else if c = 100 then some 2 else if c = 116 then some 3 else if c = 102 then some 4 else if c = 105 then some 5 else if c = 122 then some 6 else if c = 114 then some 7 else if c = 97 then some 8 else if c = 110 then some 9 else if c = 115 then some 10 else if c = 107 then some 11 else if c = 106 then some 12 else if c = 101 then some 13 else none
def meantS (s:ByteArray):Nat->List Int × Int
 | 0=>([],0)
 | i + 1=>match codeN (chN s i) with
   | some a=>((meantS s i).1++[(a:Int)],(meantS s i).2)
   | none=>((meantS s i).1,(chN s i:Int) - 48)
def meantF (s:ByteArray):List Int × Int:=meantS s s.size
theorem meantS_len (s:ByteArray):∀ i,(meantS s i).1.length≤i
 | 0=>by simp [meantS]
 | i + 1=>by
   have:=meantS_len s i
   unfold meantS
   split <;> simp <;> omega
theorem rows_asc:∀ e,e < 16->Ascii (rowB e):=by
 have h:∀ e,e < 16->∀ p,p < (rowB e).size->((rowB e).get! p).toNat < 128:=by decide +kernel
 exact h
theorem rows_size:∀ e,e < 16->(rowB e).size≤100:=by decide +kernel
theorem rows_flds:∀ e,e < 16->fieldsF (rowB e) = some (fldB e):=by decide +kernel
theorem flds_len:∀ e,e < 16->(fldB e).length = 10:=by decide +kernel
theorem does_asc:∀ e,e < 16->∀ s,s < 10->Ascii (doesB e s):=by
 have h:∀ e,e < 16->∀ s,s < 10->∀ p,p < (doesB e s).size->((doesB e s).get! p).toNat < 128:=by decide +kernel
 exact h
theorem does_size:∀ e,e < 16->∀ s,s < 10->(doesB e s).size≤100:=by decide +kernel
/-- What the program's table says,is the document's. -/
theorem table_is:∀ e:Nat,e < 16->∀ s:Nat,s < 10->nextF s e = if doesB e s = dashB then ([],(s:Int),false) else ((meantF (doesB e s)).1,(meantF (doesB e s)).2,true):=by decide +kernel
section
variable (Γ:Nat->Option (List Data))
def lettersD:Data:=.mp [.int .i32 117,.int .i32 100,.int .i32 116,.int .i32 102,.int .i32 105,.int .i32 122,.int .i32 114,.int .i32 97,.int .i32 110,.int .i32 115,.int .i32 107,.int .i32 106,.int .i32 101] [.int .i64 1,.int .i64 2,.int .i64 3,.int .i64 4,.int .i64 5,.int .i64 6,.int .i64 7,.int .i64 8,.int .i64 9,.int .i64 10,.int .i64 11,.int .i64 12,.int .i64 13]
set_option maxHeartbeats 4000000 in
theorem letters_pc:PC Tryd.prog Γ 48 [] lettersD:=by
 refine pc_by mixed Tryd.func48 rfl (fun args w=>Tryd.call48 args w) ?_
 simp -implicitDefEqProofs (disch:=omega) [go_sem,Tryd.f48]
 refine ⟨_,⟨_,rfl,.mref _ [.int .i32 117,.int .i32 100,.int .i32 116,.int .i32 102,.int .i32 105,.int .i32 122,.int .i32 114,.int .i32 97,.int .i32 110,.int .i32 115,.int .i32 107,.int .i32 106,.int .i32 101] [.int .i64 1,.int .i64 2,.int .i64 3,.int .i64 4,.int .i64 5,.int .i64 6,.int .i64 7,.int .i64 8,.int .i64 9,.int .i64 10,.int .i64 11,.int .i64 12,.int .i64 13] _ rfl rfl rfl ?_⟩,rfl⟩
 intro i d x hd hx
 rcases i with _ | _ | _ | _ | _ | _ | _ | _ | _ | _ | _ | _ | _ | i
 all_goals simp at hd hx
 all_goals subst hd hx
 all_goals exact .data _
theorem known_pc (s:Int):PC Tryd.prog Γ 28 [.int .i64 s] (.bool (decide (0≤s∧s < 10))):=by
 refine pc_by mixed Tryd.func28 rfl (fun args w=>Tryd.call28 args w) ?_
 by_cases h1:0≤s
 · by_cases h2:s < 10
   · rw [decide_eq_true ⟨h1,h2⟩]
     simp -implicitDefEqProofs (disch:=omega) [go_sem,Tryd.f28]
   · rw [decide_eq_false fun h=>h2 h.2]
     simp -implicitDefEqProofs (disch:=omega) [go_sem,Tryd.f28]
 · rw [decide_eq_false fun h=>h1 h.1]
   simp -implicitDefEqProofs (disch:=omega) [go_sem,Tryd.f28]
theorem timed_pc (s:Int):PC Tryd.prog Γ 27 [.int .i64 s] (.bool (decide (4≤s∧s≤8))):=by
 refine pc_by mixed Tryd.func27 rfl (fun args w=>Tryd.call27 args w) ?_
 by_cases h1:4≤s
 · by_cases h2:s≤8
   · rw [decide_eq_true ⟨h1,h2⟩]
     simp -implicitDefEqProofs (disch:=omega) [go_sem,Tryd.f27]
   · rw [decide_eq_false fun h=>h2 h.2]
     simp -implicitDefEqProofs (disch:=omega) [go_sem,Tryd.f27]
 · rw [decide_eq_false fun h=>h1 h.1]
   simp -implicitDefEqProofs (disch:=omega) [go_sem,Tryd.f27]
set_option maxHeartbeats 4000000 in
theorem row_pc (e:Nat) (h:e < 16):PC Tryd.prog Γ 30 [.int .i64 e] (.str (rowB e)):=by
 refine pc_by mixed Tryd.func30 rfl (fun args w=>Tryd.call30 args w) ?_
 have hs:e = 0 ∨ e = 1 ∨ e = 2 ∨ e = 3 ∨ e = 4 ∨ e = 5 ∨ e = 6 ∨ e = 7 ∨ e = 8 ∨ e = 9 ∨ e = 10 ∨ e = 11 ∨ e = 12 ∨ e = 13 ∨ e = 14 ∨ e = 15:=by omega
 rcases hs with rfl | rfl | rfl | rfl | rfl | rfl | rfl | rfl | rfl | rfl | rfl | rfl | rfl | rfl | rfl | rfl
 all_goals
  simp -implicitDefEqProofs (disch:=omega) [go_sem,Tryd.f30]
  rfl
theorem code_some {c a:Nat} (h:codeN c = some a):(c = 117∧a = 1) ∨ (c = 100∧a = 2) ∨ (c = 116∧a = 3) ∨ (c = 102∧a = 4) ∨ (c = 105∧a = 5) ∨ (c = 122∧a = 6) ∨ (c = 114∧a = 7) ∨ (c = 97∧a = 8) ∨ (c = 110∧a = 9) ∨ (c = 115∧a = 10) ∨ (c = 107∧a = 11) ∨ (c = 106∧a = 12) ∨ (c = 101∧a = 13):=by
 unfold codeN at h
 by_cases k0:c = 117
 · rw [if_pos k0] at h
   have:=Option.some.inj h
   exact .inl ⟨k0,this.symm⟩
 rw [if_neg k0] at h
 by_cases k1:c = 100
 · rw [if_pos k1] at h
   have:=Option.some.inj h
   exact .inr (.inl ⟨k1,this.symm⟩)
 rw [if_neg k1] at h
 by_cases k2:c = 116
 · rw [if_pos k2] at h
   have:=Option.some.inj h
   exact .inr (.inr (.inl ⟨k2,this.symm⟩))
 rw [if_neg k2] at h
 by_cases k3:c = 102
 · rw [if_pos k3] at h
   have:=Option.some.inj h
   exact .inr (.inr (.inr (.inl ⟨k3,this.symm⟩)))
 rw [if_neg k3] at h
 by_cases k4:c = 105
 · rw [if_pos k4] at h
   have:=Option.some.inj h
   exact .inr (.inr (.inr (.inr (.inl ⟨k4,this.symm⟩))))
 rw [if_neg k4] at h
 by_cases k5:c = 122
 · rw [if_pos k5] at h
   have:=Option.some.inj h
   exact .inr (.inr (.inr (.inr (.inr (.inl ⟨k5,this.symm⟩)))))
 rw [if_neg k5] at h
 by_cases k6:c = 114
 · rw [if_pos k6] at h
   have:=Option.some.inj h
   exact .inr (.inr (.inr (.inr (.inr (.inr (.inl ⟨k6,this.symm⟩))))))
 rw [if_neg k6] at h
 by_cases k7:c = 97
 · rw [if_pos k7] at h
   have:=Option.some.inj h
   exact .inr (.inr (.inr (.inr (.inr (.inr (.inr (.inl ⟨k7,this.symm⟩)))))))
 rw [if_neg k7] at h
 by_cases k8:c = 110
 · rw [if_pos k8] at h
   have:=Option.some.inj h
   exact .inr (.inr (.inr (.inr (.inr (.inr (.inr (.inr (.inl ⟨k8,this.symm⟩))))))))
 rw [if_neg k8] at h
 by_cases k9:c = 115
 · rw [if_pos k9] at h
   have:=Option.some.inj h
   exact .inr (.inr (.inr (.inr (.inr (.inr (.inr (.inr (.inr (.inl ⟨k9,this.symm⟩)))))))))
 rw [if_neg k9] at h
 by_cases k10:c = 107
 · rw [if_pos k10] at h
   have:=Option.some.inj h
   exact .inr (.inr (.inr (.inr (.inr (.inr (.inr (.inr (.inr (.inr (.inl ⟨k10,this.symm⟩))))))))))
 rw [if_neg k10] at h
 by_cases k11:c = 106
 · rw [if_pos k11] at h
   have:=Option.some.inj h
   exact .inr (.inr (.inr (.inr (.inr (.inr (.inr (.inr (.inr (.inr (.inr (.inl ⟨k11,this.symm⟩)))))))))))
 rw [if_neg k11] at h
 by_cases k12:c = 101
 · rw [if_pos k12] at h
   have:=Option.some.inj h
   exact .inr (.inr (.inr (.inr (.inr (.inr (.inr (.inr (.inr (.inr (.inr (.inr (⟨k12,this.symm⟩))))))))))))
 rw [if_neg k12] at h
 cases h
theorem code_none {c:Nat} (h:codeN c = none):c≠117∧c≠100∧c≠116∧c≠102∧c≠105∧c≠122∧c≠114∧c≠97∧c≠110∧c≠115∧c≠107∧c≠106∧c≠101:=by
 unfold codeN at h
 by_cases k0:c = 117
 · rw [if_pos k0] at h;cases h
 rw [if_neg k0] at h
 by_cases k1:c = 100
 · rw [if_pos k1] at h;cases h
 rw [if_neg k1] at h
 by_cases k2:c = 116
 · rw [if_pos k2] at h;cases h
 rw [if_neg k2] at h
 by_cases k3:c = 102
 · rw [if_pos k3] at h;cases h
 rw [if_neg k3] at h
 by_cases k4:c = 105
 · rw [if_pos k4] at h;cases h
 rw [if_neg k4] at h
 by_cases k5:c = 122
 · rw [if_pos k5] at h;cases h
 rw [if_neg k5] at h
 by_cases k6:c = 114
 · rw [if_pos k6] at h;cases h
 rw [if_neg k6] at h
 by_cases k7:c = 97
 · rw [if_pos k7] at h;cases h
 rw [if_neg k7] at h
 by_cases k8:c = 110
 · rw [if_pos k8] at h;cases h
 rw [if_neg k8] at h
 by_cases k9:c = 115
 · rw [if_pos k9] at h;cases h
 rw [if_neg k9] at h
 by_cases k10:c = 107
 · rw [if_pos k10] at h;cases h
 rw [if_neg k10] at h
 by_cases k11:c = 106
 · rw [if_pos k11] at h;cases h
 rw [if_neg k11] at h
 by_cases k12:c = 101
 · rw [if_pos k12] at h;cases h
 rw [if_neg k12] at h
 exact ⟨k0,k1,k2,k3,k4,k5,k6,k7,k8,k9,k10,k11,k12⟩
theorem beq_no {c k:Nat} (h:c≠k):((c:Int) == (k:Int)) = false:=beq_eq_false_iff_ne.2 fun e=>h (Int.ofNat.inj e)
set_option maxHeartbeats 4000000 in
theorem meant_pc (s:ByteArray) (hs:Ascii s) (hl:s.size≤100):PC Tryd.prog Γ 31 [.str s] (.tup [nums (meantF s).1,.int .i64 (meantF s).2]):=by
 refine pc_by mixed Tryd.func31 rfl (fun args w=>Tryd.call31 args w) ?_
 have c1:=letters_pc Γ
 unfold lettersD at c1
 simp -implicitDefEqProofs (disch:=omega) [go_sem]
 refine .inl (call_data c1 (by simp [go_sem]) ?_)
 have hm:mapT Tryd.prog 9 = none:=by kernel_rfl
 simp -implicitDefEqProofs (disch:=omega) [go_sem,hm]
 refine loop_ren (σ:={ i:Nat // i≤s.size }) (fun i=>⟨envL [(2,.ref 0 0 (meantS s i.1).1.length 1),(3,.data (.int .i64 (meantS s i.1).2)),(4,.data (.mp [.int .i32 117,.int .i32 100,.int .i32 116,.int .i32 102,.int .i32 105,.int .i32 122,.int .i32 114,.int .i32 97,.int .i32 110,.int .i32 115,.int .i32 107,.int .i32 106,.int .i32 101] [.int .i64 1,.int .i64 2,.int .i64 3,.int .i64 4,.int .i64 5,.int .i64 6,.int .i64 7,.int .i64 8,.int .i64 9,.int .i64 10,.int .i64 11,.int .i64 12,.int .i64 13])),(11,.iref 1)],hpL [(0,.blk true ((meantS s i.1).1.map fun n=>D.data (.int .i64 n))),(1,.obj (.si s i.1))],2,0,31⟩) (fun i=>s.size - i.1) ⟨0,by omega⟩ [] (rhoL [(0,none),(1,some 5)]) ?_ ?_
 · apply ren_lists <;> simp -implicitDefEqProofs [go_sem,meantS]
   all_goals rfl
 rintro ⟨i,hi⟩
 by_cases h:i < s.size
 · have hd:=hs.dec h
   rw [show (s.get! i).toNat = chN s i from rfl] at hd
   have hst:meantS s (i + 1) = (match codeN (chN s i) with
    | some a=>((meantS s i).1++[(a:Int)],(meantS s i).2)
    | none=>((meantS s i).1,(chN s i:Int) - 48)):=rfl
   have hln:=meantS_len s i
   have hlt:chN s i < 128:=hs i h
   generalize meantS s i = m at *
   obtain ⟨l,t⟩:=m
   generalize chN s i = c at *
   dsimp only at *
   cases hc:codeN c with
   | some a =>
     rw [hc] at hst
     rcases code_some hc with ⟨rfl,rfl⟩ | ⟨rfl,rfl⟩ | ⟨rfl,rfl⟩ | ⟨rfl,rfl⟩ | ⟨rfl,rfl⟩ | ⟨rfl,rfl⟩ | ⟨rfl,rfl⟩ | ⟨rfl,rfl⟩ | ⟨rfl,rfl⟩ | ⟨rfl,rfl⟩ | ⟨rfl,rfl⟩ | ⟨rfl,rfl⟩ | ⟨rfl,rfl⟩
     all_goals
      simp -implicitDefEqProofs (disch:=omega) [go_sem,hd]
      refine next_ren ⟨i + 1,by omega⟩ (by simp only;omega) [] (rhoL [(0,some 18),(1,some 1)]) ?_
      apply ren_lists <;> simp -implicitDefEqProofs [go_sem,hst]
      exact ⟨renCells_plain rfl (by simp [plainD]),by rw [hd]⟩
   | none =>
     obtain ⟨n0,n1,n2,n3,n4,n5,n6,n7,n8,n9,n10,n11,n12⟩:=code_none hc
     rw [hc] at hst
     have e0:((c:Int) == 117) = false:=beq_no n0
     have e1:((c:Int) == 100) = false:=beq_no n1
     have e2:((c:Int) == 116) = false:=beq_no n2
     have e3:((c:Int) == 102) = false:=beq_no n3
     have e4:((c:Int) == 105) = false:=beq_no n4
     have e5:((c:Int) == 122) = false:=beq_no n5
     have e6:((c:Int) == 114) = false:=beq_no n6
     have e7:((c:Int) == 97) = false:=beq_no n7
     have e8:((c:Int) == 110) = false:=beq_no n8
     have e9:((c:Int) == 115) = false:=beq_no n9
     have e10:((c:Int) == 107) = false:=beq_no n10
     have e11:((c:Int) == 106) = false:=beq_no n11
     have e12:((c:Int) == 101) = false:=beq_no n12
     clear n0 n1 n2 n3 n4 n5 n6 n7 n8 n9 n10 n11 n12 hc
     simp -implicitDefEqProofs (disch:=omega) [go_sem,hd,e0,e1,e2,e3,e4,e5,e6,e7,e8,e9,e10,e11,e12]
     refine next_ren ⟨i + 1,by omega⟩ (by simp only;omega) [] (rhoL [(0,some 0),(1,some 1)]) ?_
     apply ren_lists <;> simp -implicitDefEqProofs [go_sem,hst]
     exact ⟨renCells_plain rfl (by simp [plainD]),by rw [hd]⟩
 · have:i = s.size:=by omega
   subst this
   unfold meantF
   have hln:=meantS_len s s.size
   generalize meantS s s.size = m at *
   obtain ⟨l,t⟩:=m
   dsimp only at *
   simp -implicitDefEqProofs (disch:=omega) [go_sem,Tryd.f31]
   exact ⟨_,⟨_,rfl,frz_nums (rw:=true) rfl (.inl rfl) rfl⟩,rfl⟩
theorem strs_at {l:List ByteArray} {n:Nat} (h:n < l.length):(strsD l)[n]? = some (.str (l.getD n ByteArray.empty)):=by
 simp [strsD,h,List.getD_eq_getElem?_getD]
set_option maxHeartbeats 4000000 in
theorem next_pc (hΓ:Spaces Γ) (s e:Int):PC Tryd.prog Γ 23 [.int .i64 s,.int .i64 e] (tri (nextF s e)):=by
 refine pc_by mixed Tryd.func23 rfl (fun args w=>Tryd.call23 args w) ?_
 have c1:=known_pc Γ s
 by_cases h:0≤s∧s < 10
 rotate_left
 · rw [decide_eq_false h] at c1
   rw [show nextF s e = ([],s,false) from if_pos (by unfold Out;omega)]
   unfold tri nums
   simp -implicitDefEqProofs (disch:=omega) [go_sem]
   refine .inl (call_data c1 (by simp [go_sem]) ?_)
   simp -implicitDefEqProofs (disch:=omega) [go_sem,Tryd.f23]
   exact ⟨_,⟨_,rfl,.emp _ _⟩,rfl⟩
 rw [decide_eq_true h] at c1
 obtain ⟨s,rfl⟩:∃ m:Nat,s = m:=⟨s.toNat,by omega⟩
 by_cases h0:0≤e
 rotate_left
 · rw [show nextF s e = ([],(s:Int),false) from if_pos (by unfold Out;omega)]
   unfold tri nums
   simp -implicitDefEqProofs (disch:=omega) [go_sem]
   refine .inl (call_data c1 (by simp [go_sem]) ?_)
   simp -implicitDefEqProofs (disch:=omega) [go_sem,Tryd.f23]
   exact ⟨_,⟨_,rfl,.emp _ _⟩,rfl⟩
 obtain ⟨e,rfl⟩:∃ m:Nat,e = m:=⟨e.toNat,by omega⟩
 by_cases h1:e < 16
 rotate_left
 · rw [show nextF s e = ([],(s:Int),false) from if_pos (by unfold Out;omega)]
   unfold tri nums
   simp -implicitDefEqProofs (disch:=omega) [go_sem]
   refine .inl (call_data c1 (by simp [go_sem]) ?_)
   simp -implicitDefEqProofs (disch:=omega) [go_sem,Tryd.f23]
   exact ⟨_,⟨_,rfl,.emp _ _⟩,rfl⟩
 have h2:s < 10:=by omega
 have c2:=row_pc Γ e h1
 have c3:=fields_pc Γ hΓ (rowB e) (rows_asc e h1) (Nat.le_trans (rows_size e h1) (by decide)) _ (rows_flds e h1)
 have c4:=meant_pc Γ (doesB e s) (does_asc e h1 s h2) (does_size e h1 s h2)
 have hg:=strs_at (l:=fldB e) (n:=s) (by rw [flds_len e h1];exact h2)
 rw [show (fldB e).getD s ByteArray.empty = doesB e s from rfl] at hg
 rw [table_is e h1 s h2]
 have hlen:(strsD (fldB e)).length = 10:=by simp [strsD,flds_len e h1]
 generalize strsD (fldB e) = fd at *
 generalize rowB e = rb at *
 unfold dashB
 generalize doesB e s = db at *
 generalize meantF db = m at *
 obtain ⟨l,t⟩:=m
 dsimp only at *
 unfold nums at c4
 by_cases hd:db = ⟨#[45]⟩
 · rw [if_pos hd]
   unfold tri nums
   simp -implicitDefEqProofs (disch:=omega) [go_sem]
   refine .inl (call_data c1 (by simp [go_sem]) ?_)
   simp -implicitDefEqProofs (disch:=omega) [go_sem]
   refine .inl (call_data c2 (by simp [go_sem]) ?_)
   simp -implicitDefEqProofs (disch:=omega) [go_sem]
   refine .inl (call_data c3 (by simp [go_sem]) ?_)
   simp -implicitDefEqProofs (disch:=omega) [-getElem?_pos,go_sem,hg,hlen,hd,Tryd.f23]
   exact ⟨_,⟨_,rfl,.emp _ _⟩,rfl⟩
 · rw [if_neg hd]
   unfold tri nums
   simp -implicitDefEqProofs (disch:=omega) [go_sem]
   refine .inl (call_data c1 (by simp [go_sem]) ?_)
   simp -implicitDefEqProofs (disch:=omega) [go_sem]
   refine .inl (call_data c2 (by simp [go_sem]) ?_)
   simp -implicitDefEqProofs (disch:=omega) [go_sem]
   refine .inl (call_data c3 (by simp [go_sem]) ?_)
   simp -implicitDefEqProofs (disch:=omega) [-getElem?_pos,go_sem,hg,hlen,hd]
   refine .inl (call_data c4 (by simp [go_sem]) ?_)
   simp -implicitDefEqProofs (disch:=omega) [go_sem,Tryd.f23]
end
end Fs
section
variable (P:Program) (Γ:Nat->Option (List Data))
@[go_sem] theorem wpX_skip (Q:Exit->St->Prop) (s:St):wpX P Γ .skip Q s = Q .normal s:=rfl
@[go_sem] theorem wpX_draw (i:Nat) (ops:List Oper) (Q:Exit->St->Prop) (s:St):wpX P Γ (.region i ops.toArray true) Q s = drawW P Γ ops.toArray ops s [] (fun s' tr=>sideK (drawOk2 ops.toArray tr s.nx s'.nx = true) (Q .normal s')):=rfl
@[go_sem] theorem wpX_row (i:Nat) (ops:List Oper) (Q:Exit->St->Prop) (s:St):wpX P Γ (.region i ops.toArray false) Q s = opsX P Γ ops.toArray ops s Q:=rfl
@[go_sem] theorem wpX_seq (x y:Code) (Q:Exit->St->Prop) (s:St):wpX P Γ (.seq x y) Q s = wpX P Γ x (thenW (wpX P Γ y Q) Q) s:=rfl
@[go_sem] theorem wpX_cond (c:Operand) (x y:Code) (Q:Exit->St->Prop) (s:St):wpX P Γ (.cond c x y) Q s = condK (evalD Γ s.env c) (wpX P Γ x Q s) (wpX P Γ y Q s):=rfl
@[go_sem] theorem wpX_block (id:Nat) (b:Code) (Q:Exit->St->Prop) (s:St):wpX P Γ (.block id b) Q s = wpX P Γ b (blockW id Q) s:=rfl
@[go_sem] theorem wpX_loop (b:Code) (Q:Exit->St->Prop) (s:St):wpX P Γ (.loop b) Q s = LoopW (wpX P Γ b) Q s:=rfl
@[go_sem] theorem wpX_exit (id:Nat) (Q:Exit->St->Prop) (s:St):wpX P Γ (.exit id) Q s = Q (.exit id) s:=rfl
@[go_sem] theorem wpX_ret (Q:Exit->St->Prop) (s:St):wpX P Γ .ret Q s = Q .ret s:=rfl
@[go_sem] theorem thenW_panic (n:St->Prop) (Q:Exit->St->Prop) (s:St) (ch:List PanicEntry):thenW n Q (.panic ch) s = Q (.panic ch) s:=rfl
@[go_sem] theorem blockW_panic (id:Nat) (Q:Exit->St->Prop) (s:St) (ch:List PanicEntry):blockW id Q (.panic ch) s = Q (.panic ch) s:=rfl
@[congr] theorem retXQ_congr {n0:Nat} (tk:tick = n0) (fn:Func) (K:D->(Nat->Blk)->Nat->Prop) (X:Value->(Nat->Blk)->Nat->Prop) (x:Exit) (s:St):retXQ P fn K X x s = retXQ P fn K X x s:=rfl
@[go_sem] theorem retXQ_ret (fn:Func) (K:D->(Nat->Blk)->Nat->Prop) (X:Value->(Nat->Blk)->Nat->Prop) (s:St):retXQ P fn K X .ret s = resK P fn.results.toList s fun ds=>∃ d,tupDD ds = some d∧K d s.hp s.nx:=rfl
@[go_sem] theorem retXQ_normal (fn:Func) (K:D->(Nat->Blk)->Nat->Prop) (X:Value->(Nat->Blk)->Nat->Prop) (s:St):retXQ P fn K X .normal s = resK P fn.results.toList s fun ds=>∃ d,tupDD ds = some d∧K d s.hp s.nx:=rfl
@[congr] theorem panK_congr {n0:Nat} (tk:tick = n0) {x x':D} (h:x = x') (X:Value->Prop):panK x X = panK x' X:=by rw [h]
@[go_sem] theorem panD_eq (dst:Option Nat) (x:Operand) (ty:TypeId) (pos:String) (af:Array Edge) (gd:Option (Nat × Bool)) (e:Nat->D):panD Γ ⟨dst,.panic x,ty,pos,af,gd⟩ e = evalD Γ e x:=rfl
attribute [go_sem] isPan
@[go_sem] theorem opsX_nil (ops:Array Oper) (s:St) (Q:Exit->St->Prop):opsX P Γ ops [] s Q = Q .normal s:=rfl
@[congr] theorem opsX_congr {n0:Nat} (tk:tick = n0) (ops:Array Oper) (l:List Oper) (s:St) (Q:Exit->St->Prop):opsX P Γ ops l s Q = opsX P Γ ops l s Q:=rfl
@[congr] theorem wpX_congr {n0:Nat} (tk:tick = n0) (c:Code) (Q:Exit->St->Prop) (s:St):wpX P Γ c Q s = wpX P Γ c Q s:=rfl
@[congr] theorem dxK_congr' {n0:Nat} (tk:tick = n0) (o:Oper) (e:Nat->D) (H:Nat->Blk) (fr:Nat) (K:D->(Nat->Blk)->Nat->Prop) (X:Value->(Nat->Blk)->Nat->Prop):dxK P Γ o e H fr K X = dxK P Γ o e H fr K X:=rfl
@[congr] theorem DX_congr {n0:Nat} (tk:tick = n0) (f:FuncId) {ds ds':List D} (h:ds = ds') (H:Nat->Blk) (nx:Nat) (K:D->(Nat->Blk)->Nat->Prop) (X:Value->(Nat->Blk)->Nat->Prop):DX P Γ f ds H nx K X = DX P Γ f ds' H nx K X:=by rw [h]
end
section
variable {P:Program} {Γ:Nat->Option (List Data)}
/-- What a deferred call recovers. -/
def Recd (u:FrameMode) (d:Data):Prop:=(u = .returning∧d = .nili) ∨ ∃ t x v,u = .panicking (pan (.iface t v))∧litV x = some v∧d = .ifc t x
/-- A deferred call that recovers,on the caller's numbered rows. -/
def DR (P:Program) (Γ:Nat->Option (List Data)) (g:FuncId) (ds:List D) (d:Data) (H:Nat->Blk) (nx:Nat) (K:(Nat->Blk)->Nat->Prop):Prop :=
 CallOk P g∧∀ (L0:Nat->Prop) (w0:W0) (m:Nat->MB) (w:World) (vs:Array Value) (u:FrameMode),WR Γ L0 w0 m H w->(∀ g,nx≤g->m g = .res)->(∀ g,nx≤g->H g = .dead)->ds.length = vs.size->(∀ (i:Nat) (d:D) (v:Value),ds[i]? = some d->vs[i]? = some v->VV (Live L0 m H) w m d v)->Recd u d →
  CallsD P g vs u w fun e u' w'=>∃ v0 H' nx' m',e = .returned v0∧settle u' = .returning∧WR Γ L0 w0 m' H' w'∧Grow (Live L0 m H) w (Live L0 m' H') w'∧(∀ g,g < nx->m' g = m g)∧(∀ g,nx'≤g->m' g = .res)∧nx≤nx'∧K H' nx'
def closQ (K:(Nat->Blk)->Nat->Prop):Exit->St->Prop
 | .normal,s | .ret,s=>K s.hp s.nx
 | _,_=>False
/-- Behind its body a function's deferred call,then what it hands back. -/
def endR (P:Program) (Γ:Nat->Option (List Data)) (fn:Func) (g:FuncId) (dte:D) (r:Data) (d:Data) (s:St):Prop :=
 DR P Γ g [dte] d s.hp s.nx fun H' nx'=>resK P fn.results.toList ⟨s.env,H',nx',s.lo,s.nt⟩ fun ds=>∃ xs,FrzL true H' ds xs∧r = tupD xs
def bodyR (P:Program) (Γ:Nat->Option (List Data)) (fn:Func) (g:FuncId) (dte:D) (r:Data):Exit->St->Prop
 | .normal,s=>endR P Γ fn g dte r .nili s
 | .panic ch,s=>∃ t v x,ch = pan (.iface t v)∧litV x = some v∧endR P Γ fn g dte r (.ifc t x) s
 | _,_=>False
end
section
variable {P:Program} {Γ:Nat->Option (List Data)}
@[go_sem] theorem cells_ifc (t:TypeId) (d:Data):Data.cells (.ifc t d) = [.ifc t d]:=rfl
variable (P)
@[go_sem] theorem closQ_ret (K:(Nat->Blk)->Nat->Prop) (s:St):closQ K .ret s = K s.hp s.nx:=rfl
@[go_sem] theorem closQ_normal (K:(Nat->Blk)->Nat->Prop) (s:St):closQ K .normal s = K s.hp s.nx:=rfl
@[congr] theorem closQ_congr {n0:Nat} (tk:tick = n0) (K:(Nat->Blk)->Nat->Prop) (e:Exit) (s:St):closQ K e s = closQ K e s:=rfl
variable {P}
@[congr] theorem bodyR_congr {n0:Nat} (tk:tick = n0) (fn:Func) (g:FuncId) (dte:D) (r:Data) (e:Exit) (s:St):bodyR P Γ fn g dte r e s = bodyR P Γ fn g dte r e s:=rfl
@[go_sem] theorem bodyR_normal (fn:Func) (g:FuncId) (dte:D) (r:Data) (s:St):bodyR P Γ fn g dte r .normal s = DR P Γ g [dte] .nili s.hp s.nx fun H' nx'=>resK P fn.results.toList ⟨s.env,H',nx',s.lo,s.nt⟩ fun ds=>∃ xs,FrzL true H' ds xs∧r = tupD xs:=rfl
@[congr] theorem DR_congr {n0:Nat} (tk:tick = n0) (g:FuncId) {ds ds':List D} (h:ds = ds') (d:Data) (H:Nat->Blk) (nx:Nat) (K:(Nat->Blk)->Nat->Prop):DR P Γ g ds d H nx K = DR P Γ g ds' d H nx K:=by rw [h]
/-- A call that is lent a row,and doesn't panic. -/
theorem dc_lent {d0 d1:D} {f:FuncId} {xs:List D} {cells:List Data} {K0:Data->List Data->Prop}
 (hc:DC P Γ f (d0 :: xs) (hpL [(0,.blk true (cells.map D.data))]) 1 fun d H' _=>∃ r c,d = .data r∧H' 0 = .blk true (c.map D.data)∧K0 r c)
 {H:Nat->Blk} {nx g:Nat} {K:D->(Nat->Blk)->Nat->Prop} (hg:H g = .blk true (cells.map D.data)) (hd:Lent g d1 d0) (hxs:∀ x∈xs,(∃ y,x = .data y) ∨ ∃ c,x = .cptr c)
 (hk:∀ r c,K0 r c->K (.data r) (Hp.upd H [(g,.blk true (c.map D.data))]) nx):DC P Γ f (d1 :: xs) H nx K :=
 dc_of_dx (dx_lent (X0:=fun _ _=>False) (dx_of_dc hc) hg hd hxs hk fun _ _ h=>h.elim)
end
end Go.Proofs.YticeibkffhdphaaDoor
