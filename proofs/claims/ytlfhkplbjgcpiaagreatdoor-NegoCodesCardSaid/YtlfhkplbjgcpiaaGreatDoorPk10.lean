/- The state table: the program's own functions. Automata: the program's own functions. The state table: the document's example, and the eight laws. Automata: the program's work, Do, Tick, Quiet. Frames: what is read, taken; rows of frames. Frames: what is taken of bytes that are sent. Frames: the program's own functions. Protocols: the program's work, as plain numbers; calls of its methods, which are lent it. Protocols: the program's own functions that aren't lent its work. Protocols: the program's work: what is sent, told, done. Protocols: the program's work: an event, and what follows. Protocols: the program's work: what packets do. Protocols: the program's work: echoes, requests. Protocols: the program's work: requests. Protocols: the program's packets, events and ticks. Protocols: the laws, of the program as it is. -/
import Derived.Test.YtlfhkplbjgcpiaaGreatDoorPk9
namespace Go.Proofs.YtlfhkplbjgcpiaaGreatDoor
open Go.RowKit
set_option linter.unusedSimpArgs false
set_option linter.unusedVariables false
set_option maxRecDepth 100000
namespace Fs
/-- The table's rows,as the program writes them,and their fields. -/
def rowsB:List ByteArray:=[⟨#[50,32,32,105,114,54,32,45,32,32,32,45,32,32,32,32,45,32,32,45,32,32,45,32,32,32,45,32,32,32,45,32,32,32,45]⟩,⟨#[45,32,32,45,32,32,32,48,32,32,32,116,49,32,32,32,48,32,32,49,32,32,49,32,32,32,49,32,32,32,49,32,32,32,100,49]⟩,⟨#[116,49,32,49,32,32,32,105,114,54,32,51,32,32,32,32,53,32,32,53,32,32,54,32,32,32,55,32,32,32,56,32,32,32,57]⟩,⟨#[48,32,32,102,48,32,32,50,32,32,32,50,32,32,32,32,52,32,32,52,32,32,105,115,52,32,105,115,52,32,105,115,52,32,100,105,115,52]⟩,⟨#[45,32,32,45,32,32,32,45,32,32,32,45,32,32,32,32,115,52,32,115,53,32,114,54,32,32,114,54,32,32,114,56,32,32,45]⟩,⟨#[45,32,32,45,32,32,32,45,32,32,32,45,32,32,32,32,102,50,32,102,51,32,102,51,32,32,102,51,32,32,102,51,32,32,45]⟩,⟨#[45,32,32,45,32,32,32,107,50,32,32,105,114,97,56,32,52,32,32,53,32,32,97,56,32,32,97,117,57,32,97,56,32,32,100,114,97,56]⟩,⟨#[45,32,32,45,32,32,32,107,50,32,32,105,114,110,54,32,52,32,32,53,32,32,110,54,32,32,110,55,32,32,110,54,32,32,100,114,110,54]⟩,⟨#[45,32,32,45,32,32,32,107,50,32,32,107,51,32,32,32,52,32,32,53,32,32,105,55,32,32,114,54,32,32,105,117,57,32,100,114,54]⟩,⟨#[45,32,32,45,32,32,32,107,50,32,32,107,51,32,32,32,52,32,32,53,32,32,105,114,54,32,114,54,32,32,105,114,56,32,100,114,54]⟩,⟨#[45,32,32,45,32,32,32,107,50,32,32,107,51,32,32,32,107,52,32,107,53,32,107,54,32,32,107,54,32,32,107,54,32,32,100,122,107,53]⟩,⟨#[45,32,32,45,32,32,32,50,32,32,32,51,32,32,32,32,102,50,32,102,51,32,54,32,32,32,54,32,32,32,56,32,32,32,100,114,54]⟩,⟨#[45,32,32,45,32,32,32,106,50,32,32,106,51,32,32,32,106,52,32,106,53,32,106,54,32,32,106,55,32,32,106,56,32,32,106,57]⟩,⟨#[45,32,32,45,32,32,32,50,32,32,32,51,32,32,32,32,52,32,32,53,32,32,54,32,32,32,54,32,32,32,56,32,32,32,57]⟩,⟨#[45,32,32,45,32,32,32,102,50,32,32,102,51,32,32,32,102,50,32,102,51,32,102,51,32,32,102,51,32,32,102,51,32,32,100,105,115,53]⟩,⟨#[45,32,32,45,32,32,32,50,32,32,32,51,32,32,32,32,52,32,32,53,32,32,54,32,32,32,55,32,32,32,56,32,32,32,101,57]⟩]
def fldsB:List (List ByteArray):=[[⟨#[50]⟩,⟨#[105,114,54]⟩,⟨#[45]⟩,⟨#[45]⟩,⟨#[45]⟩,⟨#[45]⟩,⟨#[45]⟩,⟨#[45]⟩,⟨#[45]⟩,⟨#[45]⟩],
 [⟨#[45]⟩,⟨#[45]⟩,⟨#[48]⟩,⟨#[116,49]⟩,⟨#[48]⟩,⟨#[49]⟩,⟨#[49]⟩,⟨#[49]⟩,⟨#[49]⟩,⟨#[100,49]⟩],
 [⟨#[116,49]⟩,⟨#[49]⟩,⟨#[105,114,54]⟩,⟨#[51]⟩,⟨#[53]⟩,⟨#[53]⟩,⟨#[54]⟩,⟨#[55]⟩,⟨#[56]⟩,⟨#[57]⟩],
 [⟨#[48]⟩,⟨#[102,48]⟩,⟨#[50]⟩,⟨#[50]⟩,⟨#[52]⟩,⟨#[52]⟩,⟨#[105,115,52]⟩,⟨#[105,115,52]⟩,⟨#[105,115,52]⟩,⟨#[100,105,115,52]⟩],
 [⟨#[45]⟩,⟨#[45]⟩,⟨#[45]⟩,⟨#[45]⟩,⟨#[115,52]⟩,⟨#[115,53]⟩,⟨#[114,54]⟩,⟨#[114,54]⟩,⟨#[114,56]⟩,⟨#[45]⟩],
 [⟨#[45]⟩,⟨#[45]⟩,⟨#[45]⟩,⟨#[45]⟩,⟨#[102,50]⟩,⟨#[102,51]⟩,⟨#[102,51]⟩,⟨#[102,51]⟩,⟨#[102,51]⟩,⟨#[45]⟩],
 [⟨#[45]⟩,⟨#[45]⟩,⟨#[107,50]⟩,⟨#[105,114,97,56]⟩,⟨#[52]⟩,⟨#[53]⟩,⟨#[97,56]⟩,⟨#[97,117,57]⟩,⟨#[97,56]⟩,⟨#[100,114,97,56]⟩],
 [⟨#[45]⟩,⟨#[45]⟩,⟨#[107,50]⟩,⟨#[105,114,110,54]⟩,⟨#[52]⟩,⟨#[53]⟩,⟨#[110,54]⟩,⟨#[110,55]⟩,⟨#[110,54]⟩,⟨#[100,114,110,54]⟩],
 [⟨#[45]⟩,⟨#[45]⟩,⟨#[107,50]⟩,⟨#[107,51]⟩,⟨#[52]⟩,⟨#[53]⟩,⟨#[105,55]⟩,⟨#[114,54]⟩,⟨#[105,117,57]⟩,⟨#[100,114,54]⟩],
 [⟨#[45]⟩,⟨#[45]⟩,⟨#[107,50]⟩,⟨#[107,51]⟩,⟨#[52]⟩,⟨#[53]⟩,⟨#[105,114,54]⟩,⟨#[114,54]⟩,⟨#[105,114,56]⟩,⟨#[100,114,54]⟩],
 [⟨#[45]⟩,⟨#[45]⟩,⟨#[107,50]⟩,⟨#[107,51]⟩,⟨#[107,52]⟩,⟨#[107,53]⟩,⟨#[107,54]⟩,⟨#[107,54]⟩,⟨#[107,54]⟩,⟨#[100,122,107,53]⟩],
 [⟨#[45]⟩,⟨#[45]⟩,⟨#[50]⟩,⟨#[51]⟩,⟨#[102,50]⟩,⟨#[102,51]⟩,⟨#[54]⟩,⟨#[54]⟩,⟨#[56]⟩,⟨#[100,114,54]⟩],
 [⟨#[45]⟩,⟨#[45]⟩,⟨#[106,50]⟩,⟨#[106,51]⟩,⟨#[106,52]⟩,⟨#[106,53]⟩,⟨#[106,54]⟩,⟨#[106,55]⟩,⟨#[106,56]⟩,⟨#[106,57]⟩],
 [⟨#[45]⟩,⟨#[45]⟩,⟨#[50]⟩,⟨#[51]⟩,⟨#[52]⟩,⟨#[53]⟩,⟨#[54]⟩,⟨#[54]⟩,⟨#[56]⟩,⟨#[57]⟩],
 [⟨#[45]⟩,⟨#[45]⟩,⟨#[102,50]⟩,⟨#[102,51]⟩,⟨#[102,50]⟩,⟨#[102,51]⟩,⟨#[102,51]⟩,⟨#[102,51]⟩,⟨#[102,51]⟩,⟨#[100,105,115,53]⟩],
 [⟨#[45]⟩,⟨#[45]⟩,⟨#[50]⟩,⟨#[51]⟩,⟨#[52]⟩,⟨#[53]⟩,⟨#[54]⟩,⟨#[55]⟩,⟨#[56]⟩,⟨#[101,57]⟩]]
def rowB (e:Nat):ByteArray:=rowsB.getD e ByteArray.empty
def fldB (e:Nat):List ByteArray:=fldsB.getD e []
def doesB (e s:Nat):ByteArray:=(fldB e).getD s ByteArray.empty
def dashB:ByteArray:=⟨#[45]⟩
/-- The action of a letter. -/
def codeN (c:Nat):Option Nat:=if c = 117 then some 1 else if c = 100 then some 2 else if c = 116 then some 3 else if c = 102 then some 4 else if c = 105 then some 5 else if c = 122 then some 6 else if c = 114 then some 7 else if c = 97 then some 8 else if c = 110 then some 9 else if c = 115 then some 10 else if c = 107 then some 11 else if c = 106 then some 12 else if c = 101 then some 13 else none
def meantS (s:ByteArray):Nat->List Int × Int
 | 0=>([],0)
 | i + 1=>match codeN (chN s i) with
   | some a=>((meantS s i).1++[(a:Int)],(meantS s i).2)
   | none=>((meantS s i).1,(chN s i:Int) - 48)
def meantF (s:ByteArray):List Int × Int:=meantS s s.size
theorem meantS_len (s:ByteArray):∀ i,(meantS s i).1.length≤i
 | 0=>by simp [meantS]
 | i + 1=>by
   have:=meantS_len s i
   unfold meantS
   split <;> simp <;> omega
theorem rows_asc:∀ e,e < 16->Ascii (rowB e):=by
 have h:∀ e,e < 16->∀ p,p < (rowB e).size->((rowB e).get! p).toNat < 128:=by decide +kernel
 exact h
theorem rows_size:∀ e,e < 16->(rowB e).size≤100:=by decide +kernel
theorem rows_flds:∀ e,e < 16->fieldsF (rowB e) = some (fldB e):=by decide +kernel
theorem flds_len:∀ e,e < 16->(fldB e).length = 10:=by decide +kernel
theorem does_asc:∀ e,e < 16->∀ s,s < 10->Ascii (doesB e s):=by
 have h:∀ e,e < 16->∀ s,s < 10->∀ p,p < (doesB e s).size->((doesB e s).get! p).toNat < 128:=by decide +kernel
 exact h
theorem does_size:∀ e,e < 16->∀ s,s < 10->(doesB e s).size≤100:=by decide +kernel
/-- What the program's table says,is the document's. -/
theorem table_is:∀ e:Nat,e < 16->∀ s:Nat,s < 10->nextF s e = if doesB e s = dashB then ([],(s:Int),false) else ((meantF (doesB e s)).1,(meantF (doesB e s)).2,true):=by decide +kernel
section
variable (Γ:Nat->Option (List Data))
def lettersD:Data:=.mp [.int .i32 117,.int .i32 100,.int .i32 116,.int .i32 102,.int .i32 105,.int .i32 122,.int .i32 114,.int .i32 97,.int .i32 110,.int .i32 115,.int .i32 107,.int .i32 106,.int .i32 101] [.int .i64 1,.int .i64 2,.int .i64 3,.int .i64 4,.int .i64 5,.int .i64 6,.int .i64 7,.int .i64 8,.int .i64 9,.int .i64 10,.int .i64 11,.int .i64 12,.int .i64 13]
set_option maxHeartbeats 4000000 in
theorem letters_pc:PC Tryz.prog Γ 139 [] lettersD:=by
 refine pc_by mixed Tryz.func139 rfl (fun args w=>Tryz.call139 args w) ?_
 simp -implicitDefEqProofs (disch:=omega) [go_sem,Tryz.f139]
 refine ⟨_,⟨_,rfl,.mref _ [.int .i32 117,.int .i32 100,.int .i32 116,.int .i32 102,.int .i32 105,.int .i32 122,.int .i32 114,.int .i32 97,.int .i32 110,.int .i32 115,.int .i32 107,.int .i32 106,.int .i32 101] [.int .i64 1,.int .i64 2,.int .i64 3,.int .i64 4,.int .i64 5,.int .i64 6,.int .i64 7,.int .i64 8,.int .i64 9,.int .i64 10,.int .i64 11,.int .i64 12,.int .i64 13] _ rfl rfl rfl ?_⟩,rfl⟩
 intro i d x hd hx
 rcases i with _ | _ | _ | _ | _ | _ | _ | _ | _ | _ | _ | _ | _ | i
 all_goals simp at hd hx
 all_goals subst hd hx
 all_goals exact .data _
theorem known_pc (s:Int):PC Tryz.prog Γ 108 [.int .i64 s] (.bool (decide (0≤s∧s < 10))):=by
 refine pc_by mixed Tryz.func108 rfl (fun args w=>Tryz.call108 args w) ?_
 by_cases h1:0≤s
 · by_cases h2:s < 10
   · rw [decide_eq_true ⟨h1,h2⟩]
     simp -implicitDefEqProofs (disch:=omega) [go_sem,Tryz.f108]
   · rw [decide_eq_false fun h=>h2 h.2]
     simp -implicitDefEqProofs (disch:=omega) [go_sem,Tryz.f108]
 · rw [decide_eq_false fun h=>h1 h.1]
   simp -implicitDefEqProofs (disch:=omega) [go_sem,Tryz.f108]
theorem timed_pc (s:Int):PC Tryz.prog Γ 107 [.int .i64 s] (.bool (decide (4≤s∧s≤8))):=by
 refine pc_by mixed Tryz.func107 rfl (fun args w=>Tryz.call107 args w) ?_
 by_cases h1:4≤s
 · by_cases h2:s≤8
   · rw [decide_eq_true ⟨h1,h2⟩]
     simp -implicitDefEqProofs (disch:=omega) [go_sem,Tryz.f107]
   · rw [decide_eq_false fun h=>h2 h.2]
     simp -implicitDefEqProofs (disch:=omega) [go_sem,Tryz.f107]
 · rw [decide_eq_false fun h=>h1 h.1]
   simp -implicitDefEqProofs (disch:=omega) [go_sem,Tryz.f107]
set_option maxHeartbeats 4000000 in
theorem row_pc (e:Nat) (h:e < 16):PC Tryz.prog Γ 110 [.int .i64 e] (.str (rowB e)):=by
 refine pc_by mixed Tryz.func110 rfl (fun args w=>Tryz.call110 args w) ?_
 have hs:e = 0 ∨ e = 1 ∨ e = 2 ∨ e = 3 ∨ e = 4 ∨ e = 5 ∨ e = 6 ∨ e = 7 ∨ e = 8 ∨ e = 9 ∨ e = 10 ∨ e = 11 ∨ e = 12 ∨ e = 13 ∨ e = 14 ∨ e = 15:=by omega
 rcases hs with rfl | rfl | rfl | rfl | rfl | rfl | rfl | rfl | rfl | rfl | rfl | rfl | rfl | rfl | rfl | rfl
 all_goals
  simp -implicitDefEqProofs (disch:=omega) [go_sem,Tryz.f110]
  rfl
theorem code_some {c a:Nat} (h:codeN c = some a):(c = 117∧a = 1) ∨ (c = 100∧a = 2) ∨ (c = 116∧a = 3) ∨ (c = 102∧a = 4) ∨ (c = 105∧a = 5) ∨ (c = 122∧a = 6) ∨ (c = 114∧a = 7) ∨ (c = 97∧a = 8) ∨ (c = 110∧a = 9) ∨ (c = 115∧a = 10) ∨ (c = 107∧a = 11) ∨ (c = 106∧a = 12) ∨ (c = 101∧a = 13):=by
 unfold codeN at h
 by_cases k0:c = 117
 · rw [if_pos k0] at h
   have:=Option.some.inj h
   exact .inl ⟨k0,this.symm⟩
 rw [if_neg k0] at h
 by_cases k1:c = 100
 · rw [if_pos k1] at h
   have:=Option.some.inj h
   exact .inr (.inl ⟨k1,this.symm⟩)
 rw [if_neg k1] at h
 by_cases k2:c = 116
 · rw [if_pos k2] at h
   have:=Option.some.inj h
   exact .inr (.inr (.inl ⟨k2,this.symm⟩))
 rw [if_neg k2] at h
 by_cases k3:c = 102
 · rw [if_pos k3] at h
   have:=Option.some.inj h
   exact .inr (.inr (.inr (.inl ⟨k3,this.symm⟩)))
 rw [if_neg k3] at h
 by_cases k4:c = 105
 · rw [if_pos k4] at h
   have:=Option.some.inj h
   exact .inr (.inr (.inr (.inr (.inl ⟨k4,this.symm⟩))))
 rw [if_neg k4] at h
 by_cases k5:c = 122
 · rw [if_pos k5] at h
   have:=Option.some.inj h
   exact .inr (.inr (.inr (.inr (.inr (.inl ⟨k5,this.symm⟩)))))
 rw [if_neg k5] at h
 by_cases k6:c = 114
 · rw [if_pos k6] at h
   have:=Option.some.inj h
   exact .inr (.inr (.inr (.inr (.inr (.inr (.inl ⟨k6,this.symm⟩))))))
 rw [if_neg k6] at h
 by_cases k7:c = 97
 · rw [if_pos k7] at h
   have:=Option.some.inj h
   exact .inr (.inr (.inr (.inr (.inr (.inr (.inr (.inl ⟨k7,this.symm⟩)))))))
 rw [if_neg k7] at h
 by_cases k8:c = 110
 · rw [if_pos k8] at h
   have:=Option.some.inj h
   exact .inr (.inr (.inr (.inr (.inr (.inr (.inr (.inr (.inl ⟨k8,this.symm⟩))))))))
 rw [if_neg k8] at h
 by_cases k9:c = 115
 · rw [if_pos k9] at h
   have:=Option.some.inj h
   exact .inr (.inr (.inr (.inr (.inr (.inr (.inr (.inr (.inr (.inl ⟨k9,this.symm⟩)))))))))
 rw [if_neg k9] at h
 by_cases k10:c = 107
 · rw [if_pos k10] at h
   have:=Option.some.inj h
   exact .inr (.inr (.inr (.inr (.inr (.inr (.inr (.inr (.inr (.inr (.inl ⟨k10,this.symm⟩))))))))))
 rw [if_neg k10] at h
 by_cases k11:c = 106
 · rw [if_pos k11] at h
   have:=Option.some.inj h
   exact .inr (.inr (.inr (.inr (.inr (.inr (.inr (.inr (.inr (.inr (.inr (.inl ⟨k11,this.symm⟩)))))))))))
 rw [if_neg k11] at h
 by_cases k12:c = 101
 · rw [if_pos k12] at h
   have:=Option.some.inj h
   exact .inr (.inr (.inr (.inr (.inr (.inr (.inr (.inr (.inr (.inr (.inr (.inr (⟨k12,this.symm⟩))))))))))))
 rw [if_neg k12] at h
 cases h
theorem code_none {c:Nat} (h:codeN c = none):c≠117∧c≠100∧c≠116∧c≠102∧c≠105∧c≠122∧c≠114∧c≠97∧c≠110∧c≠115∧c≠107∧c≠106∧c≠101:=by
 unfold codeN at h
 by_cases k0:c = 117
 · rw [if_pos k0] at h;cases h
 rw [if_neg k0] at h
 by_cases k1:c = 100
 · rw [if_pos k1] at h;cases h
 rw [if_neg k1] at h
 by_cases k2:c = 116
 · rw [if_pos k2] at h;cases h
 rw [if_neg k2] at h
 by_cases k3:c = 102
 · rw [if_pos k3] at h;cases h
 rw [if_neg k3] at h
 by_cases k4:c = 105
 · rw [if_pos k4] at h;cases h
 rw [if_neg k4] at h
 by_cases k5:c = 122
 · rw [if_pos k5] at h;cases h
 rw [if_neg k5] at h
 by_cases k6:c = 114
 · rw [if_pos k6] at h;cases h
 rw [if_neg k6] at h
 by_cases k7:c = 97
 · rw [if_pos k7] at h;cases h
 rw [if_neg k7] at h
 by_cases k8:c = 110
 · rw [if_pos k8] at h;cases h
 rw [if_neg k8] at h
 by_cases k9:c = 115
 · rw [if_pos k9] at h;cases h
 rw [if_neg k9] at h
 by_cases k10:c = 107
 · rw [if_pos k10] at h;cases h
 rw [if_neg k10] at h
 by_cases k11:c = 106
 · rw [if_pos k11] at h;cases h
 rw [if_neg k11] at h
 by_cases k12:c = 101
 · rw [if_pos k12] at h;cases h
 rw [if_neg k12] at h
 exact ⟨k0,k1,k2,k3,k4,k5,k6,k7,k8,k9,k10,k11,k12⟩
theorem beq_no {c k:Nat} (h:c≠k):((c:Int) == (k:Int)) = false:=beq_eq_false_iff_ne.2 fun e=>h (Int.ofNat.inj e)
set_option maxHeartbeats 4000000 in
theorem meant_pc (s:ByteArray) (hs:Ascii s) (hl:s.size≤100):PC Tryz.prog Γ 111 [.str s] (.tup [nums (meantF s).1,.int .i64 (meantF s).2]):=by
 refine pc_by mixed Tryz.func111 rfl (fun args w=>Tryz.call111 args w) ?_
 have c1:=letters_pc Γ
 unfold lettersD at c1
 simp -implicitDefEqProofs (disch:=omega) [go_sem]
 refine .inl (call_data c1 (by simp [go_sem]) ?_)
 have hm:mapT Tryz.prog 9 = none:=by kernel_rfl
 simp -implicitDefEqProofs (disch:=omega) [go_sem,hm]
 refine loop_ren (σ:={ i:Nat // i≤s.size }) (fun i=>⟨envL [(2,.ref 0 0 (meantS s i.1).1.length 1),(3,.data (.int .i64 (meantS s i.1).2)),(4,.data (.mp [.int .i32 117,.int .i32 100,.int .i32 116,.int .i32 102,.int .i32 105,.int .i32 122,.int .i32 114,.int .i32 97,.int .i32 110,.int .i32 115,.int .i32 107,.int .i32 106,.int .i32 101] [.int .i64 1,.int .i64 2,.int .i64 3,.int .i64 4,.int .i64 5,.int .i64 6,.int .i64 7,.int .i64 8,.int .i64 9,.int .i64 10,.int .i64 11,.int .i64 12,.int .i64 13])),(11,.iref 1)],hpL [(0,.blk true ((meantS s i.1).1.map fun n=>D.data (.int .i64 n))),(1,.obj (.si s i.1))],2,0,31⟩) (fun i=>s.size - i.1) ⟨0,by omega⟩ [] (rhoL [(0,none),(1,some 5)]) ?_ ?_
 · apply ren_lists <;> simp -implicitDefEqProofs [go_sem,meantS]
   all_goals rfl
 rintro ⟨i,hi⟩
 by_cases h:i < s.size
 · have hd:=hs.dec h
   rw [show (s.get! i).toNat = chN s i from rfl] at hd
   have hst:meantS s (i + 1) = (match codeN (chN s i) with
    | some a=>((meantS s i).1++[(a:Int)],(meantS s i).2)
    | none=>((meantS s i).1,(chN s i:Int) - 48)):=rfl
   have hln:=meantS_len s i
   have hlt:chN s i < 128:=hs i h
   generalize meantS s i = m at *
   obtain ⟨l,t⟩:=m
   generalize chN s i = c at *
   dsimp only at *
   cases hc:codeN c with
   | some a =>
     rw [hc] at hst
     rcases code_some hc with ⟨rfl,rfl⟩ | ⟨rfl,rfl⟩ | ⟨rfl,rfl⟩ | ⟨rfl,rfl⟩ | ⟨rfl,rfl⟩ | ⟨rfl,rfl⟩ | ⟨rfl,rfl⟩ | ⟨rfl,rfl⟩ | ⟨rfl,rfl⟩ | ⟨rfl,rfl⟩ | ⟨rfl,rfl⟩ | ⟨rfl,rfl⟩ | ⟨rfl,rfl⟩
     all_goals
      simp -implicitDefEqProofs (disch:=omega) [go_sem,hd]
      refine next_ren ⟨i + 1,by omega⟩ (by simp only;omega) [] (rhoL [(0,some 18),(1,some 1)]) ?_
      apply ren_lists <;> simp -implicitDefEqProofs [go_sem,hst]
      exact ⟨renCells_plain rfl (by simp [plainD]),by rw [hd]⟩
   | none =>
     obtain ⟨n0,n1,n2,n3,n4,n5,n6,n7,n8,n9,n10,n11,n12⟩:=code_none hc
     rw [hc] at hst
     have e0:((c:Int) == 117) = false:=beq_no n0
     have e1:((c:Int) == 100) = false:=beq_no n1
     have e2:((c:Int) == 116) = false:=beq_no n2
     have e3:((c:Int) == 102) = false:=beq_no n3
     have e4:((c:Int) == 105) = false:=beq_no n4
     have e5:((c:Int) == 122) = false:=beq_no n5
     have e6:((c:Int) == 114) = false:=beq_no n6
     have e7:((c:Int) == 97) = false:=beq_no n7
     have e8:((c:Int) == 110) = false:=beq_no n8
     have e9:((c:Int) == 115) = false:=beq_no n9
     have e10:((c:Int) == 107) = false:=beq_no n10
     have e11:((c:Int) == 106) = false:=beq_no n11
     have e12:((c:Int) == 101) = false:=beq_no n12
     clear n0 n1 n2 n3 n4 n5 n6 n7 n8 n9 n10 n11 n12 hc
     simp -implicitDefEqProofs (disch:=omega) [go_sem,hd,e0,e1,e2,e3,e4,e5,e6,e7,e8,e9,e10,e11,e12]
     refine next_ren ⟨i + 1,by omega⟩ (by simp only;omega) [] (rhoL [(0,some 0),(1,some 1)]) ?_
     apply ren_lists <;> simp -implicitDefEqProofs [go_sem,hst]
     exact ⟨renCells_plain rfl (by simp [plainD]),by rw [hd]⟩
 · have:i = s.size:=by omega
   subst this
   unfold meantF
   have hln:=meantS_len s s.size
   generalize meantS s s.size = m at *
   obtain ⟨l,t⟩:=m
   dsimp only at *
   simp -implicitDefEqProofs (disch:=omega) [go_sem,Tryz.f111]
   exact ⟨_,⟨_,rfl,frz_nums (rw:=true) rfl (.inl rfl) rfl⟩,rfl⟩
theorem strs_at {l:List ByteArray} {n:Nat} (h:n < l.length):(strsD l)[n]? = some (.str (l.getD n ByteArray.empty)):=by
 simp [strsD,h,List.getD_eq_getElem?_getD]
set_option maxHeartbeats 4000000 in
theorem next_pc (hΓ:Spaces Γ) (s e:Int):PC Tryz.prog Γ 86 [.int .i64 s,.int .i64 e] (tri (nextF s e)):=by
 refine pc_by mixed Tryz.func86 rfl (fun args w=>Tryz.call86 args w) ?_
 have c1:=known_pc Γ s
 by_cases h:0≤s∧s < 10
 rotate_left
 · rw [decide_eq_false h] at c1
   rw [show nextF s e = ([],s,false) from if_pos (by unfold Out;omega)]
   unfold tri nums
   simp -implicitDefEqProofs (disch:=omega) [go_sem]
   refine .inl (call_data c1 (by simp [go_sem]) ?_)
   simp -implicitDefEqProofs (disch:=omega) [go_sem,Tryz.f86]
   exact ⟨_,⟨_,rfl,.emp _ _⟩,rfl⟩
 rw [decide_eq_true h] at c1
 obtain ⟨s,rfl⟩:∃ m:Nat,s = m:=⟨s.toNat,by omega⟩
 by_cases h0:0≤e
 rotate_left
 · rw [show nextF s e = ([],(s:Int),false) from if_pos (by unfold Out;omega)]
   unfold tri nums
   simp -implicitDefEqProofs (disch:=omega) [go_sem]
   refine .inl (call_data c1 (by simp [go_sem]) ?_)
   simp -implicitDefEqProofs (disch:=omega) [go_sem,Tryz.f86]
   exact ⟨_,⟨_,rfl,.emp _ _⟩,rfl⟩
 obtain ⟨e,rfl⟩:∃ m:Nat,e = m:=⟨e.toNat,by omega⟩
 by_cases h1:e < 16
 rotate_left
 · rw [show nextF s e = ([],(s:Int),false) from if_pos (by unfold Out;omega)]
   unfold tri nums
   simp -implicitDefEqProofs (disch:=omega) [go_sem]
   refine .inl (call_data c1 (by simp [go_sem]) ?_)
   simp -implicitDefEqProofs (disch:=omega) [go_sem,Tryz.f86]
   exact ⟨_,⟨_,rfl,.emp _ _⟩,rfl⟩
 have h2:s < 10:=by omega
 have c2:=row_pc Γ e h1
 have c3:=fields_pc Γ hΓ (rowB e) (rows_asc e h1) (Nat.le_trans (rows_size e h1) (by decide)) _ (rows_flds e h1)
 have c4:=meant_pc Γ (doesB e s) (does_asc e h1 s h2) (does_size e h1 s h2)
 have hg:=strs_at (l:=fldB e) (n:=s) (by rw [flds_len e h1];exact h2)
 rw [show (fldB e).getD s ByteArray.empty = doesB e s from rfl] at hg
 rw [table_is e h1 s h2]
 have hlen:(strsD (fldB e)).length = 10:=by simp [strsD,flds_len e h1]
 generalize strsD (fldB e) = fd at *
 generalize rowB e = rb at *
 unfold dashB
 generalize doesB e s = db at *
 generalize meantF db = m at *
 obtain ⟨l,t⟩:=m
 dsimp only at *
 unfold nums at c4
 by_cases hd:db = ⟨#[45]⟩
 · rw [if_pos hd]
   unfold tri nums
   simp -implicitDefEqProofs (disch:=omega) [go_sem]
   refine .inl (call_data c1 (by simp [go_sem]) ?_)
   simp -implicitDefEqProofs (disch:=omega) [go_sem]
   refine .inl (call_data c2 (by simp [go_sem]) ?_)
   simp -implicitDefEqProofs (disch:=omega) [go_sem]
   refine .inl (call_data c3 (by simp [go_sem]) ?_)
   simp -implicitDefEqProofs (disch:=omega) [-getElem?_pos,go_sem,hg,hlen,hd,Tryz.f86]
   exact ⟨_,⟨_,rfl,.emp _ _⟩,rfl⟩
 · rw [if_neg hd]
   unfold tri nums
   simp -implicitDefEqProofs (disch:=omega) [go_sem]
   refine .inl (call_data c1 (by simp [go_sem]) ?_)
   simp -implicitDefEqProofs (disch:=omega) [go_sem]
   refine .inl (call_data c2 (by simp [go_sem]) ?_)
   simp -implicitDefEqProofs (disch:=omega) [go_sem]
   refine .inl (call_data c3 (by simp [go_sem]) ?_)
   simp -implicitDefEqProofs (disch:=omega) [-getElem?_pos,go_sem,hg,hlen,hd]
   refine .inl (call_data c4 (by simp [go_sem]) ?_)
   simp -implicitDefEqProofs (disch:=omega) [go_sem,Tryz.f86]
end
end Fs
namespace Fs
/-- Where a number stands first. -/
def idxI (l:List Int) (v:Int):Int:=if l.findIdx (fun x=>decide (x = v)) < l.length then ((l.findIdx (fun x=>decide (x = v)):Nat):Int) else -1
theorem idxI_iff (l:List Int) (v:Int):decide (0≤idxI l v) = decide (v∈l):=by
 refine decide_eq_decide.2 ?_
 unfold idxI
 have h:=List.findIdx_lt_length (p:=fun x:Int=>decide (x = v)) (xs:=l)
 have h2:(∃ x,x∈l∧decide (x = v) = true) ↔ v∈l:=by simp
 by_cases k:l.findIdx (fun x=>decide (x = v)) < l.length
 · rw [if_pos k]
   exact ⟨fun _=>h2.1 (h.1 k),fun _=>by omega⟩
 · rw [if_neg k]
   exact ⟨fun q=>by omega,fun q=>absurd (h.2 (h2.2 q)) k⟩
/-- An automaton at work,and what it does. -/
def wk (a:Au) (l:List Int):List Data:=[.int .i64 a.s,.int .i64 a.c,.int .i64 a.l,.int .u8 a.id,.sl 1 (l.map fun n=>Data.int .i64 n)]
section
variable (Γ:Nat->Option (List Data))
theorem index_pc (l:List Int) (v:Int) (hl:l.length≤1000):PC Tryz.prog Γ 113 [nums l,.int .i64 v] (.int .i64 (idxI l v)):=by
 refine pc_by mixed Tryz.func113 rfl (fun args w=>Tryz.call113 args w) ?_
 unfold idxI nums
 have hk:=List.findIdx_le_length (p:=fun x:Int=>decide (x = v)) (xs:=l)
 have hat:∀ (h:l.findIdx (fun x=>decide (x = v)) < l.length),l[l.findIdx (fun x=>decide (x = v))] = v:=fun h=>by simpa using List.findIdx_getElem (w:=h)
 have hno:∀ (i:Nat),i < l.findIdx (fun x=>decide (x = v))->∀ (h:i < l.length),l[i]≠v:=fun i h _=>by simpa using List.not_of_lt_findIdx h
 generalize l.findIdx (fun x=>decide (x = v)) = k at *
 simp -implicitDefEqProofs (disch:=omega) [go_sem]
 refine loop_ren (σ:={ i:Nat // i≤k }) (fun i=>⟨envL [(0,.data (.sl 1 (l.map fun n=>Data.int .i64 n))),(1,.data (.int .i64 v)),(7,.data (.int .i64 l.length)),(8,.data (.int .i64 i.1))],hpL [],0,0,19⟩) (fun i=>k - i.1) ⟨0,by omega⟩ [] (rhoL []) ?_ ?_
 · apply ren_lists <;> simp -implicitDefEqProofs [go_sem]
 rintro ⟨i,hi⟩
 by_cases h:i < k
 · have hlt:i < l.length:=by omega
   have hv:¬ v = l[i]:=fun e=>hno i h hlt e.symm
   simp -implicitDefEqProofs (disch:=omega) [go_sem,hv]
   refine next_ren ⟨i + 1,by omega⟩ (by simp only;omega) [] (rhoL []) ?_
   apply ren_lists <;> simp -implicitDefEqProofs [go_sem]
 · have:i = k:=by omega
   subst this
   by_cases h2:i < l.length
   · have hv:v = l[i]:=(hat h2).symm
     rw [if_pos h2]
     subst hv
     simp -implicitDefEqProofs (disch:=omega) [go_sem,Tryz.f113]
   · rw [if_neg h2]
     simp -implicitDefEqProofs (disch:=omega) [go_sem,Tryz.f113]
theorem contains_pc (l:List Int) (v:Int) (hl:l.length≤1000):PC Tryz.prog Γ 88 [nums l,.int .i64 v] (.bool (decide (v∈l))):=by
 refine pc_by mixed Tryz.func88 rfl (fun args w=>Tryz.call88 args w) ?_
 have c1:=index_pc Γ l v hl
 rw [<- idxI_iff]
 generalize idxI l v = k at *
 unfold nums at *
 simp -implicitDefEqProofs (disch:=omega) [go_sem]
 refine .inl (call_data c1 (by simp [go_sem]) ?_)
 simp -implicitDefEqProofs (disch:=omega) [go_sem,Tryz.f88]
theorem timeoutA_pc (a:Au):PC Tryz.prog Γ 63 [au a] (.int .i64 (if 0 < a.c then 4 else 5)):=by
 refine pc_by mixed Tryz.func63 rfl (fun args w=>Tryz.call63 args w) ?_
 unfold au
 by_cases h:0 < a.c
 · rw [if_pos h]
   simp -implicitDefEqProofs (disch:=omega) [go_sem,Tryz.f63]
 · rw [if_neg h]
   simp -implicitDefEqProofs (disch:=omega) [go_sem,Tryz.f63]
def TimeR (a:Au):Prop:=Tm a.s∧1≤a.l∧a.l≤3 ∨ ¬ Tm a.s∧a.l = 0
instance (a:Au):Decidable (TimeR a):=by unfold TimeR;infer_instance
theorem timerRight_pc (a:Au):PC Tryz.prog Γ 80 [au a] (.bool (decide (TimeR a))):=by
 refine pc_by mixed Tryz.func80 rfl (fun args w=>Tryz.call80 args w) ?_
 have c1:=timed_pc Γ a.s
 unfold au
 have no:¬ TimeR a->decide (TimeR a) = false:=fun h=>decide_eq_false h
 simp -implicitDefEqProofs (disch:=omega) [go_sem]
 refine .inl (call_data c1 (by simp [go_sem]) ?_)
 by_cases ht:4≤a.s∧a.s≤8
 · rw [decide_eq_true ht] at *
   by_cases h5:1≤a.l
   · by_cases h6:a.l≤3
     · rw [show decide (TimeR a) = true from decide_eq_true (.inl ⟨ht,h5,h6⟩)]
       simp -implicitDefEqProofs (disch:=omega) [go_sem,ht,Tryz.f80]
     · rw [no fun h=>by unfold TimeR Tm at h;omega]
       simp -implicitDefEqProofs (disch:=omega) [go_sem,ht,Tryz.f80]
   · rw [no fun h=>by unfold TimeR Tm at h;omega]
     simp -implicitDefEqProofs (disch:=omega) [go_sem,ht,Tryz.f80]
 · rw [decide_eq_false ht] at *
   by_cases h7:a.l = 0
   · rw [show decide (TimeR a) = true from decide_eq_true (.inr ⟨ht,h7⟩)]
     simp -implicitDefEqProofs (disch:=omega) [go_sem,ht,h7,Tryz.f80]
   · rw [no fun h=>by unfold TimeR Tm at h;omega]
     simp -implicitDefEqProofs (disch:=omega) [go_sem,ht,h7,Tryz.f80]
theorem aright_pc (a:Au):PC Tryz.prog Γ 55 [au a] (.bool (decide (RightA a))):=by
 refine pc_by mixed Tryz.func55 rfl (fun args w=>Tryz.call55 args w) ?_
 have c1:=timerRight_pc Γ a
 unfold au at *
 have no:¬ RightA a->decide (RightA a) = false:=fun h=>decide_eq_false h
 by_cases h1:0≤a.s
 rotate_left
 · rw [no fun h=>by unfold RightA at h;omega]
   simp -implicitDefEqProofs (disch:=omega) [go_sem,Tryz.f55]
 by_cases h2:a.s < 10
 rotate_left
 · rw [no fun h=>by unfold RightA at h;omega]
   simp -implicitDefEqProofs (disch:=omega) [go_sem,Tryz.f55]
 by_cases h3:0≤a.c
 rotate_left
 · rw [no fun h=>by unfold RightA at h;omega]
   simp -implicitDefEqProofs (disch:=omega) [go_sem,Tryz.f55]
 by_cases h4:a.c≤5
 rotate_left
 · rw [no fun h=>by unfold RightA at h;omega]
   simp -implicitDefEqProofs (disch:=omega) [go_sem,Tryz.f55]
 have e:decide (RightA a) = decide (TimeR a):=decide_eq_decide.2 ⟨fun h=>h.2.2,fun h=>⟨by omega,by omega,h⟩⟩
 rw [e]
 generalize decide (TimeR a) = b at *
 simp -implicitDefEqProofs (disch:=omega) [go_sem]
 refine .inl (call_data c1 (by simp [go_sem]) ?_)
 simp -implicitDefEqProofs (disch:=omega) [go_sem,Tryz.f55]
theorem zero_dc (a:Au) (l:List Int):DC Tryz.prog Γ 141 [.ptr 0 0] (hpL [(0,.blk true ((wk a l).map D.data))]) 1 (fun d H' _=>∃ r c,d = .data r∧H' 0 = .blk true (c.map D.data)∧r = .tup []∧c = wk { a with c:=0,l:=3 } l):=by
 refine dc_by mixed Tryz.func141 rfl (fun args w=>Tryz.call141 args w) ?_
 unfold wk
 simp -implicitDefEqProofs (disch:=omega) [go_sem,Tryz.f141]
 rfl
theorem send_dc (a:Au) (l:List Int) (hc:0≤a.c∧a.c≤5) (hi:a.id < 256):DC Tryz.prog Γ 142 [.ptr 0 0] (hpL [(0,.blk true ((wk a l).map D.data))]) 1 (fun d H' _=>∃ r c,d = .data r∧H' 0 = .blk true (c.map D.data)∧r = .tup []∧c = wk { a with c:=if 1 < a.c then a.c - 1 else 0,l:=3,id:=(a.id + 1) % 256 } l):=by
 refine dc_by mixed Tryz.func142 rfl (fun args w=>Tryz.call142 args w) ?_
 unfold wk
 by_cases h:1 < a.c
 · simp only [if_pos h]
   simp -implicitDefEqProofs (disch:=omega) [go_sem,Tryz.f142]
   exact ⟨_,rfl,rfl,fun k=>by omega⟩
 · simp only [if_neg h]
   simp -implicitDefEqProofs (disch:=omega) [go_sem,Tryz.f142]
   exact ⟨_,rfl,rfl,fun k=>by omega⟩
theorem begin_dc (a:Au) (l:List Int) (hl:l.length≤1000):DC Tryz.prog Γ 140 [.ptr 0 0] (hpL [(0,.blk true ((wk a l).map D.data))]) 1 (fun d H' _=>∃ r c,d = .data r∧H' 0 = .blk true (c.map D.data)∧r = .tup []∧c = wk { a with c:=if decide (10∈l) = true then 2 else 5 } l):=by
 refine dc_by mixed Tryz.func140 rfl (fun args w=>Tryz.call140 args w) ?_
 have c1:=contains_pc Γ l 10 hl
 generalize decide (10∈l) = b at *
 unfold wk
 unfold nums at c1
 simp -implicitDefEqProofs (disch:=omega) [go_sem]
 refine .inl (call_data c1 (by simp [go_sem]) ?_)
 cases b
 · simp -implicitDefEqProofs (disch:=omega) [go_sem,Tryz.f140]
   rfl
 · simp -implicitDefEqProofs (disch:=omega) [go_sem,Tryz.f140]
   rfl
end
end Fs
namespace Fs
theorem next_no {s e:Int} (h:(nextF s e).2.2 = false):nextF s e = ([],s,false):=by
 unfold nextF at h ⊢
 by_cases ho:Out s e
 · rw [if_pos ho]
 rw [if_neg ho] at h ⊢
 have hs:0≤s∧s≤9:=by unfold Out at ho;omega
 have he:0≤e∧e≤15:=by unfold Out at ho;omega
 have key:∀ (s:Fin 10) (e:Fin 16),(rowF (s.val:Int) (e.val:Int)).2.2 = false->rowF (s.val:Int) (e.val:Int) = ([],(s.val:Int),false):=by decide +kernel
 have k:=key ⟨s.toNat,by omega⟩ ⟨e.toNat,by omega⟩
 rw [show (((⟨s.toNat,by omega⟩:Fin 10).val:Int)) = s from by show ((s.toNat:Nat):Int) = s;omega,show (((⟨e.toNat,by omega⟩:Fin 16).val:Int)) = e from by show ((e.toNat:Nat):Int) = e;omega] at k
 exact k h
theorem next_in {s e:Int} (h:(nextF s e).2.2 = true):(0≤s∧s≤9)∧0≤e∧e≤15:=by
 unfold nextF at h
 by_cases ho:Out s e
 · rw [if_pos ho] at h;cases h
 unfold Out at ho
 omega
/-- What is true of the whole table. -/
theorem next_all (p:Int->Int->Prop) (h:∀ (s:Fin 10) (e:Fin 16),(nextF s.val e.val).2.2 = true->p s.val e.val) {s e:Int} (hn:(nextF s e).2.2 = true):p s e:=by
 obtain ⟨hs,he⟩:=next_in hn
 have k:=h ⟨s.toNat,by omega⟩ ⟨e.toNat,by omega⟩
 rw [show (((⟨s.toNat,by omega⟩:Fin 10).val:Int)) = s from by show ((s.toNat:Nat):Int) = s;omega,show (((⟨e.toNat,by omega⟩:Fin 16).val:Int)) = e from by show ((e.toNat:Nat):Int) = e;omega] at k
 exact k hn
theorem next_len (s e:Int):(nextF s e).1.length≤3:=by
 cases h:(nextF s e).2.2 with
 | false=>rw [next_no h];simp
 | true=>exact next_all (fun s e=>(nextF s e).1.length≤3) (by decide +kernel) h
end Fs
namespace Fs
/-- What the deeds are: a map of methods. -/
def deedsB (g:Nat):Blk:=.obj (.mp [.int .i64 5,.int .i64 6,.int .i64 7,.int .i64 10] [.bnd 140 (.ptr g 0),.bnd 141 (.ptr g 0),.bnd 142 (.ptr g 0),.bnd 142 (.ptr g 0)])
theorem beq_int {c k:Int} (h:c≠k):(c == k) = false:=beq_eq_false_iff_ne.2 h
theorem stepA_s (ends:Bool) (a:Au) (x:Int):(stepA ends a x).s = a.s:=by
 unfold stepA
 repeat' split
 all_goals rfl
theorem foldl_s (ends:Bool):∀ (l:List Int) (a:Au),(l.foldl (stepA ends) a).s = a.s
 | [],a=>rfl
 | x :: l,a=>by rw [List.foldl_cons,foldl_s ends l,stepA_s]
theorem stepA_at (ends:Bool) (a:Au) (t x:Int):stepA ends { a with s:=t } x = { stepA ends a x with s:=t }:=by
 unfold stepA
 repeat' split
 all_goals rfl
theorem foldl_at (ends:Bool) (t:Int):∀ (l:List Int) (a:Au),l.foldl (stepA ends) { a with s:=t } = { l.foldl (stepA ends) a with s:=t }
 | [],a=>rfl
 | x :: l,a=>by rw [List.foldl_cons,stepA_at,foldl_at ends t l,List.foldl_cons]
theorem fold_at (a:Au) (l:List Int) (t:Int):setA (foldA { a with s:=t } l) t = setA (foldA a l) t:=by
 unfold foldA
 rw [foldl_at]
 rfl
section
variable (Γ:Nat->Option (List Data))
set_option maxHeartbeats 4000000 in
theorem wdo_dc (a:Au) (l:List Int) (hc:0≤a.c∧a.c≤5) (hi:a.id < 256) (hl:l.length≤1000):DC Tryz.prog Γ 87 [.ptr 0 0] (hpL [(0,.blk true ((wk a l).map D.data))]) 1 (fun d H' _=>∃ r c,d = .data r∧H' 0 = .blk true (c.map D.data)∧r = .tup []∧c = wk (setA (foldA a l) a.s) l):=by
 refine dc_by mixed Tryz.func87 rfl (fun args w=>Tryz.call87 args w) ?_
 have c1:=timed_pc Γ a.s
 have fit:=fun i=>foldl_fit (ends:=decide (10∈l)) (l.take i) hc hi
 have fs:=fun i=>foldl_s (decide (10∈l)) (l.take i) a
 unfold foldA wk
 simp -implicitDefEqProofs (disch:=omega) [go_sem]
 refine .inr (dc_by mixed Tryz.func112 rfl (fun args w=>Tryz.call112 args w) ?_)
 simp -implicitDefEqProofs (disch:=omega) [go_sem,Tryz.f112]
 refine loop_ren (σ:={ i:Nat // i≤l.length }) (fun i=>⟨envL [(0,.ptr 0 0),(2,.mref 1),(12,.data (.sl 1 (l.map fun n=>Data.int .i64 n))),(13,.data (.int .i64 l.length)),(14,.data (.int .i64 i.1))],hpL [(0,.blk true ((wk ((l.take i.1).foldl (stepA (decide (10∈l))) a) l).map D.data)),(1,deedsB 0)],2,1,39⟩) (fun i=>l.length - i.1) ⟨0,by omega⟩ [] (rhoL [(1,some 3)]) ?_ ?_
 · apply ren_lists <;> simp -implicitDefEqProofs [go_sem,deedsB,wk]
 rintro ⟨i,hile⟩
 have fi:=fit i
 have fs:=fs i
 by_cases h:i < l.length
 · have hst:=foldl_take (ends:=decide (10∈l)) l a i h
   generalize (l.take i).foldl (stepA (decide (10∈l))) a = A at *
   have c2:=begin_dc Γ A l hl
   have c3:=zero_dc Γ A l
   have c4:=send_dc Γ A l fi.1 fi.2
   generalize hx:l[i] = x at *
   by_cases h5:x = 5
   · subst h5
     have e2:stepA (decide (10∈l)) A 5 = { A with c:=if decide (10∈l) = true then 2 else 5 }:=rfl
     rw [e2] at hst
     simp -implicitDefEqProofs (disch:=omega) [go_sem,hx,deedsB,wk]
     refine .inr (dc_lent c2 (by simp [go_sem,wk]) (.ptr _) (by simp) (fun r c hrc=>?_))
     obtain ⟨rfl,rfl⟩:=hrc
     simp -implicitDefEqProofs (disch:=omega) [go_sem]
     refine next_ren ⟨i + 1,by omega⟩ (by simp only;omega) [] (rhoL []) ?_
     simp only [hst]
     apply ren_lists <;> simp -implicitDefEqProofs [go_sem,wk,deedsB]
   by_cases h6:x = 6
   · subst h6
     have e2:stepA (decide (10∈l)) A 6 = { A with c:=0,l:=3 }:=rfl
     rw [e2] at hst
     simp -implicitDefEqProofs (disch:=omega) [go_sem,hx,deedsB,wk]
     refine .inr (dc_lent c3 (by simp [go_sem,wk]) (.ptr _) (by simp) (fun r c hrc=>?_))
     obtain ⟨rfl,rfl⟩:=hrc
     simp -implicitDefEqProofs (disch:=omega) [go_sem]
     refine next_ren ⟨i + 1,by omega⟩ (by simp only;omega) [] (rhoL []) ?_
     simp only [hst]
     apply ren_lists <;> simp -implicitDefEqProofs [go_sem,wk,deedsB]
   by_cases h7:x = 7
   · subst h7
     have e2:stepA (decide (10∈l)) A 7 = { A with c:=if 1 < A.c then A.c - 1 else 0,l:=3,id:=(A.id + 1) % 256 }:=rfl
     rw [e2] at hst
     simp -implicitDefEqProofs (disch:=omega) [go_sem,hx,deedsB,wk]
     refine .inr (dc_lent c4 (by simp [go_sem,wk]) (.ptr _) (by simp) (fun r c hrc=>?_))
     obtain ⟨rfl,rfl⟩:=hrc
     simp -implicitDefEqProofs (disch:=omega) [go_sem]
     refine next_ren ⟨i + 1,by omega⟩ (by simp only;omega) [] (rhoL []) ?_
     simp only [hst]
     apply ren_lists <;> simp -implicitDefEqProofs [go_sem,wk,deedsB]
   by_cases h10:x = 10
   · subst h10
     have e2:stepA (decide (10∈l)) A 10 = { A with c:=if 1 < A.c then A.c - 1 else 0,l:=3,id:=(A.id + 1) % 256 }:=rfl
     rw [e2] at hst
     simp -implicitDefEqProofs (disch:=omega) [go_sem,hx,deedsB,wk]
     refine .inr (dc_lent c4 (by simp [go_sem,wk]) (.ptr _) (by simp) (fun r c hrc=>?_))
     obtain ⟨rfl,rfl⟩:=hrc
     simp -implicitDefEqProofs (disch:=omega) [go_sem]
     refine next_ren ⟨i + 1,by omega⟩ (by simp only;omega) [] (rhoL []) ?_
     simp only [hst]
     apply ren_lists <;> simp -implicitDefEqProofs [go_sem,wk,deedsB]
   have e2:stepA (decide (10∈l)) A x = A:=by unfold stepA;rw [if_neg h5,if_neg h6,if_neg (by rintro (k | k);exact h7 k;exact h10 k)]
   rw [e2] at hst
   have k5:=beq_int h5
   have k6:=beq_int h6
   have k7:=beq_int h7
   have k10:=beq_int h10
   clear h5 h6 h7 h10
   simp -implicitDefEqProofs (disch:=omega) [go_sem,hx,deedsB,wk,k5,k6,k7,k10]
   refine next_ren ⟨i + 1,by omega⟩ (by simp only;omega) [] (rhoL []) ?_
   simp only [hst]
   apply ren_lists <;> simp -implicitDefEqProofs [go_sem,wk,deedsB]
 · have:i = l.length:=by omega
   subst this
   simp only [List.take_length] at *
   generalize l.foldl (stepA (decide (10∈l))) a = A at *
   have hs:A.s = a.s:=fs
   unfold wk deedsB
   simp -implicitDefEqProofs (disch:=omega) [go_sem,hs]
   refine .inl (call_data c1 (by simp [go_sem]) ?_)
   by_cases ht:4≤a.s∧a.s≤8
   · rw [show setA A a.s = ⟨a.s,A.c,A.l,A.id⟩ by unfold setA;rw [if_pos (show Tm a.s from ht)]]
     simp -implicitDefEqProofs (disch:=omega) [go_sem,ht,Tryz.f87]
     exact ⟨_,rfl,rfl,hs⟩
   · rw [show setA A a.s = ⟨a.s,A.c,0,A.id⟩ by unfold setA;rw [if_neg (show ¬ Tm a.s from ht)]]
     simp -implicitDefEqProofs (disch:=omega) [go_sem,ht,Tryz.f87]
     exact ⟨_,rfl,rfl,hs⟩
set_option maxHeartbeats 4000000 in
theorem ado_pc (hΓ:Spaces Γ) (a:Au) (e:Int) (hc:0≤a.c∧a.c≤5) (hi:a.id < 256):PC Tryz.prog Γ 60 [au a,.int .i64 e] (.tup [au (doA a e),nums (doL a e),.int .i64 (doE a e)]):=by
 refine pc_by mixed Tryz.func60 rfl (fun args w=>Tryz.call60 args w) ?_
 have c1:=next_pc Γ hΓ a.s e
 have hsh:=next_len a.s e
 unfold doA doL doE
 generalize nextF a.s e = r at *
 obtain ⟨l,t,b⟩:=r
 simp only at hsh
 unfold tri nums at c1
 cases b
 · simp only [Bool.false_eq_true,if_false]
   unfold au nums
   simp -implicitDefEqProofs (disch:=omega) [go_sem]
   refine .inl (call_data c1 (by simp [go_sem]) ?_)
   simp -implicitDefEqProofs (disch:=omega) [go_sem,Tryz.f60]
   exact ⟨_,⟨_,_,rfl,rfl,_,rfl,.emp _ _⟩,rfl⟩
 simp only [if_true]
 have c2:=wdo_dc Γ { a with s:=t } l hc hi (by omega)
 rw [fold_at] at c2
 generalize setA (foldA a l) t = B at *
 unfold au nums
 simp -implicitDefEqProofs (disch:=omega) [go_sem]
 refine .inl (call_data c1 (by simp [go_sem]) ?_)
 simp -implicitDefEqProofs (disch:=omega) [go_sem]
 refine .inr (dc_lent c2 (by simp [go_sem,wk]) (.ptr _) (by simp) (fun r c hrc=>?_))
 obtain ⟨rfl,rfl⟩:=hrc
 unfold wk
 simp -implicitDefEqProofs (disch:=omega) [go_sem,Tryz.f60]
set_option maxHeartbeats 4000000 in
theorem atick_pc (hΓ:Spaces Γ) (a:Au) (hc:0≤a.c∧a.c≤5) (hi:a.id < 256) (hl:0≤a.l∧a.l≤1000000):PC Tryz.prog Γ 38 [au a] (.tup [au (tickA a),nums (tickL a)]):=by
 refine pc_by mixed Tryz.func38 rfl (fun args w=>Tryz.call38 args w) ?_
 by_cases h0:a.l = 0
 · rw [show tickA a = a by unfold tickA;rw [if_pos h0],show tickL a = [] by unfold tickL;rw [if_pos h0]]
   unfold au nums
   simp -implicitDefEqProofs (disch:=omega) [go_sem,h0,Tryz.f38]
   exact ⟨_,⟨_,_,rfl,rfl,_,rfl,.emp _ _⟩,rfl⟩
 by_cases h1:1 < a.l
 · rw [show tickA a = downA a by unfold tickA;rw [if_neg h0,if_pos h1],show tickL a = [] by unfold tickL;rw [if_neg h0,if_pos h1]]
   unfold au nums downA
   simp -implicitDefEqProofs (disch:=omega) [go_sem,h0,Tryz.f38]
   exact ⟨_,⟨_,_,rfl,rfl,_,rfl,.emp _ _⟩,rfl⟩
 have hb:tickA a = doA (downA a) (if 0 < a.c then 4 else 5)∧tickL a = doL (downA a) (if 0 < a.c then 4 else 5):=by
  unfold tickA tickL
  rw [if_neg h0,if_neg h1,if_neg h0,if_neg h1]
  by_cases k:0 < a.c
  · simp only [if_pos k];exact ⟨trivial,trivial⟩
  · simp only [if_neg k];exact ⟨trivial,trivial⟩
 rw [hb.1,hb.2]
 have c1:=timeoutA_pc Γ (downA a)
 rw [show (downA a).c = a.c from rfl] at c1
 have c2:=ado_pc Γ hΓ (downA a) (if 0 < a.c then 4 else 5) hc hi
 generalize (if 0 < a.c then (4:Int) else 5) = e at *
 generalize doA (downA a) e = A at *
 generalize doL (downA a) e = L at *
 generalize doE (downA a) e = E at *
 have hl1:a.l = 1:=by omega
 unfold au nums downA at *
 simp -implicitDefEqProofs (disch:=omega) [go_sem,h0,hl1]
 refine .inl (call_data c1 (by simp [go_sem];omega) ?_)
 simp -implicitDefEqProofs (disch:=omega) [go_sem]
 refine .inl (call_data c2 (by simp [go_sem];omega) ?_)
 simp -implicitDefEqProofs (disch:=omega) [go_sem]
 refine side (by kernel_rfl) ?_
 simp -implicitDefEqProofs (disch:=omega) [go_sem,Tryz.f38]
end
end Fs
namespace Fc
end Fc
namespace Fc
end Fc
namespace Fc
theorem take_bys (l:List Nat) (k:Nat):(bys l).take k = bys (l.take k):=by simp [bys]
section
variable (Γ:Nat->Option (List Data))
theorem prefix_pc (b q:List Nat) (hb:∀ x∈b,x < 256) (hq:∀ x∈q,x < 256) (hbn:b.length≤1000000000) (hqn:q.length≤1000000000):PC Tryz.prog Γ 123 [.sl 1 (bys b),.sl 1 (bys q)] (.bool (decide (b.take q.length = q))):=by
 refine pc_by mixed Tryz.func123 rfl (fun args w=>Tryz.call123 args w) ?_
 by_cases h:q.length≤b.length
 · have c1:=Sf.sequal_pc Γ (b.take q.length) q (fun x hx=>hb x (List.mem_of_mem_take hx)) hq
   generalize decide (b.take q.length = q) = v at *
   simp -implicitDefEqProofs (disch:=omega) [go_sem]
   refine .inl (call_data c1 (by simp [go_sem,take_bys]) ?_)
   simp -implicitDefEqProofs (disch:=omega) [go_sem,Tryz.f123]
 · have e:decide (b.take q.length = q) = false:=decide_eq_false fun e=>by
    have:=congrArg List.length e
    rw [List.length_take] at this
    omega
   rw [e]
   simp -implicitDefEqProofs (disch:=omega) [go_sem,Tryz.f123]
end
end Fc
namespace Ne
open Op9 Ru Fs Pa
/-- A protocol at work. -/
structure Wk where
 n:Ng
 id:Nat
 reply:Pk
 sent:List Pk
 told:List Int
def wkc (w:Wk):List Data:=ngL w.n++[.int .u8 w.id,.int .u8 w.reply.c,.int .u8 w.reply.i,.sl 1 (bys w.reply.d)]
def wkH (w:Wk):Nat->Blk:=hpL [(0,.blk true ((wkc w).map D.data++[.ref 1 0 w.sent.length 3,.ref 2 0 w.told.length 1])),(1,.blk true ((flat (pks w.sent)).map D.data)),(2,.blk true ((ints w.told).map D.data))]
def newW (n:Ng) (id:Nat):Wk:=⟨n,id,noP,[],[]⟩
/-- What is sent and told by actions. -/
def actsW (w:Wk) (l:List Int):Wk:=⟨w.n,w.id,w.reply,w.sent++sentL w.n w.reply ⟨6,w.id,[]⟩ l,w.told++toldL l⟩
def actW (w:Wk) (x:Int):Wk:=⟨w.n,w.id,w.reply,w.sent++sentBy w.n w.reply ⟨6,w.id,[]⟩ x,w.told++if Lay x then [x] else []⟩
def followW (w:Wk) (a:Au) (l:List Int):Wk:=actsW ⟨freshN ⟨a,w.n.r,w.n.ours,w.n.naks,w.n.peer⟩ w.n.a.s l,w.id,w.reply,w.sent,w.told⟩ l
def doW (w:Wk) (e:Int):Wk:=if doE w.n.a e = 0 then followW w (doA w.n.a e) (doL w.n.a e) else w
theorem acts_nil (w:Wk):actsW w [] = w:=by
 obtain ⟨n,i,r,s,t⟩:=w
 simp [actsW,sentL,toldL]
theorem acts_take (w:Wk) (l:List Int) (i:Nat) (h:i < l.length):actsW w (l.take (i + 1)) = actW (actsW w (l.take i)) l[i]:=by
 unfold actsW actW
 rw [sentL_take _ _ _ _ _ h,toldL_take _ _ h,List.append_assoc,List.append_assoc]
theorem do_none {a:Au} {e:Int} (h:¬ doE a e = 0):doL a e = []:=by
 have:¬ (nextF a.s e).2.2 = true:=fun k=>h (do_zero.2 k)
 exact (do_not this).2.1
/-- What it comes to. -/
def Comes (o:OutN) (w:Wk):Prop:=w.n = o.n∧w.sent = o.sent∧w.told = o.told
theorem do_event (n:Ng) (id:Nat) (reply:Pk) (e:Int):Comes (eventN n e reply id) (doW ⟨n,id,reply,[],[]⟩ e):=by
 unfold eventN doW
 by_cases h:doE n.a e = 0
 · rw [if_pos h,if_pos h];exact ⟨rfl,rfl,rfl⟩
 · rw [if_neg h,if_neg h];exact ⟨rfl,rfl,rfl⟩
theorem event_is (n:Ng) (id:Nat) (reply:Pk) (e:Int):(eventN n e reply id).l = doL n.a e:=by
 unfold eventN
 by_cases h:doE n.a e = 0
 · rw [if_pos h];rfl
 · rw [if_neg h,do_none h];rfl
/-- A good request is never refused,a bad one never agreed to. -/
theorem tab_req:∀ s:Fin 10,(9:Int) ∉ (nextF s.val 6).1∧(8:Int) ∉ (nextF s.val 7).1:=by decide +kernel
theorem tab_req2 (a:Au) (h:RightA a):(9:Int) ∉ doL a 6∧(8:Int) ∉ doL a 7:=by
 obtain ⟨⟨h0,h9⟩,_⟩:=h
 obtain ⟨n,hn⟩:∃ n:Nat,a.s = n:=⟨a.s.toNat,by omega⟩
 have:=tab_req ⟨n,by omega⟩
 unfold doL
 rw [hn]
 constructor
 · split
   · exact this.1
   · simp
 · split
   · exact this.2
   · simp
theorem tab_tick:∀ s:Fin 10,∀ e:Fin 6,(11:Int) ∉ (nextF s.val 4).1∧(11:Int) ∉ (nextF s.val 5).1:=by decide +kernel
section
variable {Γ:Nat->Option (List Data)}
/-- What a method of the work comes to. -/
def WkEnd (Q:Data->Wk->Prop) (d:D) (H':Nat->Blk) (nx:Nat):Prop:=∃ r c' a b n1' r1' n2' r2',AsData d r∧a≠b∧a≠0∧b≠0∧a < 100000∧b < 100000 ∧
 H' 0 = .blk true (c'.map D.data++[.ref a 0 n1' 3,.ref b 0 n2' 1])∧H' a = .blk true (r1'.map D.data)∧H' b = .blk true (r2'.map D.data)∧∃ w':Wk,Q r w'∧c' = wkc w'∧n1' = w'.sent.length∧r1' = flat (pks w'.sent)∧n2' = w'.told.length∧r2' = ints w'.told
def DW (Γ:Nat->Option (List Data)) (f:FuncId) (xs:List D) (w:Wk) (Q:Data->Wk->Prop):Prop:=DC Tryz.prog Γ f (.ptr 0 0 :: xs) (wkH w) 3 (WkEnd Q)
/-- A method of the work is called: its rows have the numbers g,g1,g2;behind it the two rows have new ones. -/
theorem dw_call {f:FuncId} {xs0 xs:List D} {w:Wk} {Q:Data->Wk->Prop} (hc:DW Γ f xs0 w Q) {H:Nat->Blk} {nx g g1 g2:Nat} {K:D->(Nat->Blk)->Nat->Prop}
 (hg:H g = .blk true ((wkc w).map D.data++[.ref g1 0 w.sent.length 3,.ref g2 0 w.told.length 1])) (hg1:H g1 = .blk true ((flat (pks w.sent)).map D.data)) (hg2:H g2 = .blk true ((ints w.told).map D.data))
 (h01:g≠g1) (h02:g≠g2) (h12:g1≠g2) (hn:g < nx∧g1 < nx∧g2 < nx) (hxs:ArgL xs0 xs)
 (hk:∀ r w',Q r w'->K (.data r) (Hp.upd H [(g,.blk true ((wkc w').map D.data++[.ref nx 0 w'.sent.length 3,.ref (nx + 1) 0 w'.told.length 1])),(g1,.dead),(g2,.dead),(nx,.blk true ((flat (pks w'.sent)).map D.data)),(nx + 1,.blk true ((ints w'.told).map D.data))]) (nx + 2)):DC Tryz.prog Γ f (.ptr g 0 :: xs) H nx K :=
 dc_obj (K0:=fun r c' n1' r1' n2' r2'=>∃ w':Wk,Q r w'∧c' = wkc w'∧n1' = w'.sent.length∧r1' = flat (pks w'.sent)∧n2' = w'.told.length∧r2' = ints w'.told) hc hg hg1 hg2 h01 h02 h12 hn hxs fun r c' n1' r1' n2' r2' ⟨w',hq,e1,e2,e3,e4,e5⟩=>by
  subst e1 e2 e3 e4 e5
  exact hk r w' hq
end
end Ne
namespace Ne
open Op9 Ru Fs Pa
theorem ots_at (l:List Ot) (i:Nat) (h:i < l.length):((flat (ots l)).map D.data)[i * 2 + 1]? = some (.data (.sl 1 (bys l[i].d))):=by
 induction l generalizing i with
 | nil=>simp at h
 | cons o l ih =>
   have e:flat (ots (o :: l)) = .int .u8 o.t :: .sl 1 (bys o.d) :: flat (ots l):=rfl
   rw [e]
   cases i with
   | zero=>rfl
   | succ i =>
     rw [show (i + 1) * 2 + 1 = (i * 2 + 1) + 1 + 1 by omega]
     simp only [List.map_cons,List.getElem?_cons_succ,List.getElem_cons_succ]
     exact ih i (by simpa using h)
theorem ots_put (l:List Ot) (i:Nat) (h:i < l.length):((flat (ots l)).map D.data).set (i * 2 + 1) (.data (.sl 1 (bys l[i].d))) = (flat (ots l)).map D.data:=by
 obtain ⟨h1,h2⟩:=List.getElem?_eq_some_iff.1 (ots_at l i h)
 rw [<- h2]
 exact List.set_getElem_self h1
section
variable (Γ:Nat->Option (List Data))
theorem cloneOpt_oc (l:List Ot) (hl:l.length≤1000000):OC Tryz.prog Γ 84 [.sl 2 (ots l)] (.ref 0 0 l.length 2) [(0,.blk true ((flat (ots l)).map .data))] 1:=by
 refine oc_by mixed Tryz.func84 rfl (fun args w=>Tryz.call84 args w) ?_
 simp -implicitDefEqProofs (disch:=omega) [go_sem]
 refine fun q hq=>?_
 have hc:=otcell l
 cases q
 · simp -implicitDefEqProofs (disch:=omega) [go_sem,hc,flat_ots,Tryz.f84]
   refine own_of [] [(0,some 5)] ?_
   apply ren_lists <;> simp -implicitDefEqProofs [go_sem]
 · have h0:l = []:=by simpa [ots] using hq rfl
   subst h0
   simp -implicitDefEqProofs (disch:=omega) [go_sem,Tryz.f84]
   refine own_of [] [(0,none)] ?_
   apply ren_lists <;> simp -implicitDefEqProofs [go_sem,ots,flat]
set_option maxHeartbeats 1000000 in
theorem ncopied_pc (l:List Ot) (hl:l.length≤1000000) (hd:∀ o∈l,o.d.length≤1000000000):PC Tryz.prog Γ 59 [.sl 2 (ots l)] (.sl 2 (ots l)):=by
 refine pc_by mixed Tryz.func59 rfl (fun args w=>Tryz.call59 args w) ?_
 have c0:=cloneOpt_oc Γ l hl
 have c1:∀ (i:Nat) (h:i < l.length),PC Tryz.prog Γ 85 [.sl 1 (bys l[i].d)] (.sl 1 (bys l[i].d)):=fun i h=>Pa.pclone_pc Γ l[i].d (hd _ (List.getElem_mem h))
 simp -implicitDefEqProofs (disch:=omega) [go_sem]
 refine .inr (dc_own [] (by simp) c0 (frzL_c (.data _) frzL_n) ?_)
 simp -implicitDefEqProofs (disch:=omega) [go_sem]
 refine loop_ren (σ:={ i:Nat // i≤l.length }) (fun i=>⟨envL [(3,.ref 0 0 l.length 2),(8,.data (.int .i64 l.length)),(9,.data (.int .i64 i.1))],hpL [(0,.blk true ((flat (ots l)).map .data))],1,0,24⟩) (fun i=>l.length - i.1) ⟨0,by omega⟩ [] (rhoL [(0,some 2)]) ?_ ?_
 · apply ren_lists <;> simp -implicitDefEqProofs [go_sem]
 rintro ⟨i,hi⟩
 by_cases h:i < l.length
 · have c2:=c1 i h
   have hat:=ots_at l i h
   have hput:=ots_put l i h
   simp -implicitDefEqProofs (disch:=omega) [go_sem,flat_ots,hat]
   refine .inl (call_data c2 (by simp [go_sem]) ?_)
   simp -implicitDefEqProofs (disch:=omega) [go_sem,flat_ots]
   refine next_ren ⟨i + 1,by omega⟩ (by simp only;omega) [] (rhoL [(0,some 0)]) ?_
   apply ren_lists <;> simp -implicitDefEqProofs [go_sem]
   exact renCells_plain hput.symm (by simp [plainD])
 · have:i = l.length:=by omega
   subst this
   simp -implicitDefEqProofs (disch:=omega) [go_sem,Tryz.f59]
   exact ⟨_,⟨_,rfl,frz_ref (rw:=true) (by simp [Hp.set,hpL]) (.inl rfl) (ots_length _) (ots_cells _) rfl⟩,rfl⟩
theorem protoOf_pc (r:Rule):PC Tryz.prog Γ 65 [rul r] (.int .u16 ((if r.ip = true then 32801 else 49185:Nat):Int)):=by
 refine pc_by mixed Tryz.func65 rfl (fun args w=>Tryz.call65 args w) ?_
 unfold rul
 cases hi:r.ip
 · simp -implicitDefEqProofs (disch:=omega) [go_sem,hi,Tryz.f65]
 · simp -implicitDefEqProofs (disch:=omega) [go_sem,hi,Tryz.f65]
theorem answered_pc (l:List Int) (hl:l.length≤1000):PC Tryz.prog Γ 119 [nums l] (.bool (decide (8∈l) || decide (9∈l))):=by
 refine pc_by mixed Tryz.func119 rfl (fun args w=>Tryz.call119 args w) ?_
 have c1:=contains_pc Γ l 8 hl
 have c2:=contains_pc Γ l 9 hl
 generalize decide (8∈l) = x at *
 generalize decide (9∈l) = y at *
 unfold nums at *
 simp -implicitDefEqProofs (disch:=omega) [go_sem]
 refine .inl (call_data c1 (by simp [go_sem]) ?_)
 cases x
 · simp -implicitDefEqProofs (disch:=omega) [go_sem]
   refine .inl (call_data c2 (by simp [go_sem]) ?_)
   simp -implicitDefEqProofs (disch:=omega) [go_sem,Tryz.f119]
 · simp -implicitDefEqProofs (disch:=omega) [go_sem,Tryz.f119]
theorem nnew_pc (r:Rule) (hr:r.Ty):PC Tryz.prog Γ 23 [rul r] (ng (newN r)):=by
 refine pc_by mixed Tryz.func23 rfl (fun args w=>Tryz.call23 args w) ?_
 have c1:=ask13_pc Γ r hr
 unfold rul at *
 simp -implicitDefEqProofs (disch:=omega) [go_sem]
 refine .inl (call_data c1 (by simp [go_sem]) ?_)
 simp -implicitDefEqProofs (disch:=omega) [go_sem]
 refine side (by kernel_rfl) ?_
 simp -implicitDefEqProofs (disch:=omega) [go_sem,ng,ngL,newN,Tryz.f23]
 exact ⟨_,⟨_,rfl,frz_aggL (frzL_c (.data _) (frzL_c (.data _) (frzL_c (.data _) (frzL_c (.data _) (frzL_c (.data _) (frzL_c (.data _) (frzL_c (.data _) (frzL_c (.data _) (frzL_c (.data _) (frzL_c (.data _) (frzL_c (.data _) (frzL_c (.emp 0 2) frzL_n))))))))))))⟩,rfl⟩
def MagR (l:List Ot):Prop:=∀ o∈l,o.t = 5->o.d.length = 4
theorem magicsRight_pc (l:List Ot) (hl:l.length≤1000000) (hm:MagR l):PC Tryz.prog Γ 56 [.sl 2 (ots l)] (.bool true):=by
 refine pc_by mixed Tryz.func56 rfl (fun args w=>Tryz.call56 args w) ?_
 simp -implicitDefEqProofs (disch:=omega) [go_sem]
 refine loop_ren (σ:={ i:Nat // i≤l.length }) (fun i=>⟨envL [(5,.data (.sl 2 (ots l))),(6,.data (.int .i64 l.length)),(7,.data (.int .i64 i.1))],hpL [],0,0,21⟩) (fun i=>l.length - i.1) ⟨0,by omega⟩ [] (rhoL []) ?_ ?_
 · apply ren_lists <;> simp -implicitDefEqProofs [go_sem]
 rintro ⟨i,hi⟩
 by_cases h:i < l.length
 · have hm:=hm l[i] (List.getElem_mem h)
   by_cases h5:l[i].t = 5
   · have h4:=hm h5
     simp -implicitDefEqProofs (disch:=omega) [go_sem,ot,h5,h4]
     refine next_ren ⟨i + 1,by omega⟩ (by simp only;omega) [] (rhoL []) ?_
     apply ren_lists <;> simp -implicitDefEqProofs [go_sem]
   · have h6:¬ ((l[i].t:Int) = 5):=by omega
     have h7:=Ru.ne_beq h6
     simp -implicitDefEqProofs (disch:=omega) [go_sem,ot,h5,h6,h7]
     refine next_ren ⟨i + 1,by omega⟩ (by simp only;omega) [] (rhoL []) ?_
     apply ren_lists <;> simp -implicitDefEqProofs [go_sem]
 · have:i = l.length:=by omega
   subst this
   simp -implicitDefEqProofs (disch:=omega) [go_sem,Tryz.f56]
theorem nright_pc0 (n:Ng) (h:RightN n):PC Tryz.prog Γ 30 [ng n] (.bool true):=by
 refine pc_by mixed Tryz.func30 rfl (fun args w=>Tryz.call30 args w) ?_
 obtain ⟨h1,h2,h3,h4⟩:=h
 have hlen:=okO_len h3
 have c1:=obytes_pc Γ n.ours (by omega) (fun o ho=>by have:=hlen.2 o ho;omega)
 have c2:=aright_pc Γ n.a
 have c3:=magicsRight_pc Γ n.ours (by omega) h4
 rw [show optE n.ours = 0 from if_pos h3] at c1
 rw [decide_eq_true h1] at c2
 unfold au at c2
 generalize optB n.ours = q at c1
 simp -implicitDefEqProofs (disch:=omega) [go_sem,ng,ngL]
 refine .inl (call_data c1 (by simp [go_sem]) ?_)
 simp -implicitDefEqProofs (disch:=omega) [go_sem]
 refine .inl (call_data c2 (by simp [go_sem]) ?_)
 simp -implicitDefEqProofs (disch:=omega) [go_sem]
 refine .inl (call_data c3 (by simp [go_sem]) ?_)
 simp -implicitDefEqProofs (disch:=omega) [go_sem,Tryz.f30]
theorem nmagic_pc (n:Ng) (hl:n.ours.length≤1000000) (hb:∀ o∈n.ours,(∀ x∈o.d,x < 256)∧o.d.length≤1000000000):PC Tryz.prog Γ 29 [ng n] (.int .u32 (magicN n)):=by
 refine pc_by mixed Tryz.func29 rfl (fun args w=>Tryz.call29 args w) ?_
 have c1:=ofind_pc Γ n.ours 5 (by omega) (fun o ho=>(hb o ho).2)
 unfold magicN
 cases hf:findO n.ours 5 with
 | none =>
   rw [hf] at c1
   unfold foundO ot at c1
   cases hip:n.r.ip
   · simp -implicitDefEqProofs (disch:=omega) [go_sem,ng,ngL]
     refine .inl (call_data c1 (by simp [go_sem]) ?_)
     simp -implicitDefEqProofs (disch:=omega) [go_sem,hip,Tryz.f29]
   · simp -implicitDefEqProofs (disch:=omega) [go_sem,ng,ngL]
     refine .inl (call_data c1 (by simp [go_sem]) ?_)
     simp -implicitDefEqProofs (disch:=omega) [go_sem,hip,Tryz.f29]
 | some o =>
   rw [hf] at c1
   unfold foundO ot at c1
   have ho:=hb o (List.mem_of_find?_eq_some hf)
   have c2:=onumber_pc Γ o.d (by have:=ho.2;omega) ho.1
   cases hip:n.r.ip
   · simp -implicitDefEqProofs (disch:=omega) [go_sem,ng,ngL]
     refine .inl (call_data c1 (by simp [go_sem]) ?_)
     simp -implicitDefEqProofs (disch:=omega) [go_sem,hip]
     refine .inl (call_data c2 (by simp [go_sem]) ?_)
     simp -implicitDefEqProofs (disch:=omega) [go_sem,Tryz.f29]
   · simp -implicitDefEqProofs (disch:=omega) [go_sem,ng,ngL]
     refine .inl (call_data c1 (by simp [go_sem]) ?_)
     simp -implicitDefEqProofs (disch:=omega) [go_sem,hip,Tryz.f29]
set_option maxHeartbeats 2000000 in
theorem nsame_pc (n m:Ng) (hn:NgT n) (hm:NgT m) (tn:TyN n) (tm:TyN m):PC Tryz.prog Γ 31 [ng n,ng m] (.bool (decide (n = m))):=by
 refine pc_by mixed Tryz.func31 rfl (fun args w=>Tryz.call31 args w) ?_
 have c1:=osame_pc Γ n.ours m.ours tn.ours tm.ours (by have:=hn.ours;omega) (by have:=hm.ours;omega)
 have c2:=osame_pc Γ n.peer m.peer (fun o ho=>(tn.peer.2 o ho).1) (fun o ho=>(tm.peer.2 o ho).1) (by have:=hn.peer;omega) (by have:=hm.peer;omega)
 have ea:=fun {K:Bool->Prop}=>eqK_auto (K:=K) hn.a hm.a
 have er:=fun {K:Bool->Prop}=>eqK_rule (K:=K) hn.r hm.r
 have e:decide (n = m) = (decide (n.a = m.a) && (decide (n.r = m.r) && (decide (n.naks = m.naks) && (decide (n.ours = m.ours) && decide (n.peer = m.peer))))):=by
  cases n;cases m
  rw [Bool.eq_iff_iff]
  simp only [Ng.mk.injEq,decide_eq_true_eq,Bool.and_eq_true]
  constructor
  · rintro ⟨a,b,c,d,f⟩;exact ⟨a,b,d,c,f⟩
  · rintro ⟨a,b,d,c,f⟩;exact ⟨a,b,c,d,f⟩
 rw [e]
 generalize decide (n.ours = m.ours) = x at *
 generalize decide (n.peer = m.peer) = y at *
 generalize decide (n.a = m.a) = z at *
 generalize decide (n.r = m.r) = v at *
 simp -implicitDefEqProofs (disch:=omega) [go_sem,ng,ngL]
 refine ea ?_
 cases z
 · simp -implicitDefEqProofs (disch:=omega) [go_sem,Tryz.f31]
 simp -implicitDefEqProofs (disch:=omega) [go_sem]
 refine er ?_
 cases v
 · simp -implicitDefEqProofs (disch:=omega) [go_sem,Tryz.f31]
 by_cases hk:n.naks = m.naks
 · rw [decide_eq_true hk]
   simp -implicitDefEqProofs (disch:=omega) [go_sem,hk]
   refine .inl (call_data c1 (by simp [go_sem]) ?_)
   cases x
   · simp -implicitDefEqProofs (disch:=omega) [go_sem,Tryz.f31]
   simp -implicitDefEqProofs (disch:=omega) [go_sem]
   refine .inl (call_data c2 (by simp [go_sem]) ?_)
   simp -implicitDefEqProofs (disch:=omega) [go_sem,Tryz.f31]
 · rw [decide_eq_false hk]
   simp -implicitDefEqProofs (disch:=omega) [go_sem,hk,Tryz.f31]
end
end Ne
namespace Ne
open Op9 Ru Fs Pa
theorem wkEnd_of {Q:Data->Wk->Prop} {d:D} {H':Nat->Blk} {nx:Nat} (r:Data) (w':Wk) (a b:Nat) (hd:AsData d r) (hn:a≠b∧a≠0∧b≠0∧a < 100000∧b < 100000) (hq:Q r w')
 (h0:H' 0 = .blk true ((wkc w').map D.data++[.ref a 0 w'.sent.length 3,.ref b 0 w'.told.length 1])) (ha:H' a = .blk true ((flat (pks w'.sent)).map D.data)) (hb:H' b = .blk true ((ints w'.told).map D.data)):WkEnd Q d H' nx :=
 ⟨r,_,a,b,_,_,_,_,hd,hn.1,hn.2.1,hn.2.2.1,hn.2.2.2.1,hn.2.2.2.2,h0,ha,hb,w',hq,rfl,rfl,rfl,rfl,rfl⟩
section
variable (Γ:Nat->Option (List Data))
set_option maxHeartbeats 1000000 in
theorem wsend_dw (w:Wk) (c i:Nat) (d:List Nat) (hs:w.sent.length≤1000):DW Γ 89 [.data (.int .u8 c),.data (.int .u8 i),.data (.sl 1 (bys d))] w (fun r w'=>r = .tup []∧w' = ⟨w.n,w.id,w.reply,w.sent++[⟨c,i,d⟩],w.told⟩):=by
 refine dc_by mixed Tryz.func89 rfl (fun args w=>Tryz.call89 args w) ?_
 unfold wkH wkc ngL
 simp -implicitDefEqProofs (disch:=omega) [go_sem,flat_pks,Tryz.f89]
 refine ⟨_,rfl,wkEnd_of (.tup []) _ 13 2 (.inl rfl) (by decide) ⟨rfl,rfl⟩ ?_ ?_ ?_⟩
 · simp [go_sem,Hp.upd,Hp.set,hpL,wkc,ngL]
 · simp [go_sem,Hp.upd,Hp.set,hpL,pks_snoc]
 · simp [go_sem,Hp.upd,Hp.set,hpL]
theorem wanswer_dw (w:Wk) (c:Nat) (d:List Nat):DW Γ 118 [.data (.int .u8 c),.data (.sl 1 (bys d))] w (fun r w'=>r = .tup []∧w' = ⟨w.n,w.id,⟨c,w.id,d⟩,w.sent,w.told⟩):=by
 refine dc_by mixed Tryz.func118 rfl (fun args w=>Tryz.call118 args w) ?_
 unfold wkH wkc ngL
 simp -implicitDefEqProofs (disch:=omega) [go_sem,flat_pks,Tryz.f118]
 refine ⟨_,rfl,wkEnd_of (.tup []) _ 1 2 (.inl rfl) (by decide) ⟨rfl,rfl⟩ ?_ ?_ ?_⟩
 · simp [go_sem,Hp.upd,Hp.set,hpL,wkc,ngL]
 · simp [go_sem,Hp.upd,Hp.set,hpL]
 · simp [go_sem,Hp.upd,Hp.set,hpL]
theorem wanew_dw (w:Wk) (l:List Int) (hl:l.length≤1000):DW Γ 61 [.data (nums l)] w (fun r w'=>r = .bool (decide (Fresh w.n.a.s l))∧w' = w):=by
 refine dc_by mixed Tryz.func61 rfl (fun args w=>Tryz.call61 args w) ?_
 have c1:=contains_pc Γ l 5 hl
 have c2:=contains_pc Γ l 7 hl
 have e:decide (Fresh w.n.a.s l) = (decide (1≤w.n.a.s∧w.n.a.s≤3) && (decide (5∈l) && decide (7∈l))):=by
  rw [<- Bool.decide_and,<- Bool.decide_and]
  exact decide_eq_decide.2 ⟨fun h=>by obtain ⟨a,b,c,d⟩:=h;exact ⟨⟨c,d⟩,a,b⟩,fun h=>by obtain ⟨⟨c,d⟩,a,b⟩:=h;exact ⟨a,b,c,d⟩⟩
 rw [e]
 have fin:∀ (b:Bool) (H':Nat->Blk) (nx:Nat),H' 0 = wkH w 0->H' 1 = wkH w 1->H' 2 = wkH w 2->WkEnd (fun r w'=>r = .bool b∧w' = w) (.data (.bool b)) H' nx:=fun b H' nx h0 h1 h2 =>
  wkEnd_of (.bool b) w 1 2 (.inl rfl) (by decide) ⟨rfl,rfl⟩ (h0.trans rfl) (h1.trans rfl) (h2.trans rfl)
 generalize decide (5∈l) = x at *
 generalize decide (7∈l) = y at *
 unfold nums at *
 unfold wkH wkc ngL at *
 by_cases hs:1≤w.n.a.s∧w.n.a.s≤3
 · rw [decide_eq_true hs]
   have h3:w.n.a.s = 1 ∨ w.n.a.s = 2 ∨ w.n.a.s = 3:=by omega
   rcases h3 with h3 | h3 | h3
   all_goals
    simp -implicitDefEqProofs (disch:=omega) [go_sem,h3]
    refine .inl (call_data c1 (by simp [go_sem]) ?_)
    cases x
    · simp -implicitDefEqProofs (disch:=omega) [go_sem,Tryz.f61]
      refine fin _ _ _ ?_ ?_ ?_ <;> simp [go_sem,hpL,h3]
    · simp -implicitDefEqProofs (disch:=omega) [go_sem]
      refine .inl (call_data c2 (by simp [go_sem]) ?_)
      simp -implicitDefEqProofs (disch:=omega) [go_sem,Tryz.f61]
      refine fin _ _ _ ?_ ?_ ?_ <;> simp [go_sem,hpL,h3]
 · rw [decide_eq_false hs]
   have k1:¬ w.n.a.s = 1:=by omega
   have k2:¬ w.n.a.s = 2:=by omega
   have k3:¬ w.n.a.s = 3:=by omega
   simp -implicitDefEqProofs (disch:=omega) [go_sem,k1,k2,k3,Tryz.f61]
   refine fin _ _ _ ?_ ?_ ?_ <;> simp [go_sem,hpL]
set_option maxHeartbeats 4000000 in
theorem wact_dw (w:Wk) (x:Int) (hs:w.sent.length≤1000) (ht:w.told.length≤1000) (hn:FineN w.n):DW Γ 62 [.data (.int .i64 x)] w (fun r w'=>r = .tup []∧w' = actW w x):=by
 refine dc_by mixed Tryz.func62 rfl (fun args w=>Tryz.call62 args w) ?_
 have c1:=obytes_pc Γ w.n.ours hn.2.1 hn.2.2
 have cs0:=fun (c i:Nat) (d:List Nat)=>wsend_dw Γ w c i d hs
 by_cases h7:x = 7
 · subst h7
   have cs:=cs0 1 w.n.a.id (optB w.n.ours)
   have ea:actW w 7 = ⟨w.n,w.id,w.reply,w.sent++[⟨1,w.n.a.id,optB w.n.ours⟩],w.told⟩:=by simp [actW,sentBy,Lay]
   rw [ea]
   generalize optB w.n.ours = q at *
   generalize optE w.n.ours = qe at *
   unfold wkH wkc ngL
   simp -implicitDefEqProofs (disch:=omega) [go_sem]
   refine .inl (call_data c1 (by simp [go_sem]) ?_)
   simp -implicitDefEqProofs (disch:=omega) [go_sem]
   refine .inr (dw_call cs (g1:=1) (g2:=2) (by simp [go_sem,hpL,wkc,ngL]) (by simp [go_sem,hpL]) (by simp [go_sem,hpL]) (by decide) (by decide) (by decide) (by simp) (by repeat' constructor) (fun r w' hq=>?_))
   obtain ⟨rfl,rfl⟩:=hq
   simp -implicitDefEqProofs (disch:=omega) [go_sem,Tryz.f62]
   refine ⟨_,rfl,wkEnd_of (.tup []) _ 25 26 (.inl rfl) (by decide) ⟨rfl,rfl⟩ ?_ ?_ ?_⟩ <;> simp [go_sem]
 by_cases h10:x = 10
 · subst h10
   have cs:=cs0 5 w.n.a.id []
   have ea:actW w 10 = ⟨w.n,w.id,w.reply,w.sent++[⟨5,w.n.a.id,[]⟩],w.told⟩:=by simp [actW,sentBy,Lay]
   rw [ea]
   unfold wkH wkc ngL
   simp -implicitDefEqProofs (disch:=omega) [go_sem]
   refine .inr (dw_call cs (g1:=1) (g2:=2) (by simp [go_sem,hpL,wkc,ngL]) (by simp [go_sem,hpL]) (by simp [go_sem,hpL]) (by decide) (by decide) (by decide) (by simp) (by repeat' constructor) (fun r w' hq=>?_))
   obtain ⟨rfl,rfl⟩:=hq
   simp -implicitDefEqProofs (disch:=omega) [go_sem,Tryz.f62]
   refine ⟨_,rfl,wkEnd_of (.tup []) _ 15 16 (.inl rfl) (by decide) ⟨rfl,rfl⟩ ?_ ?_ ?_⟩ <;> simp [go_sem]
 by_cases h11:x = 11
 · subst h11
   have cs:=cs0 6 w.id []
   have ea:actW w 11 = ⟨w.n,w.id,w.reply,w.sent++[⟨6,w.id,[]⟩],w.told⟩:=by simp [actW,sentBy,Lay]
   rw [ea]
   unfold wkH wkc ngL
   simp -implicitDefEqProofs (disch:=omega) [go_sem]
   refine .inr (dw_call cs (g1:=1) (g2:=2) (by simp [go_sem,hpL,wkc,ngL]) (by simp [go_sem,hpL]) (by simp [go_sem,hpL]) (by decide) (by decide) (by decide) (by simp) (by repeat' constructor) (fun r w' hq=>?_))
   obtain ⟨rfl,rfl⟩:=hq
   simp -implicitDefEqProofs (disch:=omega) [go_sem,Tryz.f62]
   refine ⟨_,rfl,wkEnd_of (.tup []) _ 15 16 (.inl rfl) (by decide) ⟨rfl,rfl⟩ ?_ ?_ ?_⟩ <;> simp [go_sem]
 clear c1 cs0
 by_cases h8:x = 8
 · subst h8
   have ea:actW w 8 = ⟨w.n,w.id,w.reply,w.sent++[w.reply],w.told⟩:=by simp [actW,sentBy,Lay]
   rw [ea]
   unfold wkH wkc ngL
   simp -implicitDefEqProofs (disch:=omega) [go_sem,flat_pks]
   refine side (by kernel_rfl) ?_
   simp -implicitDefEqProofs (disch:=omega) [go_sem,flat_pks,Tryz.f62]
   refine ⟨_,rfl,wkEnd_of (.tup []) _ 22 2 (.inl rfl) (by decide) ⟨rfl,rfl⟩ ?_ ?_ ?_⟩ <;> simp [go_sem,wkc,ngL,pks_snoc]
 by_cases h9:x = 9
 · subst h9
   have ea:actW w 9 = ⟨w.n,w.id,w.reply,w.sent++[w.reply],w.told⟩:=by simp [actW,sentBy,Lay]
   rw [ea]
   unfold wkH wkc ngL
   simp -implicitDefEqProofs (disch:=omega) [go_sem,flat_pks]
   refine side (by kernel_rfl) ?_
   simp -implicitDefEqProofs (disch:=omega) [go_sem,flat_pks,Tryz.f62]
   refine ⟨_,rfl,wkEnd_of (.tup []) _ 24 2 (.inl rfl) (by decide) ⟨rfl,rfl⟩ ?_ ?_ ?_⟩ <;> simp [go_sem,wkc,ngL,pks_snoc]
 by_cases h12:x = 12
 · subst h12
   have ea:actW w 12 = ⟨w.n,w.id,w.reply,w.sent++[w.reply],w.told⟩:=by simp [actW,sentBy,Lay]
   rw [ea]
   unfold wkH wkc ngL
   simp -implicitDefEqProofs (disch:=omega) [go_sem,flat_pks]
   refine side (by kernel_rfl) ?_
   simp -implicitDefEqProofs (disch:=omega) [go_sem,flat_pks,Tryz.f62]
   refine ⟨_,rfl,wkEnd_of (.tup []) _ 26 2 (.inl rfl) (by decide) ⟨rfl,rfl⟩ ?_ ?_ ?_⟩ <;> simp [go_sem,wkc,ngL,pks_snoc]
 by_cases h13:x = 13
 · subst h13
   have ea:actW w 13 = ⟨w.n,w.id,w.reply,w.sent++[w.reply],w.told⟩:=by simp [actW,sentBy,Lay]
   rw [ea]
   unfold wkH wkc ngL
   simp -implicitDefEqProofs (disch:=omega) [go_sem,flat_pks]
   refine side (by kernel_rfl) ?_
   simp -implicitDefEqProofs (disch:=omega) [go_sem,flat_pks,Tryz.f62]
   refine ⟨_,rfl,wkEnd_of (.tup []) _ 28 2 (.inl rfl) (by decide) ⟨rfl,rfl⟩ ?_ ?_ ?_⟩ <;> simp [go_sem,wkc,ngL,pks_snoc]
 by_cases h1:x = 1
 · subst h1
   have ea:actW w 1 = ⟨w.n,w.id,w.reply,w.sent,w.told++[1]⟩:=by simp [actW,sentBy,Lay]
   rw [ea]
   unfold wkH wkc ngL
   simp -implicitDefEqProofs (disch:=omega) [go_sem,flat_ints,Tryz.f62]
   refine ⟨_,rfl,wkEnd_of (.tup []) _ 1 27 (.inl rfl) (by decide) ⟨rfl,rfl⟩ ?_ ?_ ?_⟩ <;> simp [go_sem,wkc,ngL,ints_snoc]
 by_cases h2:x = 2
 · subst h2
   have ea:actW w 2 = ⟨w.n,w.id,w.reply,w.sent,w.told++[2]⟩:=by simp [actW,sentBy,Lay]
   rw [ea]
   unfold wkH wkc ngL
   simp -implicitDefEqProofs (disch:=omega) [go_sem,flat_ints,Tryz.f62]
   refine ⟨_,rfl,wkEnd_of (.tup []) _ 1 29 (.inl rfl) (by decide) ⟨rfl,rfl⟩ ?_ ?_ ?_⟩ <;> simp [go_sem,wkc,ngL,ints_snoc]
 by_cases h3:x = 3
 · subst h3
   have ea:actW w 3 = ⟨w.n,w.id,w.reply,w.sent,w.told++[3]⟩:=by simp [actW,sentBy,Lay]
   rw [ea]
   unfold wkH wkc ngL
   simp -implicitDefEqProofs (disch:=omega) [go_sem,flat_ints,Tryz.f62]
   refine ⟨_,rfl,wkEnd_of (.tup []) _ 1 31 (.inl rfl) (by decide) ⟨rfl,rfl⟩ ?_ ?_ ?_⟩ <;> simp [go_sem,wkc,ngL,ints_snoc]
 by_cases h4:x = 4
 · subst h4
   have ea:actW w 4 = ⟨w.n,w.id,w.reply,w.sent,w.told++[4]⟩:=by simp [actW,sentBy,Lay]
   rw [ea]
   unfold wkH wkc ngL
   simp -implicitDefEqProofs (disch:=omega) [go_sem,flat_ints,Tryz.f62]
   refine ⟨_,rfl,wkEnd_of (.tup []) _ 1 33 (.inl rfl) (by decide) ⟨rfl,rfl⟩ ?_ ?_ ?_⟩ <;> simp [go_sem,wkc,ngL,ints_snoc]
 have ea:actW w x = w:=by
  have e1:sentBy w.n w.reply ⟨6,w.id,[]⟩ x = []:=by unfold sentBy;rw [if_neg h7,if_neg h10,if_neg h11,if_neg (by omega)]
  unfold actW
  rw [e1,if_neg (by unfold Lay;omega),List.append_nil,List.append_nil]
 rw [ea]
 unfold wkH wkc ngL
 simp -implicitDefEqProofs (disch:=omega) [go_sem,h7,h10,h11,h8,h9,h12,h13,h1,h2,h3,h4,Tryz.f62]
 refine ⟨_,rfl,wkEnd_of (.tup []) _ 1 2 (.inl rfl) (by decide) ⟨rfl,rfl⟩ ?_ ?_ ?_⟩ <;> simp [go_sem,wkc,ngL]
end
end Ne
namespace Ne
open Op9 Ru Fs Pa
theorem ren_wk {n:Nat} {ρ:Nat->Option Nat} {H:Nat->Blk} (c:List Data) {g1 g2 o1 o2:Nat} (a b e1 e2:Nat) (h1:g1 < n) (h2:g2 < n) (r1:ρ g1 = some o1) (r2:ρ g2 = some o2):RenCells n ρ H (c.map D.data++[.ref g1 0 a e1,.ref g2 0 b e2]) (c.map D.data++[.ref o1 0 a e1,.ref o2 0 b e2]) :=
 renCells_app rfl (renCells_plain rfl (by simp [plainD])) ((renCells_cons ..).2 ⟨.ref _ _ _ _ _ h1 r1,(renCells_cons ..).2 ⟨.ref _ _ _ _ _ h2 r2,(renCells_nil _).2 trivial⟩⟩)
theorem acts_sent (w:Wk) (l:List Int) (i:Nat):(actsW w (l.take i)).sent.length≤w.sent.length + i∧(actsW w (l.take i)).told.length≤w.told.length + i:=by
 have h1:=sentL_le w.n w.reply ⟨6,w.id,[]⟩ (l.take i)
 have h2:=toldL_le (l.take i)
 have h3:(l.take i).length≤i:=by rw [List.length_take];omega
 unfold actsW
 simp only [List.length_append]
 omega
section
variable (Γ:Nat->Option (List Data))
set_option maxHeartbeats 4000000 in
theorem wfollow_dw (w:Wk) (a:Au) (l:List Int) (hs:w.sent.length≤100) (ht:w.told.length≤100) (hn:FineN w.n) (hl:l.length≤100):DW Γ 37 [.data (au a),.data (nums l)] w (fun r w'=>r = .tup []∧w' = followW w a l):=by
 refine dc_by mixed Tryz.func37 rfl (fun args w=>Tryz.call37 args w) ?_
 have c0:=wanew_dw Γ w l (by omega)
 have c1:=ask13_pc Γ w.n.r hn.1
 have hf:FineN (freshN ⟨a,w.n.r,w.n.ours,w.n.naks,w.n.peer⟩ w.n.a.s l):=fresh_fine (n:=⟨a,w.n.r,w.n.ours,w.n.naks,w.n.peer⟩) hn w.n.a.s l
 unfold followW
 by_cases hfr:Fresh w.n.a.s l
 · rw [decide_eq_true hfr] at c0
   have em:freshN ⟨a,w.n.r,w.n.ours,w.n.naks,w.n.peer⟩ w.n.a.s l = ⟨a,w.n.r,askR w.n.r,0,[]⟩:=if_pos hfr
   rw [em] at hf ⊢
   unfold au nums rul at *
   unfold wkH wkc ngL
   simp -implicitDefEqProofs (disch:=omega) [go_sem]
   refine .inr (dw_call c0 (g1:=1) (g2:=2) (by simp [go_sem,hpL,wkc,ngL]) (by simp [go_sem,hpL]) (by simp [go_sem,hpL]) (by decide) (by decide) (by decide) (by simp) (by repeat' constructor) (fun r w1 hq=>?_))
   obtain ⟨rfl,e1⟩:=hq
   rw [e1]
   simp -implicitDefEqProofs (disch:=omega) [go_sem,wkc,ngL]
   refine .inl (call_data c1 (by simp [go_sem]) ?_)
   simp -implicitDefEqProofs (disch:=omega) [go_sem,wkc,ngL]
   obtain ⟨V,hV⟩:∃ V:Wk,V = ⟨⟨a,w.n.r,askR w.n.r,0,[]⟩,w.id,w.reply,w.sent,w.told⟩:=⟨_,rfl⟩
   rw [<- hV]
   have hVn:FineN V.n:=by rw [hV];exact hf
   have hVs:V.sent.length≤100∧V.told.length≤100:=by rw [hV];exact ⟨hs,ht⟩
   refine loop_ren (σ:={ i:Nat // i≤l.length }) (fun i=>⟨envL [(0,.ptr 0 0),(34,.data (.sl 1 (l.map fun n=>Data.int .i64 n))),(35,.data (.int .i64 l.length)),(36,.data (.int .i64 i.1))],
    hpL [(0,.blk true ((wkc (actsW V (l.take i.1))).map D.data++[.ref 3 0 (actsW V (l.take i.1)).sent.length 3,.ref 4 0 (actsW V (l.take i.1)).told.length 1])),(3,.blk true ((flat (pks (actsW V (l.take i.1)).sent)).map D.data)),(4,.blk true ((ints (actsW V (l.take i.1)).told).map D.data))],5,3,44⟩) (fun i=>l.length - i.1) ⟨0,by omega⟩ [] (rhoL [(3,some 6),(4,some 7)]) ?_ ?_
   · rw [List.take_zero,acts_nil,hV]
     apply ren_lists <;> simp -implicitDefEqProofs [go_sem,wkc,ngL,ots]
   rintro ⟨i,hi⟩
   have hb:=acts_sent V l i
   by_cases h:i < l.length
   · have c2:=wact_dw Γ (actsW V (l.take i)) l[i] (by omega) (by omega) hVn
     rw [<- acts_take V l i h] at c2
     simp -implicitDefEqProofs (disch:=omega) [go_sem]
     refine .inr (dw_call c2 (g1:=3) (g2:=4) (by simp [go_sem]) (by simp [go_sem]) (by simp [go_sem]) (by decide) (by decide) (by decide) (by simp) (by repeat' constructor) (fun r w1 hq=>?_))
     obtain ⟨rfl,rfl⟩:=hq
     simp -implicitDefEqProofs (disch:=omega) [go_sem]
     refine next_ren ⟨i + 1,by omega⟩ (by simp only;omega) [] (rhoL [(3,some 11),(4,some 12)]) ?_
     apply ren_lists <;> simp -implicitDefEqProofs [go_sem]
     exact ren_wk _ _ _ _ _ (by omega) (by omega) rfl rfl
   · have:i = l.length:=by omega
     subst this
     rw [List.take_length]
     simp -implicitDefEqProofs (disch:=omega) [go_sem,Tryz.f37]
     refine ⟨_,rfl,wkEnd_of (.tup []) _ 3 4 (.inl rfl) (by decide) ⟨rfl,rfl⟩ ?_ ?_ ?_⟩ <;> simp [go_sem]
 · rw [decide_eq_false hfr] at c0
   have em:freshN ⟨a,w.n.r,w.n.ours,w.n.naks,w.n.peer⟩ w.n.a.s l = ⟨a,w.n.r,w.n.ours,w.n.naks,w.n.peer⟩:=if_neg hfr
   rw [em] at hf ⊢
   unfold au nums rul at *
   unfold wkH wkc ngL
   simp -implicitDefEqProofs (disch:=omega) [go_sem]
   refine .inr (dw_call c0 (g1:=1) (g2:=2) (by simp [go_sem,hpL,wkc,ngL]) (by simp [go_sem,hpL]) (by simp [go_sem,hpL]) (by decide) (by decide) (by decide) (by simp) (by repeat' constructor) (fun r w1 hq=>?_))
   obtain ⟨rfl,e1⟩:=hq
   rw [e1]
   simp -implicitDefEqProofs (disch:=omega) [go_sem,wkc,ngL]
   obtain ⟨V,hV⟩:∃ V:Wk,V = ⟨⟨a,w.n.r,w.n.ours,w.n.naks,w.n.peer⟩,w.id,w.reply,w.sent,w.told⟩:=⟨_,rfl⟩
   rw [<- hV]
   have hVn:FineN V.n:=by rw [hV];exact hf
   have hVs:V.sent.length≤100∧V.told.length≤100:=by rw [hV];exact ⟨hs,ht⟩
   refine loop_ren (σ:={ i:Nat // i≤l.length }) (fun i=>⟨envL [(0,.ptr 0 0),(34,.data (.sl 1 (l.map fun n=>Data.int .i64 n))),(35,.data (.int .i64 l.length)),(36,.data (.int .i64 i.1))],
    hpL [(0,.blk true ((wkc (actsW V (l.take i.1))).map D.data++[.ref 3 0 (actsW V (l.take i.1)).sent.length 3,.ref 4 0 (actsW V (l.take i.1)).told.length 1])),(3,.blk true ((flat (pks (actsW V (l.take i.1)).sent)).map D.data)),(4,.blk true ((ints (actsW V (l.take i.1)).told).map D.data))],5,3,44⟩) (fun i=>l.length - i.1) ⟨0,by omega⟩ [] (rhoL [(3,some 6),(4,some 7)]) ?_ ?_
   · rw [List.take_zero,acts_nil,hV]
     apply ren_lists <;> simp -implicitDefEqProofs [go_sem,wkc,ngL]
   rintro ⟨i,hi⟩
   have hb:=acts_sent V l i
   by_cases h:i < l.length
   · have c2:=wact_dw Γ (actsW V (l.take i)) l[i] (by omega) (by omega) hVn
     rw [<- acts_take V l i h] at c2
     simp -implicitDefEqProofs (disch:=omega) [go_sem]
     refine .inr (dw_call c2 (g1:=3) (g2:=4) (by simp [go_sem]) (by simp [go_sem]) (by simp [go_sem]) (by decide) (by decide) (by decide) (by simp) (by repeat' constructor) (fun r w1 hq=>?_))
     obtain ⟨rfl,rfl⟩:=hq
     simp -implicitDefEqProofs (disch:=omega) [go_sem]
     refine next_ren ⟨i + 1,by omega⟩ (by simp only;omega) [] (rhoL [(3,some 11),(4,some 12)]) ?_
     apply ren_lists <;> simp -implicitDefEqProofs [go_sem]
     exact ren_wk _ _ _ _ _ (by omega) (by omega) rfl rfl
   · have:i = l.length:=by omega
     subst this
     rw [List.take_length]
     simp -implicitDefEqProofs (disch:=omega) [go_sem,Tryz.f37]
     refine ⟨_,rfl,wkEnd_of (.tup []) _ 3 4 (.inl rfl) (by decide) ⟨rfl,rfl⟩ ?_ ?_ ?_⟩ <;> simp [go_sem]
set_option maxHeartbeats 2000000 in
theorem wdo_dw (hΓ:Spaces Γ) (w:Wk) (e:Int) (hs:w.sent.length≤100) (ht:w.told.length≤100) (hn:FineN w.n) (ha:AuR w.n.a):DW Γ 36 [.data (.int .i64 e)] w (fun r w'=>r = nums (doL w.n.a e)∧w' = doW w e):=by
 refine dc_by mixed Tryz.func36 rfl (fun args w=>Tryz.call36 args w) ?_
 have c1:=ado_pc Γ hΓ w.n.a e ha.1 ha.2
 have hsh:=doL_short w.n.a e
 have c2:=wfollow_dw Γ w (doA w.n.a e) (doL w.n.a e) hs ht hn (by omega)
 have hnone:=fun h=>do_none (a:=w.n.a) (e:=e) h
 unfold doW
 generalize doA w.n.a e = B at *
 generalize doL w.n.a e = L at *
 by_cases h:doE w.n.a e = 0
 · rw [if_pos h]
   rw [h] at c1
   clear hnone
   unfold au nums at *
   unfold wkH wkc ngL
   simp -implicitDefEqProofs (disch:=omega) [go_sem]
   refine .inl (call_data c1 (by simp [go_sem]) ?_)
   simp -implicitDefEqProofs (disch:=omega) [go_sem]
   refine .inr (dw_call c2 (g1:=1) (g2:=2) (by simp [go_sem,hpL,wkc,ngL]) (by simp [go_sem,hpL]) (by simp [go_sem,hpL]) (by decide) (by decide) (by decide) (by simp) (by repeat' constructor) (fun r w1 hq=>?_))
   obtain ⟨rfl,e1⟩:=hq
   rw [e1]
   simp -implicitDefEqProofs (disch:=omega) [go_sem,Tryz.f36]
   refine wkEnd_of _ _ 24 25 (.inl rfl) (by decide) ⟨rfl,rfl⟩ ?_ ?_ ?_ <;> simp [go_sem]
 · rw [if_neg h]
   have hL:=hnone h
   subst hL
   clear hnone c2
   generalize doE w.n.a e = E at *
   unfold au nums at *
   unfold wkH wkc ngL
   simp -implicitDefEqProofs (disch:=omega) [go_sem,h]
   refine .inl (call_data c1 (by simp [go_sem]) ?_)
   simp -implicitDefEqProofs (disch:=omega) [go_sem,h,Ru.ne_beq h,Tryz.f36]
   refine wkEnd_of (.sl 1 []) w 1 2 (.inr ⟨_,_,rfl,rfl⟩) (by decide) ⟨rfl,rfl⟩ ?_ ?_ ?_ <;> simp [go_sem,hpL,wkc,ngL]
end
end Ne
namespace Ne
open Op9 Ru Fs Pa
def deedsN:Data:=.mp [.int .u8 1,.int .u8 2,.int .u8 3,.int .u8 4,.int .u8 5,.int .u8 6,.int .u8 7,.int .u8 8,.int .u8 9] [.fn 93 [],.fn 94 [],.fn 95 [],.fn 95 [],.fn 96 [],.fn 97 [],.fn 98 [],.fn 99 [],.fn 100 []]
/-- A protocol that a method is lent,as it may be. -/
structure OkW (n:Ng):Prop where
 ty:TyN n
 right:RightN n
theorem OkW.fine {n:Ng} (h:OkW n):FineN n∧AuR n.a:=by
 have hl:=okO_len h.right.2.2.1
 exact ⟨⟨h.ty.r,by omega,fun o ho=>by have:=hl.2 o ho;omega⟩,h.right.1.2.1,h.ty.id⟩
theorem OkW.ops {n:Ng} (h:OkW n):OpsF n.ours:=by
 have hl:=okO_len h.right.2.2.1
 exact ⟨by omega,fun o ho=>⟨(h.ty.ours o ho).d,by have:=hl.2 o ho;omega⟩,fun o ho=>(h.ty.ours o ho).t⟩
theorem got_ops {b:List Nat} (hb:∀ x∈b,x < 256) (hl:b.length≤1496):OpsF (gotO b):=by
 have h:=got_ty hb
 exact ⟨by omega,fun o ho=>⟨(h.2 o ho).1.d,by have:=(h.2 o ho).2;omega⟩,fun o ho=>(h.2 o ho).1.t⟩
theorem OkW.zero {n:Ng} (h:OkW n):OkW (zeroN n):=by
 refine ⟨?_,(zero_right h.right).1⟩
 unfold zeroN
 split
 · exact ⟨h.ty.r,h.ty.id,h.ty.ours,h.ty.peer⟩
 · exact h.ty
theorem OkW.turned {n:Ng} (h:OkW n) (c:Nat) (l:List Ot):OkW ⟨n.a,n.r,(turnR n.r n.ours c l).1,n.naks,n.peer⟩:=by
 obtain ⟨h1,h2,h3⟩:=rightN_iff.1 h.right
 exact ⟨⟨h.ty.r,h.ty.id,turn_ty h.ty.r h.ty.ours c l,h.ty.peer⟩,rightN_iff.2 ⟨h1,h2,ok_turn h3 c l⟩⟩
/-- A call's end,as the walk leaves it. -/
theorem wkEnd_set {Q:Data->Wk->Prop} {r:Data} {w':Wk} {H0:Nat->Blk} {g1 g2 a b nx:Nat} (hn:a≠b∧a≠0∧b≠0∧a < 100000∧b < 100000∧g1≠0∧g2≠0) (hq:Q r w') :
 WkEnd Q (.data r) (Hp.set (Hp.set (Hp.set (Hp.set (Hp.set H0 0 (.blk true ((wkc w').map D.data++[.ref a 0 w'.sent.length 3,.ref b 0 w'.told.length 1]))) g1 .dead) g2 .dead) a (.blk true ((flat (pks w'.sent)).map D.data))) b (.blk true ((ints w'.told).map D.data))) nx:=by
 obtain ⟨h1,h2,h3,h4,h5,h6,h7⟩:=hn
 refine wkEnd_of r w' a b (.inl rfl) ⟨h1,h2,h3,h4,h5⟩ hq ?_ ?_ ?_
 · simp [Hp.set,Ne.symm h2,Ne.symm h3,Ne.symm h6,Ne.symm h7]
 · simp [Hp.set,h1]
 · simp [Hp.set]
section
variable (Γ:Nat->Option (List Data))
set_option maxHeartbeats 2000000 in
theorem deeds_pc:PC Tryz.prog Γ 67 [] deedsN:=by
 refine pc_by mixed Tryz.func67 rfl (fun args w=>Tryz.call67 args w) ?_
 simp -implicitDefEqProofs (disch:=omega) [go_sem,Tryz.f67]
 exact ⟨_,⟨_,rfl,frz_mp (xs:=[.fn 93 [],.fn 94 [],.fn 95 [],.fn 95 [],.fn 96 [],.fn 97 [],.fn 98 [],.fn 99 [],.fn 100 []]) rfl⟩,rfl⟩
theorem wnote_dw (w:Wk) (c:Nat) (l:List Ot) (hk:0≤w.n.naks∧w.n.naks≤3):DW Γ 120 [.data (.int .u8 c),.data (.sl 2 (ots l))] w (fun r w'=>r = .tup []∧w' = ⟨if c = 2 then ⟨w.n.a,w.n.r,w.n.ours,0,l⟩ else if c = 3 then ⟨w.n.a,w.n.r,w.n.ours,min 3 (w.n.naks + 1),w.n.peer⟩ else w.n,w.id,w.reply,w.sent,w.told⟩):=by
 refine dc_by mixed Tryz.func120 rfl (fun args w=>Tryz.call120 args w) ?_
 unfold wkH wkc ngL
 by_cases h2:c = 2
 · subst h2
   simp -implicitDefEqProofs (disch:=omega) [go_sem,Tryz.f120]
   refine ⟨_,rfl,wkEnd_of (.tup []) _ 1 2 (.inl rfl) (by decide) ⟨rfl,rfl⟩ ?_ ?_ ?_⟩ <;> simp [go_sem,wkc,ngL,hpL]
 by_cases h3:c = 3
 · subst h3
   simp -implicitDefEqProofs (disch:=omega) [go_sem,Tryz.f120]
   refine ⟨_,rfl,wkEnd_of (.tup []) _ 1 2 (.inl rfl) (by decide) ⟨rfl,rfl⟩ ?_ ?_ ?_⟩ <;> simp [go_sem,wkc,ngL,hpL]
   omega
 have k2:¬ ((c:Int) = 2):=by omega
 have k3:¬ ((c:Int) = 3):=by omega
 rw [if_neg h2,if_neg h3]
 simp -implicitDefEqProofs (disch:=omega) [go_sem,Ru.ne_beq k2,Ru.ne_beq k3,Tryz.f120]
 refine ⟨_,rfl,wkEnd_of (.tup []) _ 1 2 (.inl rfl) (by decide) ⟨rfl,rfl⟩ ?_ ?_ ?_⟩ <;> simp [go_sem,wkc,ngL,hpL]
theorem wend_dw (hΓ:Spaces Γ) (n:Ng) (i:Nat) (p:Pk) (h:OkW n):DW Γ 96 [.data (pk p)] (newW n i) (fun r w'=>r = .tup []∧Comes (eventN n 10 noP i) w'):=by
 refine dc_by mixed Tryz.func96 rfl (fun args w=>Tryz.call96 args w) ?_
 have c1:=wdo_dw Γ hΓ (newW n i) 10 (by simp [newW]) (by simp [newW]) h.fine.1 h.fine.2
 unfold wkH wkc ngL pk
 simp -implicitDefEqProofs (disch:=omega) [go_sem]
 refine .inr (dw_call c1 (g1:=1) (g2:=2) (by simp [go_sem,hpL,wkc,ngL]) (by simp [go_sem,hpL]) (by simp [go_sem,hpL]) (by decide) (by decide) (by decide) (by simp) (by repeat' constructor) (fun r w1 hq=>?_))
 have hev:=do_event n i noP 10
 obtain ⟨rfl,rfl⟩:=hq
 simp -implicitDefEqProofs (disch:=omega) [go_sem,Tryz.f96]
 exact ⟨_,rfl,wkEnd_set (by decide) ⟨rfl,hev⟩⟩
theorem wended_dw (hΓ:Spaces Γ) (n:Ng) (i:Nat) (p:Pk) (h:OkW n):DW Γ 97 [.data (pk p)] (newW n i) (fun r w'=>r = .tup []∧Comes (eventN n 11 noP i) w'):=by
 refine dc_by mixed Tryz.func97 rfl (fun args w=>Tryz.call97 args w) ?_
 have c1:=wdo_dw Γ hΓ (newW n i) 11 (by simp [newW]) (by simp [newW]) h.fine.1 h.fine.2
 unfold wkH wkc ngL pk
 simp -implicitDefEqProofs (disch:=omega) [go_sem]
 refine .inr (dw_call c1 (g1:=1) (g2:=2) (by simp [go_sem,hpL,wkc,ngL]) (by simp [go_sem,hpL]) (by simp [go_sem,hpL]) (by decide) (by decide) (by decide) (by simp) (by repeat' constructor) (fun r w1 hq=>?_))
 have hev:=do_event n i noP 11
 obtain ⟨rfl,rfl⟩:=hq
 simp -implicitDefEqProofs (disch:=omega) [go_sem,Tryz.f97]
 exact ⟨_,rfl,wkEnd_set (by decide) ⟨rfl,hev⟩⟩
theorem wrejected_dw (hΓ:Spaces Γ) (n:Ng) (i:Nat) (b:Bool) (h:OkW n):DW Γ 122 [.data (.bool b)] (newW n i) (fun r w'=>r = .tup []∧Comes (if b = true then eventN n 14 noP i else eventN n 13 noP i) w'):=by
 refine dc_by mixed Tryz.func122 rfl (fun args w=>Tryz.call122 args w) ?_
 have c1:=wdo_dw Γ hΓ (newW n i) 14 (by simp [newW]) (by simp [newW]) h.fine.1 h.fine.2
 have c2:=wdo_dw Γ hΓ (newW n i) 13 (by simp [newW]) (by simp [newW]) h.fine.1 h.fine.2
 unfold wkH wkc ngL
 cases b
 · simp -implicitDefEqProofs (disch:=omega) [go_sem]
   refine .inr (dw_call c2 (g1:=1) (g2:=2) (by simp [go_sem,hpL,wkc,ngL]) (by simp [go_sem,hpL]) (by simp [go_sem,hpL]) (by decide) (by decide) (by decide) (by simp) (by repeat' constructor) (fun r w1 hq=>?_))
   have hev:=do_event n i noP 13
   obtain ⟨rfl,rfl⟩:=hq
   simp -implicitDefEqProofs (disch:=omega) [go_sem,Tryz.f122]
   exact ⟨_,rfl,wkEnd_set (by decide) ⟨rfl,hev⟩⟩
 · simp -implicitDefEqProofs (disch:=omega) [go_sem]
   refine .inr (dw_call c1 (g1:=1) (g2:=2) (by simp [go_sem,hpL,wkc,ngL]) (by simp [go_sem,hpL]) (by simp [go_sem,hpL]) (by decide) (by decide) (by decide) (by simp) (by repeat' constructor) (fun r w1 hq=>?_))
   have hev:=do_event n i noP 14
   obtain ⟨rfl,rfl⟩:=hq
   simp -implicitDefEqProofs (disch:=omega) [go_sem,Tryz.f122]
   exact ⟨_,rfl,wkEnd_set (by decide) ⟨rfl,hev⟩⟩
theorem wcodeRej_dw (hΓ:Spaces Γ) (n:Ng) (i:Nat) (p:Pk) (h:OkW n):DW Γ 98 [.data (pk p)] (newW n i) (fun r w'=>r = .tup []∧Comes (if firstB p.d = true then eventN n 14 noP i else eventN n 13 noP i) w'):=by
 refine dc_by mixed Tryz.func98 rfl (fun args w=>Tryz.call98 args w) ?_
 have c1:=wrejected_dw Γ hΓ n i (firstB p.d) h
 have fin:∀ x r,p.d = x :: r->firstB p.d = (decide (1≤x) && decide (x≤7)):=fun x r hd=>by rw [hd,<- Bool.decide_and];rfl
 unfold wkH wkc ngL pk
 rcases hd:p.d with _ | ⟨x,q⟩
 · have e:firstB p.d = false:=by rw [hd];rfl
   rw [e] at c1
   rw [show firstB [] = false from rfl]
   simp -implicitDefEqProofs (disch:=omega) [go_sem,bys]
   refine .inr (dw_call c1 (g1:=1) (g2:=2) (by simp [go_sem,hpL,wkc,ngL,bys]) (by simp [go_sem,hpL]) (by simp [go_sem,hpL]) (by decide) (by decide) (by decide) (by simp) (by repeat' constructor) (fun r w1 hq=>?_))
   obtain ⟨rfl,hev⟩:=hq
   simp -implicitDefEqProofs (disch:=omega) [go_sem,Tryz.f98]
   exact ⟨_,rfl,wkEnd_set (by decide) ⟨rfl,hev⟩⟩
 · have e:=fin x q hd
   rw [<- hd]
   rw [e] at c1 ⊢
   by_cases h1:1≤x
   · by_cases h7:x≤7
     · rw [decide_eq_true h1,decide_eq_true h7] at c1 ⊢
       simp -implicitDefEqProofs (disch:=omega) [go_sem,hd,bys,u8,h1,h7]
       refine .inr (dw_call c1 (g1:=1) (g2:=2) (by simp [go_sem,hpL,wkc,ngL,bys]) (by simp [go_sem,hpL]) (by simp [go_sem,hpL]) (by decide) (by decide) (by decide) (by simp) (by repeat' constructor) (fun r w1 hq=>?_))
       obtain ⟨rfl,hev⟩:=hq
       simp -implicitDefEqProofs (disch:=omega) [go_sem,Tryz.f98]
       exact ⟨_,rfl,wkEnd_set (by decide) ⟨rfl,hev⟩⟩
     · rw [decide_eq_true h1,decide_eq_false h7] at c1 ⊢
       simp -implicitDefEqProofs (disch:=omega) [go_sem,hd,bys,u8,h1,h7]
       refine .inr (dw_call c1 (g1:=1) (g2:=2) (by simp [go_sem,hpL,wkc,ngL,bys]) (by simp [go_sem,hpL]) (by simp [go_sem,hpL]) (by decide) (by decide) (by decide) (by simp) (by repeat' constructor) (fun r w1 hq=>?_))
       obtain ⟨rfl,hev⟩:=hq
       simp -implicitDefEqProofs (disch:=omega) [go_sem,Tryz.f98]
       exact ⟨_,rfl,wkEnd_set (by decide) ⟨rfl,hev⟩⟩
   · rw [decide_eq_false h1] at c1 ⊢
     simp -implicitDefEqProofs (disch:=omega) [go_sem,hd,bys,u8,h1]
     refine .inr (dw_call c1 (g1:=1) (g2:=2) (by simp [go_sem,hpL,wkc,ngL,bys]) (by simp [go_sem,hpL]) (by simp [go_sem,hpL]) (by decide) (by decide) (by decide) (by simp) (by repeat' constructor) (fun r w1 hq=>?_))
     obtain ⟨rfl,hev⟩:=hq
     simp -implicitDefEqProofs (disch:=omega) [go_sem,Tryz.f98]
     exact ⟨_,rfl,wkEnd_set (by decide) ⟨rfl,hev⟩⟩
theorem lcpB_is (d:List Nat):lcpB d = decide (d.take [192,33].length = [192,33]):=by
 rcases d with _ | ⟨x,_ | ⟨y,r⟩⟩
 · rfl
 · simp [lcpB]
 · simp [lcpB]
theorem wprotoRej_dw (hΓ:Spaces Γ) (n:Ng) (i:Nat) (p:Pk) (h:OkW n) (hp:p.Ty) (hl:p.d.length≤1496):DW Γ 99 [.data (pk p)] (newW n i) (fun r w'=>r = .tup []∧Comes (if lcpB p.d = true then eventN n 14 noP i else eventN n 13 noP i) w'):=by
 refine dc_by mixed Tryz.func99 rfl (fun args w=>Tryz.call99 args w) ?_
 have c1:=wrejected_dw Γ hΓ n i (lcpB p.d) h
 have c2:=Fc.prefix_pc Γ p.d [192,33] hp.d (by simp) (by omega) (by simp)
 rw [<- lcpB_is] at c2
 generalize lcpB p.d = b at *
 unfold wkH wkc ngL pk
 simp -implicitDefEqProofs (disch:=omega) [go_sem]
 refine .inl (call_frz [7] [7] (fun g hg=>?_) c2 (fun H' hH'=>frzL_c (.data _) (frzL_c (frz_bys (rw:=false) (by simp [Hp.upd,Hp.set,fz,bys,u8]) (.inr rfl) rfl) frzL_n)) ?_)
 · simp only [List.mem_cons,List.not_mem_nil,or_false] at hg
   subst hg
   exact ⟨true,_,by simp [Hp.upd,Hp.set];rfl⟩
 simp -implicitDefEqProofs (disch:=omega) [go_sem]
 refine .inr (dw_call c1 (g1:=1) (g2:=2) (by simp [go_sem,hpL,wkc,ngL]) (by simp [go_sem,hpL]) (by simp [go_sem,hpL]) (by decide) (by decide) (by decide) (by simp) (by repeat' constructor) (fun r w1 hq=>?_))
 obtain ⟨rfl,hev⟩:=hq
 simp -implicitDefEqProofs (disch:=omega) [go_sem,Tryz.f99]
 exact ⟨_,rfl,wkEnd_set (by decide) ⟨rfl,hev⟩⟩
set_option maxHeartbeats 2000000 in
theorem wagree_dw (hΓ:Spaces Γ) (n:Ng) (i:Nat) (p:Pk) (h:OkW n) (hp:p.Ty) (hl:p.d.length≤1496):DW Γ 94 [.data (pk p)] (newW n i) (fun r w'=>r = .tup []∧Comes (if optB n.ours = p.d∧p.i = n.a.id then eventN n 8 noP i else none4 n) w'):=by
 refine dc_by mixed Tryz.func94 rfl (fun args w=>Tryz.call94 args w) ?_
 have c1:=wdo_dw Γ hΓ (newW n i) 8 (by simp [newW]) (by simp [newW]) h.fine.1 h.fine.2
 have c2:=obytes_pc Γ n.ours h.fine.1.2.1 h.fine.1.2.2
 have c3:=Sf.sequal_pc Γ p.d (optB n.ours) hp.d (optB_lt h.ty.ours)
 rw [show optE n.ours = 0 from if_pos h.right.2.2.1] at c2
 have fin:∀ (H':Nat->Blk) (nx:Nat),¬ (optB n.ours = p.d∧p.i = n.a.id)->H' 0 = wkH (newW n i) 0->H' 1 = wkH (newW n i) 1->H' 2 = wkH (newW n i) 2->WkEnd (fun r w'=>r = .tup []∧Comes (if optB n.ours = p.d∧p.i = n.a.id then eventN n 8 noP i else none4 n) w') (.data (.tup [])) H' nx:=fun H' nx hno h0 h1 h2 =>
  wkEnd_of (.tup []) (newW n i) 1 2 (.inl rfl) (by decide) ⟨rfl,by rw [if_neg hno];exact ⟨rfl,rfl,rfl⟩⟩ (h0.trans rfl) (h1.trans rfl) (h2.trans rfl)
 have yes:optB n.ours = p.d∧p.i = n.a.id->Comes (if optB n.ours = p.d∧p.i = n.a.id then eventN n 8 noP i else none4 n) (doW (newW n i) 8):=fun hy=>by rw [if_pos hy];exact do_event n i noP 8
 generalize hq:optB n.ours = q at *
 generalize Comes (if q = p.d∧p.i = n.a.id then eventN n 8 noP i else none4 n) = C at *
 unfold wkH wkc ngL pk at *
 by_cases hi:p.i = n.a.id
 · have hi2:p.i = (newW n i).n.a.id:=hi
   by_cases hd:p.d = q
   · rw [decide_eq_true hd] at c3
     simp -implicitDefEqProofs (disch:=omega) [go_sem]
     refine .inl (call_data c2 (by simp [go_sem,newW]) ?_)
     simp -implicitDefEqProofs (disch:=omega) [go_sem,hi2]
     refine .inl (call_data c3 (by simp [go_sem]) ?_)
     simp -implicitDefEqProofs (disch:=omega) [go_sem]
     refine side (by kernel_rfl) ?_
     simp -implicitDefEqProofs (disch:=omega) [go_sem]
     refine .inr (dw_call c1 (g1:=1) (g2:=2) (by simp [go_sem,hpL,wkc,ngL,hi2]) (by simp [go_sem,hpL]) (by simp [go_sem,hpL]) (by decide) (by decide) (by decide) (by simp) (by repeat' constructor) (fun r w1 hq=>?_))
     obtain ⟨rfl,rfl⟩:=hq
     simp -implicitDefEqProofs (disch:=omega) [go_sem,Tryz.f94]
     exact ⟨_,rfl,wkEnd_set (by decide) ⟨rfl,yes ⟨hd.symm,hi⟩⟩⟩
   · rw [decide_eq_false hd] at c3
     simp -implicitDefEqProofs (disch:=omega) [go_sem]
     refine .inl (call_data c2 (by simp [go_sem,newW]) ?_)
     simp -implicitDefEqProofs (disch:=omega) [go_sem,hi2]
     refine .inl (call_data c3 (by simp [go_sem]) ?_)
     simp -implicitDefEqProofs (disch:=omega) [go_sem]
     refine side (by kernel_rfl) ?_
     simp -implicitDefEqProofs (disch:=omega) [go_sem,Tryz.f94]
     refine ⟨_,rfl,fin _ _ (fun hy=>hd hy.1.symm) ?_ ?_ ?_⟩ <;> simp [go_sem,hpL,hi2]
 · have hi2:¬ ((p.i:Int) = (newW n i).n.a.id):=by show ¬ ((p.i:Int) = n.a.id);omega
   simp -implicitDefEqProofs (disch:=omega) [go_sem]
   refine .inl (call_data c2 (by simp [go_sem,newW]) ?_)
   simp -implicitDefEqProofs (disch:=omega) [go_sem,Ru.ne_beq hi2]
   refine side (by kernel_rfl) ?_
   simp -implicitDefEqProofs (disch:=omega) [go_sem,Tryz.f94]
   refine ⟨_,rfl,fin _ _ (fun hy=>hi hy.2) ?_ ?_ ?_⟩ <;> simp [go_sem,hpL]
set_option maxHeartbeats 4000000 in
theorem wrefuse_dw (hΓ:Spaces Γ) (n:Ng) (i:Nat) (p:Pk) (h:OkW n) (hp:p.Ty) (hl:p.d.length≤1496):DW Γ 95 [.data (pk p)] (newW n i) (fun r w'=>r = .tup []∧Comes (if errO p.d = 0∧p.i = n.a.id then (if (turnR n.r n.ours p.c (gotO p.d)).2 = true then eventN ⟨n.a,n.r,(turnR n.r n.ours p.c (gotO p.d)).1,n.naks,n.peer⟩ 9 noP i else eventN n 3 noP i) else none4 n) w'):=by
 refine dc_by mixed Tryz.func95 rfl (fun args w=>Tryz.call95 args w) ?_
 have c1:=oread_pc Γ p.d (by omega) hp.d
 have c2:=turn13_pc Γ n.r n.ours p.c (gotO p.d) h.ty.r h.ops (got_ops hp.d hl)
 have c3:=wdo_dw Γ hΓ (newW n i) 3 (by simp [newW]) (by simp [newW]) h.fine.1 h.fine.2
 have ht:=h.turned p.c (gotO p.d)
 have c4:=wdo_dw Γ hΓ (newW ⟨n.a,n.r,(turnR n.r n.ours p.c (gotO p.d)).1,n.naks,n.peer⟩ i) 9 (by simp [newW]) (by simp [newW]) ht.fine.1 ht.fine.2
 have e3:=do_event n i noP 3
 have e4:=do_event ⟨n.a,n.r,(turnR n.r n.ours p.c (gotO p.d)).1,n.naks,n.peer⟩ i noP 9
 have he:errO p.d = 0 ∨ errO p.d = 2:=by unfold errO;split <;> simp
 generalize turnR n.r n.ours p.c (gotO p.d) = T at *
 obtain ⟨ours,may⟩:=T
 simp only at *
 generalize gotO p.d = l at *
 generalize errO p.d = E at *
 unfold rul at c2
 unfold wkH wkc ngL pk
 rcases he with rfl | rfl
 · by_cases hi:p.i = n.a.id
   · have hi2:p.i = (newW n i).n.a.id:=hi
     rw [if_pos ⟨rfl,hi⟩]
     simp -implicitDefEqProofs (disch:=omega) [go_sem]
     refine .inl (call_data c1 (by simp [go_sem]) ?_)
     simp -implicitDefEqProofs (disch:=omega) [go_sem,hi2]
     refine side (by kernel_rfl) ?_
     simp -implicitDefEqProofs (disch:=omega) [go_sem]
     refine .inl (call_data c2 (by simp [go_sem,newW]) ?_)
     simp -implicitDefEqProofs (disch:=omega) [go_sem]
     refine side (by kernel_rfl) ?_
     cases may
     · simp -implicitDefEqProofs (disch:=omega) [go_sem]
       refine .inr (dw_call c3 (g1:=1) (g2:=2) (by simp [go_sem,hpL,wkc,ngL,hi2]) (by simp [go_sem,hpL]) (by simp [go_sem,hpL]) (by decide) (by decide) (by decide) (by simp) (by repeat' constructor) (fun r w1 hq=>?_))
       obtain ⟨rfl,rfl⟩:=hq
       simp -implicitDefEqProofs (disch:=omega) [go_sem,Tryz.f95]
       exact ⟨_,rfl,wkEnd_set (by decide) ⟨rfl,e3⟩⟩
     · simp -implicitDefEqProofs (disch:=omega) [go_sem]
       refine .inr (dw_call c4 (g1:=1) (g2:=2) (by simp [go_sem,hpL,wkc,ngL,newW]) (by simp [go_sem,hpL,newW]) (by simp [go_sem,hpL,newW]) (by decide) (by decide) (by decide) (by simp) (by repeat' constructor) (fun r w1 hq=>?_))
       obtain ⟨rfl,rfl⟩:=hq
       simp -implicitDefEqProofs (disch:=omega) [go_sem,Tryz.f95]
       exact ⟨_,rfl,wkEnd_set (by decide) ⟨rfl,e4⟩⟩
   · have hi2:¬ ((p.i:Int) = (newW n i).n.a.id):=by show ¬ ((p.i:Int) = n.a.id);omega
     rw [if_neg fun k=>hi k.2]
     simp -implicitDefEqProofs (disch:=omega) [go_sem]
     refine .inl (call_data c1 (by simp [go_sem]) ?_)
     simp -implicitDefEqProofs (disch:=omega) [go_sem,Ru.ne_beq hi2]
     refine side (by kernel_rfl) ?_
     simp -implicitDefEqProofs (disch:=omega) [go_sem,Tryz.f95]
     refine ⟨_,rfl,wkEnd_of (.tup []) (newW n i) 1 2 (.inl rfl) (by decide) ⟨rfl,rfl,rfl,rfl⟩ ?_ ?_ ?_⟩ <;> simp [go_sem,wkc,ngL,hpL]
 · rw [if_neg (by omega)]
   simp -implicitDefEqProofs (disch:=omega) [go_sem]
   refine .inl (call_data c1 (by simp [go_sem]) ?_)
   simp -implicitDefEqProofs (disch:=omega) [go_sem]
   refine side (by kernel_rfl) ?_
   simp -implicitDefEqProofs (disch:=omega) [go_sem,Tryz.f95]
   refine ⟨_,rfl,wkEnd_of (.tup []) (newW n i) 1 2 (.inl rfl) (by decide) ⟨rfl,rfl,rfl,rfl⟩ ?_ ?_ ?_⟩ <;> simp [go_sem,wkc,ngL,hpL]
end
end Ne
namespace Ne
open Op9 Ru Fs Pa
section
variable (Γ:Nat->Option (List Data))
def echL (n:Ng) (i:Nat) (rep:Pk) (p:Pk) (m:Nat):List (Nat × Blk):=[(0,.blk true ((wkc ⟨n,i,rep,[],[]⟩).map D.data++[.ref 1 0 0 3,.ref 2 0 0 1])),(1,.blk true []),(2,.blk true []),(3,.blk true [.data (.int .u8 p.c),.data (.int .u8 p.i),.data (.sl 1 (bys p.d))]),(18,.blk false [.data (.sl 1 (bys (fourO m))),.data (.sl 1 (bys (p.d.drop 4)))])]
set_option maxHeartbeats 4000000 in
theorem wanswer_eff (n:Ng) (i:Nat) (p:Pk) (m:Nat) (q:List Nat) {H:Nat->Blk} {K:D->List Nat->List (Nat × Blk)->Nat->Prop} (hH:H = hpL (echL n i noP p m)) (hk:K (.data (.tup [])) (List.range 84) [(0,.blk true ((wkc ⟨n,i,⟨10,i,q⟩,[],[]⟩).map D.data++[.ref 1 0 0 3,.ref 2 0 0 1]))] 1) :
 effC Tryz.prog Γ 118 [.ptr 0 0,.data (.int .u8 10),.data (.sl 1 (bys q))] H 20 K:=by
 subst hH
 refine eff_dc (fr:=20) (d:=.data (.tup [])) [(0,.blk true ((wkc ⟨n,i,⟨10,i,q⟩,[],[]⟩).map D.data++[.ref 1 0 0 3,.ref 2 0 0 1]))] (echL n i ⟨10,i,q⟩ p m) ?_ ?_ (dc_by mixed Tryz.func118 rfl (fun args w=>Tryz.call118 args w) ?_) hk
 · funext g
   by_cases e0:g = 0
   · subst e0;rfl
   · simp [Hp.upd,Hp.set,hpL,echL,e0]
 · intro g hg
   simp [hpL,echL,show g≠0 by omega,show g≠1 by omega,show g≠2 by omega,show g≠3 by omega,show g≠18 by omega]
 · unfold echL wkc ngL
   simp -implicitDefEqProofs (disch:=omega) [go_sem,Tryz.f118]
   refine ⟨_,rfl,[],?_⟩
   apply ren_lists <;> simp -implicitDefEqProofs [go_sem]
set_option maxHeartbeats 4000000 in
theorem wecho_dw (hΓ:Spaces Γ) (n:Ng) (i:Nat) (p:Pk) (h:OkW n) (hp:p.Ty) (hl:p.d.length≤1496):DW Γ 100 [.data (pk p)] (newW n i) (fun r w'=>r = .tup []∧Comes (if 4≤p.d.length then eventN n 15 ⟨10,i,echoD n p⟩ i else none4 n) w'):=by
 refine dc_by mixed Tryz.func100 rfl (fun args w=>Tryz.call100 args w) ?_
 have hw:=h.ops
 have c1:=nmagic_pc Γ n h.fine.1.2.1 (fun o ho=>hw.opt o ho)
 have hm:magicN n < 4294967296:=magicN_lt (fun o ho=>(h.ty.ours o ho).d)
 have c2:=ofour_pc Γ (magicN n) hm
 have c3:=Sf.concat_pc Γ [fourO (magicN n),p.d.drop 4] (by simp [fourO]) (by simp [fourO];omega) (by simp)
 rw [show [fourO (magicN n),p.d.drop 4].flatten = echoD n p by simp [echoD]] at c3
 have c4:=wdo_dw Γ hΓ ⟨n,i,⟨10,i,echoD n p⟩,[],[]⟩ 15 (by simp) (by simp) h.fine.1 h.fine.2
 have ev:=do_event n i ⟨10,i,echoD n p⟩ 15
 generalize echoD n p = q at *
 generalize magicN n = m at *
 unfold ng ngL at c1
 unfold wkH wkc ngL pk
 by_cases h4:4≤p.d.length
 · rw [if_pos h4]
   simp -implicitDefEqProofs (disch:=omega) [go_sem]
   refine .inl (call_data c1 (by simp [go_sem,newW]) ?_)
   simp -implicitDefEqProofs (disch:=omega) [go_sem]
   refine .inl (call_data c2 (by simp [go_sem]) ?_)
   simp -implicitDefEqProofs (disch:=omega) [go_sem]
   refine .inl (call_frz [18] [18] (fun g hg=>?_) c3 (fun H' hH'=>?_) ?_)
   · simp only [List.mem_cons,List.not_mem_nil,or_false] at hg
     subst hg
     exact ⟨true,_,by simp [Hp.upd,Hp.set];rfl⟩
   · refine frzL_c (frz_rows (rw:=false) (cells:=[.data (.sl 1 (bys (fourO m))),.data (.sl 1 (bys (p.d.drop 4)))]) (by simp [Hp.upd,Hp.set,fz]) (.inr rfl) rfl (Sf.rws_cells _) ?_) frzL_n
     rw [Sf.flat_rws]
     exact frzL_c (.data _) (frzL_c (.data _) frzL_n)
   simp -implicitDefEqProofs (disch:=omega) [go_sem]
   refine .inr (wanswer_eff Γ n i p m q ?_ ?_)
   · funext g
     by_cases e0:g = 0
     · subst e0;simp [go_sem,Hp.upd,Hp.set,hpL,echL,wkc,ngL,newW]
     by_cases e1:g = 1
     · subst e1;simp [go_sem,Hp.upd,Hp.set,hpL,echL,newW,pks,flat]
     by_cases e2:g = 2
     · subst e2;simp [go_sem,Hp.upd,Hp.set,hpL,echL,newW,ints]
     by_cases e3:g = 3
     · subst e3;simp [go_sem,Hp.upd,Hp.set,hpL,echL]
     by_cases e4:g = 18
     · subst e4;simp [go_sem,Hp.upd,Hp.set,hpL,echL,fz]
     simp [go_sem,Hp.upd,Hp.set,hpL,echL,e0,e1,e2,e3,e4]
   simp -implicitDefEqProofs (disch:=omega) [go_sem]
   refine side (by kernel_rfl) ?_
   simp -implicitDefEqProofs (disch:=omega) [go_sem]
   refine .inr (dw_call c4 (g1:=1) (g2:=2) (by simp [go_sem,hpL]) (by simp [go_sem,hpL,newW,pks,flat]) (by simp [go_sem,hpL,newW,ints]) (by decide) (by decide) (by decide) (by simp) (by repeat' constructor) (fun r w1 hq=>?_))
   obtain ⟨rfl,rfl⟩:=hq
   simp -implicitDefEqProofs (disch:=omega) [go_sem,Tryz.f100]
   exact ⟨_,rfl,wkEnd_set (by decide) ⟨rfl,ev⟩⟩
 · rw [if_neg h4]
   simp -implicitDefEqProofs (disch:=omega) [go_sem,Tryz.f100]
   refine ⟨_,rfl,wkEnd_of (.tup []) (newW n i) 1 2 (.inl rfl) (by decide) ⟨rfl,rfl,rfl,rfl⟩ ?_ ?_ ?_⟩ <;> simp [go_sem,wkc,ngL,hpL]
end
end Ne
namespace Ne
open Op9 Ru Fs Pa
theorem ack_same {r:Rule} {l:List Ot} {k:Int} (h:(answerR r l k).1 = 2):(answerR r l k).2 = l:=by
 unfold answerR at h ⊢
 split at h
 · cases h
 · rename_i h1
   rw [if_neg h1]
   split at h
   · cases h
   · rename_i h2
     rw [if_neg h2]
     split at h
     · cases h
     · rename_i h3
       rw [if_neg h3]
def reqE (n:Ng) (l:List Ot):Int:=if (answerR n.r l (zeroN n).naks).1 = 2 then 6 else 7
def reqR (n:Ng) (i:Nat) (l:List Ot):Pk:=⟨(answerR n.r l (zeroN n).naks).1,i,optB (answerR n.r l (zeroN n).naks).2⟩
def reqW (n:Ng) (i:Nat) (l:List Ot):Wk:=doW ⟨zeroN n,i,reqR n i l,[],[]⟩ (reqE n l)
def notedW (w:Wk) (c:Nat) (l:List Ot):Wk:=⟨if c = 2 then ⟨w.n.a,w.n.r,w.n.ours,0,l⟩ else if c = 3 then ⟨w.n.a,w.n.r,w.n.ours,min 3 (w.n.naks + 1),w.n.peer⟩ else w.n,w.id,w.reply,w.sent,w.told⟩
theorem req_comes {n:Ng} (h:OkW n) (p:Pk) (l:List Ot):Comes (reqN n p l) (if 8∈doL n.a (reqE n l) ∨ 9∈doL n.a (reqE n l) then notedW (reqW n p.i l) (answerR n.r l (zeroN n).naks).1 (answerR n.r l (zeroN n).naks).2 else reqW n p.i l):=by
 have hz:=(zero_right h.right).2.1
 have htab:=tab_req2 n.a h.right.1
 have hev:=do_event (zeroN n) p.i (reqR n p.i l) (reqE n l)
 have hl:=event_is (zeroN n) p.i (reqR n p.i l) (reqE n l)
 rw [hz] at hl
 have e0:reqN n p l = poorN (goodN (eventN (zeroN n) (reqE n l) (reqR n p.i l) p.i) l) (answerR n.r l (zeroN n).naks).1:=rfl
 rw [e0]
 have hack:=ack_same (r:=n.r) (l:=l) (k:=(zeroN n).naks)
 unfold reqW
 obtain ⟨h1,h2,h3⟩:=hev
 generalize eventN (zeroN n) (reqE n l) (reqR n p.i l) p.i = o at *
 generalize doW ⟨zeroN n,p.i,reqR n p.i l,[],[]⟩ (reqE n l) = w at *
 unfold reqE at *
 generalize answerR n.r l (zeroN n).naks = A at *
 obtain ⟨c,a⟩:=A
 simp only at *
 by_cases hc:c = 2
 · subst hc
   have:=hack rfl
   subst this
   simp only [if_true] at *
   by_cases h8:8∈doL n.a 6
   · have g1:goodN o a = { o with n:={ o.n with naks:=0,peer:=a } }:=if_pos (by rw [hl];exact h8)
     have g2:poorN (goodN o a) 2 = goodN o a:=if_neg (by omega)
     rw [g2,g1,if_pos (.inl h8)]
     exact ⟨by simp [notedW,h1],h2,h3⟩
   · have g1:goodN o a = o:=if_neg (by rw [hl];exact h8)
     have g2:poorN (goodN o a) 2 = goodN o a:=if_neg (by omega)
     rw [g2,g1,if_neg (by rintro (k | k);exact h8 k;exact htab.1 k)]
     exact ⟨h1,h2,h3⟩
 · simp only [if_neg hc] at *
   have g1:goodN o l = o:=if_neg (by rw [hl];exact htab.2)
   rw [g1]
   by_cases h9:9∈doL n.a 7
   · rw [if_pos (.inr h9)]
     by_cases h3c:c = 3
     · have g2:poorN o c = { o with n:={ o.n with naks:=min 3 (o.n.naks + 1) } }:=if_pos ⟨by rw [hl];exact h9,h3c⟩
       rw [g2]
       exact ⟨by simp [notedW,h3c,h1],h2,h3⟩
     · have g2:poorN o c = o:=if_neg (fun k=>h3c k.2)
       rw [g2]
       exact ⟨by simp [notedW,hc,h3c,h1],h2,h3⟩
   · have g2:poorN o c = o:=if_neg (fun k=>h9 (by rw [<- hl];exact k.1))
     rw [g2,if_neg (by rintro (k | k);exact htab.2 k;exact h9 k)]
     exact ⟨h1,h2,h3⟩
section
variable (Γ:Nat->Option (List Data))
set_option maxHeartbeats 8000000 in
theorem wrequest_dw (hΓ:Spaces Γ) (n:Ng) (p:Pk) (h:OkW n) (hp:p.Ty) (hl:p.d.length≤1496):DW Γ 93 [.data (pk p)] (newW n p.i) (fun r w'=>r = .tup []∧Comes (requestN n p) w'):=by
 refine dc_by mixed Tryz.func93 rfl (fun args w=>Tryz.call93 args w) ?_
 have c1:=oread_pc Γ p.d (by omega) hp.d
 have hgo:=got_ops hp.d hl
 have hgf:=got_ty hp.d
 have c2:=answer13_pc Γ n.r (gotO p.d) (zeroN n).naks h.ty.r hgo
 have hz:=h.zero
 have hze:=zero_right h.right
 have haf:=answer_fine n.r (l:=gotO p.d) (zeroN n).naks (fun o ho=>(hgf.2 o ho).2)
 have hcode:=answer_code n.r (gotO p.d) (zeroN n).naks
 have hcomes:=req_comes h p (gotO p.d)
 have hreq:errO p.d = 0->requestN n p = reqN n p (gotO p.d):=fun e=>if_pos e
 have hreq2:errO p.d≠0->requestN n p = none4 n:=fun e=>if_neg e
 have he:errO p.d = 0 ∨ errO p.d = 2:=by unfold errO;split <;> simp
 have hla:=hgf.1
 have hE:∀ (w:Wk) (e:Int),w.n = zeroN n->w.sent = []->w.told = []->DW Γ 36 [.data (.int .i64 e)] w (fun r w'=>r = nums (doL n.a e)∧w' = doW w e):=fun w e e1 e2 e3=>by
  have:=wdo_dw Γ hΓ w e (by simp [e2]) (by simp [e3]) (by rw [e1];exact hz.fine.1) (by rw [e1];exact hz.fine.2)
  rw [e1,hze.2.1] at this
  exact this
 rcases he with he | he
 rotate_left
 · rw [hreq2 (by omega)]
   rw [he] at c1
   generalize gotO p.d = l at *
   unfold wkH wkc ngL pk
   simp -implicitDefEqProofs (disch:=omega) [go_sem]
   refine .inl (call_data c1 (by simp [go_sem]) ?_)
   simp -implicitDefEqProofs (disch:=omega) [go_sem,Tryz.f93]
   refine ⟨_,rfl,wkEnd_of (.tup []) (newW n p.i) 1 2 (.inl rfl) (by decide) ⟨rfl,rfl,rfl,rfl⟩ ?_ ?_ ?_⟩ <;> simp [go_sem,wkc,ngL,hpL]
 rw [hreq he]
 rw [he] at c1
 clear hreq hreq2 he
 generalize gotO p.d = l at *
 have hW:reqW n p.i l = doW ⟨zeroN n,p.i,reqR n p.i l,[],[]⟩ (reqE n l):=rfl
 have hWr:RightN (reqW n p.i l).n:=by
  rw [hW,(do_event (zeroN n) p.i (reqR n p.i l) (reqE n l)).1]
  exact (event_right hz.right hz.ty.id _ _ _).1
 have hRq:reqR n p.i l = ⟨(answerR n.r l (zeroN n).naks).1,p.i,optB (answerR n.r l (zeroN n).naks).2⟩:=rfl
 have hEq:reqE n l = if (answerR n.r l (zeroN n).naks).1 = 2 then 6 else 7:=rfl
 generalize reqW n p.i l = W1 at *
 generalize reqR n p.i l = R at *
 generalize reqE n l = e at *
 generalize answerR n.r l (zeroN n).naks = A at *
 obtain ⟨c,a⟩:=A
 simp only at *
 have c3:=obytes_pc Γ a (by omega) (fun o ho=>by have:=haf.2 o ho;omega)
 have c4:=wanswer_dw Γ (newW (zeroN n) p.i) c (optB a)
 have c5:=hE ⟨zeroN n,p.i,R,[],[]⟩ e rfl rfl rfl
 rw [<- hW] at c5
 have c6:=answered_pc Γ (doL n.a e) (by have:=doL_short n.a e;omega)
 have c7:=wnote_dw Γ W1 c a hWr.2.1
 rw [show (fun r w'=>r = Data.tup []∧w' = ⟨if c = 2 then ⟨W1.n.a,W1.n.r,W1.n.ours,0,a⟩ else if c = 3 then ⟨W1.n.a,W1.n.r,W1.n.ours,min 3 (W1.n.naks + 1),W1.n.peer⟩ else W1.n,W1.id,W1.reply,W1.sent,W1.told⟩) = (fun r w'=>r = Data.tup []∧w' = notedW W1 c a) from rfl] at c7
 generalize optB a = bq at *
 generalize optE a = be at *
 generalize hQ:Comes (reqN n p l) = Q at *
 have hyes:(decide (8∈doL n.a e) || decide (9∈doL n.a e)) = true->Q (notedW W1 c a):=fun k=>by
  rw [if_pos (by simpa using k)] at hcomes
  exact hcomes
 have hno:(decide (8∈doL n.a e) || decide (9∈doL n.a e)) = false->Q W1:=fun k=>by
  rw [if_neg (by simpa using k)] at hcomes
  exact hcomes
 clear hcomes hE hW
 generalize (decide (8∈doL n.a e) || decide (9∈doL n.a e)) = b at *
 generalize doL n.a e = L at *
 unfold rul nums at *
 unfold wkH wkc ngL pk
 by_cases h3:n.a.s = 3
 · have ez:zeroN n = ⟨n.a,n.r,n.ours,0,n.peer⟩:=if_pos h3
   have h3b:(newW n p.i).n.a.s = 3:=h3
   rw [ez] at c2 c4 c5
   have ek:(⟨n.a,n.r,n.ours,0,n.peer⟩:Ng).naks = 0:=rfl
   rw [ek] at c2
   simp -implicitDefEqProofs (disch:=omega) [go_sem]
   refine .inl (call_data c1 (by simp [go_sem]) ?_)
   simp -implicitDefEqProofs (disch:=omega) [go_sem,h3b]
   refine .inl (call_data c2 (by simp [go_sem,newW]) ?_)
   simp -implicitDefEqProofs (disch:=omega) [go_sem]
   refine side (by kernel_rfl) ?_
   simp -implicitDefEqProofs (disch:=omega) [go_sem]
   refine .inl (call_data c3 (by simp [go_sem]) ?_)
   simp -implicitDefEqProofs (disch:=omega) [go_sem]
   refine .inr (dw_call c4 (g1:=1) (g2:=2) (by simp [go_sem,hpL,wkc,ngL,newW,h3]) (by simp [go_sem,hpL,newW]) (by simp [go_sem,hpL,newW]) (by decide) (by decide) (by decide) (by simp) (by repeat' constructor) (fun r w1 hq=>?_))
   obtain ⟨rfl,rfl⟩:=hq
   by_cases hc:c = 2
   · have he6:e = 6:=by rw [hEq,if_pos hc]
     subst hc he6
     simp -implicitDefEqProofs (disch:=omega) [go_sem]
     refine .inr (dw_call c5 (g1:=53) (g2:=54) (by simp [go_sem,hRq,newW]) (by simp [go_sem,newW]) (by simp [go_sem,newW]) (by decide) (by decide) (by decide) (by simp) (by repeat' constructor) (fun r w1 hq=>?_))
     obtain ⟨rfl,rfl⟩:=hq
     simp -implicitDefEqProofs (disch:=omega) [go_sem]
     refine .inl (call_data c6 (by simp [go_sem]) ?_)
     cases b
     · simp -implicitDefEqProofs (disch:=omega) [go_sem,Tryz.f93]
       refine ⟨_,rfl,wkEnd_of (.tup []) _ 61 62 (.inl rfl) (by decide) ⟨rfl,hno rfl⟩ ?_ ?_ ?_⟩ <;> simp [go_sem]
     simp -implicitDefEqProofs (disch:=omega) [go_sem]
     refine .inr (dw_call c7 (g1:=61) (g2:=62) (by simp [go_sem]) (by simp [go_sem]) (by simp [go_sem]) (by decide) (by decide) (by decide) (by simp) (by repeat' constructor) (fun r w1 hq=>?_))
     obtain ⟨rfl,rfl⟩:=hq
     simp -implicitDefEqProofs (disch:=omega) [go_sem,Tryz.f93]
     exact ⟨_,rfl,wkEnd_set (by decide) ⟨rfl,hyes rfl⟩⟩
   · have he7:e = 7:=by rw [hEq,if_neg hc]
     have hcI:¬ ((c:Int) = 2):=by omega
     subst he7
     simp -implicitDefEqProofs (disch:=omega) [go_sem,Ru.ne_beq hcI]
     refine .inr (dw_call c5 (g1:=53) (g2:=54) (by simp [go_sem,hRq,newW]) (by simp [go_sem,newW]) (by simp [go_sem,newW]) (by decide) (by decide) (by decide) (by simp) (by repeat' constructor) (fun r w1 hq=>?_))
     obtain ⟨rfl,rfl⟩:=hq
     simp -implicitDefEqProofs (disch:=omega) [go_sem]
     refine .inl (call_data c6 (by simp [go_sem]) ?_)
     cases b
     · simp -implicitDefEqProofs (disch:=omega) [go_sem,Tryz.f93]
       refine ⟨_,rfl,wkEnd_of (.tup []) _ 60 61 (.inl rfl) (by decide) ⟨rfl,hno rfl⟩ ?_ ?_ ?_⟩ <;> simp [go_sem]
     simp -implicitDefEqProofs (disch:=omega) [go_sem]
     refine .inr (dw_call c7 (g1:=60) (g2:=61) (by simp [go_sem]) (by simp [go_sem]) (by simp [go_sem]) (by decide) (by decide) (by decide) (by simp) (by repeat' constructor) (fun r w1 hq=>?_))
     obtain ⟨rfl,rfl⟩:=hq
     simp -implicitDefEqProofs (disch:=omega) [go_sem,Tryz.f93]
     exact ⟨_,rfl,wkEnd_set (by decide) ⟨rfl,hyes rfl⟩⟩
 · have ez:zeroN n = n:=if_neg h3
   have h3b:¬ (newW n p.i).n.a.s = 3:=h3
   rw [ez] at c2 c4 c5
   simp -implicitDefEqProofs (disch:=omega) [go_sem]
   refine .inl (call_data c1 (by simp [go_sem]) ?_)
   simp -implicitDefEqProofs (disch:=omega) [go_sem,h3b]
   refine .inl (call_data c2 (by simp [go_sem,newW]) ?_)
   simp -implicitDefEqProofs (disch:=omega) [go_sem]
   refine side (by kernel_rfl) ?_
   simp -implicitDefEqProofs (disch:=omega) [go_sem]
   refine .inl (call_data c3 (by simp [go_sem]) ?_)
   simp -implicitDefEqProofs (disch:=omega) [go_sem]
   refine .inr (dw_call c4 (g1:=1) (g2:=2) (by simp [go_sem,hpL,wkc,ngL,newW,h3]) (by simp [go_sem,hpL,newW]) (by simp [go_sem,hpL,newW]) (by decide) (by decide) (by decide) (by simp) (by repeat' constructor) (fun r w1 hq=>?_))
   obtain ⟨rfl,rfl⟩:=hq
   by_cases hc:c = 2
   · have he6:e = 6:=by rw [hEq,if_pos hc]
     subst hc he6
     simp -implicitDefEqProofs (disch:=omega) [go_sem]
     refine .inr (dw_call c5 (g1:=48) (g2:=49) (by simp [go_sem,hRq,newW]) (by simp [go_sem,newW]) (by simp [go_sem,newW]) (by decide) (by decide) (by decide) (by simp) (by repeat' constructor) (fun r w1 hq=>?_))
     obtain ⟨rfl,rfl⟩:=hq
     simp -implicitDefEqProofs (disch:=omega) [go_sem]
     refine .inl (call_data c6 (by simp [go_sem]) ?_)
     cases b
     · simp -implicitDefEqProofs (disch:=omega) [go_sem,Tryz.f93]
       refine ⟨_,rfl,wkEnd_of (.tup []) _ 56 57 (.inl rfl) (by decide) ⟨rfl,hno rfl⟩ ?_ ?_ ?_⟩ <;> simp [go_sem]
     simp -implicitDefEqProofs (disch:=omega) [go_sem]
     refine .inr (dw_call c7 (g1:=56) (g2:=57) (by simp [go_sem]) (by simp [go_sem]) (by simp [go_sem]) (by decide) (by decide) (by decide) (by simp) (by repeat' constructor) (fun r w1 hq=>?_))
     obtain ⟨rfl,rfl⟩:=hq
     simp -implicitDefEqProofs (disch:=omega) [go_sem,Tryz.f93]
     exact ⟨_,rfl,wkEnd_set (by decide) ⟨rfl,hyes rfl⟩⟩
   · have he7:e = 7:=by rw [hEq,if_neg hc]
     have hcI:¬ ((c:Int) = 2):=by omega
     subst he7
     simp -implicitDefEqProofs (disch:=omega) [go_sem,Ru.ne_beq hcI]
     refine .inr (dw_call c5 (g1:=48) (g2:=49) (by simp [go_sem,hRq,newW]) (by simp [go_sem,newW]) (by simp [go_sem,newW]) (by decide) (by decide) (by decide) (by simp) (by repeat' constructor) (fun r w1 hq=>?_))
     obtain ⟨rfl,rfl⟩:=hq
     simp -implicitDefEqProofs (disch:=omega) [go_sem]
     refine .inl (call_data c6 (by simp [go_sem]) ?_)
     cases b
     · simp -implicitDefEqProofs (disch:=omega) [go_sem,Tryz.f93]
       refine ⟨_,rfl,wkEnd_of (.tup []) _ 55 56 (.inl rfl) (by decide) ⟨rfl,hno rfl⟩ ?_ ?_ ?_⟩ <;> simp [go_sem]
     simp -implicitDefEqProofs (disch:=omega) [go_sem]
     refine .inr (dw_call c7 (g1:=55) (g2:=56) (by simp [go_sem]) (by simp [go_sem]) (by simp [go_sem]) (by decide) (by decide) (by decide) (by simp) (by repeat' constructor) (fun r w1 hq=>?_))
     obtain ⟨rfl,rfl⟩:=hq
     simp -implicitDefEqProofs (disch:=omega) [go_sem,Tryz.f93]
     exact ⟨_,rfl,wkEnd_set (by decide) ⟨rfl,hyes rfl⟩⟩
end
end Ne
namespace Ne
open Op9 Ru Fs Pa
theorem comes_did {o:OutN} {w:Wk} (h:Comes o w):didN o = .tup [ng w.n,.sl 3 (pks w.sent),.sl 1 (ints w.told)]:=by
 unfold didN
 rw [h.1,h.2.1,h.2.2]
 rfl
theorem frz_pks {H:Nat->Blk} {g:Nat} {l:List Pk} (h:H g = .blk true ((flat (pks l)).map D.data)):Frz true H (.ref g 0 l.length 3) (.sl 3 (pks l)):=frz_ref (rw:=true) h (.inl rfl) (pks_length _) (pks_cells _) rfl
theorem frz_ints {H:Nat->Blk} {g:Nat} {l:List Int} (h:H g = .blk true ((ints l).map D.data)):Frz true H (.ref g 0 l.length 1) (.sl 1 (ints l)):=frz_ref (rw:=true) (by rw [flat_ints];exact h) (.inl rfl) (ints_length _) (ints_cells _) rfl
/-- Ticks send nothing that answers. -/
theorem tab_tick11:∀ s:Fin 10,∀ x∈(nextF s.val 4).1++(nextF s.val 5).1,x≠11:=by decide +kernel
theorem tickL_11 {a:Au} (h:RightA a):∀ x∈tickL a,x≠11:=by
 obtain ⟨⟨h0,h9⟩,_⟩:=h
 obtain ⟨n,hn⟩:∃ n:Nat,a.s = n:=⟨a.s.toNat,by omega⟩
 have ht:=tab_tick11 ⟨n,by omega⟩
 have key:∀ e:Int,e = 4 ∨ e = 5->∀ x∈doL (downA a) e,x≠11:=by
  intro e he x hx
  unfold doL at hx
  have hs:(downA a).s = n:=hn
  rw [hs] at hx
  split at hx
  · rcases he with rfl | rfl
    · exact ht x (List.mem_append_left _ hx)
    · exact ht x (List.mem_append_right _ hx)
  · cases hx
 intro x hx
 unfold tickL at hx
 split at hx
 · cases hx
 · split at hx
   · cases hx
   · split at hx
     · exact key 4 (.inl rfl) x hx
     · exact key 5 (.inr rfl) x hx
theorem sent_11 (n:Ng) (r t t2:Pk) (l:List Int) (h:∀ x∈l,x≠11):sentL n r t l = sentL n r t2 l:=by
 induction l with
 | nil=>rfl
 | cons x l ih =>
   have e:∀ t,sentL n r t (x :: l) = sentBy n r t x++sentL n r t l:=fun t=>rfl
   rw [e,e,ih fun y hy=>h y (List.mem_cons_of_mem _ hy)]
   congr 1
   have:=h x List.mem_cons_self
   unfold sentBy
   simp only [if_neg this]
theorem tick_comes {n:Ng} (h:OkW n):Comes (tickN n) (followW (newW n 0) (tickA n.a) (tickL n.a)):=by
 unfold tickN
 refine ⟨rfl,?_,rfl⟩
 show []++sentL _ noP ⟨6,0,[]⟩ _ = _
 rw [List.nil_append]
 exact sent_11 _ _ _ _ _ (tickL_11 h.right.1)
section
variable (Γ:Nat->Option (List Data))
set_option maxHeartbeats 2000000 in
theorem begun_oc (n:Ng) (h:OkW n):OC Tryz.prog Γ 35 [ng n] (.ptr 0 0) [(0,.blk true ((wkc (newW n 0)).map D.data++[.ref 1 0 0 3,.ref 2 0 0 1])),(1,.blk true []),(2,.blk true [])] 3:=by
 refine oc_by mixed Tryz.func35 rfl (fun args w=>Tryz.call35 args w) ?_
 have hw:=h.ops
 have c1:=ncopied_pc Γ n.ours h.fine.1.2.1 (fun o ho=>(hw.opt o ho).2)
 have c2:=ncopied_pc Γ n.peer (by have:=h.ty.peer.1;omega) (fun o ho=>by have:=(h.ty.peer.2 o ho).2;omega)
 unfold ng ngL
 simp -implicitDefEqProofs (disch:=omega) [go_sem]
 refine .inl (call_data c1 (by simp [go_sem]) ?_)
 simp -implicitDefEqProofs (disch:=omega) [go_sem]
 refine .inl (call_data c2 (by simp [go_sem]) ?_)
 simp -implicitDefEqProofs (disch:=omega) [go_sem]
 refine side (by kernel_rfl) ?_
 simp -implicitDefEqProofs (disch:=omega) [go_sem,Tryz.f35]
 refine own_of [] [(0,some 14),(1,none),(2,none)] ?_
 apply ren_lists <;> simp -implicitDefEqProofs [go_sem,wkc,ngL,newW,noP,bys]
set_option maxHeartbeats 4000000 in
theorem nDo_pc (hΓ:Spaces Γ) (n:Ng) (e:Int) (h:OkW n):PC Tryz.prog Γ 12 [ng n,.int .i64 e] (didN (doN n e)):=by
 refine pc_by mixed Tryz.func12 rfl (fun args w=>Tryz.call12 args w) ?_
 have c0:=begun_oc Γ n h
 have c1:=wdo_dw Γ hΓ (newW n 0) e (by simp [newW]) (by simp [newW]) h.fine.1 h.fine.2
 have ev:Comes (eventN n e noP 0) (doW (newW n 0) e):=do_event n 0 noP e
 unfold doN
 by_cases he:0≤e∧e≤3
 · rw [if_pos he]
   unfold ng ngL at c0 ⊢
   have h4:e = 0 ∨ e = 1 ∨ e = 2 ∨ e = 3:=by omega
   rcases h4 with rfl | rfl | rfl | rfl
   · simp -implicitDefEqProofs (disch:=omega) [go_sem]
     refine .inr (dc_own [] (by simp) c0 (frzL_c (.data _) frzL_n) ?_)
     simp -implicitDefEqProofs (disch:=omega) [go_sem]
     refine .inr (dw_call c1 (g1:=6) (g2:=7) (by simp [go_sem,wkc,ngL,newW]) (by simp [go_sem,newW,pks,flat]) (by simp [go_sem,newW,ints]) (by decide) (by decide) (by decide) (by simp) (by repeat' constructor) (fun r w1 hq=>?_))
     rw [<- hq.2] at ev
     clear hq
     rw [comes_did ev]
     simp -implicitDefEqProofs (disch:=omega) [go_sem,wkc,ngL]
     refine side (by kernel_rfl) ?_
     simp -implicitDefEqProofs (disch:=omega) [go_sem,wkc,ngL,Tryz.f12]
     exact ⟨_,⟨_,_,rfl,rfl,_,_,rfl,frz_pks (by simp [Hp.set,go_sem]),_,rfl,frz_ints (by simp [Hp.set,go_sem])⟩,rfl⟩
   · simp -implicitDefEqProofs (disch:=omega) [go_sem]
     refine .inr (dc_own [] (by simp) c0 (frzL_c (.data _) frzL_n) ?_)
     simp -implicitDefEqProofs (disch:=omega) [go_sem]
     refine .inr (dw_call c1 (g1:=6) (g2:=7) (by simp [go_sem,wkc,ngL,newW]) (by simp [go_sem,newW,pks,flat]) (by simp [go_sem,newW,ints]) (by decide) (by decide) (by decide) (by simp) (by repeat' constructor) (fun r w1 hq=>?_))
     rw [<- hq.2] at ev
     clear hq
     rw [comes_did ev]
     simp -implicitDefEqProofs (disch:=omega) [go_sem,wkc,ngL]
     refine side (by kernel_rfl) ?_
     simp -implicitDefEqProofs (disch:=omega) [go_sem,wkc,ngL,Tryz.f12]
     exact ⟨_,⟨_,_,rfl,rfl,_,_,rfl,frz_pks (by simp [Hp.set,go_sem]),_,rfl,frz_ints (by simp [Hp.set,go_sem])⟩,rfl⟩
   · simp -implicitDefEqProofs (disch:=omega) [go_sem]
     refine .inr (dc_own [] (by simp) c0 (frzL_c (.data _) frzL_n) ?_)
     simp -implicitDefEqProofs (disch:=omega) [go_sem]
     refine .inr (dw_call c1 (g1:=6) (g2:=7) (by simp [go_sem,wkc,ngL,newW]) (by simp [go_sem,newW,pks,flat]) (by simp [go_sem,newW,ints]) (by decide) (by decide) (by decide) (by simp) (by repeat' constructor) (fun r w1 hq=>?_))
     rw [<- hq.2] at ev
     clear hq
     rw [comes_did ev]
     simp -implicitDefEqProofs (disch:=omega) [go_sem,wkc,ngL]
     refine side (by kernel_rfl) ?_
     simp -implicitDefEqProofs (disch:=omega) [go_sem,wkc,ngL,Tryz.f12]
     exact ⟨_,⟨_,_,rfl,rfl,_,_,rfl,frz_pks (by simp [Hp.set,go_sem]),_,rfl,frz_ints (by simp [Hp.set,go_sem])⟩,rfl⟩
   · simp -implicitDefEqProofs (disch:=omega) [go_sem]
     refine .inr (dc_own [] (by simp) c0 (frzL_c (.data _) frzL_n) ?_)
     simp -implicitDefEqProofs (disch:=omega) [go_sem]
     refine .inr (dw_call c1 (g1:=6) (g2:=7) (by simp [go_sem,wkc,ngL,newW]) (by simp [go_sem,newW,pks,flat]) (by simp [go_sem,newW,ints]) (by decide) (by decide) (by decide) (by simp) (by repeat' constructor) (fun r w1 hq=>?_))
     rw [<- hq.2] at ev
     clear hq
     rw [comes_did ev]
     simp -implicitDefEqProofs (disch:=omega) [go_sem,wkc,ngL]
     refine side (by kernel_rfl) ?_
     simp -implicitDefEqProofs (disch:=omega) [go_sem,wkc,ngL,Tryz.f12]
     exact ⟨_,⟨_,_,rfl,rfl,_,_,rfl,frz_pks (by simp [Hp.set,go_sem]),_,rfl,frz_ints (by simp [Hp.set,go_sem])⟩,rfl⟩
 · rw [if_neg he]
   have hc:Comes (none4 n) (newW n 0):=⟨rfl,rfl,rfl⟩
   rw [comes_did hc]
   unfold ng ngL at c0 ⊢
   have k0:¬ e = 0:=by omega
   have k1:¬ e = 1:=by omega
   have k2:¬ e = 2:=by omega
   have k3:¬ e = 3:=by omega
   simp -implicitDefEqProofs (disch:=omega) [go_sem]
   refine .inr (dc_own [] (by simp) c0 (frzL_c (.data _) frzL_n) ?_)
   simp -implicitDefEqProofs (disch:=omega) [go_sem,k0,k1,k2,k3,wkc,ngL,newW]
   refine side (by kernel_rfl) ?_
   simp -implicitDefEqProofs (disch:=omega) [go_sem,wkc,ngL,newW,Tryz.f12]
   exact ⟨_,⟨_,_,rfl,rfl,_,_,rfl,frz_pks (l:=[]) (by simp [Hp.set,go_sem,pks,flat]),_,rfl,frz_ints (l:=[]) (by simp [Hp.set,go_sem,ints])⟩,rfl⟩
set_option maxHeartbeats 4000000 in
theorem nTick_pc (hΓ:Spaces Γ) (n:Ng) (h:OkW n):PC Tryz.prog Γ 13 [ng n] (didN (tickN n)):=by
 refine pc_by mixed Tryz.func13 rfl (fun args w=>Tryz.call13 args w) ?_
 have c0:=begun_oc Γ n h
 have c1:=atick_pc Γ hΓ n.a h.right.1.2.1 h.ty.id (by have:=h.right.1.2.2;omega)
 have c2:=wfollow_dw Γ (newW n 0) (tickA n.a) (tickL n.a) (by simp [newW]) (by simp [newW]) h.fine.1 (by have:=tickL_short n.a;omega)
 have ev:=tick_comes h
 generalize tickA n.a = B at *
 generalize tickL n.a = L at *
 unfold ng ngL au nums at *
 simp -implicitDefEqProofs (disch:=omega) [go_sem]
 refine .inr (dc_own [] (by simp) c0 (frzL_c (.data _) frzL_n) ?_)
 simp -implicitDefEqProofs (disch:=omega) [go_sem,wkc,ngL,newW]
 refine .inl (call_data c1 (by simp [go_sem]) ?_)
 simp -implicitDefEqProofs (disch:=omega) [go_sem]
 refine .inr (dw_call c2 (g1:=6) (g2:=7) (by simp [go_sem,wkc,ngL,newW]) (by simp [go_sem,newW,pks,flat]) (by simp [go_sem,newW,ints]) (by decide) (by decide) (by decide) (by simp) (by repeat' constructor) (fun r w1 hq=>?_))
 rw [<- hq.2] at ev
 clear hq
 rw [comes_did ev]
 simp -implicitDefEqProofs (disch:=omega) [go_sem,wkc,ngL]
 refine side (by kernel_rfl) ?_
 simp -implicitDefEqProofs (disch:=omega) [go_sem,wkc,ngL,Tryz.f13]
 exact ⟨_,⟨_,_,rfl,rfl,_,_,rfl,frz_pks (by simp [Hp.set,go_sem]),_,rfl,frz_ints (by simp [Hp.set,go_sem])⟩,rfl⟩
theorem known_odd {n:Ng} {p:Pk} (h:p.c < 256):known (if n.r.ip = true then 32801 else 49185) p.c = !decide (oddC n p):=by
 unfold known
 by_cases hi:n.r.ip = true
 · rw [if_pos hi,if_neg (by decide),if_neg (by decide),if_pos rfl,<- decide_not]
   refine decide_eq_decide.2 ?_
   unfold oddC
   have h7:(n.r.ip = true∧7 < p.c) ↔ 7 < p.c:=by simp [hi]
   rw [h7]
   omega
 · rw [if_neg hi,if_pos rfl,<- decide_not]
   refine decide_eq_decide.2 ?_
   unfold oddC
   have h7:(n.r.ip = true∧7 < p.c) ↔ False:=iff_false_intro fun k=>hi k.1
   rw [h7,or_false]
   omega
set_option maxHeartbeats 4000000 in
theorem wtake_dw (hΓ:Spaces Γ) (n:Ng) (p:Pk) (h:OkW n) (hp:p.Ty) (hl:p.d.length≤1496) (hs:¬ n.a.s < 2):DW Γ 39 [.data (pk p)] (newW n p.i) (fun r w'=>r = .tup []∧Comes (takeN n p) w'):=by
 refine dc_by mixed Tryz.func39 rfl (fun args w=>Tryz.call39 args w) ?_
 have c1:=protoOf_pc Γ n.r
 have c2:=known_pc Γ (if n.r.ip = true then 32801 else 49185) p.c (by split <;> omega) hp.c
 have c3:=reject_pc Γ p n.a.id hl
 have c4:=deeds_pc Γ
 have c5:=wdo_dw Γ hΓ ⟨n,p.i,rejP p n.a.id,[],[]⟩ 12 (by simp) (by simp) h.fine.1 h.fine.2
 have ev:=do_event n p.i (rejP p n.a.id) 12
 have d1:=wrequest_dw Γ hΓ n p h hp hl
 have d2:=wagree_dw Γ hΓ n p.i p h hp hl
 have d3:=wrefuse_dw Γ hΓ n p.i p h hp hl
 have d5:=wend_dw Γ hΓ n p.i p h
 have d6:=wended_dw Γ hΓ n p.i p h
 have d7:=wcodeRej_dw Γ hΓ n p.i p h
 have d8:=wprotoRej_dw Γ hΓ n p.i p h hp hl
 have d9:=wecho_dw Γ hΓ n p.i p h hp hl
 rw [known_odd hp.c] at c2
 have e0:oddC n p->takeN n p = eventN n 12 (rejP p n.a.id) p.i:=fun k=>by unfold takeN;rw [if_neg hs,if_pos k]
 have hrr:rejP p n.a.id = ⟨(rejP p n.a.id).c,(rejP p n.a.id).i,(rejP p n.a.id).d⟩:=rfl
 generalize rejP p n.a.id = R at *
 generalize (if n.r.ip = true then 32801 else 49185) = pr at *
 unfold rul pk at *
 unfold deedsN at c4
 unfold wkH wkc ngL
 by_cases ho:oddC n p
 · rw [e0 ho]
   rw [decide_eq_true ho] at c2
   clear d1 d2 d3 d5 d6 d7 d8 d9
   simp -implicitDefEqProofs (disch:=omega) [go_sem]
   refine .inl (call_data c1 (by simp [go_sem,newW]) ?_)
   simp -implicitDefEqProofs (disch:=omega) [go_sem]
   refine .inl (call_data c2 (by simp [go_sem]) ?_)
   simp -implicitDefEqProofs (disch:=omega) [go_sem]
   refine side (by kernel_rfl) ?_
   simp -implicitDefEqProofs (disch:=omega) [go_sem]
   refine .inl (call_data c3 (by simp [go_sem,newW]) ?_)
   simp -implicitDefEqProofs (disch:=omega) [go_sem]
   refine side (by kernel_rfl) ?_
   simp -implicitDefEqProofs (disch:=omega) [go_sem]
   refine .inr (dw_call c5 (g1:=1) (g2:=2) (by simp [go_sem,hpL,wkc,ngL,newW]) (by simp [go_sem,hpL,newW]) (by simp [go_sem,hpL,newW]) (by decide) (by decide) (by decide) (by simp) (by repeat' constructor) (fun r w1 hq=>?_))
   obtain ⟨rfl,rfl⟩:=hq
   simp -implicitDefEqProofs (disch:=omega) [go_sem,Tryz.f39]
   exact ⟨_,rfl,wkEnd_set (by decide) ⟨rfl,ev⟩⟩
 rw [decide_eq_false ho] at c2
 clear ev c3 c5 e0 hrr
 by_cases h1:p.c = 1
 · rw [show takeN n p = requestN n p by simp [takeN,hs,ho,h1]]
   have hcI:(p.c:Int) = 1:=by omega
   rw [hcI] at d1 c2
   simp -implicitDefEqProofs (disch:=omega) [go_sem]
   refine .inl (call_data c1 (by simp [go_sem,newW]) ?_)
   simp -implicitDefEqProofs (disch:=omega) [go_sem,hcI]
   refine .inl (call_data c2 (by simp [go_sem]) ?_)
   simp -implicitDefEqProofs (disch:=omega) [go_sem]
   refine side (by kernel_rfl) ?_
   simp -implicitDefEqProofs (disch:=omega) [go_sem]
   refine .inl (call_data c4 (by simp [go_sem]) ?_)
   simp -implicitDefEqProofs (disch:=omega) [go_sem,hcI]
   refine side (by kernel_rfl) ?_
   simp -implicitDefEqProofs (disch:=omega) [go_sem,hcI]
   refine .inr (dw_call d1 (g1:=1) (g2:=2) (by simp [go_sem,hpL,wkc,ngL,hcI]) (by simp [go_sem,hpL]) (by simp [go_sem,hpL]) (by decide) (by decide) (by decide) (by simp) (by repeat' constructor) (fun r w1 hq=>?_))
   obtain ⟨rfl,hev⟩:=hq
   simp -implicitDefEqProofs (disch:=omega) [go_sem,Tryz.f39]
   exact ⟨_,rfl,wkEnd_set (by decide) ⟨rfl,hev⟩⟩
 by_cases h2:p.c = 2
 · rw [show takeN n p = (if optB n.ours = p.d∧p.i = n.a.id then eventN n 8 noP p.i else none4 n) by simp [takeN,hs,ho,h2]]
   have hcI:(p.c:Int) = 2:=by omega
   rw [hcI] at d2 c2
   simp -implicitDefEqProofs (disch:=omega) [go_sem]
   refine .inl (call_data c1 (by simp [go_sem,newW]) ?_)
   simp -implicitDefEqProofs (disch:=omega) [go_sem,hcI]
   refine .inl (call_data c2 (by simp [go_sem]) ?_)
   simp -implicitDefEqProofs (disch:=omega) [go_sem]
   refine side (by kernel_rfl) ?_
   simp -implicitDefEqProofs (disch:=omega) [go_sem]
   refine .inl (call_data c4 (by simp [go_sem]) ?_)
   simp -implicitDefEqProofs (disch:=omega) [go_sem,hcI]
   refine side (by kernel_rfl) ?_
   simp -implicitDefEqProofs (disch:=omega) [go_sem,hcI]
   refine .inr (dw_call d2 (g1:=1) (g2:=2) (by simp [go_sem,hpL,wkc,ngL,hcI]) (by simp [go_sem,hpL]) (by simp [go_sem,hpL]) (by decide) (by decide) (by decide) (by simp) (by repeat' constructor) (fun r w1 hq=>?_))
   obtain ⟨rfl,hev⟩:=hq
   simp -implicitDefEqProofs (disch:=omega) [go_sem,Tryz.f39]
   exact ⟨_,rfl,wkEnd_set (by decide) ⟨rfl,hev⟩⟩
 by_cases h3:p.c = 3
 · rw [show takeN n p = answeredN n p by simp [takeN,hs,ho,h3]]
   unfold answeredN
   have hcI:(p.c:Int) = 3:=by omega
   rw [hcI] at d3 c2
   simp -implicitDefEqProofs (disch:=omega) [go_sem]
   refine .inl (call_data c1 (by simp [go_sem,newW]) ?_)
   simp -implicitDefEqProofs (disch:=omega) [go_sem,hcI]
   refine .inl (call_data c2 (by simp [go_sem]) ?_)
   simp -implicitDefEqProofs (disch:=omega) [go_sem]
   refine side (by kernel_rfl) ?_
   simp -implicitDefEqProofs (disch:=omega) [go_sem]
   refine .inl (call_data c4 (by simp [go_sem]) ?_)
   simp -implicitDefEqProofs (disch:=omega) [go_sem,hcI]
   refine side (by kernel_rfl) ?_
   simp -implicitDefEqProofs (disch:=omega) [go_sem,hcI]
   refine .inr (dw_call d3 (g1:=1) (g2:=2) (by simp [go_sem,hpL,wkc,ngL,hcI]) (by simp [go_sem,hpL]) (by simp [go_sem,hpL]) (by decide) (by decide) (by decide) (by simp) (by repeat' constructor) (fun r w1 hq=>?_))
   obtain ⟨rfl,hev⟩:=hq
   simp -implicitDefEqProofs (disch:=omega) [go_sem,Tryz.f39]
   exact ⟨_,rfl,wkEnd_set (by decide) ⟨rfl,hev⟩⟩
 by_cases h4:p.c = 4
 · rw [show takeN n p = answeredN n p by simp [takeN,hs,ho,h4]]
   unfold answeredN
   have hcI:(p.c:Int) = 4:=by omega
   rw [hcI] at d3 c2
   simp -implicitDefEqProofs (disch:=omega) [go_sem]
   refine .inl (call_data c1 (by simp [go_sem,newW]) ?_)
   simp -implicitDefEqProofs (disch:=omega) [go_sem,hcI]
   refine .inl (call_data c2 (by simp [go_sem]) ?_)
   simp -implicitDefEqProofs (disch:=omega) [go_sem]
   refine side (by kernel_rfl) ?_
   simp -implicitDefEqProofs (disch:=omega) [go_sem]
   refine .inl (call_data c4 (by simp [go_sem]) ?_)
   simp -implicitDefEqProofs (disch:=omega) [go_sem,hcI]
   refine side (by kernel_rfl) ?_
   simp -implicitDefEqProofs (disch:=omega) [go_sem,hcI]
   refine .inr (dw_call d3 (g1:=1) (g2:=2) (by simp [go_sem,hpL,wkc,ngL,hcI]) (by simp [go_sem,hpL]) (by simp [go_sem,hpL]) (by decide) (by decide) (by decide) (by simp) (by repeat' constructor) (fun r w1 hq=>?_))
   obtain ⟨rfl,hev⟩:=hq
   simp -implicitDefEqProofs (disch:=omega) [go_sem,Tryz.f39]
   exact ⟨_,rfl,wkEnd_set (by decide) ⟨rfl,hev⟩⟩
 by_cases h5:p.c = 5
 · rw [show takeN n p = eventN n 10 noP p.i by simp [takeN,hs,ho,h5]]
   have hcI:(p.c:Int) = 5:=by omega
   rw [hcI] at d5 c2
   simp -implicitDefEqProofs (disch:=omega) [go_sem]
   refine .inl (call_data c1 (by simp [go_sem,newW]) ?_)
   simp -implicitDefEqProofs (disch:=omega) [go_sem,hcI]
   refine .inl (call_data c2 (by simp [go_sem]) ?_)
   simp -implicitDefEqProofs (disch:=omega) [go_sem]
   refine side (by kernel_rfl) ?_
   simp -implicitDefEqProofs (disch:=omega) [go_sem]
   refine .inl (call_data c4 (by simp [go_sem]) ?_)
   simp -implicitDefEqProofs (disch:=omega) [go_sem,hcI]
   refine side (by kernel_rfl) ?_
   simp -implicitDefEqProofs (disch:=omega) [go_sem,hcI]
   refine .inr (dw_call d5 (g1:=1) (g2:=2) (by simp [go_sem,hpL,wkc,ngL,hcI]) (by simp [go_sem,hpL]) (by simp [go_sem,hpL]) (by decide) (by decide) (by decide) (by simp) (by repeat' constructor) (fun r w1 hq=>?_))
   obtain ⟨rfl,hev⟩:=hq
   simp -implicitDefEqProofs (disch:=omega) [go_sem,Tryz.f39]
   exact ⟨_,rfl,wkEnd_set (by decide) ⟨rfl,hev⟩⟩
 by_cases h6:p.c = 6
 · rw [show takeN n p = eventN n 11 noP p.i by simp [takeN,hs,ho,h6]]
   have hcI:(p.c:Int) = 6:=by omega
   rw [hcI] at d6 c2
   simp -implicitDefEqProofs (disch:=omega) [go_sem]
   refine .inl (call_data c1 (by simp [go_sem,newW]) ?_)
   simp -implicitDefEqProofs (disch:=omega) [go_sem,hcI]
   refine .inl (call_data c2 (by simp [go_sem]) ?_)
   simp -implicitDefEqProofs (disch:=omega) [go_sem]
   refine side (by kernel_rfl) ?_
   simp -implicitDefEqProofs (disch:=omega) [go_sem]
   refine .inl (call_data c4 (by simp [go_sem]) ?_)
   simp -implicitDefEqProofs (disch:=omega) [go_sem,hcI]
   refine side (by kernel_rfl) ?_
   simp -implicitDefEqProofs (disch:=omega) [go_sem,hcI]
   refine .inr (dw_call d6 (g1:=1) (g2:=2) (by simp [go_sem,hpL,wkc,ngL,hcI]) (by simp [go_sem,hpL]) (by simp [go_sem,hpL]) (by decide) (by decide) (by decide) (by simp) (by repeat' constructor) (fun r w1 hq=>?_))
   obtain ⟨rfl,hev⟩:=hq
   simp -implicitDefEqProofs (disch:=omega) [go_sem,Tryz.f39]
   exact ⟨_,rfl,wkEnd_set (by decide) ⟨rfl,hev⟩⟩
 by_cases h7:p.c = 7
 · rw [show takeN n p = (if firstB p.d = true then eventN n 14 noP p.i else eventN n 13 noP p.i) by simp [takeN,hs,ho,h7]]
   have hcI:(p.c:Int) = 7:=by omega
   rw [hcI] at d7 c2
   simp -implicitDefEqProofs (disch:=omega) [go_sem]
   refine .inl (call_data c1 (by simp [go_sem,newW]) ?_)
   simp -implicitDefEqProofs (disch:=omega) [go_sem,hcI]
   refine .inl (call_data c2 (by simp [go_sem]) ?_)
   simp -implicitDefEqProofs (disch:=omega) [go_sem]
   refine side (by kernel_rfl) ?_
   simp -implicitDefEqProofs (disch:=omega) [go_sem]
   refine .inl (call_data c4 (by simp [go_sem]) ?_)
   simp -implicitDefEqProofs (disch:=omega) [go_sem,hcI]
   refine side (by kernel_rfl) ?_
   simp -implicitDefEqProofs (disch:=omega) [go_sem,hcI]
   refine .inr (dw_call d7 (g1:=1) (g2:=2) (by simp [go_sem,hpL,wkc,ngL,hcI]) (by simp [go_sem,hpL]) (by simp [go_sem,hpL]) (by decide) (by decide) (by decide) (by simp) (by repeat' constructor) (fun r w1 hq=>?_))
   obtain ⟨rfl,hev⟩:=hq
   simp -implicitDefEqProofs (disch:=omega) [go_sem,Tryz.f39]
   exact ⟨_,rfl,wkEnd_set (by decide) ⟨rfl,hev⟩⟩
 by_cases h8:p.c = 8
 · rw [show takeN n p = (if lcpB p.d = true then eventN n 14 noP p.i else eventN n 13 noP p.i) by simp [takeN,hs,ho,h8]]
   have hcI:(p.c:Int) = 8:=by omega
   rw [hcI] at d8 c2
   simp -implicitDefEqProofs (disch:=omega) [go_sem]
   refine .inl (call_data c1 (by simp [go_sem,newW]) ?_)
   simp -implicitDefEqProofs (disch:=omega) [go_sem,hcI]
   refine .inl (call_data c2 (by simp [go_sem]) ?_)
   simp -implicitDefEqProofs (disch:=omega) [go_sem]
   refine side (by kernel_rfl) ?_
   simp -implicitDefEqProofs (disch:=omega) [go_sem]
   refine .inl (call_data c4 (by simp [go_sem]) ?_)
   simp -implicitDefEqProofs (disch:=omega) [go_sem,hcI]
   refine side (by kernel_rfl) ?_
   simp -implicitDefEqProofs (disch:=omega) [go_sem,hcI]
   refine .inr (dw_call d8 (g1:=1) (g2:=2) (by simp [go_sem,hpL,wkc,ngL,hcI]) (by simp [go_sem,hpL]) (by simp [go_sem,hpL]) (by decide) (by decide) (by decide) (by simp) (by repeat' constructor) (fun r w1 hq=>?_))
   obtain ⟨rfl,hev⟩:=hq
   simp -implicitDefEqProofs (disch:=omega) [go_sem,Tryz.f39]
   exact ⟨_,rfl,wkEnd_set (by decide) ⟨rfl,hev⟩⟩
 by_cases h9:p.c = 9
 · rw [show takeN n p = (if 4≤p.d.length then eventN n 15 ⟨10,p.i,echoD n p⟩ p.i else none4 n) by simp [takeN,hs,ho,h9]]
   have hcI:(p.c:Int) = 9:=by omega
   rw [hcI] at d9 c2
   simp -implicitDefEqProofs (disch:=omega) [go_sem]
   refine .inl (call_data c1 (by simp [go_sem,newW]) ?_)
   simp -implicitDefEqProofs (disch:=omega) [go_sem,hcI]
   refine .inl (call_data c2 (by simp [go_sem]) ?_)
   simp -implicitDefEqProofs (disch:=omega) [go_sem]
   refine side (by kernel_rfl) ?_
   simp -implicitDefEqProofs (disch:=omega) [go_sem]
   refine .inl (call_data c4 (by simp [go_sem]) ?_)
   simp -implicitDefEqProofs (disch:=omega) [go_sem,hcI]
   refine side (by kernel_rfl) ?_
   simp -implicitDefEqProofs (disch:=omega) [go_sem,hcI]
   refine .inr (dw_call d9 (g1:=1) (g2:=2) (by simp [go_sem,hpL,wkc,ngL,hcI]) (by simp [go_sem,hpL]) (by simp [go_sem,hpL]) (by decide) (by decide) (by decide) (by simp) (by repeat' constructor) (fun r w1 hq=>?_))
   obtain ⟨rfl,hev⟩:=hq
   simp -implicitDefEqProofs (disch:=omega) [go_sem,Tryz.f39]
   exact ⟨_,rfl,wkEnd_set (by decide) ⟨rfl,hev⟩⟩
 by_cases h10:p.c = 10
 · rw [show takeN n p = none4 n by simp [takeN,hs,ho,h10]]
   have hcI:(p.c:Int) = 10:=by omega
   rw [hcI] at c2
   simp -implicitDefEqProofs (disch:=omega) [go_sem]
   refine .inl (call_data c1 (by simp [go_sem,newW]) ?_)
   simp -implicitDefEqProofs (disch:=omega) [go_sem,hcI]
   refine .inl (call_data c2 (by simp [go_sem]) ?_)
   simp -implicitDefEqProofs (disch:=omega) [go_sem]
   refine side (by kernel_rfl) ?_
   simp -implicitDefEqProofs (disch:=omega) [go_sem]
   refine .inl (call_data c4 (by simp [go_sem]) ?_)
   simp -implicitDefEqProofs (disch:=omega) [go_sem,hcI]
   refine side (by kernel_rfl) ?_
   simp -implicitDefEqProofs (disch:=omega) [go_sem,hcI,Tryz.f39]
   refine ⟨_,rfl,wkEnd_of (.tup []) (newW n p.i) 1 2 (.inl rfl) (by decide) ⟨rfl,rfl,rfl,rfl⟩ ?_ ?_ ?_⟩ <;> simp [go_sem,wkc,ngL,hpL]
 by_cases h11:p.c = 11
 · rw [show takeN n p = none4 n by simp [takeN,hs,ho,h11]]
   have hcI:(p.c:Int) = 11:=by omega
   rw [hcI] at c2
   simp -implicitDefEqProofs (disch:=omega) [go_sem]
   refine .inl (call_data c1 (by simp [go_sem,newW]) ?_)
   simp -implicitDefEqProofs (disch:=omega) [go_sem,hcI]
   refine .inl (call_data c2 (by simp [go_sem]) ?_)
   simp -implicitDefEqProofs (disch:=omega) [go_sem]
   refine side (by kernel_rfl) ?_
   simp -implicitDefEqProofs (disch:=omega) [go_sem]
   refine .inl (call_data c4 (by simp [go_sem]) ?_)
   simp -implicitDefEqProofs (disch:=omega) [go_sem,hcI]
   refine side (by kernel_rfl) ?_
   simp -implicitDefEqProofs (disch:=omega) [go_sem,hcI,Tryz.f39]
   refine ⟨_,rfl,wkEnd_of (.tup []) (newW n p.i) 1 2 (.inl rfl) (by decide) ⟨rfl,rfl,rfl,rfl⟩ ?_ ?_ ?_⟩ <;> simp [go_sem,wkc,ngL,hpL]
 unfold oddC at ho
 omega
set_option maxHeartbeats 4000000 in
theorem nTake_pc (hΓ:Spaces Γ) (n:Ng) (p:Pk) (h:OkW n) (hp:p.Ty) (hl:p.d.length≤1496):PC Tryz.prog Γ 14 [ng n,pk p] (didN (takeN n p)):=by
 refine pc_by mixed Tryz.func14 rfl (fun args w=>Tryz.call14 args w) ?_
 have c0:=begun_oc Γ n h
 by_cases hs:n.a.s < 2
 · have hc:Comes (takeN n p) (newW n p.i):=by unfold takeN;rw [if_pos hs];exact ⟨rfl,rfl,rfl⟩
   rw [comes_did hc]
   have h0:n.a.s = 0 ∨ n.a.s = 1:=by have:=h.right.1.1.1;omega
   unfold ng ngL pk at *
   rcases h0 with h0 | h0
   all_goals
    simp -implicitDefEqProofs (disch:=omega) [go_sem]
    refine .inr (dc_own [] (by simp) c0 (frzL_c (.data _) frzL_n) ?_)
    simp -implicitDefEqProofs (disch:=omega) [go_sem,h0,wkc,ngL,newW]
    refine side (by kernel_rfl) ?_
    simp -implicitDefEqProofs (disch:=omega) [go_sem,h0,wkc,ngL,newW,Tryz.f14]
    exact ⟨_,⟨_,_,rfl,rfl,_,_,rfl,frz_pks (l:=[]) (by simp [Hp.set,go_sem,pks,flat]),_,rfl,frz_ints (l:=[]) (by simp [Hp.set,go_sem,ints])⟩,rfl⟩
 · have c1:=wtake_dw Γ hΓ n p h hp hl hs
   have k0:¬ n.a.s = 0:=by omega
   have k1:¬ n.a.s = 1:=by omega
   generalize takeN n p = o at *
   unfold ng ngL pk at *
   simp -implicitDefEqProofs (disch:=omega) [go_sem]
   refine .inr (dc_own [] (by simp) c0 (frzL_c (.data _) frzL_n) ?_)
   simp -implicitDefEqProofs (disch:=omega) [go_sem,k0,k1,wkc,ngL,newW]
   refine .inr (dw_call c1 (g1:=7) (g2:=8) (by simp [go_sem,wkc,ngL,newW]) (by simp [go_sem,newW,pks,flat]) (by simp [go_sem,newW,ints]) (by decide) (by decide) (by decide) (by simp) (by repeat' constructor) (fun r w1 hq=>?_))
   have ev:=hq.2
   clear hq
   rw [comes_did ev]
   simp -implicitDefEqProofs (disch:=omega) [go_sem,wkc,ngL]
   refine side (by kernel_rfl) ?_
   simp -implicitDefEqProofs (disch:=omega) [go_sem,wkc,ngL,Tryz.f14]
   exact ⟨_,⟨_,_,rfl,rfl,_,_,rfl,frz_pks (by simp [Hp.set,go_sem]),_,rfl,frz_ints (by simp [Hp.set,go_sem])⟩,rfl⟩
theorem progN (hΓ:Spaces Γ):ProgN Γ where
 new:=fun r hr=>nnew_pc Γ r hr
 right:=fun n _ hr=>nright_pc0 Γ n hr
 do_:=fun n e ht hr=>nDo_pc Γ hΓ n e ⟨ht,hr⟩
 tick:=fun n ht hr=>nTick_pc Γ hΓ n ⟨ht,hr⟩
 take:=fun n p ht hr hp hl=>nTake_pc Γ hΓ n p ⟨ht,hr⟩ hp hl
 magic:=fun n ht hr=>nmagic_pc Γ n (OkW.fine ⟨ht,hr⟩).1.2.1 (fun o ho=>(OkW.ops ⟨ht,hr⟩).opt o ho)
 same:=fun n m ht hr kt kr=>nsame_pc Γ n m (right_ngt ht hr) (right_ngt kt kr) ht kt
end
end Ne
section
variable (Γ:Nat->Option (List Data))
theorem law_NegoDoes (hΓ:Fs.Spaces Γ) {x0 x1 x2:Data} (a0:argD Tryz.prog 8 29 x0) (a1:argD Tryz.prog 8 3 x1) (a2:argD Tryz.prog 8 32 x2):PC Tryz.prog Γ 3 [x0,x1,x2] (.bool true):=Ne.at_NegoDoes Γ (Ne.progN Γ hΓ) a0 a1 a2
theorem law_NegoRight (hΓ:Fs.Spaces Γ) {x0 x1 x2:Data} (a0:argD Tryz.prog 8 29 x0) (a1:argD Tryz.prog 8 3 x1) (a2:argD Tryz.prog 8 32 x2):PC Tryz.prog Γ 4 [x0,x1,x2] (.bool true):=Ne.at_NegoRight Γ (Ne.progN Γ hΓ) a0 a1 a2
theorem law_NegoAcks (hΓ:Fs.Spaces Γ) {x0 x1:Data} (a0:argD Tryz.prog 8 29 x0) (a1:argD Tryz.prog 8 32 x1):PC Tryz.prog Γ 5 [x0,x1] (.bool true):=Ne.at_NegoAcks Γ (Ne.progN Γ hΓ) a0 a1
theorem law_NegoPeer (hΓ:Fs.Spaces Γ) {x0 x1 x2:Data} (a0:argD Tryz.prog 8 24 x0) (a1:argD Tryz.prog 8 24 x1) (a2:argD Tryz.prog 8 24 x2):PC Tryz.prog Γ 6 [x0,x1,x2] (.bool true):=Ne.at_NegoPeer Γ (Ne.progN Γ hΓ) a0 a1 a2
theorem law_NegoCodes (hΓ:Fs.Spaces Γ) {x0 x1:Data} (a0:argD Tryz.prog 8 29 x0) (a1:argD Tryz.prog 8 32 x1):PC Tryz.prog Γ 7 [x0,x1] (.bool true):=Ne.at_NegoCodes Γ (Ne.progN Γ hΓ) a0 a1
theorem law_NegoEchoes (hΓ:Fs.Spaces Γ) {x0 x1 x2:Data} (a0:argD Tryz.prog 8 29 x0) (a1:argD Tryz.prog 8 5 x1) (a2:argD Tryz.prog 8 30 x2):PC Tryz.prog Γ 8 [x0,x1,x2] (.bool true):=Ne.at_NegoEchoes Γ (Ne.progN Γ hΓ) a0 a1 a2
end
end Go.Proofs.YtlfhkplbjgcpiaaGreatDoor
