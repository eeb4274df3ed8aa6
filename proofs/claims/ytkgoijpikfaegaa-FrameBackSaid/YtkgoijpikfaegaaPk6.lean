/- Frames: the program's own functions. Frames: what comes in, the document's example, frames that are taken. Frames: FrameTakes, FrameShort, FrameRead, FrameBack, FrameRow. Frames: FrameRead, FrameBack, FrameRow. Frames: the laws. -/
import Derived.Test.YtkgoijpikfaegaaPk5
namespace Go.Proofs.Ytkgoijpikfaegaa
open Go.RowKit
set_option linter.unusedSimpArgs false
set_option linter.unusedVariables false
set_option maxRecDepth 100000
namespace Fc
theorem and8 {n:Int} (h0:0≤n) (h:n < 256):andI .u8 n 1 = n % 2:=by
 obtain ⟨a,rfl⟩:=Int.eq_ofNat_of_zero_le h0
 have ha:a < 256:=by omega
 unfold andI
 rw [IntKind.wrap_u8,BitVec.ofInt_natCast,show (1:Int) = ((1:Nat):Int) from rfl,BitVec.ofInt_natCast,BitVec.toNat_and,BitVec.toNat_ofNat,BitVec.toNat_ofNat,mod_of (show a < 2 ^ IntKind.u8.bits from ha),show (1:Nat) % 2 ^ IntKind.u8.bits = 1 from rfl,Nat.and_one_is_mod]
 omega
theorem or16 {a b:Nat} (ha:a < 256) (hb:b < 256):orI .u16 ((a:Int) * 256) (b:Int) = ((a * 256 + b:Nat):Int):=by
 have h:=Nat.two_pow_add_eq_or_of_lt (i:=8) (b:=b) (by omega) a
 have e1:((a:Int) * 256) = ((a * 256:Nat):Int):=by omega
 rw [e1]
 unfold orI
 rw [IntKind.wrap_u16,BitVec.ofInt_natCast,BitVec.ofInt_natCast,BitVec.toNat_or,BitVec.toNat_ofNat,BitVec.toNat_ofNat,Nat.mod_eq_of_lt (show a * 256 < 2 ^ IntKind.u16.bits from by show a * 256 < 65536;omega),Nat.mod_eq_of_lt (show b < 2 ^ IntKind.u16.bits from by show b < 65536;omega)]
 rw [show a * 256 = 2 ^ 8 * a by omega,<- h]
 omega
theorem drop_bys (l:List Nat) (k:Nat):(bys l).drop k = bys (l.drop k):=by simp [bys]
theorem take_bys (l:List Nat) (k:Nat):(bys l).take k = bys (l.take k):=by simp [bys]
/-- A protocol's number,and what is behind it. -/
def partR:List Nat->Option (Nat × List Nat)
 | []=>none
 | x :: r=>if x % 2 = 1 then some (x,r) else match r with
   | []=>none
   | y :: r=>some (x * 256 + y,r)
def partD:Option (Nat × List Nat)->Data
 | some (p,i)=>.tup [.int .u16 p,.sl 1 (bys i),.bool true]
 | none=>.tup [.int .u16 0,.sl 1 (bys []),.bool false]
def bodyO:Option (Nat × List Nat)->Fr × Int
 | some (p,i)=>fin p i
 | none=>(noF,2)
theorem bodyR_part (c:List Nat):bodyR c = bodyO (partR c):=by
 rcases c with _ | ⟨x,_ | ⟨y,r⟩⟩
 · rfl
 · by_cases ho:x % 2 = 1 <;> simp [bodyR,partR,bodyO,ho]
 · by_cases ho:x % 2 = 1 <;> simp [bodyR,partR,bodyO,ho]
theorem strip_eq (c:List Nat):strip c = if c.take 2 = [255,3] then c.drop 2 else c:=by
 rcases c with _ | ⟨x,_ | ⟨y,r⟩⟩
 · rfl
 · simp [strip]
 · simp [strip]
section
variable (Γ:Nat->Option (List Data))
theorem proto_pc (p:Nat) (hp:p < 65536):PC Try.prog Γ 15 [.int .u16 p] (.bool (decide (MayP p))):=by
 refine pc_by mixed Try.func15 rfl (fun args w=>Try.call15 args w) ?_
 unfold MayP
 by_cases h1:p % 2 = 1
 · have e1:(p:Int) % 256 % 2 = 1:=by omega
   by_cases h2:p / 256 % 2 = 0
   · have e2:(p:Int) / 256 % 256 % 2 = 0:=by omega
     by_cases h3:p = 255
     · have e3:(p:Int) = 255:=by omega
       simp -implicitDefEqProofs (disch:=omega) [go_sem,and8,high16,e1,e2,e3,h1,h2,h3,Try.f15]
     · have e3:¬ ((p:Int) = 255):=by omega
       simp -implicitDefEqProofs (disch:=omega) [go_sem,and8,high16,e1,e2,e3,h1,h2,h3,Try.f15]
   · have e2:¬ ((p:Int) / 256 % 256 % 2 = 0):=by omega
     simp -implicitDefEqProofs (disch:=omega) [go_sem,and8,high16,e1,e2,h1,h2,Try.f15]
 · have e1:¬ ((p:Int) % 256 % 2 = 1):=by omega
   simp -implicitDefEqProofs (disch:=omega) [go_sem,and8,high16,e1,h1,Try.f15]
theorem prefix_pc (b q:List Nat) (hb:∀ x∈b,x < 256) (hq:∀ x∈q,x < 256) (hbn:b.length≤1000000000) (hqn:q.length≤1000000000):PC Try.prog Γ 42 [.sl 1 (bys b),.sl 1 (bys q)] (.bool (decide (b.take q.length = q))):=by
 refine pc_by mixed Try.func42 rfl (fun args w=>Try.call42 args w) ?_
 by_cases h:q.length≤b.length
 · have c1:=Sf.sequal_pc Γ (b.take q.length) q (fun x hx=>hb x (List.mem_of_mem_take hx)) hq
   generalize decide (b.take q.length = q) = v at *
   simp -implicitDefEqProofs (disch:=omega) [go_sem]
   refine .inl (call_data c1 (by simp [go_sem,take_bys]) ?_)
   simp -implicitDefEqProofs (disch:=omega) [go_sem,Try.f42]
 · have e:decide (b.take q.length = q) = false:=decide_eq_false fun e=>by
    have:=congrArg List.length e
    rw [List.length_take] at this
    omega
   rw [e]
   simp -implicitDefEqProofs (disch:=omega) [go_sem,Try.f42]
theorem trim_pc (b q:List Nat) (hb:∀ x∈b,x < 256) (hq:∀ x∈q,x < 256) (hbn:b.length≤1000000000) (hqn:q.length≤1000000000):PC Try.prog Γ 31 [.sl 1 (bys b),.sl 1 (bys q)] (.sl 1 (bys (if b.take q.length = q then b.drop q.length else b))):=by
 refine pc_by mixed Try.func31 rfl (fun args w=>Try.call31 args w) ?_
 have c1:=prefix_pc Γ b q hb hq hbn hqn
 by_cases h:b.take q.length = q
 · rw [if_pos h]
   have hl:q.length≤b.length:=by
    have:=congrArg List.length h
    rw [List.length_take] at this
    omega
   rw [decide_eq_true h] at c1
   simp -implicitDefEqProofs (disch:=omega) [go_sem]
   refine .inl (call_data c1 (by simp [go_sem]) ?_)
   simp -implicitDefEqProofs (disch:=omega) [go_sem,drop_bys,Try.f31]
 · rw [if_neg h]
   rw [decide_eq_false h] at c1
   simp -implicitDefEqProofs (disch:=omega) [go_sem]
   refine .inl (call_data c1 (by simp [go_sem]) ?_)
   simp -implicitDefEqProofs (disch:=omega) [go_sem,Try.f31]
theorem parted_pc (b:List Nat) (hb:∀ x∈b,x < 256) (hbn:b.length≤1000000000):PC Try.prog Γ 30 [.sl 1 (bys b)] (partD (partR b)):=by
 refine pc_by mixed Try.func30 rfl (fun args w=>Try.call30 args w) ?_
 rcases b with _ | ⟨x,r⟩
 · rw [show partR [] = none from rfl]
   simp -implicitDefEqProofs (disch:=omega) [go_sem,partD,Try.f30]
   exact ⟨_,⟨_,_,rfl,rfl,_,rfl,.emp _ _⟩,rfl⟩
 have hx:=hb x (by simp)
 by_cases ho:x % 2 = 1
 · have e1:(x:Int) % 2 = 1:=by omega
   rw [show partR (x :: r) = some (x,r) by simp [partR,ho]]
   simp -implicitDefEqProofs (disch:=omega) [go_sem,and8,e1]
   refine side (by kernel_rfl) ?_
   simp -implicitDefEqProofs (disch:=omega) [go_sem,and8,e1,partD,Try.f30]
   exact ⟨by omega,by simp [bys]⟩
 · have e1:¬ ((x:Int) % 2 = 1):=by omega
   rcases r with _ | ⟨y,r⟩
   · rw [show partR [x] = none by simp [partR,ho]]
     simp -implicitDefEqProofs (disch:=omega) [go_sem,and8,e1,partD,Try.f30]
     exact ⟨_,⟨_,_,rfl,rfl,_,rfl,.emp _ _⟩,rfl⟩
   · have hy:=hb y (by simp)
     rw [show partR (x :: y :: r) = some (x * 256 + y,r) by simp [partR,ho]]
     simp -implicitDefEqProofs (disch:=omega) [go_sem,and8,e1]
     refine side (by kernel_rfl) ?_
     simp -implicitDefEqProofs (disch:=omega) [go_sem,and8,e1,partD,Try.f30]
     rw [show (x:Int) % 65536 * 256 % 65536 = (x:Int) * 256 by omega,show (y:Int) % 65536 = (y:Int) by omega,or16 hx hy]
     omega
def headE (p:Nat) (i:Nat):Data × D :=
 if i = 5 then (.agg [.bool false,.bool false],.ref 14 0 4 1) else if i = 10 then (.agg [.bool false,.bool true],.ref 19 0 4 1) else if i = 15 then (.agg [.bool true,.bool false],.ref 24 0 2 1) else (.agg [.bool true,.bool true],.ref 28 0 1 1)
theorem heads_dc (p:Nat) (hp:p < 65536) (K:D->(Nat->Blk)->Nat->Prop)
 (hK:∀ (l:List Nat) (H:Nat->Blk),l.Perm [5,10,15,19]->H 10 = mapAt (headE p) l->H 14 = .blk true ((bys [255,3,p / 256,p % 256]).map D.data)->H 19 = .blk true ((bys [255,3,p / 256,p % 256]).map D.data)->H 24 = .blk true ((bys [p / 256,p % 256]).map D.data)->H 28 = .blk true ((bys [p % 256]).map D.data)->K (.mref 10) H 32):DC Try.prog Γ 40 [.data (.int .u16 p)] (hpL []) 2 K:=by
 refine dc_ofW Try.func40 rfl (fun args w=>Try.call40 args w) ?_
 refine WP.seq mixed ?_
 simp -implicitDefEqProofs (disch:=omega) [go_sem,high16]
 refine WP.seq mixed ?_
 simp -implicitDefEqProofs (disch:=omega) [go_sem,high16]
 refine WP.both (WP.fill mixed 0 10 [5,10,15,19] (headE p) ?_)
 simp only [fillW,List.map_toArray,List.toList_toArray,List.map_cons,List.map_nil,stillOp]
 simp -implicitDefEqProofs (disch:=omega) [go_sem,high16]
 refine ⟨by kernel_rfl,?_,?_⟩
 · refine ⟨?_,?_,?_,?_⟩ <;> simp -implicitDefEqProofs (disch:=omega) [InsIs,PutsIn,headE,go_sem]
 refine ⟨by simp [headE,keyEq,bolEq],fun l hl=>WP.code mixed ?_⟩
 simp -implicitDefEqProofs (disch:=omega) [go_sem,Try.f40]
 have e1:((p:Int) / 256 % 256) = ((p / 256:Nat):Int):=by omega
 exact hK l _ hl (by simp [Hp.set]) (by simp [Hp.set,bys,u8,e1]) (by simp [Hp.set,bys,u8,e1]) (by simp [Hp.set,bys,u8,e1]) (by simp [Hp.set,bys,u8])
/-- A key among others,in whatever order. -/
theorem find_perm {k:Data} {ent:Nat->Data × D} {i1:Nat}:∀ (l:List Nat) (n:Nat),(∀ i∈l,keyEq k (ent i).1 = some (decide (i = i1)))->i1∈l->∃ j,findD k (l.map fun i=>(ent i).1) n = some (some (n + j))∧l[j]? = some i1
 | [],n,_,hm=>by cases hm
 | i :: l,n,h,hm=>by
   have h0:=h i (by simp)
   simp only [List.map_cons,findD,h0]
   by_cases e:i = i1
   · exact ⟨0,by simp [e],by simp [e]⟩
   · obtain ⟨j,h1,h2⟩:=find_perm l (n + 1) (fun x hx=>h x (by simp [hx])) (by
      rcases List.mem_cons.1 hm with e2 | e2
      · exact absurd e2.symm e
      · exact e2)
     refine ⟨j + 1,?_,by simpa using h2⟩
     simp only [e,decide_false]
     rw [h1]
     congr 2
     omega
theorem heads_find (p:Nat) {l:List Nat} (hl:l.Perm [5,10,15,19]) (a b:Bool):∃ j,findD (.agg [.bool a,.bool b]) (l.map fun i=>(headE p i).1) 0 = some (some j) ∧
 (l.map fun i=>(headE p i).2)[j]? = some (match a,b with | false,false=>.ref 14 0 4 1 | false,true=>.ref 19 0 4 1 | true,false=>.ref 24 0 2 1 | true,true=>.ref 28 0 1 1):=by
 have go:∀ i1∈[5,10,15,19],(∀ i∈[5,10,15,19],keyEq (.agg [.bool a,.bool b]) (headE p i).1 = some (decide (i = i1)))->∃ j,findD (.agg [.bool a,.bool b]) (l.map fun i=>(headE p i).1) 0 = some (some j)∧(l.map fun i=>(headE p i).2)[j]? = some (headE p i1).2:=by
  intro i1 h1 h2
  obtain ⟨j,k1,k2⟩:=find_perm (k:=.agg [.bool a,.bool b]) (ent:=headE p) l 0 (fun i hi=>h2 i (hl.mem_iff.1 hi)) (hl.mem_iff.2 h1)
  exact ⟨j,by rw [k1,Nat.zero_add],by rw [List.getElem?_map,k2];rfl⟩
 cases a <;> cases b
 · exact go 5 (by simp) (by simp [headE,keyEq,bolEq])
 · exact go 10 (by simp) (by simp [headE,keyEq,bolEq])
 · exact go 15 (by simp) (by simp [headE,keyEq,bolEq])
 · exact go 19 (by simp) (by simp [headE,keyEq,bolEq])
theorem ahead_pc (p:Nat) (sh:Bool) (hp:p < 65536):PC Try.prog Γ 28 [.int .u16 p,.bool sh] (.sl 1 (bys (hdB p sh))):=by
 refine pc_by mixed Try.func28 rfl (fun args w=>Try.call28 args w) ?_
 simp -implicitDefEqProofs (disch:=omega) [go_sem]
 refine .inr (heads_dc Γ p hp _ fun l H hl h10 h14 h19 h24 h28=>?_)
 unfold mapAt at h10
 cases sh
 · by_cases h1:p≤255
   · have h2:(p:Int)≤255:=by omega
     obtain ⟨j,hj1,hj2⟩:=heads_find p hl false true
     simp only at hj2
     rw [show hdB p false = [255,3,p / 256,p % 256] by simp [hdB]]
     simp -implicitDefEqProofs (disch:=omega) [go_sem,h10,hj1,hj2,h2,Try.f28]
     exact ⟨_,⟨_,rfl,frz_bys (rw:=true) h19 (.inl rfl) rfl⟩,rfl⟩
   · have h2:¬ (p:Int)≤255:=by omega
     obtain ⟨j,hj1,hj2⟩:=heads_find p hl false false
     simp only at hj2
     rw [show hdB p false = [255,3,p / 256,p % 256] by simp [hdB]]
     simp -implicitDefEqProofs (disch:=omega) [go_sem,h10,hj1,hj2,h2,Try.f28]
     exact ⟨_,⟨_,rfl,frz_bys (rw:=true) h14 (.inl rfl) rfl⟩,rfl⟩
 by_cases h0:p = 49185
 · have h2:¬ (p:Int)≤255:=by omega
   have h3:(p:Int) = 49185:=by omega
   obtain ⟨j,hj1,hj2⟩:=heads_find p hl false false
   simp only at hj2
   rw [show hdB p true = [255,3,p / 256,p % 256] by simp [hdB,h0]]
   simp -implicitDefEqProofs (disch:=omega) [go_sem,h10,hj1,hj2,h2,h3,Try.f28]
   exact ⟨_,⟨_,rfl,frz_bys (rw:=true) h14 (.inl rfl) rfl⟩,rfl⟩
 have h3:¬ (p:Int) = 49185:=by omega
 by_cases h1:p≤255
 · have h2:(p:Int)≤255:=by omega
   have h4:¬ 256≤p:=by omega
   obtain ⟨j,hj1,hj2⟩:=heads_find p hl true true
   simp only at hj2
   rw [show hdB p true = [p % 256] by simp [hdB,h0,h4]]
   simp -implicitDefEqProofs (disch:=omega) [go_sem,h10,hj1,hj2,h2,h3,Try.f28]
   exact ⟨_,⟨_,rfl,frz_bys (rw:=true) h28 (.inl rfl) rfl⟩,rfl⟩
 · have h2:¬ (p:Int)≤255:=by omega
   have h4:256≤p:=by omega
   obtain ⟨j,hj1,hj2⟩:=heads_find p hl true false
   simp only at hj2
   rw [show hdB p true = [p / 256,p % 256] by simp [hdB,h0,h4]]
   simp -implicitDefEqProofs (disch:=omega) [go_sem,h10,hj1,hj2,h2,h3,Try.f28]
   exact ⟨_,⟨_,rfl,frz_bys (rw:=true) h24 (.inl rfl) rfl⟩,rfl⟩
theorem bytes_pc (f:Fr) (sh:Bool) (hp:f.p < 65536) (hl:∀ x∈f.i,x < 256) (hn:f.i.length≤140737488351232):PC Try.prog Γ 16 [fr f,.bool sh] (.tup [.sl 1 (bys (frB f sh)),.int .i64 (frE f)]):=by
 refine pc_by mixed Try.func16 rfl (fun args w=>Try.call16 args w) ?_
 have c1:=proto_pc Γ f.p hp
 by_cases h1:MayP f.p
 rotate_left
 · have e:¬ Ok f:=fun h=>h1 h.1
   rw [show frB f sh = [] from if_neg e,show frE f = 1 from if_neg e]
   rw [decide_eq_false h1] at c1
   simp -implicitDefEqProofs (disch:=omega) [go_sem,fr]
   refine .inl (call_data c1 (by simp [go_sem]) ?_)
   simp -implicitDefEqProofs (disch:=omega) [go_sem,Try.f16]
   exact ⟨_,⟨_,rfl,.emp _ _⟩,rfl⟩
 rw [decide_eq_true h1] at c1
 by_cases h2:f.i.length≤1500
 rotate_left
 · have e:¬ Ok f:=fun h=>h2 h.2
   rw [show frB f sh = [] from if_neg e,show frE f = 1 from if_neg e]
   simp -implicitDefEqProofs (disch:=omega) [go_sem,fr]
   refine .inl (call_data c1 (by simp [go_sem]) ?_)
   simp -implicitDefEqProofs (disch:=omega) [go_sem,Try.f16]
   exact ⟨_,⟨_,rfl,.emp _ _⟩,rfl⟩
 have e:Ok f:=⟨h1,h2⟩
 rw [show frB f sh = M.put (hdB f.p sh++f.i) from if_pos e,show frE f = 0 from if_pos e]
 have c2:=ahead_pc Γ f.p sh hp
 have h4:=hdB_le f.p sh
 have h5:=hd_two f.p sh
 have hlt:∀ x∈hdB f.p sh++f.i,x < 256:=fun x hx=>by
  rcases List.mem_append.1 hx with hx | hx
  · exact hdB_lt hp sh x hx
  · exact hl x hx
 have c3:=Sf.concat_pc Γ [hdB f.p sh,f.i] (by simp;omega) (by simp;omega) (by simp)
 have c4:=put_pc Γ (hdB f.p sh++f.i) (by simp;omega) hlt
 rw [show [hdB f.p sh,f.i].flatten = hdB f.p sh++f.i by simp] at c3
 generalize hdB f.p sh = hd at *
 generalize M.put (hd++f.i) = q at *
 simp -implicitDefEqProofs (disch:=omega) [go_sem,fr]
 refine .inl (call_data c1 (by simp [go_sem]) ?_)
 simp -implicitDefEqProofs (disch:=omega) [go_sem]
 refine .inl (call_data c2 (by simp [go_sem]) ?_)
 simp -implicitDefEqProofs (disch:=omega) [go_sem]
 refine .inl (call_keep 19 c3 (rw:=true) (cells:=[.data (.sl 1 (bys hd)),.data (.sl 1 (bys f.i))]) (by simp [Hp.upd,Hp.set]) (fun H' hg=>?_) ?_)
 · refine frzL_c (frz_rows (rw:=false) hg (.inr rfl) rfl (Sf.rws_cells _) ?_) frzL_n
   rw [Sf.flat_rws]
   exact frzL_c (.data _) (frzL_c (.data _) frzL_n)
 simp -implicitDefEqProofs (disch:=omega) [go_sem]
 refine .inl (call_data c4 (by simp [go_sem]) ?_)
 simp -implicitDefEqProofs (disch:=omega) [go_sem]
 refine side (by kernel_rfl) ?_
 simp -implicitDefEqProofs (disch:=omega) [go_sem,Try.f16]
theorem fsame_pc (f g:Fr) (hf:∀ x∈f.i,x < 256) (hg:∀ x∈g.i,x < 256):PC Try.prog Γ 21 [fr f,fr g] (.bool (decide (f = g))):=by
 refine pc_by mixed Try.func21 rfl (fun args w=>Try.call21 args w) ?_
 have c1:=Sf.sequal_pc Γ f.i g.i hf hg
 have e:decide (f = g) = (decide (f.p = g.p) && decide (f.i = g.i)):=by
  obtain ⟨p,i⟩:=f;obtain ⟨q,j⟩:=g
  simp only [Fr.mk.injEq,Bool.decide_and]
 rw [e]
 generalize decide (f.i = g.i) = v at *
 by_cases hp:f.p = g.p
 · simp -implicitDefEqProofs (disch:=omega) [go_sem,fr,hp]
   refine .inl (call_data c1 (by simp [go_sem]) ?_)
   simp -implicitDefEqProofs (disch:=omega) [go_sem,Try.f21]
 · have h2:¬ (f.p:Int) = g.p:=by omega
   simp -implicitDefEqProofs (disch:=omega) [go_sem,fr,hp,h2,Try.f21]
theorem send_pc (f:Fr) (a:Nat) (sh:Bool) (hp:f.p < 65536) (hl:∀ x∈f.i,x < 256) (hn:f.i.length≤140737488351232) (ha:a < 4294967296):PC Try.prog Γ 14 [fr f,.int .u32 a,.bool sh] (.tup [.sl 1 (bys (sdB f a sh)),.int .i64 (frE f)]):=by
 refine pc_by mixed Try.func14 rfl (fun args w=>Try.call14 args w) ?_
 have c1:=bytes_pc Γ f sh hp hl hn
 have hle:=frB_le f sh
 have c2:=Sf.send_pc Γ (frB f sh) a (by omega) (frB_lt hp hl sh) ha
 unfold sdB
 by_cases h:Ok f
 · have e:frE f = 0:=if_pos h
   rw [e,if_pos h]
   rw [e] at c1
   unfold fr at c1 ⊢
   simp -implicitDefEqProofs (disch:=omega) [go_sem]
   refine .inl (call_data c1 (by simp [go_sem]) ?_)
   simp -implicitDefEqProofs (disch:=omega) [go_sem]
   refine .inl (call_data c2 (by simp [go_sem]) ?_)
   simp -implicitDefEqProofs (disch:=omega) [go_sem,Try.f14]
 · have e:frE f = 1:=if_neg h
   rw [e,if_neg h]
   rw [e] at c1
   unfold fr at c1 ⊢
   simp -implicitDefEqProofs (disch:=omega) [go_sem]
   refine .inl (call_data c1 (by simp [go_sem]) ?_)
   simp -implicitDefEqProofs (disch:=omega) [go_sem,Try.f14]
   exact ⟨_,⟨_,rfl,.emp _ _⟩,rfl⟩
theorem read_pc (b:List Nat) (hb:b.length≤1000000000) (hl:∀ x∈b,x < 256):PC Try.prog Γ 17 [.sl 1 (bys b)] (.tup [fr (readF b).1,.int .i64 (readF b).2]):=by
 refine pc_by mixed Try.func17 rfl (fun args w=>Try.call17 args w) ?_
 have c1:=cut_pc Γ b hb hl
 unfold readF
 have hcl:∀ x∈cutB b,x < 256:=cutB_lt hl
 have hcn:(cutB b).length≤b.length:=cutB_le b
 have ex:∀ (e:Int) (H:Nat->Blk),∃ xs,(∃ y,xs = [y,Data.int .i64 e]∧Frz true H (D.agg [D.data (.int .u16 0),D.emp 0]) y)∧Data.tup [fr noF,.int .i64 e] = tupD xs:=fun e H=>⟨_,⟨_,rfl,frz_aggL (frzL_c (.data _) (frzL_c (.emp 0 1) frzL_n))⟩,rfl⟩
 generalize cutB b = c at *
 by_cases he:cutE b = 0
 rotate_left
 · rw [if_neg he]
   generalize cutE b = e at *
   simp -implicitDefEqProofs (disch:=omega) [go_sem]
   refine .inl (call_data c1 (by simp [go_sem]) ?_)
   simp -implicitDefEqProofs (disch:=omega) [go_sem,he,Try.f17]
   exact ex _ _
 rw [if_pos he]
 rw [he] at c1
 have c2:=trim_pc Γ c [255,3] hcl (by simp) (by omega) (by simp)
 rw [show ([255,3]:List Nat).length = 2 from rfl,<- strip_eq c] at c2
 have hsl:(strip c).length≤c.length:=by
  rw [strip_eq]
  split
  · rw [List.length_drop];omega
  · exact Nat.le_refl _
 have c3:=parted_pc Γ (strip c) (strip_mem hcl) (by omega)
 have hsm:=strip_mem hcl
 rw [bodyR_part]
 have hpl:∀ p i,partR (strip c) = some (p,i)->p < 65536∧i.length≤(strip c).length:=by
  intro p i
  generalize strip c = s at *
  rcases s with _ | ⟨x,_ | ⟨y,r⟩⟩
  · intro h;cases h
  · have hx:=hsm x (by simp)
    by_cases ho:x % 2 = 1
    · simp only [partR,ho,if_true,Option.some.injEq,Prod.mk.injEq];rintro ⟨rfl,rfl⟩;exact ⟨by omega,by simp⟩
    · simp [partR,ho]
  · have hx:=hsm x (by simp)
    have hy:=hsm y (by simp)
    by_cases ho:x % 2 = 1
    · simp only [partR,ho,if_true,Option.some.injEq,Prod.mk.injEq];rintro ⟨rfl,rfl⟩;exact ⟨by omega,by simp⟩
    · simp only [partR,ho,if_false,Option.some.injEq,Prod.mk.injEq];rintro ⟨rfl,rfl⟩;exact ⟨by omega,by simp;omega⟩
 generalize strip c = s at *
 simp -implicitDefEqProofs (disch:=omega) [go_sem]
 refine .inl (call_data c1 (by simp [go_sem]) ?_)
 simp -implicitDefEqProofs (disch:=omega) [go_sem]
 refine .inl (call_keep 12 c2 (rw:=true) (cells:=(bys [255,3]).map D.data) (by simp [Hp.upd,Hp.set,bys,u8]) (fun H' hg=>frzL_c (.data _) (frzL_c (frz_bys (rw:=false) hg (.inr rfl) rfl) frzL_n)) ?_)
 simp -implicitDefEqProofs (disch:=omega) [go_sem]
 cases hpt:partR s with
 | none =>
   rw [hpt] at c3
   unfold partD at c3
   rw [show bodyO none = (noF,2) from rfl]
   refine .inl (call_data c3 (by simp [go_sem]) ?_)
   simp -implicitDefEqProofs (disch:=omega) [go_sem,Try.f17]
   exact ex _ _
 | some pi =>
   obtain ⟨p,i⟩:=pi
   obtain ⟨hp,hil⟩:=hpl p i hpt
   rw [hpt] at c3
   unfold partD at c3
   have c4:=proto_pc Γ p hp
   refine .inl (call_data c3 (by simp [go_sem]) ?_)
   simp -implicitDefEqProofs (disch:=omega) [go_sem]
   refine .inl (call_data c4 (by simp [go_sem]) ?_)
   by_cases hm:MayP p
   · by_cases hi:i.length≤1500
     · rw [show bodyO (some (p,i)) = (⟨p,i⟩,0) by show fin p i = _;unfold fin;rw [if_pos hm,if_pos hi]]
       simp -implicitDefEqProofs (disch:=omega) [go_sem,hm,fr,Try.f17]
     · rw [show bodyO (some (p,i)) = (noF,4) by show fin p i = _;unfold fin;rw [if_pos hm,if_neg hi]]
       simp -implicitDefEqProofs (disch:=omega) [go_sem,hm,Try.f17]
       exact ex _ _
   · rw [show bodyO (some (p,i)) = (noF,2) by show fin p i = _;unfold fin;rw [if_neg hm]]
     simp -implicitDefEqProofs (disch:=omega) [go_sem,hm,Try.f17]
     exact ex _ _
set_option maxHeartbeats 1000000 in
theorem take_pc (b:List Nat) (lg:Bool) (c:Nat) (hb:b.length≤1000000) (hl:∀ x∈b,x < 256) (hc:c < 256):PC Try.prog Γ 10 [Sf.ln b lg,.int .u8 c] (.tup [Sf.ln (Sf.nxt b lg c).1 (Sf.nxt b lg c).2,fr (tkF (Sf.cam b lg c)).1,.bool (tkF (Sf.cam b lg c)).2]):=by
 refine pc_by mixed Try.func10 rfl (fun args w=>Try.call10 args w) ?_
 have c1:=Sf.feed_pc Γ b lg c hb hl hc
 cases hm:Sf.cam b lg c with
 | none =>
   rw [Sf.feedR_no hm] at c1
   unfold Sf.ln at c1 ⊢
   simp -implicitDefEqProofs (disch:=omega) [go_sem]
   refine .inl (call_data c1 (by simp [go_sem]) ?_)
   simp -implicitDefEqProofs (disch:=omega) [go_sem,Try.f10]
   exact ⟨_,⟨_,_,rfl,rfl,_,rfl,frz_aggL (frzL_c (.data _) (frzL_c (.emp 0 1) frzL_n))⟩,rfl⟩
 | some o =>
   rw [Sf.feedR_yes hm] at c1
   have ho:=cam_lt hl hm
   have hol:=Sf.cam_le hm
   have c2:=read_pc Γ o (by omega) ho
   rw [show tkF (some o) = ((readF o).1,decide ((readF o).2 = 0)) from rfl]
   generalize readF o = R at *
   unfold Sf.ln at c1 ⊢
   unfold fr at c2 ⊢
   simp -implicitDefEqProofs (disch:=omega) [go_sem]
   refine .inl (call_data c1 (by simp [go_sem]) ?_)
   simp -implicitDefEqProofs (disch:=omega) [go_sem]
   refine .inl (call_data c2 (by simp [go_sem]) ?_)
   simp -implicitDefEqProofs (disch:=omega) [go_sem,Try.f10]
   refine side (by kernel_rfl) ?_
   simp -implicitDefEqProofs (disch:=omega) [go_sem,Try.f10]
end
end Fc
namespace Fc
theorem arg_frame {n:Nat} {x:Data} (a:argD Try.prog (n + 3) 29 x):∃ f:Fr,(f.p < 65536∧(∀ c∈f.i,c < 256)∧f.i.length≤140737488351232)∧x = fr f:=by
 obtain ⟨ds,rfl,h⟩:=arg_struct Try.underlying29 a
 obtain ⟨d1,r1,rfl,h1,h⟩:=okF_cons h
 obtain ⟨d2,r2,rfl,h2,h⟩:=okF_cons h
 obtain rfl:=okF_nil h
 obtain ⟨i,hi0,hi1,rfl⟩:=ok_int Try.underlying27 h1
 obtain ⟨b,lb,hb,rfl⟩:=ok_bytes Try.underlying22 Try.underlying5 (by kernel_rfl) h2
 have e1:IntKind.u16.min = 0:=by decide
 have e2:IntKind.u16.max = 65535:=by decide
 obtain ⟨p,rfl⟩:=Int.eq_ofNat_of_zero_le (show 0≤i by omega)
 exact ⟨⟨p,b⟩,⟨by show p < 65536;omega,lb,hb⟩,rfl⟩
theorem ok_frame {n:Nat} {ds:List Data} (h:okD Try.prog (n + 3) 29 ds):∃ f:Fr,(f.p < 65536∧(∀ c∈f.i,c < 256)∧f.i.length≤140737488351232)∧ds = (fr f).cells:=by
 obtain ⟨f,hf,e⟩:=arg_frame (n:=n) (x:=mkE Try.prog 29 ds) ⟨ds,rfl,h⟩
 refine ⟨f,hf,?_⟩
 simp only [mkE,Try.underlying29] at e
 rw [<- e]
 rfl
theorem arg_lineF {x:Data} (a:argD Try.prog 8 24 x):∃ (b:List Nat) (lg:Bool),x = Sf.ln b lg∧(∀ c∈b,c < 256)∧b.length≤140737488351232:=Sf.arg_line a
theorem flat_frs (l m:List Fr):flat (frs (l++m)) = flat (frs l)++flat (frs m):=by simp [frs,flat]
theorem flat_len (l:List Fr):(flat (frs l)).length = l.length * 2:=by
 induction l with
 | nil=>rfl
 | cons f l ih =>
   have:flat (frs (f :: l)) = [.int .u16 f.p,.sl 1 (bys f.i)]++flat (frs l):=rfl
   rw [this,List.length_append,ih]
   simp;omega
theorem frs_cells (l:List Fr):∀ x∈frs l,x.cells.length = 2:=fun x hx=>by
 obtain ⟨f,_,rfl⟩:=List.mem_map.1 hx
 rfl
theorem plain_frs:∀ l:List Fr,((flat (frs l)).map D.data).all plainD = true
 | []=>rfl
 | f :: l=>by
   have:flat (frs (f :: l)) = [.int .u16 f.p,.sl 1 (bys f.i)]++flat (frs l):=rfl
   rw [this,List.map_append,List.all_append,plain_frs l]
   rfl
section
variable (Γ:Nat->Option (List Data))
set_option maxHeartbeats 4000000 in
theorem shown8_pc:PC Try.prog Γ 8 [] (.bool true):=by
 refine pc_by mixed Try.func8 rfl (fun args w=>Try.call8 args w) ?_
 have c1:=bytes_pc Γ ⟨33,[]⟩ true (by decide) (by decide) (by decide)
 rw [show frB ⟨33,[]⟩ true = [33,243,192] by kernel_rfl,show frE ⟨33,[]⟩ = 0 by kernel_rfl] at c1
 have c2:=read_pc Γ [33,243,192] (by decide) (by decide)
 rw [show readF [33,243,192] = (⟨33,[]⟩,0) by kernel_rfl] at c2
 have c3:=send_pc Γ ⟨49185,[1]⟩ 0 true (by decide) (by decide) (by decide) (by decide)
 rw [show sdB ⟨49185,[1]⟩ 0 true = [126,255,3,192,33,1,24,62,126] by kernel_rfl,show frE ⟨49185,[1]⟩ = 0 by kernel_rfl] at c3
 have c4:=proto_pc Γ 49699 (by decide)
 rw [show decide (MayP 49699) = true by decide] at c4
 have c5:=fsame_pc Γ ⟨33,[]⟩ ⟨33,[]⟩ (by simp) (by simp)
 rw [decide_eq_true rfl] at c5
 simp -implicitDefEqProofs (disch:=omega) [go_sem]
 refine .inl (call_frz [] [] (by simp) c1 (fun H' hH'=>frzL_c (frz_aggL (frzL_c (.data _) (frzL_c (.emp 0 1) frzL_n))) (frzL_c (.data _) frzL_n)) ?_)
 simp -implicitDefEqProofs (disch:=omega) [go_sem]
 refine .inl (call_data c2 (by simp [go_sem]) ?_)
 simp -implicitDefEqProofs (disch:=omega) [go_sem,fr]
 refine .inl (call_keep 16 c3 (rw:=true) (cells:=(bys [1]).map D.data) (by simp [Hp.upd,Hp.set,bys,u8]) (fun H' hg=>frzL_c (frz_aggL (frzL_c (.data _) (frzL_c (frz_bys (rw:=false) hg (.inr rfl) rfl) frzL_n))) (frzL_c (.data _) (frzL_c (.data _) frzL_n))) ?_)
 simp -implicitDefEqProofs (maxSteps:=4000000) (disch:=omega) [go_sem]
 refine .inl (call_data c4 (by simp [go_sem]) ?_)
 simp -implicitDefEqProofs (maxSteps:=4000000) (disch:=omega) [go_sem]
 refine .inl (call_data c5 (by simp [go_sem,fr,bys]) ?_)
 simp -implicitDefEqProofs (maxSteps:=4000000) (disch:=omega) [go_sem,Try.f8]
structure Stk (b:List Nat) (r:List Fr) where
 i:Nat
 bb:List Nat
 lg:Bool
 out:List Fr
 hi:i≤b.length
 hb:bb.length≤1508
 hl:∀ x∈bb,x < 256
 ho:out.length≤i
 inv:r = out++(Sf.allF bb lg (b.drop i)).filterMap oneR
theorem stepK2 {b bb:List Nat} {lg:Bool} {out r:List Fr} {i:Nat} (inv:r = out++(Sf.allF bb lg (b.drop i)).filterMap oneR) (h:i < b.length):r = (out++(Sf.cam bb lg b[i]).toList.filterMap oneR)++(Sf.allF (Sf.nxt bb lg b[i]).1 (Sf.nxt bb lg b[i]).2 (b.drop (i + 1))).filterMap oneR:=by
 rw [List.drop_eq_getElem_cons h,Sf.allF_cons,List.filterMap_append] at inv
 rw [inv,List.append_assoc]
set_option maxHeartbeats 8000000 in
theorem taken_pc' (b:List Nat) (r:List Fr) (hr:takF b = r) (hb:b.length≤1000000) (hl:∀ x∈b,x < 256):PC Try.prog Γ 18 [.sl 1 (bys b)] (.sl 2 (frs r)):=by
 refine pc_by mixed Try.func18 rfl (fun args w=>Try.call18 args w) ?_
 simp -implicitDefEqProofs (disch:=omega) [go_sem]
 refine loop_ren (σ:=Stk b r) (fun p=>⟨envL [(0,.data (.sl 1 (bys b))),(3,.ref 1 0 p.out.length 2),(4,.ptr 0 0),(5,.data (.int .i64 p.i))],hpL [(0,.blk true [.data (.sl 1 (bys p.bb)),.data (.bool p.lg)]),(1,.blk true ((flat (frs p.out)).map .data))],2,0,33⟩) (fun p=>b.length - p.i) ⟨0,[],false,[],by omega,by simp,by simp,by simp,by rw [<- hr];rfl⟩ [] (rhoL [(0,some 3),(1,none)]) ?_ ?_
 · apply ren_lists <;> simp -implicitDefEqProofs [go_sem,frs]
   rfl
 rintro ⟨i,bb,lg,out,hi,hbb,hbl,ho,inv⟩
 by_cases h:i < b.length
 · have hc:=hl _ (List.getElem_mem h)
   have hs:=stepK2 inv h
   have hnl:∀ x∈(Sf.nxt bb lg b[i]).1,x < 256:=Sf.nxt_lt hbl hc
   have hnle:(Sf.nxt bb lg b[i]).1.length≤1508:=Sf.nxt_le hbb
   have c1:=take_pc Γ bb lg b[i] (by omega) hbl hc
   have htk:=tk_one (Sf.cam bb lg b[i])
   generalize tkF (Sf.cam bb lg b[i]) = T at *
   generalize Sf.nxt bb lg b[i] = nx at *
   unfold Sf.ln at c1
   simp -implicitDefEqProofs (disch:=omega) [go_sem]
   refine .inl (call_data c1 (by simp [go_sem]) ?_)
   simp -implicitDefEqProofs (disch:=omega) [go_sem,fr]
   refine side (by kernel_rfl) ?_
   rcases htk with ⟨h1,h2⟩ | ⟨h1,_,h2⟩
   · rw [h2] at hs
     simp -implicitDefEqProofs (disch:=omega) [go_sem,h1,flat_len]
     refine next_ren ⟨i + 1,nx.1,nx.2,out++[T.1],by omega,hnle,hnl,by simp;omega,hs⟩ (by simp only;omega) [] (rhoL [(0,some 0),(1,some 25)]) ?_
     apply ren_lists <;> simp -implicitDefEqProofs [go_sem]
     exact renCells_plain (by rw [flat_frs,List.map_append];rfl) (plain_frs _)
   · rw [h2,List.append_nil] at hs
     simp -implicitDefEqProofs (disch:=omega) [go_sem,h1,flat_len]
     refine next_ren ⟨i + 1,nx.1,nx.2,out,by omega,hnle,hnl,by omega,hs⟩ (by simp only;omega) [] (rhoL [(0,some 0),(1,some 1)]) ?_
     apply ren_lists <;> simp -implicitDefEqProofs [go_sem]
 · have:i = b.length:=by omega
   subst this
   rw [List.drop_length] at inv
   have e:r = out:=by rw [inv];simp [Sf.allF]
   subst e
   simp -implicitDefEqProofs (disch:=omega) [go_sem,Try.f18]
   exact ⟨_,⟨_,rfl,frz_ref (rw:=true) (cells:=(flat (frs r)).map D.data) (by simp [go_sem]) (.inl rfl) (by simp [frs]) (frs_cells _) rfl⟩,rfl⟩
theorem taken_pc (b:List Nat) (hb:b.length≤1000000) (hl:∀ x∈b,x < 256):PC Try.prog Γ 18 [.sl 1 (bys b)] (.sl 2 (frs (takF b))):=taken_pc' Γ b _ rfl hb hl
end
end Fc
namespace Fc
section
variable (Γ:Nat->Option (List Data))
theorem tk_facts {o:Option (List Nat)} (h:∀ b,o = some b->∀ x∈b,x < 256):(tkF o).1.i.length≤1500:=by
 cases o with
 | none=>exact no_facts.2.2
 | some b=>exact (readF_facts (h b rfl)).2.2.1
theorem rsame_same (f:Fr) (h:f.i.length≤1000000000):PC Try.prog Γ 13 [fr f,fr f] (.bool true):=by
 have:=rsame_pc Γ f f h h
 rwa [decide_eq_true rfl] at this
set_option maxHeartbeats 8000000 in
theorem takes_pc (b:List Nat) (lg:Bool) (hl:∀ x∈b,x < 256) (hb:b.length≤140737488351232) (c:Nat) (hc:c < 256):PC Try.prog Γ 3 [Sf.ln b lg,.int .u8 c] (.bool true):=by
 refine pc_by mixed Try.func3 rfl (fun args w=>Try.call3 args w) ?_
 have r1:=Sf.rright_pc Γ b lg hb
 simp -implicitDefEqProofs (disch:=omega) [go_sem,Sf.ln]
 refine .inl (call_data (shown8_pc Γ) (by simp [go_sem]) ?_)
 simp -implicitDefEqProofs (disch:=omega) [go_sem,Sf.ln]
 refine .inl (call_data r1 (by simp [go_sem,Sf.ln]) ?_)
 by_cases h1:Sf.Rl b lg
 rotate_left
 · simp -implicitDefEqProofs (disch:=omega) [go_sem,h1,Try.f3]
 have k1:=h1.1
 have c1:=take_pc Γ b lg c (by omega) hl hc
 have c2:=rtake_pc Γ b lg c k1 hl hc
 have hn:=Sf.nxt_le (lg:=lg) (c:=c) k1
 have c3:=Sf.rsame_pc Γ (Sf.nxt b lg c).1 (Sf.nxt b lg c).1 (Sf.nxt b lg c).2 (Sf.nxt b lg c).2 (by omega) (by omega)
 rw [decide_eq_true ⟨rfl,rfl⟩] at c3
 have hf:=tk_facts (o:=Sf.cam b lg c) fun o ho=>cam_lt hl ho
 generalize tkF (Sf.cam b lg c) = T at *
 have c4:=rsame_same Γ T.1 (by omega)
 generalize (Sf.nxt b lg c).1 = n1 at *
 generalize (Sf.nxt b lg c).2 = n2 at *
 unfold Sf.ln at c1 c2 c3
 unfold fr at c1 c2 c4
 simp -implicitDefEqProofs (disch:=omega) [go_sem,h1]
 refine .inl (call_data c1 (by simp [go_sem]) ?_)
 simp -implicitDefEqProofs (disch:=omega) [go_sem]
 refine .inl (call_data c2 (by simp [go_sem]) ?_)
 simp -implicitDefEqProofs (disch:=omega) [go_sem]
 refine .inl (call_data c3 (by simp [go_sem]) ?_)
 cases hy:T.2
 · simp -implicitDefEqProofs (disch:=omega) [go_sem,hy,Try.f3]
 · simp -implicitDefEqProofs (disch:=omega) [go_sem,hy]
   refine .inl (call_data c4 (by simp [go_sem]) ?_)
   simp -implicitDefEqProofs (disch:=omega) [go_sem,Try.f3]
theorem law_FrameTakes {x0 x1:Data} (a0:argD Try.prog 8 24 x0) (a1:argD Try.prog 8 5 x1):PC Try.prog Γ 3 [x0,x1] (.bool true):=by
 obtain ⟨b,lg,rfl,hl,hb⟩:=arg_lineF a0
 obtain ⟨c,hc,rfl⟩:=arg_u8 Try.underlying5 a1
 exact takes_pc Γ b lg hl hb c hc
theorem hdB_len (p:Nat) (sh:Bool):(hdB p sh).length = if sh = false ∨ p = 49185 then 4 else if 256≤p then 2 else 1:=by
 unfold hdB
 cases sh
 · simp
 · by_cases h:p = 49185
   · subst h;simp
   · by_cases h2:256≤p <;> simp [h,h2]
theorem frB_mid {f:Fr} (h:Ok f) (sh:Bool):((frB f sh).take ((hdB f.p sh).length + f.i.length)).drop (hdB f.p sh).length = f.i:=by
 unfold frB
 rw [if_pos h]
 unfold M.put
 rw [<- List.length_append,List.take_left,List.drop_left]
set_option maxHeartbeats 8000000 in
theorem fshort_pc (f:Fr) (hp:f.p < 65536) (hl:∀ x∈f.i,x < 256) (hn:f.i.length≤140737488351232):PC Try.prog Γ 5 [fr f] (.bool true):=by
 refine pc_by mixed Try.func5 rfl (fun args w=>Try.call5 args w) ?_
 simp -implicitDefEqProofs (disch:=omega) [go_sem,fr]
 refine .inl (call_data (shown8_pc Γ) (by simp [go_sem]) ?_)
 by_cases h1:1500 < f.i.length
 · simp -implicitDefEqProofs (disch:=omega) [go_sem,h1,Try.f5]
 have c1:=bytes_pc Γ f false hp hl hn
 have c2:=bytes_pc Γ f true hp hl hn
 unfold fr at c1 c2
 by_cases ho:Ok f
 rotate_left
 · rw [show frB f false = [] from if_neg ho,show frE f = 1 from if_neg ho] at c1
   rw [show frB f true = [] from if_neg ho,show frE f = 1 from if_neg ho] at c2
   simp -implicitDefEqProofs (disch:=omega) [go_sem,h1]
   refine .inl (call_data c1 (by simp [go_sem]) ?_)
   simp -implicitDefEqProofs (disch:=omega) [go_sem]
   refine .inl (call_data c2 (by simp [go_sem]) ?_)
   simp -implicitDefEqProofs (disch:=omega) [go_sem,Try.f5]
 have m1:=frB_mid ho false
 have m2:=frB_mid ho true
 have l1:=frB_len ho false
 have l2:=frB_len ho true
 have d1:=hdB_len f.p false
 have d2:=hdB_len f.p true
 rw [if_pos (.inl rfl)] at d1
 simp only [Bool.true_eq_false,false_or] at d2
 rw [show frE f = 0 from if_pos ho] at c1 c2
 rw [d1] at m1 l1
 have r1:=Sf.row_same Γ f.i (by omega)
 have la:(frB f false).length = f.i.length + 6:=by omega
 generalize frB f false = A at *
 generalize frB f true = B at *
 generalize (hdB f.p true).length = k at *
 simp -implicitDefEqProofs (disch:=omega) [go_sem,h1]
 refine .inl (call_data c1 (by simp [go_sem]) ?_)
 simp -implicitDefEqProofs (disch:=omega) [go_sem]
 refine .inl (call_data c2 (by simp [go_sem]) ?_)
 by_cases hs:f.p < 256
 · have hk:k = 1:=by rw [d2,if_neg (by omega),if_neg (by omega)]
   have h3:¬ (f.p:Int) = 49185:=by omega
   have h4:(f.p:Int) < 256:=by omega
   have e4:((4:Int) + f.i.length).toNat = 4 + f.i.length:=by omega
   have ek:((1:Int) + f.i.length).toNat = 1 + f.i.length:=by omega
   subst hk
   clear d2
   simp -implicitDefEqProofs (disch:=omega) [go_sem,h3,h4,la,l2,e4,m1]
   refine .inl (call_data r1 (by simp [go_sem]) ?_)
   simp -implicitDefEqProofs (disch:=omega) [go_sem,l2,ek,m2]
   refine .inl (call_data r1 (by simp [go_sem];rw [<- List.drop_one,drop_bys,m2]) ?_)
   simp -implicitDefEqProofs (disch:=omega) [go_sem]
   refine side (by kernel_rfl) ?_
   simp -implicitDefEqProofs (disch:=omega) [go_sem,Try.f5]
 by_cases hc:f.p = 49185
 · have hk:k = 4:=by rw [d2,if_pos hc]
   have h3:(f.p:Int) = 49185:=by omega
   have h4:¬ (f.p:Int) < 256:=by omega
   have e4:((4:Int) + f.i.length).toNat = 4 + f.i.length:=by omega
   have ek:((4:Int) + f.i.length).toNat = 4 + f.i.length:=by omega
   subst hk
   clear d2
   simp -implicitDefEqProofs (disch:=omega) [go_sem,h3,h4,la,l2,e4,m1]
   refine .inl (call_data r1 (by simp [go_sem]) ?_)
   simp -implicitDefEqProofs (disch:=omega) [go_sem,l2,ek,m2]
   refine .inl (call_data r1 (by simp [go_sem]) ?_)
   simp -implicitDefEqProofs (disch:=omega) [go_sem]
   refine side (by kernel_rfl) ?_
   simp -implicitDefEqProofs (disch:=omega) [go_sem,Try.f5]
 · have hk:k = 2:=by rw [d2,if_neg hc,if_pos (by omega)]
   have h3:¬ (f.p:Int) = 49185:=by omega
   have h4:¬ (f.p:Int) < 256:=by omega
   have e4:((4:Int) + f.i.length).toNat = 4 + f.i.length:=by omega
   have ek:((2:Int) + f.i.length).toNat = 2 + f.i.length:=by omega
   subst hk
   clear d2
   simp -implicitDefEqProofs (disch:=omega) [go_sem,h3,h4,la,l2,e4,m1]
   refine .inl (call_data r1 (by simp [go_sem]) ?_)
   simp -implicitDefEqProofs (disch:=omega) [go_sem,l2,ek,m2]
   refine .inl (call_data r1 (by simp [go_sem]) ?_)
   simp -implicitDefEqProofs (disch:=omega) [go_sem]
   refine side (by kernel_rfl) ?_
   simp -implicitDefEqProofs (disch:=omega) [go_sem,Try.f5]
theorem law_FrameShort {x0:Data} (a0:argD Try.prog 8 29 x0):PC Try.prog Γ 5 [x0] (.bool true):=by
 obtain ⟨f,⟨h1,h2,h3⟩,rfl⟩:=arg_frame a0
 exact fshort_pc Γ f h1 h2 h3
end
end Fc
namespace Fc
section
variable (Γ:Nat->Option (List Data))
set_option maxHeartbeats 8000000 in
theorem readlaw_pc (b:List Nat) (sh:Bool) (hl:∀ x∈b,x < 256) (hb:b.length≤140737488351232):PC Try.prog Γ 6 [.sl 1 (bys b),.bool sh] (.bool true):=by
 refine pc_by mixed Try.func6 rfl (fun args w=>Try.call6 args w) ?_
 simp -implicitDefEqProofs (disch:=omega) [go_sem]
 refine .inl (call_data (shown8_pc Γ) (by simp [go_sem]) ?_)
 by_cases h1:1600 < b.length
 · simp -implicitDefEqProofs (disch:=omega) [go_sem,h1,Try.f6]
 have c1:=read_pc Γ b (by omega) hl
 obtain ⟨k1,k2,k3,k4,k5⟩:=readF_facts hl
 generalize readF b = R at *
 obtain ⟨f,e⟩:=R
 simp only at k1 k2 k3 k4 k5
 unfold fr at c1
 simp -implicitDefEqProofs (disch:=omega) [go_sem,h1]
 refine .inl (call_data c1 (by simp [go_sem]) ?_)
 by_cases he:e = 0
 rotate_left
 · obtain ⟨rfl,k6⟩:=k5 he
   have c2:=rsame_same Γ noF (by simp [noF])
   unfold fr at c2
   simp -implicitDefEqProofs (disch:=omega) [go_sem,he,noF]
   refine .inl (call_frz [] [] (by simp) c2 (fun H' hH'=>frzL_c (.data _) (frzL_c (frz_aggL (frzL_c (.data _) (frzL_c (.emp 0 1) frzL_n))) frzL_n)) ?_)
   rcases k6 with rfl | rfl | rfl
   all_goals simp -implicitDefEqProofs (disch:=omega) [go_sem,Try.f6]
 subst he
 have hok:=k4 rfl
 have c2:=bytes_pc Γ f sh k1 k2 (by omega)
 rw [show frE f = 0 from if_pos hok] at c2
 have hle:=frB_le f sh
 have c3:=read_pc Γ (frB f sh) (by omega) (frB_lt k1 k2 sh)
 rw [read_back hok k1 k2 sh] at c3
 have c4:=rsame_same Γ f (by omega)
 have c5:=proto_pc Γ f.p k1
 rw [decide_eq_true hok.1] at c5
 unfold fr at c2 c3 c4
 simp -implicitDefEqProofs (disch:=omega) [go_sem]
 refine .inl (call_data c2 (by simp [go_sem]) ?_)
 simp -implicitDefEqProofs (disch:=omega) [go_sem]
 refine .inl (call_data c3 (by simp [go_sem]) ?_)
 simp -implicitDefEqProofs (disch:=omega) [go_sem]
 refine .inl (call_data c4 (by simp [go_sem]) ?_)
 simp -implicitDefEqProofs (disch:=omega) [go_sem]
 refine .inl (call_data c5 (by simp [go_sem]) ?_)
 simp -implicitDefEqProofs (disch:=omega) [go_sem,Try.f6]
theorem law_FrameRead {x0 x1:Data} (a0:argD Try.prog 8 22 x0) (a1:argD Try.prog 8 4 x1):PC Try.prog Γ 6 [x0,x1] (.bool true):=by
 obtain ⟨b,lb,hb,rfl⟩:=arg_bytes Try.underlying22 Try.underlying5 (by kernel_rfl) a0
 obtain ⟨sh,rfl⟩:=arg_bool Try.underlying4 a1
 exact readlaw_pc Γ b sh lb hb
def backD (f:Fr) (a:Nat) (sh:Bool) (q:List Nat):Data:=.agg [.int .u16 f.p,.sl 1 (bys f.i),.int .u32 a,.bool sh,.sl 1 (bys q)]
theorem arg_back {x:Data} (a:argD Try.prog 8 37 x):∃ (f:Fr) (ac:Nat) (sh:Bool) (q:List Nat),(f.p < 65536∧(∀ c∈f.i,c < 256)∧f.i.length≤140737488351232)∧ac < 4294967296∧(∀ c∈q,c < 256)∧q.length≤140737488351232∧x = backD f ac sh q:=by
 obtain ⟨ds,rfl,h⟩:=arg_struct Try.underlying37 a
 obtain ⟨d1,r1,rfl,h1,h⟩:=okF_cons h
 obtain ⟨d2,r2,rfl,h2,h⟩:=okF_cons h
 obtain ⟨d3,r3,rfl,h3,h⟩:=okF_cons h
 obtain ⟨d4,r4,rfl,h4,h⟩:=okF_cons h
 obtain rfl:=okF_nil h
 obtain ⟨f,hf,rfl⟩:=ok_frame h1
 obtain ⟨i,hi0,hi1,rfl⟩:=ok_int Try.underlying35 h2
 unfold okD at h3
 simp only [Try.underlying4] at h3
 obtain ⟨sh,rfl⟩:=h3
 obtain ⟨q,lq,hq,rfl⟩:=ok_bytes Try.underlying22 Try.underlying5 (by kernel_rfl) h4
 have e1:IntKind.u32.min = 0:=by decide
 have e2:IntKind.u32.max = 4294967295:=by decide
 obtain ⟨ac,rfl⟩:=Int.eq_ofNat_of_zero_le (show 0≤i by omega)
 exact ⟨f,ac,sh,q,hf,by omega,lq,hq,rfl⟩
theorem takF_le (b:List Nat):(takF b).length≤b.length:=Nat.le_trans (List.length_filterMap_le _ _) (Sf.allB_le b).1
set_option maxHeartbeats 8000000 in
theorem fback_pc (f:Fr) (a:Nat) (sh:Bool) (q:List Nat) (hp:f.p < 65536) (hl:∀ x∈f.i,x < 256) (hn:f.i.length≤140737488351232) (ha:a < 4294967296) (hq:∀ x∈q,x < 256) (hqn:q.length≤140737488351232):PC Try.prog Γ 4 [backD f a sh q] (.bool true):=by
 refine pc_by mixed Try.func4 rfl (fun args w=>Try.call4 args w) ?_
 simp -implicitDefEqProofs (disch:=omega) [go_sem,backD]
 refine .inl (call_data (shown8_pc Γ) (by simp [go_sem]) ?_)
 by_cases h1:700 < f.i.length
 · simp -implicitDefEqProofs (disch:=omega) [go_sem,h1,Try.f4]
 by_cases h2:300 < q.length
 · simp -implicitDefEqProofs (disch:=omega) [go_sem,h1,h2,Try.f4]
 have c1:=send_pc Γ f a sh hp hl hn ha
 have c5:=proto_pc Γ f.p hp
 unfold fr at c1
 by_cases hok:Ok f
 rotate_left
 · have hm:¬ MayP f.p:=fun h=>hok ⟨h,by omega⟩
   rw [show sdB f a sh = [] from if_neg hok,show frE f = 1 from if_neg hok] at c1
   rw [decide_eq_false hm] at c5
   simp -implicitDefEqProofs (disch:=omega) [go_sem,h1,h2]
   refine .inl (call_data c1 (by simp [go_sem]) ?_)
   simp -implicitDefEqProofs (disch:=omega) [go_sem]
   refine .inl (call_data c5 (by simp [go_sem]) ?_)
   simp -implicitDefEqProofs (disch:=omega) [go_sem,Try.f4]
 rw [show frE f = 0 from if_pos hok] at c1
 have c2:=bytes_pc Γ f sh hp hl hn
 rw [show frE f = 0 from if_pos hok] at c2
 have hle:=frB_le f sh
 have c3:=read_pc Γ (frB f sh) (by omega) (frB_lt hp hl sh)
 rw [read_back hok hp hl sh] at c3
 have c4:=rsame_same Γ f (by omega)
 have hsl:=send_len hok a sh
 have hslt:=send_lt hok hp hl a sh
 obtain ⟨l,hlt⟩:=take_ahead hok hp hl (by omega) sh a q
 have c6:=taken_pc Γ (q++sdB f a sh) (by simp;omega) (fun x hx=>by
  rcases List.mem_append.1 hx with hx | hx
  · exact hq x hx
  · exact hslt x hx)
 have hll:=takF_le (q++sdB f a sh)
 rw [hlt,List.length_append,List.length_append] at hll
 simp only [List.length_cons,List.length_nil] at hll
 rw [hlt] at c6
 unfold fr at c2 c3 c4
 generalize sdB f a sh = s at *
 generalize frB f sh = B at *
 simp -implicitDefEqProofs (disch:=omega) [go_sem,h1,h2]
 refine .inl (call_data c1 (by simp [go_sem]) ?_)
 simp -implicitDefEqProofs (disch:=omega) [go_sem]
 refine .inl (call_data c2 (by simp [go_sem]) ?_)
 simp -implicitDefEqProofs (disch:=omega) [go_sem]
 refine .inl (call_data c3 (by simp [go_sem]) ?_)
 simp -implicitDefEqProofs (disch:=omega) [go_sem]
 refine .inl (call_data c4 (by simp [go_sem]) ?_)
 simp -implicitDefEqProofs (disch:=omega) [go_sem]
 refine .inl (call_kept 69 (q.length + s.length) (q++s) c6 (by simp [Hp.upd,Hp.set,bys]) (by simp) ?_)
 have hlast:(l++[f])[l.length]? = some f:=by simp
 simp -implicitDefEqProofs (disch:=omega) [go_sem,hlast,fr]
 refine .inl (call_data c4 (by simp [go_sem]) ?_)
 simp -implicitDefEqProofs (disch:=omega) [go_sem]
 refine side (by kernel_rfl) ?_
 simp -implicitDefEqProofs (disch:=omega) [go_sem,Try.f4]
theorem law_FrameBack {x0:Data} (a0:argD Try.prog 8 37 x0):PC Try.prog Γ 4 [x0] (.bool true):=by
 obtain ⟨f,a,sh,q,⟨h1,h2,h3⟩,ha,hq,hqn,rfl⟩:=arg_back a0
 exact fback_pc Γ f a sh q h1 h2 h3 ha hq hqn
/-- Each with its own way. -/
def fl (s i:Nat):Bool:=decide (((s:Int) / 2 ^ i).tmod 2 = 1)
def prs (s:Nat) (l:List Fr):List (Fr × Bool):=l.mapIdx fun i f=>(f,fl s i)
theorem prs_take (s:Nat) (l:List Fr) (i:Nat) (h:i < l.length):prs s (l.take (i + 1)) = prs s (l.take i)++[(l[i],fl s i)]:=by
 unfold prs
 rw [List.take_add_one,List.getElem?_eq_getElem h,Option.toList_some,List.mapIdx_concat,List.length_take,Nat.min_eq_left (by omega)]
theorem prs_fst (s:Nat) (l:List Fr):(prs s l).map Prod.fst = l:=by
 unfold prs
 apply List.ext_getElem?
 intro i
 rw [List.getElem?_map,List.getElem?_mapIdx,Option.map_map]
 cases l[i]? <;> rfl
theorem sdR_take (a s:Nat) (l:List Fr) (i:Nat) (h:i < l.length):sdR a (prs s (l.take (i + 1))) = sdR a (prs s (l.take i))++sdB l[i] a (fl s i):=by
 rw [prs_take s l i h,sdR_append]
 simp [sdR]
theorem arg_frames {x:Data} (a:argD Try.prog 8 45 x):∃ m:List Fr,x = .sl 2 (frs m)∧m.length≤140737488351232∧∀ f∈m,f.p < 65536∧(∀ c∈f.i,c < 256)∧f.i.length≤140737488351232:=by
 obtain ⟨l,rfl,hl,h⟩:=arg_slice Try.underlying45 a
 have go:∀ l:List Data,(∀ x∈l,argD Try.prog 7 29 x)->∃ m:List Fr,l = frs m∧∀ f∈m,f.p < 65536∧(∀ c∈f.i,c < 256)∧f.i.length≤140737488351232:=by
  intro l
  induction l with
  | nil=>intro _;exact ⟨[],rfl,by simp⟩
  | cons y l ih =>
    intro h
    obtain ⟨m,rfl,hm⟩:=ih fun x hx=>h x (by simp [hx])
    obtain ⟨f,hf,rfl⟩:=arg_frame (h y (by simp))
    refine ⟨f :: m,rfl,fun g hg=>?_⟩
    rcases List.mem_cons.1 hg with rfl | hg
    · exact hf
    · exact hm g hg
 obtain ⟨m,rfl,hm⟩:=go l h
 exact ⟨m,by rw [show (Try.prog).cellsOf 29 = 2 by kernel_rfl],by simpa [frs] using hl,hm⟩
set_option maxHeartbeats 8000000 in
theorem frow_law (l:List Fr) (hn:l.length≤140737488351232) (hl:∀ f∈l,f.p < 65536∧(∀ c∈f.i,c < 256)∧f.i.length≤140737488351232) (a s:Nat) (ha:a < 4294967296) (hs:s < 65536):PC Try.prog Γ 7 [.sl 2 (frs l),.int .u32 a,.int .u16 s] (.bool true):=by
 refine pc_by mixed Try.func7 rfl (fun args w=>Try.call7 args w) ?_
 simp -implicitDefEqProofs (disch:=omega) [go_sem]
 refine .inl (call_data (shown8_pc Γ) (by simp [go_sem]) ?_)
 by_cases h1:12 < l.length
 · simp -implicitDefEqProofs (disch:=omega) [go_sem,Try.f7]
 simp -implicitDefEqProofs (disch:=omega) [go_sem]
 refine loop_ren (σ:={ i:Nat // i≤l.length∧(∀ x∈prs s (l.take i),Ok x.1∧x.1.p < 65536∧(∀ c∈x.1.i,c < 256)∧x.1.i.length≤748)∧(sdR a (prs s (l.take i))).length≤i * 1214∧∀ c∈sdR a (prs s (l.take i)),c < 256 }) (fun i=>⟨envL [(0,.data (.sl 2 (frs l))),(1,.data (.int .u32 a)),(2,.data (.int .u16 s)),(7,.data (.bool true)),(8,.ref 0 0 (sdR a (prs s (l.take i.1))).length 1),(9,.data (.int .i64 i.1))],hpL [(0,.blk true ((bys (sdR a (prs s (l.take i.1)))).map D.data))],1,0,59⟩) (fun i=>l.length - i.1) ⟨0,by omega,by simp [prs],by simp [prs,sdR],by simp [prs,sdR]⟩ [] (rhoL [(0,none)]) ?_ ?_
 · apply ren_lists <;> simp -implicitDefEqProofs [go_sem,prs,sdR]
 rintro ⟨i,hi,hok,hln,hlt⟩
 by_cases h:i < l.length
 · obtain ⟨f1,f2,f3⟩:=hl _ (List.getElem_mem h)
   have c1:=send_pc Γ l[i] a (fl s i) f1 f2 f3 ha
   unfold fr at c1
   simp -implicitDefEqProofs (disch:=omega) [go_sem,fr]
   refine .inl (call_data c1 (by simp [go_sem,fl]) ?_)
   simp -implicitDefEqProofs (disch:=omega) [go_sem]
   refine side (by kernel_rfl) ?_
   by_cases hok1:Ok l[i]
   rotate_left
   · rw [show frE l[i] = 1 from if_neg hok1]
     simp -implicitDefEqProofs (disch:=omega) [go_sem,Try.f7]
   rw [show frE l[i] = 0 from if_pos hok1]
   by_cases h6:600 < l[i].i.length
   · simp -implicitDefEqProofs (disch:=omega) [go_sem,fr,h6,Try.f7]
   have tk:=sdR_take a s l i h
   have sl:=send_len hok1 a (fl s i)
   have slt:=send_lt hok1 f1 f2 a (fl s i)
   have nn:(sdR a (prs s (l.take (i + 1)))).length = (sdR a (prs s (l.take i))).length + (sdB l[i] a (fl s i)).length:=by rw [tk,List.length_append]
   have hok2:∀ x∈prs s (l.take (i + 1)),Ok x.1∧x.1.p < 65536∧(∀ c∈x.1.i,c < 256)∧x.1.i.length≤748:=fun x hx=>by
    rw [prs_take s l i h] at hx
    rcases List.mem_append.1 hx with hx | hx
    · exact hok x hx
    · simp only [List.mem_singleton] at hx
      subst hx
      exact ⟨hok1,f1,f2,by show l[i].i.length≤748;omega⟩
   have hlt2:∀ c∈sdR a (prs s (l.take (i + 1))),c < 256:=fun c hc=>by
    rw [tk] at hc
    rcases List.mem_append.1 hc with hc | hc
    · exact hlt c hc
    · exact slt c hc
   simp -implicitDefEqProofs (disch:=omega) [go_sem,fr,h6]
   refine next_ren ⟨i + 1,by omega,hok2,by omega,hlt2⟩ (by simp only;omega) [] (rhoL [(0,some 34)]) ?_
   apply ren_lists <;> simp -implicitDefEqProofs [go_sem,nn,tk]
 · have:i = l.length:=by omega
   subst this
   have htk:l.take l.length = l:=List.take_length
   rw [htk] at hok hln hlt
   have c1:=taken_pc Γ (sdR a (prs s l)) (by omega) hlt
   have hr:takF (sdR a (prs s l)) = l:=by
    unfold takF Sf.allB
    rw [takes_row a (prs s l) hok,prs_fst]
   rw [hr] at c1
   have hls:∀ x∈l,x.i.length≤1000000000:=fun x hx=>by
    rw [<- prs_fst s l] at hx
    obtain ⟨y,hy,rfl⟩:=List.mem_map.1 hx
    have:=(hok y hy).2.2.2
    omega
   have c2:=fframes_pc Γ l l (by omega) (by omega) hls hls
   rw [decide_eq_true rfl] at c2
   simp -implicitDefEqProofs (disch:=omega) [go_sem,htk]
   refine .inl (call_kept 0 (sdR a (prs s l)).length (sdR a (prs s l)) c1 (by simp [Hp.upd,hpL,htk]) rfl ?_)
   simp -implicitDefEqProofs (disch:=omega) [go_sem]
   refine .inl (call_data c2 (by simp [go_sem]) ?_)
   simp -implicitDefEqProofs (disch:=omega) [go_sem,Try.f7]
theorem law_FrameRow {x0 x1 x2:Data} (a0:argD Try.prog 8 45 x0) (a1:argD Try.prog 8 35 x1) (a2:argD Try.prog 8 27 x2):PC Try.prog Γ 7 [x0,x1,x2] (.bool true):=by
 obtain ⟨l,rfl,hn,hl⟩:=arg_frames a0
 obtain ⟨a,ha,rfl⟩:=arg_u32 Try.underlying35 a1
 obtain ⟨s,hs,rfl⟩:=arg_u16 Try.underlying27 a2
 exact frow_law Γ l hn hl a s ha hs
end
end Fc
theorem law_FrameTakes (Γ:Nat->Option (List Data)) {x0 x1:Data} (a0:argD Try.prog 8 24 x0) (a1:argD Try.prog 8 5 x1):PC Try.prog Γ 3 [x0,x1] (.bool true):=Fc.law_FrameTakes Γ a0 a1
theorem law_FrameBack (Γ:Nat->Option (List Data)) {x0:Data} (a0:argD Try.prog 8 37 x0):PC Try.prog Γ 4 [x0] (.bool true):=Fc.law_FrameBack Γ a0
theorem law_FrameShort (Γ:Nat->Option (List Data)) {x0:Data} (a0:argD Try.prog 8 29 x0):PC Try.prog Γ 5 [x0] (.bool true):=Fc.law_FrameShort Γ a0
theorem law_FrameRead (Γ:Nat->Option (List Data)) {x0 x1:Data} (a0:argD Try.prog 8 22 x0) (a1:argD Try.prog 8 4 x1):PC Try.prog Γ 6 [x0,x1] (.bool true):=Fc.law_FrameRead Γ a0 a1
theorem law_FrameRow (Γ:Nat->Option (List Data)) {x0 x1 x2:Data} (a0:argD Try.prog 8 45 x0) (a1:argD Try.prog 8 35 x1) (a2:argD Try.prog 8 27 x2):PC Try.prog Γ 7 [x0,x1,x2] (.bool true):=Fc.law_FrameRow Γ a0 a1 a2
end Go.Proofs.Ytkgoijpikfaegaa
