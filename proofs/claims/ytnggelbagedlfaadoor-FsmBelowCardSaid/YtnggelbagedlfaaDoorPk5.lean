/- The fields of a string of bytes below 128. The state table: the program's own functions. The state table: the document's example, and the eight laws. The state table: FsmLayers, FsmTimes, FsmNames, FsmAgrees, FsmBelow. The state table: the laws. -/
import Derived.Test.YtnggelbagedlfaaDoorPk4
namespace Go.Proofs.YtnggelbagedlfaaDoor
open Go.RowKit
set_option linter.unusedSimpArgs false
set_option linter.unusedVariables false
set_option maxRecDepth 100000
namespace Fs
/-- Is a byte a space? -/
def spN (n:Nat):Nat:=if n = 9 ∨ n = 10 ∨ n = 11 ∨ n = 12 ∨ n = 13 ∨ n = 32 then 1 else 0
theorem spN_le (n:Nat):spN n≤1:=by unfold spN;split <;> omega
def spD:List Data:=(List.range 256).map fun i=>.int .u8 (spN i:Nat)
/-- The table of spaces of the package strings. -/
structure Spaces (Γ:Nat->Option (List Data)):Prop where
 sp:Γ 0 = some spD
theorem sp_at (i:Nat) (h:i < 256):spD[i]? = some (.int .u8 (spN i:Nat)):=by simp [spD,h]
/-- A byte of a string. -/
def chN (s:ByteArray) (i:Nat):Nat:=(s.get! i).toNat
theorem chN_at {s:ByteArray} {i:Nat} (h:i < s.size):∃ b:UInt8,s[i]? = some b∧b.toNat = chN s i:=by
 refine ⟨s[i],getElem?_pos s i h,?_⟩
 unfold chN
 obtain ⟨a⟩:=s
 rw [show ByteArray.get! ⟨a⟩ i = a[i]'h from getElem!_pos a i h]
 rfl
def cntS (s:ByteArray):Nat->Nat × Nat × Nat
 | 0=>(0,1,0)
 | i + 1=>((cntS s i).1 + (if (cntS s i).2.1 = 1∧spN (chN s i) = 0 then 1 else 0),spN (chN s i),(cntS s i).2.2 ||| chN s i)
theorem cntS_is (s:ByteArray) (hs:Ascii s):∀ i,i≤s.size->(cntS s i).1≤i∧(cntS s i).2.1≤1∧(cntS s i).2.2 < 128
 | 0,_=>by simp [cntS]
 | i + 1,h=>by
   obtain ⟨h1,h2,h3⟩:=cntS_is s hs i (by omega)
   have h4:=hs i (by omega)
   refine ⟨?_,spN_le _,Nat.or_lt_two_pow (n:=7) h3 h4⟩
   unfold cntS
   dsimp only
   split <;> omega
theorem or_u8 {a b:Nat} (ha:a < 256) (hb:b < 256):orI .u8 a b = ((a ||| b:Nat):Int):=by
 have h:a ||| b < 2 ^ 8:=Nat.or_lt_two_pow (by simpa using ha) (by simpa using hb)
 unfold orI
 rw [IntKind.wrap_u8,BitVec.ofInt_natCast,BitVec.ofInt_natCast,BitVec.toNat_or,BitVec.toNat_ofNat,BitVec.toNat_ofNat,mod_of (show a < 2 ^ IntKind.u8.bits from ha),mod_of (show b < 2 ^ IntKind.u8.bits from hb)]
 omega
theorem andnot_bit {a b:Nat} (ha:a≤1) (hb:b≤1):andI .i64 a (notI .i64 b) = ((if a = 1∧b = 0 then 1 else 0:Nat):Int):=by
 have ha':a = 0 ∨ a = 1:=by omega
 have hb':b = 0 ∨ b = 1:=by omega
 rcases ha' with rfl | rfl <;> rcases hb' with rfl | rfl <;> decide
/-- The machine: k bytes are left;among spaces,or in a field that began at a place. -/
def finF (s:ByteArray) (n:Nat):Nat->Option Nat->List ByteArray->Option (List ByteArray)
 | 0,none,acc=>some acc
 | 0,some st,acc=>if st < s.size then (if acc.length < n then some (acc++[s.extract st s.size]) else none) else some acc
 | k + 1,none,acc=>if spN (chN s (s.size - (k + 1))) = 0 then finF s n k (some (s.size - (k + 1))) acc else finF s n k none acc
 | k + 1,some st,acc=>if spN (chN s (s.size - (k + 1))) = 0 then finF s n k (some st) acc else
    if acc.length < n then finF s n k none (acc++[s.extract st (s.size - (k + 1))]) else none
def fieldsF (s:ByteArray):Option (List ByteArray):=(finF s (cntS s s.size).1 s.size none []).filter fun r=>r.length = (cntS s s.size).1
theorem fin_sp {s:ByteArray} {n i:Nat} {acc:List ByteArray} (h:i < s.size) (hc:spN (chN s i) = 1):finF s n (s.size - i) none acc = finF s n (s.size - (i + 1)) none acc:=by
 obtain ⟨k,hk⟩:∃ k,s.size - i = k + 1:=⟨s.size - i - 1,by omega⟩
 have e:s.size - (i + 1) = k:=by omega
 have e2:s.size - (k + 1) = i:=by omega
 rw [hk,e,finF,e2,if_neg (by omega)]
theorem fin_go {s:ByteArray} {n i:Nat} {acc:List ByteArray} (h:i < s.size) (hc:spN (chN s i) = 0):finF s n (s.size - i) none acc = finF s n (s.size - i) (some i) acc:=by
 obtain ⟨k,hk⟩:∃ k,s.size - i = k + 1:=⟨s.size - i - 1,by omega⟩
 have e2:s.size - (k + 1) = i:=by omega
 rw [hk,finF,finF,e2,if_pos hc,if_pos hc]
theorem fin_in {s:ByteArray} {n i st:Nat} {acc:List ByteArray} (h:i < s.size) (hc:spN (chN s i) = 0):finF s n (s.size - i) (some st) acc = finF s n (s.size - (i + 1)) (some st) acc:=by
 obtain ⟨k,hk⟩:∃ k,s.size - i = k + 1:=⟨s.size - i - 1,by omega⟩
 have e:s.size - (i + 1) = k:=by omega
 have e2:s.size - (k + 1) = i:=by omega
 rw [hk,e,finF,e2,if_pos hc]
theorem fin_out {s:ByteArray} {n i st:Nat} {acc:List ByteArray} (h:i < s.size) (hc:spN (chN s i) = 1):finF s n (s.size - i) (some st) acc = if acc.length < n then finF s n (s.size - (i + 1)) none (acc++[s.extract st i]) else none:=by
 obtain ⟨k,hk⟩:∃ k,s.size - i = k + 1:=⟨s.size - i - 1,by omega⟩
 have e:s.size - (i + 1) = k:=by omega
 have e2:s.size - (k + 1) = i:=by omega
 rw [hk,e,finF,e2,if_neg (by omega)]
theorem fin_end {s:ByteArray} {n st:Nat} {acc:List ByteArray}:finF s n (s.size - s.size) (some st) acc = if st < s.size then (if acc.length < n then some (acc++[s.extract st s.size]) else none) else some acc:=by
 rw [Nat.sub_self,finF]
theorem fin_nil {s:ByteArray} {n:Nat} {acc:List ByteArray}:finF s n (s.size - s.size) none acc = finF s n (s.size - s.size) (some s.size) acc:=by
 rw [Nat.sub_self,finF,finF,if_neg (by omega)]
/-- The row of fields,so far. -/
def accD (n:Nat) (acc:List ByteArray):List D:=(acc++List.replicate (n - acc.length) ByteArray.empty).map fun b=>D.data (.str b)
theorem accD_length {n:Nat} {acc:List ByteArray} (h:acc.length≤n):(accD n acc).length = n:=by simp [accD];omega
theorem accD_set {n:Nat} {acc:List ByteArray} (h:acc.length < n) (b:ByteArray):(accD n acc).set acc.length (.data (.str b)) = accD n (acc++[b]):=by
 obtain ⟨m,hm⟩:∃ m,n - acc.length = m + 1:=⟨n - acc.length - 1,by omega⟩
 unfold accD
 rw [hm,List.map_append,List.set_append_right _ _ (by simp),List.length_append,List.length_singleton,show n - (acc.length + 1) = m by omega]
 simp [List.replicate_succ]
theorem accD_plain (n:Nat) (acc:List ByteArray):(accD n acc).all plainD = true:=by
 rw [List.all_eq_true]
 intro x hx
 obtain ⟨b,_,rfl⟩:=List.mem_map.1 hx
 rfl
theorem accD_full {n:Nat} {acc:List ByteArray} (h:acc.length = n):accD n acc = acc.map fun b=>D.data (.str b):=by
 unfold accD
 rw [h,Nat.sub_self]
 simp
def strsD (l:List ByteArray):List Data:=l.map .str
theorem frz_strs {ok:Bool} {H:Nat->Blk} {g n:Nat} {rw:Bool} {l:List ByteArray} (hg:H g = .blk rw (l.map fun b=>D.data (.str b))) (hrw:ok = true ∨ rw = false) (hn:l.length = n):Frz ok H (.ref g 0 n 1) (.sl 1 (strsD l)):=by
 unfold strsD
 refine frz_ref hg hrw (by simpa using hn) (fun x hx=>?_) ?_
 · obtain ⟨p,_,rfl⟩:=List.mem_map.1 hx
   rfl
 · clear hg hn
   induction l with
   | nil=>rfl
   | cons a l ih =>
     simp only [List.map_cons] at ih ⊢
     rw [ih]
     rfl
section
variable (Γ:Nat->Option (List Data))
set_option maxHeartbeats 4000000 in
theorem fields_pc (hΓ:Spaces Γ) (s:ByteArray) (hs:Ascii s) (hl:s.size≤100000) (r:List ByteArray) (hr:fieldsF s = some r):PC Tryd.prog Γ 21 [.str s] (.sl 1 (strsD r)):=by
 refine pc_by mixed Tryd.func21 rfl (fun args w=>Tryd.call21 args w) ?_
 obtain ⟨hfin,hlen⟩:finF s (cntS s s.size).1 s.size none [] = some r∧r.length = (cntS s s.size).1:=by
  unfold fieldsF at hr
  rw [Option.filter_eq_some_iff] at hr
  exact ⟨hr.1,by simpa using hr.2⟩
 clear hr
 simp -implicitDefEqProofs (disch:=omega) [go_sem]
 refine loop_ren (σ:={ i:Nat // i≤s.size }) (fun i=>⟨envL [(0,.data (.str s)),(3,.data (.int .i64 (cntS s i.1).1)),(4,.data (.int .i64 (cntS s i.1).2.1)),(5,.data (.int .u8 (cntS s i.1).2.2)),(6,.data (.int .i64 i.1))],hpL [],0,0,106⟩) (fun i=>s.size - i.1) ⟨0,by omega⟩ [] (rhoL []) ?_ ?_
 · apply ren_lists <;> simp -implicitDefEqProofs [go_sem,cntS]
 rintro ⟨i,hi⟩
 obtain ⟨b1,b2,b3⟩:=cntS_is s hs i hi
 by_cases h:i < s.size
 · obtain ⟨c,hc,hcn⟩:=chN_at h
   have hlt:=hs i h
   have hlt':chN s i < 128:=hlt
   have hsp:=sp_at (chN s i) (by omega)
   have hn:cntS s (i + 1) = ((cntS s i).1 + (if (cntS s i).2.1 = 1∧spN (chN s i) = 0 then 1 else 0),spN (chN s i),(cntS s i).2.2 ||| chN s i):=rfl
   have hp:=spN_le (chN s i)
   generalize cntS s i = q at *
   obtain ⟨n,w,b⟩:=q
   dsimp only at *
   have e1:=or_u8 (a:=b) (b:=chN s i) (by omega) (by omega)
   have e2:=andnot_bit b2 hp
   have hz:(if w = 1∧spN (chN s i) = 0 then 1 else 0)≤1:=by split <;> omega
   generalize (if w = 1∧spN (chN s i) = 0 then 1 else 0) = z at *
   generalize spN (chN s i) = p at *
   have hnot:∃ m:Int,notI .i64 p = m:=⟨_,rfl⟩
   obtain ⟨m,hm⟩:=hnot
   rw [hm] at e2
   simp -implicitDefEqProofs (disch:=omega) [-getElem?_pos,go_sem,hc,hcn,evalD_global _ _ hΓ.sp,hsp]
   refine next_ren ⟨i + 1,by omega⟩ (by simp only;omega) [] (rhoL []) ?_
   apply ren_lists <;> simp -implicitDefEqProofs [go_sem,hn]
   refine ⟨?_,e1.symm⟩
   rw [hm,e2,IntKind.wrap_i64]
   omega
 have hie:i = s.size:=by omega
 subst hie
 have hp:(cntS s s.size).1≤100000:=by omega
 generalize cntS s s.size = q at *
 obtain ⟨n,w,b⟩:=q
 dsimp only at *
 have b4:¬ (128:Int)≤b:=by omega
 simp -implicitDefEqProofs (disch:=omega) [-getElem?_pos,go_sem,b4]
 have hac:∀ acc:List ByteArray,acc.length≤n->(accD n acc).length = n:=fun acc h=>accD_length h
 refine loop_ren (σ:={ i:Nat // i≤s.size∧finF s n (s.size - i) none [] = some r }) (fun i=>⟨envL [(0,.data (.str s)),(9,.ref 0 0 n 1),(10,.data (.int .i64 0)),(12,.data (.int .i64 i.1))],hpL [(0,.blk true (accD n []))],1,0,106⟩) (fun i=>s.size - i.1) ⟨0,by omega,hfin⟩ [] (rhoL [(0,some 7)]) ?_ ?_
 · apply ren_lists <;> simp -implicitDefEqProofs [go_sem]
   exact renCells_plain (by simp [accD]) (accD_plain n [])
 clear hfin
 rintro ⟨i,hi,hf⟩
 by_cases g1:i < s.size
 · obtain ⟨c,hc,hcn⟩:=chN_at g1
   have hlt':chN s i < 128:=hs i g1
   have hsp:=sp_at (chN s i) (by omega)
   rcases (show spN (chN s i) = 0 ∨ spN (chN s i) = 1 by have:=spN_le (chN s i);omega) with h2 | h2
   · rw [h2] at hsp
     have hf3:=fin_go (n:=n) (acc:=[]) g1 h2
     rw [hf] at hf3
     replace hf3:=hf3.symm
     simp -implicitDefEqProofs (disch:=omega) [-getElem?_pos,go_sem,hc,hcn,evalD_global _ _ hΓ.sp,hsp]
     clear hc hcn hsp g1 h2
     refine loop_ren (σ:={ x:Nat × Nat × List ByteArray // x.1≤s.size∧x.2.1≤x.1∧x.2.2.length≤n∧finF s n (s.size - x.1) (some x.2.1) x.2.2 = some r }) (fun x=>⟨envL [(0,.data (.str s)),(9,.ref 0 0 n 1),(10,.data (.int .i64 x.1.2.2.length)),(11,.data (.int .i64 x.1.2.1)),(12,.data (.int .i64 x.1.1))],hpL [(0,.blk true (accD n x.1.2.2))],1,0,106⟩) (fun x=>s.size - x.1.1) ⟨(i,i,[]),hi,Nat.le_refl _,Nat.zero_le _,hf3⟩ [] (rhoL [(0,some 0)]) ?_ ?_
     · apply ren_lists <;> simp -implicitDefEqProofs [go_sem]
       exact renCells_plain rfl (accD_plain n [])
     clear hf hf3 hi hac
     rintro ⟨⟨j,st,acc⟩,hj,hst,hac,hf⟩
     dsimp only at hj hst hac hf
     by_cases h1:j < s.size
     · obtain ⟨c,hc,hcn⟩:=chN_at h1
       have hlt':chN s j < 128:=hs j h1
       have hsp:=sp_at (chN s j) (by omega)
       rcases (show spN (chN s j) = 0 ∨ spN (chN s j) = 1 by have:=spN_le (chN s j);omega) with h2 | h2
       · rw [h2] at hsp
         have hf2:=fin_in (n:=n) (acc:=acc) (st:=st) h1 h2
         rw [hf] at hf2
         simp -implicitDefEqProofs (disch:=omega) [-getElem?_pos,go_sem,hc,hcn,evalD_global _ _ hΓ.sp,hsp]
         refine next_ren ⟨(j + 1,st,acc),by simp only;omega,by simp only;omega,hac,hf2.symm⟩ (by simp only;omega) [] (rhoL [(0,some 0)]) ?_
         apply ren_lists <;> simp -implicitDefEqProofs [go_sem]
         exact renCells_plain rfl (accD_plain n _)
       · rw [h2] at hsp
         rw [fin_out h1 h2] at hf
         by_cases hn:acc.length < n
         rotate_left
         · rw [if_neg hn] at hf;cases hf
         rw [if_pos hn] at hf
         have hset:=accD_set hn (s.extract st j)
         have hln:(accD n acc).length = n:=accD_length hac
         have hln2:(acc++[s.extract st j]).length = acc.length + 1:=by simp
         simp -implicitDefEqProofs (disch:=omega) [-getElem?_pos,go_sem,hc,hcn,evalD_global _ _ hΓ.sp,hsp,hln]
         simp -implicitDefEqProofs only [over,hset]
         generalize acc++[s.extract st j] = acc' at *
         refine loop_ren (σ:={ x:Nat // j < x∧x≤s.size∧finF s n (s.size - x) none acc' = some r }) (fun x=>⟨envL [(0,.data (.str s)),(9,.ref 0 0 n 1),(10,.data (.int .i64 acc'.length)),(12,.data (.int .i64 x.1))],hpL [(0,.blk true (accD n acc'))],1,0,106⟩) (fun x=>s.size - x.1) ⟨j + 1,by omega,by omega,hf⟩ [] (rhoL [(0,some 0)]) ?_ ?_
         · apply ren_lists <;> simp -implicitDefEqProofs [go_sem,hln2]
           exact renCells_plain rfl (accD_plain n _)
         clear hf
         rintro ⟨x,hx1,hx2,hf⟩
         by_cases g1:x < s.size
         · obtain ⟨c,hc,hcn⟩:=chN_at g1
           have hlt':chN s x < 128:=hs x g1
           have hsp:=sp_at (chN s x) (by omega)
           rcases (show spN (chN s x) = 0 ∨ spN (chN s x) = 1 by have:=spN_le (chN s x);omega) with g2 | g2
           · rw [g2] at hsp
             have hf2:=fin_go (n:=n) (acc:=acc') g1 g2
             rw [hf] at hf2
             simp -implicitDefEqProofs (disch:=omega) [-getElem?_pos,go_sem,hc,hcn,evalD_global _ _ hΓ.sp,hsp]
             refine next_ren ⟨(x,x,acc'),hx2,Nat.le_refl _,by simp only;omega,hf2.symm⟩ (by simp only;omega) [] (rhoL [(0,some 0)]) ?_
             apply ren_lists <;> simp -implicitDefEqProofs [go_sem]
             exact renCells_plain rfl (accD_plain n _)
           · rw [g2] at hsp
             have hf2:=fin_sp (n:=n) (acc:=acc') g1 g2
             rw [hf] at hf2
             simp -implicitDefEqProofs (disch:=omega) [-getElem?_pos,go_sem,hc,hcn,evalD_global _ _ hΓ.sp,hsp]
             refine next_ren ⟨x + 1,by omega,by omega,hf2.symm⟩ (by simp only;omega) [] (rhoL [(0,some 0)]) ?_
             apply ren_lists <;> simp -implicitDefEqProofs [go_sem]
             exact renCells_plain rfl (accD_plain n _)
         · have:x = s.size:=by omega
           subst this
           rw [fin_nil] at hf
           simp -implicitDefEqProofs (disch:=omega) [-getElem?_pos,go_sem]
           refine next_ren ⟨(s.size,s.size,acc'),Nat.le_refl _,Nat.le_refl _,by simp only;omega,hf⟩ (by simp only;omega) [] (rhoL [(0,some 0)]) ?_
           apply ren_lists <;> simp -implicitDefEqProofs [go_sem]
           exact renCells_plain rfl (accD_plain n _)
     · have:j = s.size:=by omega
       subst this
       rw [fin_end] at hf
       by_cases k1:st < s.size
       · rw [if_pos k1] at hf
         by_cases hn:acc.length < n
         rotate_left
         · rw [if_neg hn] at hf;cases hf
         rw [if_pos hn] at hf
         have hset:=accD_set hn (s.extract st s.size)
         have hln:(accD n acc).length = n:=accD_length hac
         obtain rfl:=Option.some.inj hf
         rw [accD_full hlen] at hset
         simp -implicitDefEqProofs (disch:=omega) [-getElem?_pos,go_sem,hln]
         simp -implicitDefEqProofs (disch:=omega) [go_sem,over,hset,Tryd.f21]
         exact ⟨_,⟨_,rfl,frz_strs (rw:=true) (by simp [Hp.upd,Hp.set,hset]) (.inl rfl) hlen⟩,rfl⟩
       · rw [if_neg k1] at hf
         obtain rfl:=Option.some.inj hf
         simp -implicitDefEqProofs (disch:=omega) [-getElem?_pos,go_sem,Tryd.f21]
         exact ⟨_,⟨_,rfl,frz_strs (rw:=true) (by rw [accD_full hlen];rfl) (.inl rfl) hlen⟩,rfl⟩
   · rw [h2] at hsp
     have hf2:=fin_sp (n:=n) (acc:=[]) g1 h2
     rw [hf] at hf2
     simp -implicitDefEqProofs (disch:=omega) [-getElem?_pos,go_sem,hc,hcn,evalD_global _ _ hΓ.sp,hsp]
     refine next_ren ⟨i + 1,by omega,hf2.symm⟩ (by simp only;omega) [] (rhoL [(0,some 0)]) ?_
     apply ren_lists <;> simp -implicitDefEqProofs [go_sem]
     exact renCells_plain rfl (accD_plain n [])
 · have:i = s.size:=by omega
   subst this
   have hf3:=hf
   rw [fin_nil] at hf3
   simp -implicitDefEqProofs (disch:=omega) [-getElem?_pos,go_sem]
   refine loop_ren (σ:={ x:Nat × Nat × List ByteArray // x.1≤s.size∧x.2.1≤x.1∧x.2.2.length≤n∧finF s n (s.size - x.1) (some x.2.1) x.2.2 = some r }) (fun x=>⟨envL [(0,.data (.str s)),(9,.ref 0 0 n 1),(10,.data (.int .i64 x.1.2.2.length)),(11,.data (.int .i64 x.1.2.1)),(12,.data (.int .i64 x.1.1))],hpL [(0,.blk true (accD n x.1.2.2))],1,0,106⟩) (fun x=>s.size - x.1.1) ⟨(s.size,s.size,[]),hi,Nat.le_refl _,Nat.zero_le _,hf3⟩ [] (rhoL [(0,some 0)]) ?_ ?_
   · apply ren_lists <;> simp -implicitDefEqProofs [go_sem]
     exact renCells_plain rfl (accD_plain n [])
   clear hf hf3 hi hac
   rintro ⟨⟨j,st,acc⟩,hj,hst,hac,hf⟩
   dsimp only at hj hst hac hf
   by_cases h1:j < s.size
   · obtain ⟨c,hc,hcn⟩:=chN_at h1
     have hlt':chN s j < 128:=hs j h1
     have hsp:=sp_at (chN s j) (by omega)
     rcases (show spN (chN s j) = 0 ∨ spN (chN s j) = 1 by have:=spN_le (chN s j);omega) with h2 | h2
     · rw [h2] at hsp
       have hf2:=fin_in (n:=n) (acc:=acc) (st:=st) h1 h2
       rw [hf] at hf2
       simp -implicitDefEqProofs (disch:=omega) [-getElem?_pos,go_sem,hc,hcn,evalD_global _ _ hΓ.sp,hsp]
       refine next_ren ⟨(j + 1,st,acc),by simp only;omega,by simp only;omega,hac,hf2.symm⟩ (by simp only;omega) [] (rhoL [(0,some 0)]) ?_
       apply ren_lists <;> simp -implicitDefEqProofs [go_sem]
       exact renCells_plain rfl (accD_plain n _)
     · rw [h2] at hsp
       rw [fin_out h1 h2] at hf
       by_cases hn:acc.length < n
       rotate_left
       · rw [if_neg hn] at hf;cases hf
       rw [if_pos hn] at hf
       have hset:=accD_set hn (s.extract st j)
       have hln:(accD n acc).length = n:=accD_length hac
       have hln2:(acc++[s.extract st j]).length = acc.length + 1:=by simp
       simp -implicitDefEqProofs (disch:=omega) [-getElem?_pos,go_sem,hc,hcn,evalD_global _ _ hΓ.sp,hsp,hln]
       simp -implicitDefEqProofs only [over,hset]
       generalize acc++[s.extract st j] = acc' at *
       refine loop_ren (σ:={ x:Nat // j < x∧x≤s.size∧finF s n (s.size - x) none acc' = some r }) (fun x=>⟨envL [(0,.data (.str s)),(9,.ref 0 0 n 1),(10,.data (.int .i64 acc'.length)),(12,.data (.int .i64 x.1))],hpL [(0,.blk true (accD n acc'))],1,0,106⟩) (fun x=>s.size - x.1) ⟨j + 1,by omega,by omega,hf⟩ [] (rhoL [(0,some 0)]) ?_ ?_
       · apply ren_lists <;> simp -implicitDefEqProofs [go_sem,hln2]
         exact renCells_plain rfl (accD_plain n _)
       clear hf
       rintro ⟨x,hx1,hx2,hf⟩
       by_cases g1:x < s.size
       · obtain ⟨c,hc,hcn⟩:=chN_at g1
         have hlt':chN s x < 128:=hs x g1
         have hsp:=sp_at (chN s x) (by omega)
         rcases (show spN (chN s x) = 0 ∨ spN (chN s x) = 1 by have:=spN_le (chN s x);omega) with g2 | g2
         · rw [g2] at hsp
           have hf2:=fin_go (n:=n) (acc:=acc') g1 g2
           rw [hf] at hf2
           simp -implicitDefEqProofs (disch:=omega) [-getElem?_pos,go_sem,hc,hcn,evalD_global _ _ hΓ.sp,hsp]
           refine next_ren ⟨(x,x,acc'),hx2,Nat.le_refl _,by simp only;omega,hf2.symm⟩ (by simp only;omega) [] (rhoL [(0,some 0)]) ?_
           apply ren_lists <;> simp -implicitDefEqProofs [go_sem]
           exact renCells_plain rfl (accD_plain n _)
         · rw [g2] at hsp
           have hf2:=fin_sp (n:=n) (acc:=acc') g1 g2
           rw [hf] at hf2
           simp -implicitDefEqProofs (disch:=omega) [-getElem?_pos,go_sem,hc,hcn,evalD_global _ _ hΓ.sp,hsp]
           refine next_ren ⟨x + 1,by omega,by omega,hf2.symm⟩ (by simp only;omega) [] (rhoL [(0,some 0)]) ?_
           apply ren_lists <;> simp -implicitDefEqProofs [go_sem]
           exact renCells_plain rfl (accD_plain n _)
       · have:x = s.size:=by omega
         subst this
         rw [fin_nil] at hf
         simp -implicitDefEqProofs (disch:=omega) [-getElem?_pos,go_sem]
         refine next_ren ⟨(s.size,s.size,acc'),Nat.le_refl _,Nat.le_refl _,by simp only;omega,hf⟩ (by simp only;omega) [] (rhoL [(0,some 0)]) ?_
         apply ren_lists <;> simp -implicitDefEqProofs [go_sem]
         exact renCells_plain rfl (accD_plain n _)
   · have:j = s.size:=by omega
     subst this
     rw [fin_end] at hf
     by_cases k1:st < s.size
     · rw [if_pos k1] at hf
       by_cases hn:acc.length < n
       rotate_left
       · rw [if_neg hn] at hf;cases hf
       rw [if_pos hn] at hf
       have hset:=accD_set hn (s.extract st s.size)
       have hln:(accD n acc).length = n:=accD_length hac
       obtain rfl:=Option.some.inj hf
       rw [accD_full hlen] at hset
       simp -implicitDefEqProofs (disch:=omega) [-getElem?_pos,go_sem,hln]
       simp -implicitDefEqProofs (disch:=omega) [go_sem,over,hset,Tryd.f21]
       exact ⟨_,⟨_,rfl,frz_strs (rw:=true) (by simp [Hp.upd,Hp.set,hset]) (.inl rfl) hlen⟩,rfl⟩
     · rw [if_neg k1] at hf
       obtain rfl:=Option.some.inj hf
       simp -implicitDefEqProofs (disch:=omega) [-getElem?_pos,go_sem,Tryd.f21]
       exact ⟨_,⟨_,rfl,frz_strs (rw:=true) (by rw [accD_full hlen];rfl) (.inl rfl) hlen⟩,rfl⟩
end
end Fs
namespace Fs
/-- The table's rows,as the program writes them,and their fields. -/
def rowsB:List ByteArray:=[⟨#[50,32,32,105,114,54,32,45,32,32,32,45,32,32,32,32,45,32,32,45,32,32,45,32,32,32,45,32,32,32,45,32,32,32,45]⟩,⟨#[45,32,32,45,32,32,32,48,32,32,32,116,49,32,32,32,48,32,32,49,32,32,49,32,32,32,49,32,32,32,49,32,32,32,100,49]⟩,⟨#[116,49,32,49,32,32,32,105,114,54,32,51,32,32,32,32,53,32,32,53,32,32,54,32,32,32,55,32,32,32,56,32,32,32,57]⟩,⟨#[48,32,32,102,48,32,32,50,32,32,32,50,32,32,32,32,52,32,32,52,32,32,105,115,52,32,105,115,52,32,105,115,52,32,100,105,115,52]⟩,⟨#[45,32,32,45,32,32,32,45,32,32,32,45,32,32,32,32,115,52,32,115,53,32,114,54,32,32,114,54,32,32,114,56,32,32,45]⟩,⟨#[45,32,32,45,32,32,32,45,32,32,32,45,32,32,32,32,102,50,32,102,51,32,102,51,32,32,102,51,32,32,102,51,32,32,45]⟩,⟨#[45,32,32,45,32,32,32,107,50,32,32,105,114,97,56,32,52,32,32,53,32,32,97,56,32,32,97,117,57,32,97,56,32,32,100,114,97,56]⟩,⟨#[45,32,32,45,32,32,32,107,50,32,32,105,114,110,54,32,52,32,32,53,32,32,110,54,32,32,110,55,32,32,110,54,32,32,100,114,110,54]⟩,⟨#[45,32,32,45,32,32,32,107,50,32,32,107,51,32,32,32,52,32,32,53,32,32,105,55,32,32,114,54,32,32,105,117,57,32,100,114,54]⟩,⟨#[45,32,32,45,32,32,32,107,50,32,32,107,51,32,32,32,52,32,32,53,32,32,105,114,54,32,114,54,32,32,105,114,56,32,100,114,54]⟩,⟨#[45,32,32,45,32,32,32,107,50,32,32,107,51,32,32,32,107,52,32,107,53,32,107,54,32,32,107,54,32,32,107,54,32,32,100,122,107,53]⟩,⟨#[45,32,32,45,32,32,32,50,32,32,32,51,32,32,32,32,102,50,32,102,51,32,54,32,32,32,54,32,32,32,56,32,32,32,100,114,54]⟩,⟨#[45,32,32,45,32,32,32,106,50,32,32,106,51,32,32,32,106,52,32,106,53,32,106,54,32,32,106,55,32,32,106,56,32,32,106,57]⟩,⟨#[45,32,32,45,32,32,32,50,32,32,32,51,32,32,32,32,52,32,32,53,32,32,54,32,32,32,54,32,32,32,56,32,32,32,57]⟩,⟨#[45,32,32,45,32,32,32,102,50,32,32,102,51,32,32,32,102,50,32,102,51,32,102,51,32,32,102,51,32,32,102,51,32,32,100,105,115,53]⟩,⟨#[45,32,32,45,32,32,32,50,32,32,32,51,32,32,32,32,52,32,32,53,32,32,54,32,32,32,55,32,32,32,56,32,32,32,101,57]⟩]
def fldsB:List (List ByteArray):=[[⟨#[50]⟩,⟨#[105,114,54]⟩,⟨#[45]⟩,⟨#[45]⟩,⟨#[45]⟩,⟨#[45]⟩,⟨#[45]⟩,⟨#[45]⟩,⟨#[45]⟩,⟨#[45]⟩],
 [⟨#[45]⟩,⟨#[45]⟩,⟨#[48]⟩,⟨#[116,49]⟩,⟨#[48]⟩,⟨#[49]⟩,⟨#[49]⟩,⟨#[49]⟩,⟨#[49]⟩,⟨#[100,49]⟩],
 [⟨#[116,49]⟩,⟨#[49]⟩,⟨#[105,114,54]⟩,⟨#[51]⟩,⟨#[53]⟩,⟨#[53]⟩,⟨#[54]⟩,⟨#[55]⟩,⟨#[56]⟩,⟨#[57]⟩],
 [⟨#[48]⟩,⟨#[102,48]⟩,⟨#[50]⟩,⟨#[50]⟩,⟨#[52]⟩,⟨#[52]⟩,⟨#[105,115,52]⟩,⟨#[105,115,52]⟩,⟨#[105,115,52]⟩,⟨#[100,105,115,52]⟩],
 [⟨#[45]⟩,⟨#[45]⟩,⟨#[45]⟩,⟨#[45]⟩,⟨#[115,52]⟩,⟨#[115,53]⟩,⟨#[114,54]⟩,⟨#[114,54]⟩,⟨#[114,56]⟩,⟨#[45]⟩],
 [⟨#[45]⟩,⟨#[45]⟩,⟨#[45]⟩,⟨#[45]⟩,⟨#[102,50]⟩,⟨#[102,51]⟩,⟨#[102,51]⟩,⟨#[102,51]⟩,⟨#[102,51]⟩,⟨#[45]⟩],
 [⟨#[45]⟩,⟨#[45]⟩,⟨#[107,50]⟩,⟨#[105,114,97,56]⟩,⟨#[52]⟩,⟨#[53]⟩,⟨#[97,56]⟩,⟨#[97,117,57]⟩,⟨#[97,56]⟩,⟨#[100,114,97,56]⟩],
 [⟨#[45]⟩,⟨#[45]⟩,⟨#[107,50]⟩,⟨#[105,114,110,54]⟩,⟨#[52]⟩,⟨#[53]⟩,⟨#[110,54]⟩,⟨#[110,55]⟩,⟨#[110,54]⟩,⟨#[100,114,110,54]⟩],
 [⟨#[45]⟩,⟨#[45]⟩,⟨#[107,50]⟩,⟨#[107,51]⟩,⟨#[52]⟩,⟨#[53]⟩,⟨#[105,55]⟩,⟨#[114,54]⟩,⟨#[105,117,57]⟩,⟨#[100,114,54]⟩],
 [⟨#[45]⟩,⟨#[45]⟩,⟨#[107,50]⟩,⟨#[107,51]⟩,⟨#[52]⟩,⟨#[53]⟩,⟨#[105,114,54]⟩,⟨#[114,54]⟩,⟨#[105,114,56]⟩,⟨#[100,114,54]⟩],
 [⟨#[45]⟩,⟨#[45]⟩,⟨#[107,50]⟩,⟨#[107,51]⟩,⟨#[107,52]⟩,⟨#[107,53]⟩,⟨#[107,54]⟩,⟨#[107,54]⟩,⟨#[107,54]⟩,⟨#[100,122,107,53]⟩],
 [⟨#[45]⟩,⟨#[45]⟩,⟨#[50]⟩,⟨#[51]⟩,⟨#[102,50]⟩,⟨#[102,51]⟩,⟨#[54]⟩,⟨#[54]⟩,⟨#[56]⟩,⟨#[100,114,54]⟩],
 [⟨#[45]⟩,⟨#[45]⟩,⟨#[106,50]⟩,⟨#[106,51]⟩,⟨#[106,52]⟩,⟨#[106,53]⟩,⟨#[106,54]⟩,⟨#[106,55]⟩,⟨#[106,56]⟩,⟨#[106,57]⟩],
 [⟨#[45]⟩,⟨#[45]⟩,⟨#[50]⟩,⟨#[51]⟩,⟨#[52]⟩,⟨#[53]⟩,⟨#[54]⟩,⟨#[54]⟩,⟨#[56]⟩,⟨#[57]⟩],
 [⟨#[45]⟩,⟨#[45]⟩,⟨#[102,50]⟩,⟨#[102,51]⟩,⟨#[102,50]⟩,⟨#[102,51]⟩,⟨#[102,51]⟩,⟨#[102,51]⟩,⟨#[102,51]⟩,⟨#[100,105,115,53]⟩],
 [⟨#[45]⟩,⟨#[45]⟩,⟨#[50]⟩,⟨#[51]⟩,⟨#[52]⟩,⟨#[53]⟩,⟨#[54]⟩,⟨#[55]⟩,⟨#[56]⟩,⟨#[101,57]⟩]]
def rowB (e:Nat):ByteArray:=rowsB.getD e ByteArray.empty
def fldB (e:Nat):List ByteArray:=fldsB.getD e []
def doesB (e s:Nat):ByteArray:=(fldB e).getD s ByteArray.empty
def dashB:ByteArray:=⟨#[45]⟩
/-- The action of a letter. -/
def codeN (c:Nat):Option Nat:=if c = 117 then some 1 else if c = 100 then some 2 else if c = 116 then some 3 else if c = 102 then some 4 else if c = 105 then some 5 else if c = 122 then some 6 else if c = 114 then some 7 else if c = 97 then some 8 else if c = 110 then some 9 else if c = 115 then some 10 else if c = 107 then some 11 else if c = 106 then some 12 else if c = 101 then some 13 else none
def meantS (s:ByteArray):Nat->List Int × Int
 | 0=>([],0)
 | i + 1=>match codeN (chN s i) with
   | some a=>((meantS s i).1++[(a:Int)],(meantS s i).2)
   | none=>((meantS s i).1,(chN s i:Int) - 48)
def meantF (s:ByteArray):List Int × Int:=meantS s s.size
theorem meantS_len (s:ByteArray):∀ i,(meantS s i).1.length≤i
 | 0=>by simp [meantS]
 | i + 1=>by
   have:=meantS_len s i
   unfold meantS
   split <;> simp <;> omega
theorem rows_asc:∀ e,e < 16->Ascii (rowB e):=by
 have h:∀ e,e < 16->∀ p,p < (rowB e).size->((rowB e).get! p).toNat < 128:=by decide +kernel
 exact h
theorem rows_size:∀ e,e < 16->(rowB e).size≤100:=by decide +kernel
theorem rows_flds:∀ e,e < 16->fieldsF (rowB e) = some (fldB e):=by decide +kernel
theorem flds_len:∀ e,e < 16->(fldB e).length = 10:=by decide +kernel
theorem does_asc:∀ e,e < 16->∀ s,s < 10->Ascii (doesB e s):=by
 have h:∀ e,e < 16->∀ s,s < 10->∀ p,p < (doesB e s).size->((doesB e s).get! p).toNat < 128:=by decide +kernel
 exact h
theorem does_size:∀ e,e < 16->∀ s,s < 10->(doesB e s).size≤100:=by decide +kernel
/-- What the program's table says,is the document's. -/
theorem table_is:∀ e:Nat,e < 16->∀ s:Nat,s < 10->nextF s e = if doesB e s = dashB then ([],(s:Int),false) else ((meantF (doesB e s)).1,(meantF (doesB e s)).2,true):=by decide +kernel
section
variable (Γ:Nat->Option (List Data))
def lettersD:Data:=.mp [.int .i32 117,.int .i32 100,.int .i32 116,.int .i32 102,.int .i32 105,.int .i32 122,.int .i32 114,.int .i32 97,.int .i32 110,.int .i32 115,.int .i32 107,.int .i32 106,.int .i32 101] [.int .i64 1,.int .i64 2,.int .i64 3,.int .i64 4,.int .i64 5,.int .i64 6,.int .i64 7,.int .i64 8,.int .i64 9,.int .i64 10,.int .i64 11,.int .i64 12,.int .i64 13]
set_option maxHeartbeats 4000000 in
theorem letters_pc:PC Tryd.prog Γ 39 [] lettersD:=by
 refine pc_by mixed Tryd.func39 rfl (fun args w=>Tryd.call39 args w) ?_
 simp -implicitDefEqProofs (disch:=omega) [go_sem,Tryd.f39]
 refine ⟨_,⟨_,rfl,.mref _ [.int .i32 117,.int .i32 100,.int .i32 116,.int .i32 102,.int .i32 105,.int .i32 122,.int .i32 114,.int .i32 97,.int .i32 110,.int .i32 115,.int .i32 107,.int .i32 106,.int .i32 101] [.int .i64 1,.int .i64 2,.int .i64 3,.int .i64 4,.int .i64 5,.int .i64 6,.int .i64 7,.int .i64 8,.int .i64 9,.int .i64 10,.int .i64 11,.int .i64 12,.int .i64 13] _ rfl rfl rfl ?_⟩,rfl⟩
 intro i d x hd hx
 rcases i with _ | _ | _ | _ | _ | _ | _ | _ | _ | _ | _ | _ | _ | i
 all_goals simp at hd hx
 all_goals subst hd hx
 all_goals exact .data _
theorem known_pc (s:Int):PC Tryd.prog Γ 20 [.int .i64 s] (.bool (decide (0≤s∧s < 10))):=by
 refine pc_by mixed Tryd.func20 rfl (fun args w=>Tryd.call20 args w) ?_
 by_cases h1:0≤s
 · by_cases h2:s < 10
   · rw [decide_eq_true ⟨h1,h2⟩]
     simp -implicitDefEqProofs (disch:=omega) [go_sem,Tryd.f20]
   · rw [decide_eq_false fun h=>h2 h.2]
     simp -implicitDefEqProofs (disch:=omega) [go_sem,Tryd.f20]
 · rw [decide_eq_false fun h=>h1 h.1]
   simp -implicitDefEqProofs (disch:=omega) [go_sem,Tryd.f20]
theorem timed_pc (s:Int):PC Tryd.prog Γ 15 [.int .i64 s] (.bool (decide (4≤s∧s≤8))):=by
 refine pc_by mixed Tryd.func15 rfl (fun args w=>Tryd.call15 args w) ?_
 by_cases h1:4≤s
 · by_cases h2:s≤8
   · rw [decide_eq_true ⟨h1,h2⟩]
     simp -implicitDefEqProofs (disch:=omega) [go_sem,Tryd.f15]
   · rw [decide_eq_false fun h=>h2 h.2]
     simp -implicitDefEqProofs (disch:=omega) [go_sem,Tryd.f15]
 · rw [decide_eq_false fun h=>h1 h.1]
   simp -implicitDefEqProofs (disch:=omega) [go_sem,Tryd.f15]
set_option maxHeartbeats 4000000 in
theorem name_pc (s:Int):PC Tryd.prog Γ 17 [.int .i64 s] (.str (nameF s)):=by
 refine pc_by mixed Tryd.func17 rfl (fun args w=>Tryd.call17 args w) ?_
 have c1:=known_pc Γ s
 by_cases h:0≤s∧s < 10
 · rw [decide_eq_true h] at c1
   have hs:s = 0 ∨ s = 1 ∨ s = 2 ∨ s = 3 ∨ s = 4 ∨ s = 5 ∨ s = 6 ∨ s = 7 ∨ s = 8 ∨ s = 9:=by omega
   rcases hs with rfl | rfl | rfl | rfl | rfl | rfl | rfl | rfl | rfl | rfl
   all_goals
    simp -implicitDefEqProofs (disch:=omega) [go_sem]
    refine .inl (call_data c1 (by simp [go_sem]) ?_)
    simp -implicitDefEqProofs (disch:=omega) [go_sem,Tryd.f17]
    rfl
 · rw [decide_eq_false h] at c1
   rw [show nameF s = ByteArray.empty by
    unfold nameF
    rw [if_neg (by omega)]]
   simp -implicitDefEqProofs (disch:=omega) [go_sem]
   refine .inl (call_data c1 (by simp [go_sem]) ?_)
   simp -implicitDefEqProofs (disch:=omega) [go_sem,Tryd.f17]
   rfl
set_option maxHeartbeats 4000000 in
theorem row_pc (e:Nat) (h:e < 16):PC Tryd.prog Γ 22 [.int .i64 e] (.str (rowB e)):=by
 refine pc_by mixed Tryd.func22 rfl (fun args w=>Tryd.call22 args w) ?_
 have hs:e = 0 ∨ e = 1 ∨ e = 2 ∨ e = 3 ∨ e = 4 ∨ e = 5 ∨ e = 6 ∨ e = 7 ∨ e = 8 ∨ e = 9 ∨ e = 10 ∨ e = 11 ∨ e = 12 ∨ e = 13 ∨ e = 14 ∨ e = 15:=by omega
 rcases hs with rfl | rfl | rfl | rfl | rfl | rfl | rfl | rfl | rfl | rfl | rfl | rfl | rfl | rfl | rfl | rfl
 all_goals
  simp -implicitDefEqProofs (disch:=omega) [go_sem,Tryd.f22]
  rfl
theorem code_some {c a:Nat} (h:codeN c = some a):(c = 117∧a = 1) ∨ (c = 100∧a = 2) ∨ (c = 116∧a = 3) ∨ (c = 102∧a = 4) ∨ (c = 105∧a = 5) ∨ (c = 122∧a = 6) ∨ (c = 114∧a = 7) ∨ (c = 97∧a = 8) ∨ (c = 110∧a = 9) ∨ (c = 115∧a = 10) ∨ (c = 107∧a = 11) ∨ (c = 106∧a = 12) ∨ (c = 101∧a = 13):=by
 unfold codeN at h
 by_cases k0:c = 117
 · rw [if_pos k0] at h
   have:=Option.some.inj h
   exact .inl ⟨k0,this.symm⟩
 rw [if_neg k0] at h
 by_cases k1:c = 100
 · rw [if_pos k1] at h
   have:=Option.some.inj h
   exact .inr (.inl ⟨k1,this.symm⟩)
 rw [if_neg k1] at h
 by_cases k2:c = 116
 · rw [if_pos k2] at h
   have:=Option.some.inj h
   exact .inr (.inr (.inl ⟨k2,this.symm⟩))
 rw [if_neg k2] at h
 by_cases k3:c = 102
 · rw [if_pos k3] at h
   have:=Option.some.inj h
   exact .inr (.inr (.inr (.inl ⟨k3,this.symm⟩)))
 rw [if_neg k3] at h
 by_cases k4:c = 105
 · rw [if_pos k4] at h
   have:=Option.some.inj h
   exact .inr (.inr (.inr (.inr (.inl ⟨k4,this.symm⟩))))
 rw [if_neg k4] at h
 by_cases k5:c = 122
 · rw [if_pos k5] at h
   have:=Option.some.inj h
   exact .inr (.inr (.inr (.inr (.inr (.inl ⟨k5,this.symm⟩)))))
 rw [if_neg k5] at h
 by_cases k6:c = 114
 · rw [if_pos k6] at h
   have:=Option.some.inj h
   exact .inr (.inr (.inr (.inr (.inr (.inr (.inl ⟨k6,this.symm⟩))))))
 rw [if_neg k6] at h
 by_cases k7:c = 97
 · rw [if_pos k7] at h
   have:=Option.some.inj h
   exact .inr (.inr (.inr (.inr (.inr (.inr (.inr (.inl ⟨k7,this.symm⟩)))))))
 rw [if_neg k7] at h
 by_cases k8:c = 110
 · rw [if_pos k8] at h
   have:=Option.some.inj h
   exact .inr (.inr (.inr (.inr (.inr (.inr (.inr (.inr (.inl ⟨k8,this.symm⟩))))))))
 rw [if_neg k8] at h
 by_cases k9:c = 115
 · rw [if_pos k9] at h
   have:=Option.some.inj h
   exact .inr (.inr (.inr (.inr (.inr (.inr (.inr (.inr (.inr (.inl ⟨k9,this.symm⟩)))))))))
 rw [if_neg k9] at h
 by_cases k10:c = 107
 · rw [if_pos k10] at h
   have:=Option.some.inj h
   exact .inr (.inr (.inr (.inr (.inr (.inr (.inr (.inr (.inr (.inr (.inl ⟨k10,this.symm⟩))))))))))
 rw [if_neg k10] at h
 by_cases k11:c = 106
 · rw [if_pos k11] at h
   have:=Option.some.inj h
   exact .inr (.inr (.inr (.inr (.inr (.inr (.inr (.inr (.inr (.inr (.inr (.inl ⟨k11,this.symm⟩)))))))))))
 rw [if_neg k11] at h
 by_cases k12:c = 101
 · rw [if_pos k12] at h
   have:=Option.some.inj h
   exact .inr (.inr (.inr (.inr (.inr (.inr (.inr (.inr (.inr (.inr (.inr (.inr (⟨k12,this.symm⟩))))))))))))
 rw [if_neg k12] at h
 cases h
theorem code_none {c:Nat} (h:codeN c = none):c≠117∧c≠100∧c≠116∧c≠102∧c≠105∧c≠122∧c≠114∧c≠97∧c≠110∧c≠115∧c≠107∧c≠106∧c≠101:=by
 unfold codeN at h
 by_cases k0:c = 117
 · rw [if_pos k0] at h;cases h
 rw [if_neg k0] at h
 by_cases k1:c = 100
 · rw [if_pos k1] at h;cases h
 rw [if_neg k1] at h
 by_cases k2:c = 116
 · rw [if_pos k2] at h;cases h
 rw [if_neg k2] at h
 by_cases k3:c = 102
 · rw [if_pos k3] at h;cases h
 rw [if_neg k3] at h
 by_cases k4:c = 105
 · rw [if_pos k4] at h;cases h
 rw [if_neg k4] at h
 by_cases k5:c = 122
 · rw [if_pos k5] at h;cases h
 rw [if_neg k5] at h
 by_cases k6:c = 114
 · rw [if_pos k6] at h;cases h
 rw [if_neg k6] at h
 by_cases k7:c = 97
 · rw [if_pos k7] at h;cases h
 rw [if_neg k7] at h
 by_cases k8:c = 110
 · rw [if_pos k8] at h;cases h
 rw [if_neg k8] at h
 by_cases k9:c = 115
 · rw [if_pos k9] at h;cases h
 rw [if_neg k9] at h
 by_cases k10:c = 107
 · rw [if_pos k10] at h;cases h
 rw [if_neg k10] at h
 by_cases k11:c = 106
 · rw [if_pos k11] at h;cases h
 rw [if_neg k11] at h
 by_cases k12:c = 101
 · rw [if_pos k12] at h;cases h
 rw [if_neg k12] at h
 exact ⟨k0,k1,k2,k3,k4,k5,k6,k7,k8,k9,k10,k11,k12⟩
theorem beq_no {c k:Nat} (h:c≠k):((c:Int) == (k:Int)) = false:=beq_eq_false_iff_ne.2 fun e=>h (Int.ofNat.inj e)
set_option maxHeartbeats 4000000 in
theorem meant_pc (s:ByteArray) (hs:Ascii s) (hl:s.size≤100):PC Tryd.prog Γ 23 [.str s] (.tup [nums (meantF s).1,.int .i64 (meantF s).2]):=by
 refine pc_by mixed Tryd.func23 rfl (fun args w=>Tryd.call23 args w) ?_
 have c1:=letters_pc Γ
 unfold lettersD at c1
 simp -implicitDefEqProofs (disch:=omega) [go_sem]
 refine .inl (call_data c1 (by simp [go_sem]) ?_)
 have hm:mapT Tryd.prog 9 = none:=by kernel_rfl
 simp -implicitDefEqProofs (disch:=omega) [go_sem,hm]
 refine loop_ren (σ:={ i:Nat // i≤s.size }) (fun i=>⟨envL [(2,.ref 0 0 (meantS s i.1).1.length 1),(3,.data (.int .i64 (meantS s i.1).2)),(4,.data (.mp [.int .i32 117,.int .i32 100,.int .i32 116,.int .i32 102,.int .i32 105,.int .i32 122,.int .i32 114,.int .i32 97,.int .i32 110,.int .i32 115,.int .i32 107,.int .i32 106,.int .i32 101] [.int .i64 1,.int .i64 2,.int .i64 3,.int .i64 4,.int .i64 5,.int .i64 6,.int .i64 7,.int .i64 8,.int .i64 9,.int .i64 10,.int .i64 11,.int .i64 12,.int .i64 13])),(11,.iref 1)],hpL [(0,.blk true ((meantS s i.1).1.map fun n=>D.data (.int .i64 n))),(1,.obj (.si s i.1))],2,0,31⟩) (fun i=>s.size - i.1) ⟨0,by omega⟩ [] (rhoL [(0,none),(1,some 5)]) ?_ ?_
 · apply ren_lists <;> simp -implicitDefEqProofs [go_sem,meantS]
   all_goals rfl
 rintro ⟨i,hi⟩
 by_cases h:i < s.size
 · have hd:=hs.dec h
   rw [show (s.get! i).toNat = chN s i from rfl] at hd
   have hst:meantS s (i + 1) = (match codeN (chN s i) with
    | some a=>((meantS s i).1++[(a:Int)],(meantS s i).2)
    | none=>((meantS s i).1,(chN s i:Int) - 48)):=rfl
   have hln:=meantS_len s i
   have hlt:chN s i < 128:=hs i h
   generalize meantS s i = m at *
   obtain ⟨l,t⟩:=m
   generalize chN s i = c at *
   dsimp only at *
   cases hc:codeN c with
   | some a =>
     rw [hc] at hst
     rcases code_some hc with ⟨rfl,rfl⟩ | ⟨rfl,rfl⟩ | ⟨rfl,rfl⟩ | ⟨rfl,rfl⟩ | ⟨rfl,rfl⟩ | ⟨rfl,rfl⟩ | ⟨rfl,rfl⟩ | ⟨rfl,rfl⟩ | ⟨rfl,rfl⟩ | ⟨rfl,rfl⟩ | ⟨rfl,rfl⟩ | ⟨rfl,rfl⟩ | ⟨rfl,rfl⟩
     all_goals
      simp -implicitDefEqProofs (disch:=omega) [go_sem,hd]
      refine next_ren ⟨i + 1,by omega⟩ (by simp only;omega) [] (rhoL [(0,some 18),(1,some 1)]) ?_
      apply ren_lists <;> simp -implicitDefEqProofs [go_sem,hst]
      exact ⟨renCells_plain rfl (by simp [plainD]),by rw [hd]⟩
   | none =>
     obtain ⟨n0,n1,n2,n3,n4,n5,n6,n7,n8,n9,n10,n11,n12⟩:=code_none hc
     rw [hc] at hst
     have e0:((c:Int) == 117) = false:=beq_no n0
     have e1:((c:Int) == 100) = false:=beq_no n1
     have e2:((c:Int) == 116) = false:=beq_no n2
     have e3:((c:Int) == 102) = false:=beq_no n3
     have e4:((c:Int) == 105) = false:=beq_no n4
     have e5:((c:Int) == 122) = false:=beq_no n5
     have e6:((c:Int) == 114) = false:=beq_no n6
     have e7:((c:Int) == 97) = false:=beq_no n7
     have e8:((c:Int) == 110) = false:=beq_no n8
     have e9:((c:Int) == 115) = false:=beq_no n9
     have e10:((c:Int) == 107) = false:=beq_no n10
     have e11:((c:Int) == 106) = false:=beq_no n11
     have e12:((c:Int) == 101) = false:=beq_no n12
     clear n0 n1 n2 n3 n4 n5 n6 n7 n8 n9 n10 n11 n12 hc
     simp -implicitDefEqProofs (disch:=omega) [go_sem,hd,e0,e1,e2,e3,e4,e5,e6,e7,e8,e9,e10,e11,e12]
     refine next_ren ⟨i + 1,by omega⟩ (by simp only;omega) [] (rhoL [(0,some 0),(1,some 1)]) ?_
     apply ren_lists <;> simp -implicitDefEqProofs [go_sem,hst]
     exact ⟨renCells_plain rfl (by simp [plainD]),by rw [hd]⟩
 · have:i = s.size:=by omega
   subst this
   unfold meantF
   have hln:=meantS_len s s.size
   generalize meantS s s.size = m at *
   obtain ⟨l,t⟩:=m
   dsimp only at *
   simp -implicitDefEqProofs (disch:=omega) [go_sem,Tryd.f23]
   exact ⟨_,⟨_,rfl,frz_nums (rw:=true) rfl (.inl rfl) rfl⟩,rfl⟩
theorem strs_at {l:List ByteArray} {n:Nat} (h:n < l.length):(strsD l)[n]? = some (.str (l.getD n ByteArray.empty)):=by
 simp [strsD,h,List.getD_eq_getElem?_getD]
set_option maxHeartbeats 4000000 in
theorem next_pc (hΓ:Spaces Γ) (s e:Int):PC Tryd.prog Γ 12 [.int .i64 s,.int .i64 e] (tri (nextF s e)):=by
 refine pc_by mixed Tryd.func12 rfl (fun args w=>Tryd.call12 args w) ?_
 have c1:=known_pc Γ s
 by_cases h:0≤s∧s < 10
 rotate_left
 · rw [decide_eq_false h] at c1
   rw [show nextF s e = ([],s,false) from if_pos (by unfold Out;omega)]
   unfold tri nums
   simp -implicitDefEqProofs (disch:=omega) [go_sem]
   refine .inl (call_data c1 (by simp [go_sem]) ?_)
   simp -implicitDefEqProofs (disch:=omega) [go_sem,Tryd.f12]
   exact ⟨_,⟨_,rfl,.emp _ _⟩,rfl⟩
 rw [decide_eq_true h] at c1
 obtain ⟨s,rfl⟩:∃ m:Nat,s = m:=⟨s.toNat,by omega⟩
 by_cases h0:0≤e
 rotate_left
 · rw [show nextF s e = ([],(s:Int),false) from if_pos (by unfold Out;omega)]
   unfold tri nums
   simp -implicitDefEqProofs (disch:=omega) [go_sem]
   refine .inl (call_data c1 (by simp [go_sem]) ?_)
   simp -implicitDefEqProofs (disch:=omega) [go_sem,Tryd.f12]
   exact ⟨_,⟨_,rfl,.emp _ _⟩,rfl⟩
 obtain ⟨e,rfl⟩:∃ m:Nat,e = m:=⟨e.toNat,by omega⟩
 by_cases h1:e < 16
 rotate_left
 · rw [show nextF s e = ([],(s:Int),false) from if_pos (by unfold Out;omega)]
   unfold tri nums
   simp -implicitDefEqProofs (disch:=omega) [go_sem]
   refine .inl (call_data c1 (by simp [go_sem]) ?_)
   simp -implicitDefEqProofs (disch:=omega) [go_sem,Tryd.f12]
   exact ⟨_,⟨_,rfl,.emp _ _⟩,rfl⟩
 have h2:s < 10:=by omega
 have c2:=row_pc Γ e h1
 have c3:=fields_pc Γ hΓ (rowB e) (rows_asc e h1) (Nat.le_trans (rows_size e h1) (by decide)) _ (rows_flds e h1)
 have c4:=meant_pc Γ (doesB e s) (does_asc e h1 s h2) (does_size e h1 s h2)
 have hg:=strs_at (l:=fldB e) (n:=s) (by rw [flds_len e h1];exact h2)
 rw [show (fldB e).getD s ByteArray.empty = doesB e s from rfl] at hg
 rw [table_is e h1 s h2]
 have hlen:(strsD (fldB e)).length = 10:=by simp [strsD,flds_len e h1]
 generalize strsD (fldB e) = fd at *
 generalize rowB e = rb at *
 unfold dashB
 generalize doesB e s = db at *
 generalize meantF db = m at *
 obtain ⟨l,t⟩:=m
 dsimp only at *
 unfold nums at c4
 by_cases hd:db = ⟨#[45]⟩
 · rw [if_pos hd]
   unfold tri nums
   simp -implicitDefEqProofs (disch:=omega) [go_sem]
   refine .inl (call_data c1 (by simp [go_sem]) ?_)
   simp -implicitDefEqProofs (disch:=omega) [go_sem]
   refine .inl (call_data c2 (by simp [go_sem]) ?_)
   simp -implicitDefEqProofs (disch:=omega) [go_sem]
   refine .inl (call_data c3 (by simp [go_sem]) ?_)
   simp -implicitDefEqProofs (disch:=omega) [-getElem?_pos,go_sem,hg,hlen,hd,Tryd.f12]
   exact ⟨_,⟨_,rfl,.emp _ _⟩,rfl⟩
 · rw [if_neg hd]
   unfold tri nums
   simp -implicitDefEqProofs (disch:=omega) [go_sem]
   refine .inl (call_data c1 (by simp [go_sem]) ?_)
   simp -implicitDefEqProofs (disch:=omega) [go_sem]
   refine .inl (call_data c2 (by simp [go_sem]) ?_)
   simp -implicitDefEqProofs (disch:=omega) [go_sem]
   refine .inl (call_data c3 (by simp [go_sem]) ?_)
   simp -implicitDefEqProofs (disch:=omega) [-getElem?_pos,go_sem,hg,hlen,hd]
   refine .inl (call_data c4 (by simp [go_sem]) ?_)
   simp -implicitDefEqProofs (disch:=omega) [go_sem,Tryd.f12]
end
end Fs
namespace Fs
theorem next_no {s e:Int} (h:(nextF s e).2.2 = false):nextF s e = ([],s,false):=by
 unfold nextF at h ⊢
 by_cases ho:Out s e
 · rw [if_pos ho]
 rw [if_neg ho] at h ⊢
 have hs:0≤s∧s≤9:=by unfold Out at ho;omega
 have he:0≤e∧e≤15:=by unfold Out at ho;omega
 have key:∀ (s:Fin 10) (e:Fin 16),(rowF (s.val:Int) (e.val:Int)).2.2 = false->rowF (s.val:Int) (e.val:Int) = ([],(s.val:Int),false):=by decide +kernel
 have k:=key ⟨s.toNat,by omega⟩ ⟨e.toNat,by omega⟩
 rw [show (((⟨s.toNat,by omega⟩:Fin 10).val:Int)) = s from by show ((s.toNat:Nat):Int) = s;omega,show (((⟨e.toNat,by omega⟩:Fin 16).val:Int)) = e from by show ((e.toNat:Nat):Int) = e;omega] at k
 exact k h
theorem next_in {s e:Int} (h:(nextF s e).2.2 = true):(0≤s∧s≤9)∧0≤e∧e≤15:=by
 unfold nextF at h
 by_cases ho:Out s e
 · rw [if_pos ho] at h;cases h
 unfold Out at ho
 omega
/-- What is true of the whole table. -/
theorem next_all (p:Int->Int->Prop) (h:∀ (s:Fin 10) (e:Fin 16),(nextF s.val e.val).2.2 = true->p s.val e.val) {s e:Int} (hn:(nextF s e).2.2 = true):p s e:=by
 obtain ⟨hs,he⟩:=next_in hn
 have k:=h ⟨s.toNat,by omega⟩ ⟨e.toNat,by omega⟩
 rw [show (((⟨s.toNat,by omega⟩:Fin 10).val:Int)) = s from by show ((s.toNat:Nat):Int) = s;omega,show (((⟨e.toNat,by omega⟩:Fin 16).val:Int)) = e from by show ((e.toNat:Nat):Int) = e;omega] at k
 exact k hn
theorem next_len (s e:Int):(nextF s e).1.length≤3:=by
 cases h:(nextF s e).2.2 with
 | false=>rw [next_no h];simp
 | true=>exact next_all (fun s e=>(nextF s e).1.length≤3) (by decide +kernel) h
section
variable (Γ:Nat->Option (List Data))
theorem shown_pc (hΓ:Spaces Γ):PC Tryd.prog Γ 11 [] (.bool true):=by
 refine pc_by mixed Tryd.func11 rfl (fun args w=>Tryd.call11 args w) ?_
 have c1:=next_pc Γ hΓ 1 0
 have c2:=next_pc Γ hΓ 7 6
 have c3:=timed_pc Γ 4
 have c4:=name_pc Γ 9
 rw [show nextF 1 0 = ([5,7],6,true) by decide +kernel] at c1
 rw [show nextF 7 6 = ([8,1],9,true) by decide +kernel] at c2
 rw [show decide ((4:Int)≤4∧(4:Int)≤8) = true by decide] at c3
 rw [show nameF 9 = ⟨#[79,112,101,110,101,100]⟩ by decide +kernel] at c4
 unfold tri nums at c1 c2
 simp -implicitDefEqProofs (disch:=omega) [go_sem]
 refine .inl (call_data c1 (by simp [go_sem]) ?_)
 simp -implicitDefEqProofs (disch:=omega) [go_sem]
 refine .inl (call_data c2 (by simp [go_sem]) ?_)
 simp -implicitDefEqProofs (disch:=omega) [go_sem]
 refine .inl (call_data c3 (by simp [go_sem]) ?_)
 simp -implicitDefEqProofs (disch:=omega) [go_sem]
 refine .inl (call_data c4 (by simp [go_sem]) ?_)
 simp -implicitDefEqProofs (disch:=omega) [go_sem,Tryd.f11]
set_option maxHeartbeats 4000000 in
theorem tells_pc (hΓ:Spaces Γ) (s e:Int):PC Tryd.prog Γ 3 [.int .i64 s,.int .i64 e] (.bool true):=by
 refine pc_by mixed Tryd.func3 rfl (fun args w=>Tryd.call3 args w) ?_
 have c0:=shown_pc Γ hΓ
 have c1:=next_pc Γ hΓ s e
 have c2:=rnext_pc Γ s e
 have hl:=next_len s e
 generalize nextF s e = r at *
 obtain ⟨l,t,b⟩:=r
 dsimp only at hl
 have c3:=rints_pc Γ l l (by omega) (by omega)
 rw [decide_eq_true rfl] at c3
 have c4:=timed_pc Γ s
 have c5:=rtimed_pc Γ s
 have c6:=name_pc Γ s
 have c7:=rname_pc Γ s
 generalize decide (4≤s∧s≤8) = d at *
 unfold tri nums at c1 c2
 unfold nums at c3
 simp -implicitDefEqProofs (disch:=omega) [go_sem]
 refine .inl (call_data c0 (by simp [go_sem]) ?_)
 simp -implicitDefEqProofs (disch:=omega) [go_sem]
 refine .inl (call_data c1 (by simp [go_sem]) ?_)
 simp -implicitDefEqProofs (disch:=omega) [go_sem]
 refine .inl (call_data c2 (by simp [go_sem]) ?_)
 simp -implicitDefEqProofs (disch:=omega) [go_sem]
 refine .inl (call_data c3 (by simp [go_sem]) ?_)
 simp -implicitDefEqProofs (disch:=omega) [go_sem]
 refine .inl (call_data c4 (by simp [go_sem]) ?_)
 simp -implicitDefEqProofs (disch:=omega) [go_sem]
 refine .inl (call_data c5 (by simp [go_sem]) ?_)
 simp -implicitDefEqProofs (disch:=omega) [go_sem]
 refine .inl (call_data c6 (by simp [go_sem]) ?_)
 simp -implicitDefEqProofs (disch:=omega) [go_sem]
 refine .inl (call_data c7 (by simp [go_sem]) ?_)
 simp -implicitDefEqProofs (disch:=omega) [go_sem,Tryd.f3]
set_option maxHeartbeats 4000000 in
theorem all_pc (hΓ:Spaces Γ) (v:Bool):PC Tryd.prog Γ 4 [.bool v] (.bool true):=by
 refine pc_by mixed Tryd.func4 rfl (fun args w=>Tryd.call4 args w) ?_
 have c0:=shown_pc Γ hΓ
 simp -implicitDefEqProofs (disch:=omega) [go_sem]
 refine .inl (call_data c0 (by simp [go_sem]) ?_)
 simp -implicitDefEqProofs (disch:=omega) [go_sem]
 refine loop_ren (σ:={ i:Int // -1≤i∧i≤11 }) (fun i=>⟨envL [(0,.data (.bool v)),(3,.data (.bool true)),(4,.data (.int .i64 i.1))],hpL [],0,0,57⟩) (fun i=>(11 - i.1).toNat) ⟨-1,by omega⟩ [] (rhoL []) ?_ ?_
 · apply ren_lists <;> simp -implicitDefEqProofs [go_sem]
 rintro ⟨s,hs1,hs2⟩
 by_cases h:s≤10
 rotate_left
 · cases v
   · simp -implicitDefEqProofs (disch:=omega) [go_sem,Tryd.f4]
   · simp -implicitDefEqProofs (disch:=omega) [go_sem,Tryd.f4]
 simp -implicitDefEqProofs (disch:=omega) [go_sem]
 refine loop_ren (σ:={ i:Int // -1≤i∧i≤17 }) (fun i=>⟨envL [(0,.data (.bool v)),(3,.data (.bool true)),(4,.data (.int .i64 s)),(5,.data (.int .i64 i.1))],hpL [],0,0,57⟩) (fun i=>(17 - i.1).toNat) ⟨-1,by omega⟩ [] (rhoL []) ?_ ?_
 · apply ren_lists <;> simp -implicitDefEqProofs [go_sem]
 rintro ⟨e,he1,he2⟩
 by_cases h2:e≤16
 · have c1:=next_pc Γ hΓ s e
   have c2:=rnext_pc Γ s e
   have hl:=next_len s e
   generalize nextF s e = r at *
   obtain ⟨l,t,b⟩:=r
   dsimp only at hl
   have c3:=rints_pc Γ l l (by omega) (by omega)
   rw [decide_eq_true rfl] at c3
   unfold tri nums at c1 c2
   unfold nums at c3
   simp -implicitDefEqProofs (disch:=omega) [go_sem]
   refine .inl (call_data c1 (by simp [go_sem]) ?_)
   simp -implicitDefEqProofs (disch:=omega) [go_sem]
   refine .inl (call_data c2 (by simp [go_sem]) ?_)
   simp -implicitDefEqProofs (disch:=omega) [go_sem]
   refine .inl (call_data c3 (by simp [go_sem]) ?_)
   simp -implicitDefEqProofs (disch:=omega) [go_sem]
   refine next_ren ⟨e + 1,by omega⟩ (by simp only;omega) [] (rhoL []) ?_
   apply ren_lists <;> simp -implicitDefEqProofs [go_sem]
 · have:e = 17:=by omega
   subst this
   simp -implicitDefEqProofs (disch:=omega) [go_sem]
   refine next_ren ⟨s + 1,by omega⟩ (by simp only;omega) [] (rhoL []) ?_
   apply ren_lists <;> simp -implicitDefEqProofs [go_sem]
set_option maxHeartbeats 4000000 in
theorem closed4_pc (hΓ:Spaces Γ) (e:Int):PC Tryd.prog Γ 8 [.int .i64 e] (.bool true):=by
 refine pc_by mixed Tryd.func8 rfl (fun args w=>Tryd.call8 args w) ?_
 have c0:=shown_pc Γ hΓ
 simp -implicitDefEqProofs (disch:=omega) [go_sem]
 refine .inl (call_data c0 (by simp [go_sem]) ?_)
 simp -implicitDefEqProofs (disch:=omega) [go_sem]
 refine loop_ren (σ:={ i:Int // 4≤i∧i≤6 }) (fun i=>⟨envL [(0,.data (.int .i64 e)),(3,.data (.bool true)),(4,.data (.int .i64 i.1))],hpL [],0,0,38⟩) (fun i=>(6 - i.1).toNat) ⟨4,by omega⟩ [] (rhoL []) ?_ ?_
 · apply ren_lists <;> simp -implicitDefEqProofs [go_sem]
 rintro ⟨s,hs1,hs2⟩
 by_cases h:s≤5
 rotate_left
 · simp -implicitDefEqProofs (disch:=omega) [go_sem,Tryd.f8]
 have c1:=next_pc Γ hΓ s e
 have hl:=next_len s e
 have key:(nextF s e).2.2 = true->(nextF s e).2.1≠9∧8 ∉ (nextF s e).1∧7 ∉ (nextF s e).1∧1 ∉ (nextF s e).1:=fun hn =>
  next_all (fun s e=>4≤s∧s≤5->(nextF s e).2.1≠9∧8 ∉ (nextF s e).1∧7 ∉ (nextF s e).1∧1 ∉ (nextF s e).1) (by decide +kernel) hn ⟨hs1,h⟩
 generalize nextF s e = r at *
 obtain ⟨l,t,b⟩:=r
 dsimp only at hl key
 unfold tri nums at c1
 cases b
 · simp -implicitDefEqProofs (disch:=omega) [go_sem]
   refine .inl (call_data c1 (by simp [go_sem]) ?_)
   simp -implicitDefEqProofs (disch:=omega) [go_sem]
   refine next_ren ⟨s + 1,by omega⟩ (by simp only;omega) [] (rhoL []) ?_
   apply ren_lists <;> simp -implicitDefEqProofs [go_sem]
 · obtain ⟨k1,k2,k3,k4⟩:=key rfl
   have c2:=rhas_pc Γ l 8 (by omega)
   have c3:=rhas_pc Γ l 7 (by omega)
   have c4:=rhas_pc Γ l 1 (by omega)
   rw [decide_eq_false k2] at c2
   rw [decide_eq_false k3] at c3
   rw [decide_eq_false k4] at c4
   unfold nums at c2 c3 c4
   simp -implicitDefEqProofs (disch:=omega) [go_sem]
   refine .inl (call_data c1 (by simp [go_sem]) ?_)
   simp -implicitDefEqProofs (disch:=omega) [go_sem,k1]
   refine .inl (call_data c2 (by simp [go_sem]) ?_)
   simp -implicitDefEqProofs (disch:=omega) [go_sem]
   refine .inl (call_data c3 (by simp [go_sem]) ?_)
   simp -implicitDefEqProofs (disch:=omega) [go_sem]
   refine .inl (call_data c4 (by simp [go_sem]) ?_)
   simp -implicitDefEqProofs (disch:=omega) [go_sem]
   refine next_ren ⟨s + 1,by omega⟩ (by simp only;omega) [] (rhoL []) ?_
   apply ren_lists <;> simp -implicitDefEqProofs [go_sem]
end
end Fs
section
variable (Γ:Nat->Option (List Data))
theorem law_FsmTells (hΓ:Fs.Spaces Γ) {x0 x1:Data} (a0:argD Tryd.prog 8 3 x0) (a1:argD Tryd.prog 8 3 x1):PC Tryd.prog Γ 3 [x0,x1] (.bool true):=by
 obtain ⟨s,_,_,rfl⟩:=arg_i64 Tryd.underlying3 a0
 obtain ⟨e,_,_,rfl⟩:=arg_i64 Tryd.underlying3 a1
 exact Fs.tells_pc Γ hΓ s e
theorem law_FsmAll (hΓ:Fs.Spaces Γ) {x0:Data} (a0:argD Tryd.prog 8 4 x0):PC Tryd.prog Γ 4 [x0] (.bool true):=by
 obtain ⟨v,rfl⟩:=arg_bool Tryd.underlying4 a0
 exact Fs.all_pc Γ hΓ v
theorem law_FsmClosed (hΓ:Fs.Spaces Γ) {x0:Data} (a0:argD Tryd.prog 8 3 x0):PC Tryd.prog Γ 8 [x0] (.bool true):=by
 obtain ⟨s,_,_,rfl⟩:=arg_i64 Tryd.underlying3 a0
 exact Fs.closed4_pc Γ hΓ s
end
namespace Fs
theorem name_some {s:Int} (h:0≤s∧s≤9):nameF s≠⟨#[]⟩:=by
 have key:∀ i:Fin 10,nameF (i.val:Int)≠⟨#[]⟩:=by decide +kernel
 have k:=key ⟨s.toNat,by omega⟩
 rw [show (((⟨s.toNat,by omega⟩:Fin 10).val:Int)) = s from by show ((s.toNat:Nat):Int) = s;omega] at k
 exact k
theorem name_none {s:Int} (h:¬ (0≤s∧s≤9)):nameF s = ⟨#[]⟩:=by
 unfold nameF
 rw [if_neg h];rfl
theorem name_inj {a b:Int} (ha:0≤a∧a≤9) (hb:0≤b∧b≤9):decide (nameF a = nameF b) = decide (a = b):=by
 have key:∀ i j:Fin 10,decide (nameF (i.val:Int) = nameF (j.val:Int)) = decide ((i.val:Int) = (j.val:Int)):=by decide +kernel
 have k:=key ⟨a.toNat,by omega⟩ ⟨b.toNat,by omega⟩
 rw [show (((⟨a.toNat,by omega⟩:Fin 10).val:Int)) = a from by show ((a.toNat:Nat):Int) = a;omega,show (((⟨b.toNat,by omega⟩:Fin 10).val:Int)) = b from by show ((b.toNat:Nat):Int) = b;omega] at k
 exact k
section
variable (Γ:Nat->Option (List Data))
set_option maxHeartbeats 4000000 in
theorem names_pc (hΓ:Spaces Γ) (a b:Int):PC Tryd.prog Γ 7 [.int .i64 a,.int .i64 b] (.bool true):=by
 refine pc_by mixed Tryd.func7 rfl (fun args w=>Tryd.call7 args w) ?_
 have c0:=shown_pc Γ hΓ
 have c1:=name_pc Γ a
 have c2:=name_pc Γ b
 have c3:=timed_pc Γ a
 by_cases h1:0≤a∧a≤9
 · have hn:=name_some h1
   obtain ⟨h2,h3⟩:=h1
   by_cases h45:0≤b∧b≤9
   · have hi:=name_inj ⟨h2,h3⟩ h45
     obtain ⟨h4,h5⟩:=h45
     generalize nameF a = na at *
     generalize nameF b = nb at *
     generalize decide (4≤a∧a≤8) = d at *
     simp -implicitDefEqProofs (disch:=omega) [go_sem]
     refine .inl (call_data c0 (by simp [go_sem]) ?_)
     simp -implicitDefEqProofs (disch:=omega) [go_sem]
     refine .inl (call_data c1 (by simp [go_sem]) ?_)
     simp -implicitDefEqProofs (disch:=omega) [go_sem,hn]
     refine .inl (call_data c1 (by simp [go_sem]) ?_)
     simp -implicitDefEqProofs (disch:=omega) [go_sem,hi]
     refine .inl (call_data c2 (by simp [go_sem]) ?_)
     simp -implicitDefEqProofs (disch:=omega) [go_sem,hi]
     refine .inl (call_data c3 (by simp [go_sem]) ?_)
     cases d
     all_goals simp -implicitDefEqProofs (disch:=omega) [go_sem,hi,Tryd.f7]
   · have k:b < 0 ∨ 0≤b∧9 < b:=by omega
     clear h45
     generalize nameF a = na at *
     generalize decide (4≤a∧a≤8) = d at *
     rcases k with k | ⟨k,k2⟩
     all_goals
      simp -implicitDefEqProofs (disch:=omega) [go_sem]
      refine .inl (call_data c0 (by simp [go_sem]) ?_)
      simp -implicitDefEqProofs (disch:=omega) [go_sem]
      refine .inl (call_data c1 (by simp [go_sem]) ?_)
      simp -implicitDefEqProofs (disch:=omega) [go_sem,hn]
      refine .inl (call_data c3 (by simp [go_sem]) ?_)
      cases d
      all_goals simp -implicitDefEqProofs (disch:=omega) [go_sem,Tryd.f7]
 · have hn:=name_none h1
   have k:a < 0 ∨ 0≤a∧9 < a:=by omega
   rw [decide_eq_false (by omega)] at c3
   clear h1
   generalize nameF a = na at *
   subst hn
   by_cases h4:0≤b
   all_goals
    rcases k with k | ⟨k,k2⟩
    all_goals
     simp -implicitDefEqProofs (disch:=omega) [go_sem]
     refine .inl (call_data c0 (by simp [go_sem]) ?_)
     simp -implicitDefEqProofs (disch:=omega) [go_sem]
     refine .inl (call_data c1 (by simp [go_sem]) ?_)
     simp -implicitDefEqProofs (disch:=omega) [go_sem]
     refine .inl (call_data c3 (by simp [go_sem]) ?_)
     simp -implicitDefEqProofs (disch:=omega) [go_sem,Tryd.f7]
set_option maxHeartbeats 4000000 in
theorem below_pc (hΓ:Spaces Γ) (s:Int):PC Tryd.prog Γ 10 [.int .i64 s] (.bool true):=by
 refine pc_by mixed Tryd.func10 rfl (fun args w=>Tryd.call10 args w) ?_
 have c0:=shown_pc Γ hΓ
 have c1:=next_pc Γ hΓ s 0
 have c2:=next_pc Γ hΓ s 1
 by_cases h:0≤s∧s≤9
 · obtain ⟨l1,t1,b1,e1⟩:∃ l t b,nextF s 0 = (l,t,b):=⟨_,_,_,rfl⟩
   obtain ⟨l2,t2,b2,e2⟩:∃ l t b,nextF s 1 = (l,t,b):=⟨_,_,_,rfl⟩
   have hs:s = 0 ∨ s = 1 ∨ s = 2 ∨ s = 3 ∨ s = 4 ∨ s = 5 ∨ s = 6 ∨ s = 7 ∨ s = 8 ∨ s = 9:=by omega
   rcases hs with rfl | rfl | rfl | rfl | rfl | rfl | rfl | rfl | rfl | rfl
   all_goals
    simp [nextF,Out,rowF,upF,downF] at c1 c2
    unfold tri nums at c1 c2
    simp -implicitDefEqProofs (disch:=omega) [go_sem]
    refine .inl (call_data c0 (by simp [go_sem]) ?_)
    simp -implicitDefEqProofs (disch:=omega) [go_sem]
    refine .inl (call_data c1 (by simp [go_sem]) ?_)
    simp -implicitDefEqProofs (disch:=omega) [go_sem]
    refine .inl (call_data c2 (by simp [go_sem]) ?_)
    simp -implicitDefEqProofs (disch:=omega) [go_sem,Tryd.f10]
 · rw [show nextF s 0 = ([],s,false) from if_pos (by unfold Out;omega)] at c1
   rw [show nextF s 1 = ([],s,false) from if_pos (by unfold Out;omega)] at c2
   unfold tri nums at c1 c2
   by_cases h0:0≤s
   · simp -implicitDefEqProofs (disch:=omega) [go_sem]
     refine .inl (call_data c0 (by simp [go_sem]) ?_)
     simp -implicitDefEqProofs (disch:=omega) [go_sem]
     refine .inl (call_data c1 (by simp [go_sem]) ?_)
     simp -implicitDefEqProofs (disch:=omega) [go_sem]
     refine .inl (call_data c2 (by simp [go_sem]) ?_)
     simp -implicitDefEqProofs (disch:=omega) [go_sem,Tryd.f10]
   · simp -implicitDefEqProofs (disch:=omega) [go_sem]
     refine .inl (call_data c0 (by simp [go_sem]) ?_)
     simp -implicitDefEqProofs (disch:=omega) [go_sem]
     refine .inl (call_data c1 (by simp [go_sem]) ?_)
     simp -implicitDefEqProofs (disch:=omega) [go_sem]
     refine .inl (call_data c2 (by simp [go_sem]) ?_)
     simp -implicitDefEqProofs (disch:=omega) [go_sem,Tryd.f10]
set_option maxHeartbeats 4000000 in
theorem agrees_pc (hΓ:Spaces Γ) (s e:Int):PC Tryd.prog Γ 9 [.int .i64 s,.int .i64 e] (.bool true):=by
 refine pc_by mixed Tryd.func9 rfl (fun args w=>Tryd.call9 args w) ?_
 have c0:=shown_pc Γ hΓ
 have c1:=next_pc Γ hΓ s e
 have key:((nextF s e).2.2 = true∧(nextF s e).2.1 = 9∧s≠9) ↔ (s = 7∧e = 6 ∨ s = 8∧e = 8):=by
  cases h:(nextF s e).2.2 with
  | false =>
    simp only [Bool.false_eq_true,false_and,false_iff]
    rintro (⟨rfl,rfl⟩ | ⟨rfl,rfl⟩)
    · exact absurd h (by decide +kernel)
    · exact absurd h (by decide +kernel)
  | true =>
    simp only [true_and]
    exact next_all (fun s e=>((nextF s e).2.1 = 9∧s≠9) ↔ (s = 7∧e = 6 ∨ s = 8∧e = 8)) (by decide +kernel) h
 generalize nextF s e = r at *
 obtain ⟨l,t,b⟩:=r
 dsimp only at key
 unfold tri nums at c1
 by_cases k:s = 7∧e = 6 ∨ s = 8∧e = 8
 · obtain ⟨rfl,rfl,k3⟩:=key.2 k
   rcases k with ⟨rfl,rfl⟩ | ⟨rfl,rfl⟩
   all_goals
    simp -implicitDefEqProofs (disch:=omega) [go_sem]
    refine .inl (call_data c0 (by simp [go_sem]) ?_)
    simp -implicitDefEqProofs (disch:=omega) [go_sem]
    refine .inl (call_data c1 (by simp [go_sem]) ?_)
    simp -implicitDefEqProofs (disch:=omega) [go_sem,Tryd.f9]
 · have kk:¬ (b = true∧t = 9∧s≠9):=fun x=>k (key.1 x)
   have q:b = false ∨ (b = true∧t≠9) ∨ (b = true∧t = 9∧s = 9):=by
    cases b
    · exact .inl rfl
    · by_cases h9:t = 9
      · exact .inr (.inr ⟨rfl,h9,by
         by_cases h:s = 9
         · exact h
         · exact absurd ⟨rfl,h9,h⟩ kk⟩)
      · exact .inr (.inl ⟨rfl,h9⟩)
   have z:(s = 7∧e≠6) ∨ (s = 8∧e≠8) ∨ (s≠7∧s≠8):=by omega
   clear key kk k
   rcases q with rfl | ⟨rfl,q⟩ | ⟨rfl,rfl,rfl⟩
   · rcases z with ⟨rfl,z⟩ | ⟨rfl,z⟩ | ⟨z,z2⟩
     all_goals
      simp -implicitDefEqProofs (disch:=omega) [go_sem]
      refine .inl (call_data c0 (by simp [go_sem]) ?_)
      simp -implicitDefEqProofs (disch:=omega) [go_sem]
      refine .inl (call_data c1 (by simp [go_sem]) ?_)
      simp -implicitDefEqProofs (disch:=omega) [go_sem,z,Tryd.f9]
      try simp -implicitDefEqProofs (disch:=omega) [go_sem,z,z2,Tryd.f9]
   · rcases z with ⟨rfl,z⟩ | ⟨rfl,z⟩ | ⟨z,z2⟩
     all_goals
      simp -implicitDefEqProofs (disch:=omega) [go_sem]
      refine .inl (call_data c0 (by simp [go_sem]) ?_)
      simp -implicitDefEqProofs (disch:=omega) [go_sem]
      refine .inl (call_data c1 (by simp [go_sem]) ?_)
      simp -implicitDefEqProofs (disch:=omega) [go_sem,q,z,Tryd.f9]
      try simp -implicitDefEqProofs (disch:=omega) [go_sem,q,z,z2,Tryd.f9]
   · simp -implicitDefEqProofs (disch:=omega) [go_sem]
     refine .inl (call_data c0 (by simp [go_sem]) ?_)
     simp -implicitDefEqProofs (disch:=omega) [go_sem]
     refine .inl (call_data c1 (by simp [go_sem]) ?_)
     simp -implicitDefEqProofs (disch:=omega) [go_sem,Tryd.f9]
set_option maxHeartbeats 8000000 in
theorem times_pc (hΓ:Spaces Γ) (s e:Int):PC Tryd.prog Γ 6 [.int .i64 s,.int .i64 e] (.bool true):=by
 refine pc_by mixed Tryd.func6 rfl (fun args w=>Tryd.call6 args w) ?_
 have c0:=shown_pc Γ hΓ
 have c1:=next_pc Γ hΓ s e
 have hl:=next_len s e
 have no:(nextF s e).2.2 = false->(e = 4 ∨ e = 5)->¬ (4≤s∧s≤8):=by
  intro h k hs
  obtain ⟨n,rfl⟩:∃ n:Nat,s = n:=⟨s.toNat,by omega⟩
  have key:∀ i:Fin 10,4≤i.val->i.val≤8->(nextF (i.val:Int) 4).2.2 = true∧(nextF (i.val:Int) 5).2.2 = true:=by decide +kernel
  have q:=key ⟨n,by omega⟩ (by show 4≤n;omega) (by show n≤8;omega)
  rcases k with rfl | rfl
  · rw [show nextF ((n:Nat):Int) 4 = nextF (((⟨n,by omega⟩:Fin 10).val:Nat):Int) 4 from rfl,q.1] at h;cases h
  · rw [show nextF ((n:Nat):Int) 5 = nextF (((⟨n,by omega⟩:Fin 10).val:Nat):Int) 5 from rfl,q.2] at h;cases h
 have key:(nextF s e).2.2 = true->((7∈(nextF s e).1 ∨ 10∈(nextF s e).1)->4≤(nextF s e).2.1∧(nextF s e).2.1≤8)∧((e = 4 ∨ e = 5)->4≤s∧s≤8)∧(e = 5->(nextF s e).2.1 = 2 ∨ (nextF s e).2.1 = 3) ∧
  ((4≤(nextF s e).2.1∧(nextF s e).2.1≤8)->(4≤s∧s≤8) ∨ (7∈(nextF s e).1 ∨ 10∈(nextF s e).1) ∨ 6∈(nextF s e).1)∧(e = 4->(7∈(nextF s e).1 ∨ 10∈(nextF s e).1)):=fun hn =>
  next_all (fun s e=>((7∈(nextF s e).1 ∨ 10∈(nextF s e).1)->4≤(nextF s e).2.1∧(nextF s e).2.1≤8)∧((e = 4 ∨ e = 5)->4≤s∧s≤8)∧(e = 5->(nextF s e).2.1 = 2 ∨ (nextF s e).2.1 = 3) ∧
   ((4≤(nextF s e).2.1∧(nextF s e).2.1≤8)->(4≤s∧s≤8) ∨ (7∈(nextF s e).1 ∨ 10∈(nextF s e).1) ∨ 6∈(nextF s e).1)∧(e = 4->(7∈(nextF s e).1 ∨ 10∈(nextF s e).1))) (by decide +kernel) hn
 generalize nextF s e = r at *
 obtain ⟨l,t,b⟩:=r
 dsimp only at hl key no
 have c2:=timed_pc Γ s
 have c3:=timed_pc Γ t
 have c4:=rhas_pc Γ l 7 (by omega)
 have c5:=rhas_pc Γ l 10 (by omega)
 have c6:=rhas_pc Γ l 6 (by omega)
 unfold tri nums at c1
 unfold nums at c4 c5 c6
 clear hl
 cases b
 · replace no:=no rfl
   clear key c3 c4 c5 c6
   by_cases h4:e = 4
   · rw [decide_eq_false (no (.inl h4))] at c2
     subst h4
     clear no
     simp -implicitDefEqProofs (disch:=omega) [go_sem]
     refine .inl (call_data c0 (by simp [go_sem]) ?_)
     simp -implicitDefEqProofs (disch:=omega) [go_sem]
     refine .inl (call_data c1 (by simp [go_sem]) ?_)
     simp -implicitDefEqProofs (disch:=omega) [go_sem]
     refine .inl (call_data c2 (by simp [go_sem]) ?_)
     simp -implicitDefEqProofs (disch:=omega) [go_sem,Tryd.f6]
   by_cases h5:e = 5
   · rw [decide_eq_false (no (.inr h5))] at c2
     subst h5
     clear no
     simp -implicitDefEqProofs (disch:=omega) [go_sem]
     refine .inl (call_data c0 (by simp [go_sem]) ?_)
     simp -implicitDefEqProofs (disch:=omega) [go_sem]
     refine .inl (call_data c1 (by simp [go_sem]) ?_)
     simp -implicitDefEqProofs (disch:=omega) [go_sem]
     refine .inl (call_data c2 (by simp [go_sem]) ?_)
     simp -implicitDefEqProofs (disch:=omega) [go_sem,Tryd.f6]
   clear no
   simp -implicitDefEqProofs (disch:=omega) [go_sem]
   refine .inl (call_data c0 (by simp [go_sem]) ?_)
   simp -implicitDefEqProofs (disch:=omega) [go_sem]
   refine .inl (call_data c1 (by simp [go_sem]) ?_)
   simp -implicitDefEqProofs (disch:=omega) [go_sem,h4,h5,Tryd.f6]
 clear no
 obtain ⟨k1,k2,k3,k4,k5⟩:=key rfl
 clear key
 by_cases m7:7∈l
 · rw [decide_eq_true m7] at c4
   have ht:=k1 (.inl m7)
   rw [decide_eq_true ht] at c3
   clear k1 k4 k5 c5 c6 m7
   by_cases h4:e = 4
   · rw [decide_eq_true (k2 (.inl h4))] at c2
     subst h4
     clear k2 k3
     simp -implicitDefEqProofs (disch:=omega) [go_sem]
     refine .inl (call_data c0 (by simp [go_sem]) ?_)
     simp -implicitDefEqProofs (disch:=omega) [go_sem]
     refine .inl (call_data c1 (by simp [go_sem]) ?_)
     simp -implicitDefEqProofs (disch:=omega) [go_sem]
     refine .inl (call_data c4 (by simp [go_sem]) ?_)
     simp -implicitDefEqProofs (disch:=omega) [go_sem]
     refine .inl (call_data c3 (by simp [go_sem]) ?_)
     simp -implicitDefEqProofs (disch:=omega) [go_sem]
     refine .inl (call_data c2 (by simp [go_sem]) ?_)
     simp -implicitDefEqProofs (disch:=omega) [go_sem]
     refine .inl (call_data c3 (by simp [go_sem]) ?_)
     simp -implicitDefEqProofs (disch:=omega) [go_sem]
     refine .inl (call_data c2 (by simp [go_sem]) ?_)
     simp -implicitDefEqProofs (disch:=omega) [go_sem,Tryd.f6]
   by_cases h5:e = 5
   · exfalso
     have:=k3 h5
     omega
   clear k2 k3 ht
   generalize decide (4≤s∧s≤8) = d at *
   simp -implicitDefEqProofs (disch:=omega) [go_sem]
   refine .inl (call_data c0 (by simp [go_sem]) ?_)
   simp -implicitDefEqProofs (disch:=omega) [go_sem]
   refine .inl (call_data c1 (by simp [go_sem]) ?_)
   simp -implicitDefEqProofs (disch:=omega) [go_sem]
   refine .inl (call_data c4 (by simp [go_sem]) ?_)
   simp -implicitDefEqProofs (disch:=omega) [go_sem]
   refine .inl (call_data c3 (by simp [go_sem]) ?_)
   simp -implicitDefEqProofs (disch:=omega) [go_sem,h4,h5]
   refine .inl (call_data c3 (by simp [go_sem]) ?_)
   simp -implicitDefEqProofs (disch:=omega) [go_sem,h4,h5]
   refine .inl (call_data c2 (by simp [go_sem]) ?_)
   cases d
   all_goals simp -implicitDefEqProofs (disch:=omega) [go_sem,h4,h5,Tryd.f6]
 by_cases m10:10∈l
 · rw [decide_eq_false m7] at c4
   rw [decide_eq_true m10] at c5
   have ht:=k1 (.inr m10)
   rw [decide_eq_true ht] at c3
   clear k1 k4 k5 c6 m7 m10
   by_cases h4:e = 4
   · rw [decide_eq_true (k2 (.inl h4))] at c2
     subst h4
     clear k2 k3
     simp -implicitDefEqProofs (disch:=omega) [go_sem]
     refine .inl (call_data c0 (by simp [go_sem]) ?_)
     simp -implicitDefEqProofs (disch:=omega) [go_sem]
     refine .inl (call_data c1 (by simp [go_sem]) ?_)
     simp -implicitDefEqProofs (disch:=omega) [go_sem]
     refine .inl (call_data c4 (by simp [go_sem]) ?_)
     simp -implicitDefEqProofs (disch:=omega) [go_sem]
     refine .inl (call_data c5 (by simp [go_sem]) ?_)
     simp -implicitDefEqProofs (disch:=omega) [go_sem]
     refine .inl (call_data c3 (by simp [go_sem]) ?_)
     simp -implicitDefEqProofs (disch:=omega) [go_sem]
     refine .inl (call_data c2 (by simp [go_sem]) ?_)
     simp -implicitDefEqProofs (disch:=omega) [go_sem]
     refine .inl (call_data c3 (by simp [go_sem]) ?_)
     simp -implicitDefEqProofs (disch:=omega) [go_sem]
     refine .inl (call_data c2 (by simp [go_sem]) ?_)
     simp -implicitDefEqProofs (disch:=omega) [go_sem,Tryd.f6]
   by_cases h5:e = 5
   · exfalso
     have:=k3 h5
     omega
   clear k2 k3 ht
   generalize decide (4≤s∧s≤8) = d at *
   simp -implicitDefEqProofs (disch:=omega) [go_sem]
   refine .inl (call_data c0 (by simp [go_sem]) ?_)
   simp -implicitDefEqProofs (disch:=omega) [go_sem]
   refine .inl (call_data c1 (by simp [go_sem]) ?_)
   simp -implicitDefEqProofs (disch:=omega) [go_sem]
   refine .inl (call_data c4 (by simp [go_sem]) ?_)
   simp -implicitDefEqProofs (disch:=omega) [go_sem]
   refine .inl (call_data c5 (by simp [go_sem]) ?_)
   simp -implicitDefEqProofs (disch:=omega) [go_sem]
   refine .inl (call_data c3 (by simp [go_sem]) ?_)
   simp -implicitDefEqProofs (disch:=omega) [go_sem,h4,h5]
   refine .inl (call_data c3 (by simp [go_sem]) ?_)
   simp -implicitDefEqProofs (disch:=omega) [go_sem,h4,h5]
   refine .inl (call_data c2 (by simp [go_sem]) ?_)
   cases d
   all_goals simp -implicitDefEqProofs (disch:=omega) [go_sem,h4,h5,Tryd.f6]
 rw [decide_eq_false m7] at c4
 rw [decide_eq_false m10] at c5
 by_cases h4:e = 4
 · rcases k5 h4 with h | h
   · exact absurd h m7
   · exact absurd h m10
 by_cases h5:e = 5
 · have h23:=k3 h5
   rw [decide_eq_true (k2 (.inr h5))] at c2
   rw [decide_eq_false (by omega)] at c3
   subst h5
   clear k1 k2 k3 k4 k5 m7 m10
   rcases h23 with rfl | rfl
   all_goals
    simp -implicitDefEqProofs (disch:=omega) [go_sem]
    refine .inl (call_data c0 (by simp [go_sem]) ?_)
    simp -implicitDefEqProofs (disch:=omega) [go_sem]
    refine .inl (call_data c1 (by simp [go_sem]) ?_)
    simp -implicitDefEqProofs (disch:=omega) [go_sem]
    refine .inl (call_data c4 (by simp [go_sem]) ?_)
    simp -implicitDefEqProofs (disch:=omega) [go_sem]
    refine .inl (call_data c5 (by simp [go_sem]) ?_)
    simp -implicitDefEqProofs (disch:=omega) [go_sem]
    refine .inl (call_data c2 (by simp [go_sem]) ?_)
    simp -implicitDefEqProofs (disch:=omega) [go_sem]
    refine .inl (call_data c3 (by simp [go_sem]) ?_)
    simp -implicitDefEqProofs (disch:=omega) [go_sem,Tryd.f6]
 have k6:(4≤t∧t≤8)->¬ (4≤s∧s≤8)->6∈l:=fun x y=>by
  rcases k4 x with h | h | h
  · exact absurd h y
  · rcases h with h | h
    · exact absurd h m7
    · exact absurd h m10
  · exact h
 clear k1 k2 k3 k4 k5 m7 m10
 by_cases ht:4≤t∧t≤8
 · rw [decide_eq_true ht] at c3
   by_cases hs:4≤s∧s≤8
   · rw [decide_eq_true hs] at c2
     clear k6 ht hs
     simp -implicitDefEqProofs (disch:=omega) [go_sem]
     refine .inl (call_data c0 (by simp [go_sem]) ?_)
     simp -implicitDefEqProofs (disch:=omega) [go_sem]
     refine .inl (call_data c1 (by simp [go_sem]) ?_)
     simp -implicitDefEqProofs (disch:=omega) [go_sem]
     refine .inl (call_data c4 (by simp [go_sem]) ?_)
     simp -implicitDefEqProofs (disch:=omega) [go_sem]
     refine .inl (call_data c5 (by simp [go_sem]) ?_)
     simp -implicitDefEqProofs (disch:=omega) [go_sem,h4,h5]
     refine .inl (call_data c3 (by simp [go_sem]) ?_)
     simp -implicitDefEqProofs (disch:=omega) [go_sem,h4,h5]
     refine .inl (call_data c2 (by simp [go_sem]) ?_)
     simp -implicitDefEqProofs (disch:=omega) [go_sem,h4,h5,Tryd.f6]
   · rw [decide_eq_false hs] at c2
     rw [decide_eq_true (k6 ht hs)] at c6
     clear k6 ht hs
     simp -implicitDefEqProofs (disch:=omega) [go_sem]
     refine .inl (call_data c0 (by simp [go_sem]) ?_)
     simp -implicitDefEqProofs (disch:=omega) [go_sem]
     refine .inl (call_data c1 (by simp [go_sem]) ?_)
     simp -implicitDefEqProofs (disch:=omega) [go_sem]
     refine .inl (call_data c4 (by simp [go_sem]) ?_)
     simp -implicitDefEqProofs (disch:=omega) [go_sem]
     refine .inl (call_data c5 (by simp [go_sem]) ?_)
     simp -implicitDefEqProofs (disch:=omega) [go_sem,h4,h5]
     refine .inl (call_data c3 (by simp [go_sem]) ?_)
     simp -implicitDefEqProofs (disch:=omega) [go_sem,h4,h5]
     refine .inl (call_data c2 (by simp [go_sem]) ?_)
     simp -implicitDefEqProofs (disch:=omega) [go_sem,h4,h5]
     refine .inl (call_data c6 (by simp [go_sem]) ?_)
     simp -implicitDefEqProofs (disch:=omega) [go_sem,h4,h5,Tryd.f6]
 · rw [decide_eq_false ht] at c3
   clear k6 ht
   simp -implicitDefEqProofs (disch:=omega) [go_sem]
   refine .inl (call_data c0 (by simp [go_sem]) ?_)
   simp -implicitDefEqProofs (disch:=omega) [go_sem]
   refine .inl (call_data c1 (by simp [go_sem]) ?_)
   simp -implicitDefEqProofs (disch:=omega) [go_sem]
   refine .inl (call_data c4 (by simp [go_sem]) ?_)
   simp -implicitDefEqProofs (disch:=omega) [go_sem]
   refine .inl (call_data c5 (by simp [go_sem]) ?_)
   simp -implicitDefEqProofs (disch:=omega) [go_sem,h4,h5]
   refine .inl (call_data c3 (by simp [go_sem]) ?_)
   simp -implicitDefEqProofs (disch:=omega) [go_sem,h4,h5,Tryd.f6]
set_option maxHeartbeats 8000000 in
theorem layers_pc (hΓ:Spaces Γ) (s e:Int):PC Tryd.prog Γ 5 [.int .i64 s,.int .i64 e] (.bool true):=by
 refine pc_by mixed Tryd.func5 rfl (fun args w=>Tryd.call5 args w) ?_
 have c0:=shown_pc Γ hΓ
 have c1:=next_pc Γ hΓ s e
 have hl:=next_len s e
 cases hb:(nextF s e).2.2 with
 | false =>
   rw [next_no hb] at c1
   unfold tri nums at c1
   simp -implicitDefEqProofs (disch:=omega) [go_sem]
   refine .inl (call_data c0 (by simp [go_sem]) ?_)
   simp -implicitDefEqProofs (disch:=omega) [go_sem]
   refine .inl (call_data c1 (by simp [go_sem]) ?_)
   simp -implicitDefEqProofs (disch:=omega) [go_sem,Tryd.f5]
 | true =>
   have key:=next_all (fun s e=>(1∈(nextF s e).1 ↔ (nextF s e).2.1 = 9∧s≠9)∧(2∈(nextF s e).1 ↔ s = 9∧(nextF s e).2.1≠9)∧(∀ x∈(nextF s e).1,1≤x∧x≤13)∧(nextF s e).1.Nodup∧(0≤(nextF s e).2.1∧(nextF s e).2.1 < 10)∧¬ (3∈(nextF s e).1∧4∈(nextF s e).1)) (by decide +kernel) hb
   generalize nextF s e = r at *
   obtain ⟨l,t,b⟩:=r
   dsimp only at hl key hb
   subst hb
   obtain ⟨k1,k2,k3,k4,⟨k5,k6⟩,k7⟩:=key
   have c2:=rhas_pc Γ l 1 (by omega)
   have c3:=rhas_pc Γ l 2 (by omega)
   have c4:=rhas_pc Γ l 3 (by omega)
   have c5:=rhas_pc Γ l 4 (by omega)
   unfold tri nums at c1
   unfold nums at c2 c3 c4 c5
   by_cases g1:t = 9 <;> by_cases g2:s = 9
   · rw [decide_eq_false (fun h=>(k1.1 h).2 g2)] at c2
     rw [decide_eq_false (fun h=>(k2.1 h).2 g1)] at c3
     subst g1
     subst g2
     clear k1 k2
     simp -implicitDefEqProofs (disch:=omega) [go_sem]
     refine .inl (call_data c0 (by simp [go_sem]) ?_)
     simp -implicitDefEqProofs (disch:=omega) [go_sem]
     refine .inl (call_data c1 (by simp [go_sem]) ?_)
     simp -implicitDefEqProofs (disch:=omega) [go_sem]
     refine .inl (call_data c2 (by simp [go_sem]) ?_)
     simp -implicitDefEqProofs (disch:=omega) [go_sem]
     refine .inl (call_data c3 (by simp [go_sem]) ?_)
     simp -implicitDefEqProofs (disch:=omega) [go_sem]
     refine loop_ren (σ:={ i:Nat // i≤l.length }) (fun i=>⟨envL [(5,.data (.bool true)),(6,.data (.sl 1 (l.map fun n=>Data.int .i64 n))),(7,.data (.int .i64 9)),(9,.data (.int .i64 i.1))],hpL [],0,0,97⟩) (fun i=>l.length - i.1) ⟨0,by omega⟩ [] (rhoL []) ?_ ?_
     · apply ren_lists <;> simp -implicitDefEqProofs [go_sem]
     rintro ⟨i,hi⟩
     by_cases h:i < l.length
     · obtain ⟨x1,x2⟩:=k3 l[i] (List.getElem_mem h)
       have hx:l[i] ∉ l.take i:=by
        intro k
        obtain ⟨j,hj,e⟩:=List.getElem_of_mem k
        rw [List.getElem_take] at e
        rw [List.length_take] at hj
        have:=(List.getElem_inj k4).1 e
        omega
       have c6:=rhas_pc Γ (l.take i) l[i] (by rw [List.length_take];omega)
       rw [decide_eq_false hx] at c6
       unfold nums at c6
       rw [List.map_take] at c6
       simp -implicitDefEqProofs (disch:=omega) [go_sem]
       refine .inl (call_data c6 (by simp [go_sem]) ?_)
       simp -implicitDefEqProofs (disch:=omega) [go_sem]
       refine side (by kernel_rfl) ?_
       simp -implicitDefEqProofs (disch:=omega) [go_sem]
       refine next_ren ⟨i + 1,by omega⟩ (by simp only;omega) [] (rhoL []) ?_
       apply ren_lists <;> simp -implicitDefEqProofs [go_sem]
     · by_cases m3:3∈l
       · rw [decide_eq_true m3] at c4
         rw [decide_eq_false fun m4=>k7 ⟨m3,m4⟩] at c5
         simp -implicitDefEqProofs (disch:=omega) [go_sem]
         refine .inl (call_data c4 (by simp [go_sem]) ?_)
         simp -implicitDefEqProofs (disch:=omega) [go_sem]
         refine .inl (call_data c5 (by simp [go_sem]) ?_)
         simp -implicitDefEqProofs (disch:=omega) [go_sem,Tryd.f5]
       · rw [decide_eq_false m3] at c4
         simp -implicitDefEqProofs (disch:=omega) [go_sem]
         refine .inl (call_data c4 (by simp [go_sem]) ?_)
         simp -implicitDefEqProofs (disch:=omega) [go_sem,Tryd.f5]
   · rw [decide_eq_true (k1.2 ⟨g1,g2⟩)] at c2
     rw [decide_eq_false (fun h=>(k2.1 h).2 g1)] at c3
     subst g1
     clear k1 k2
     simp -implicitDefEqProofs (disch:=omega) [go_sem,g2]
     refine .inl (call_data c0 (by simp [go_sem]) ?_)
     simp -implicitDefEqProofs (disch:=omega) [go_sem,g2]
     refine .inl (call_data c1 (by simp [go_sem]) ?_)
     simp -implicitDefEqProofs (disch:=omega) [go_sem,g2]
     refine .inl (call_data c2 (by simp [go_sem]) ?_)
     simp -implicitDefEqProofs (disch:=omega) [go_sem,g2]
     refine .inl (call_data c3 (by simp [go_sem]) ?_)
     simp -implicitDefEqProofs (disch:=omega) [go_sem,g2]
     refine loop_ren (σ:={ i:Nat // i≤l.length }) (fun i=>⟨envL [(5,.data (.bool true)),(6,.data (.sl 1 (l.map fun n=>Data.int .i64 n))),(7,.data (.int .i64 9)),(9,.data (.int .i64 i.1))],hpL [],0,0,97⟩) (fun i=>l.length - i.1) ⟨0,by omega⟩ [] (rhoL []) ?_ ?_
     · apply ren_lists <;> simp -implicitDefEqProofs [go_sem]
     rintro ⟨i,hi⟩
     by_cases h:i < l.length
     · obtain ⟨x1,x2⟩:=k3 l[i] (List.getElem_mem h)
       have hx:l[i] ∉ l.take i:=by
        intro k
        obtain ⟨j,hj,e⟩:=List.getElem_of_mem k
        rw [List.getElem_take] at e
        rw [List.length_take] at hj
        have:=(List.getElem_inj k4).1 e
        omega
       have c6:=rhas_pc Γ (l.take i) l[i] (by rw [List.length_take];omega)
       rw [decide_eq_false hx] at c6
       unfold nums at c6
       rw [List.map_take] at c6
       simp -implicitDefEqProofs (disch:=omega) [go_sem]
       refine .inl (call_data c6 (by simp [go_sem]) ?_)
       simp -implicitDefEqProofs (disch:=omega) [go_sem]
       refine side (by kernel_rfl) ?_
       simp -implicitDefEqProofs (disch:=omega) [go_sem]
       refine next_ren ⟨i + 1,by omega⟩ (by simp only;omega) [] (rhoL []) ?_
       apply ren_lists <;> simp -implicitDefEqProofs [go_sem]
     · by_cases m3:3∈l
       · rw [decide_eq_true m3] at c4
         rw [decide_eq_false fun m4=>k7 ⟨m3,m4⟩] at c5
         simp -implicitDefEqProofs (disch:=omega) [go_sem]
         refine .inl (call_data c4 (by simp [go_sem]) ?_)
         simp -implicitDefEqProofs (disch:=omega) [go_sem]
         refine .inl (call_data c5 (by simp [go_sem]) ?_)
         simp -implicitDefEqProofs (disch:=omega) [go_sem,Tryd.f5]
       · rw [decide_eq_false m3] at c4
         simp -implicitDefEqProofs (disch:=omega) [go_sem]
         refine .inl (call_data c4 (by simp [go_sem]) ?_)
         simp -implicitDefEqProofs (disch:=omega) [go_sem,Tryd.f5]
   · rw [decide_eq_false (fun h=>g1 (k1.1 h).1)] at c2
     rw [decide_eq_true (k2.2 ⟨g2,g1⟩)] at c3
     subst g2
     clear k1 k2
     simp -implicitDefEqProofs (disch:=omega) [go_sem,g1]
     refine .inl (call_data c0 (by simp [go_sem]) ?_)
     simp -implicitDefEqProofs (disch:=omega) [go_sem,g1]
     refine .inl (call_data c1 (by simp [go_sem]) ?_)
     simp -implicitDefEqProofs (disch:=omega) [go_sem,g1]
     refine .inl (call_data c2 (by simp [go_sem]) ?_)
     simp -implicitDefEqProofs (disch:=omega) [go_sem,g1]
     refine .inl (call_data c3 (by simp [go_sem]) ?_)
     simp -implicitDefEqProofs (disch:=omega) [go_sem,g1]
     refine loop_ren (σ:={ i:Nat // i≤l.length }) (fun i=>⟨envL [(5,.data (.bool true)),(6,.data (.sl 1 (l.map fun n=>Data.int .i64 n))),(7,.data (.int .i64 t)),(9,.data (.int .i64 i.1))],hpL [],0,0,97⟩) (fun i=>l.length - i.1) ⟨0,by omega⟩ [] (rhoL []) ?_ ?_
     · apply ren_lists <;> simp -implicitDefEqProofs [go_sem]
     rintro ⟨i,hi⟩
     by_cases h:i < l.length
     · obtain ⟨x1,x2⟩:=k3 l[i] (List.getElem_mem h)
       have hx:l[i] ∉ l.take i:=by
        intro k
        obtain ⟨j,hj,e⟩:=List.getElem_of_mem k
        rw [List.getElem_take] at e
        rw [List.length_take] at hj
        have:=(List.getElem_inj k4).1 e
        omega
       have c6:=rhas_pc Γ (l.take i) l[i] (by rw [List.length_take];omega)
       rw [decide_eq_false hx] at c6
       unfold nums at c6
       rw [List.map_take] at c6
       simp -implicitDefEqProofs (disch:=omega) [go_sem]
       refine .inl (call_data c6 (by simp [go_sem]) ?_)
       simp -implicitDefEqProofs (disch:=omega) [go_sem]
       refine side (by kernel_rfl) ?_
       simp -implicitDefEqProofs (disch:=omega) [go_sem]
       refine next_ren ⟨i + 1,by omega⟩ (by simp only;omega) [] (rhoL []) ?_
       apply ren_lists <;> simp -implicitDefEqProofs [go_sem]
     · by_cases m3:3∈l
       · rw [decide_eq_true m3] at c4
         rw [decide_eq_false fun m4=>k7 ⟨m3,m4⟩] at c5
         simp -implicitDefEqProofs (disch:=omega) [go_sem]
         refine .inl (call_data c4 (by simp [go_sem]) ?_)
         simp -implicitDefEqProofs (disch:=omega) [go_sem]
         refine .inl (call_data c5 (by simp [go_sem]) ?_)
         simp -implicitDefEqProofs (disch:=omega) [go_sem,Tryd.f5]
       · rw [decide_eq_false m3] at c4
         simp -implicitDefEqProofs (disch:=omega) [go_sem]
         refine .inl (call_data c4 (by simp [go_sem]) ?_)
         simp -implicitDefEqProofs (disch:=omega) [go_sem,Tryd.f5]
   · rw [decide_eq_false (fun h=>g1 (k1.1 h).1)] at c2
     rw [decide_eq_false (fun h=>g2 (k2.1 h).1)] at c3
     clear k1 k2
     simp -implicitDefEqProofs (disch:=omega) [go_sem,g1,g2]
     refine .inl (call_data c0 (by simp [go_sem]) ?_)
     simp -implicitDefEqProofs (disch:=omega) [go_sem,g1,g2]
     refine .inl (call_data c1 (by simp [go_sem]) ?_)
     simp -implicitDefEqProofs (disch:=omega) [go_sem,g1,g2]
     refine .inl (call_data c2 (by simp [go_sem]) ?_)
     simp -implicitDefEqProofs (disch:=omega) [go_sem,g1,g2]
     refine .inl (call_data c3 (by simp [go_sem]) ?_)
     simp -implicitDefEqProofs (disch:=omega) [go_sem,g1,g2]
     refine loop_ren (σ:={ i:Nat // i≤l.length }) (fun i=>⟨envL [(5,.data (.bool true)),(6,.data (.sl 1 (l.map fun n=>Data.int .i64 n))),(7,.data (.int .i64 t)),(9,.data (.int .i64 i.1))],hpL [],0,0,97⟩) (fun i=>l.length - i.1) ⟨0,by omega⟩ [] (rhoL []) ?_ ?_
     · apply ren_lists <;> simp -implicitDefEqProofs [go_sem]
     rintro ⟨i,hi⟩
     by_cases h:i < l.length
     · obtain ⟨x1,x2⟩:=k3 l[i] (List.getElem_mem h)
       have hx:l[i] ∉ l.take i:=by
        intro k
        obtain ⟨j,hj,e⟩:=List.getElem_of_mem k
        rw [List.getElem_take] at e
        rw [List.length_take] at hj
        have:=(List.getElem_inj k4).1 e
        omega
       have c6:=rhas_pc Γ (l.take i) l[i] (by rw [List.length_take];omega)
       rw [decide_eq_false hx] at c6
       unfold nums at c6
       rw [List.map_take] at c6
       simp -implicitDefEqProofs (disch:=omega) [go_sem]
       refine .inl (call_data c6 (by simp [go_sem]) ?_)
       simp -implicitDefEqProofs (disch:=omega) [go_sem]
       refine side (by kernel_rfl) ?_
       simp -implicitDefEqProofs (disch:=omega) [go_sem]
       refine next_ren ⟨i + 1,by omega⟩ (by simp only;omega) [] (rhoL []) ?_
       apply ren_lists <;> simp -implicitDefEqProofs [go_sem]
     · by_cases m3:3∈l
       · rw [decide_eq_true m3] at c4
         rw [decide_eq_false fun m4=>k7 ⟨m3,m4⟩] at c5
         simp -implicitDefEqProofs (disch:=omega) [go_sem]
         refine .inl (call_data c4 (by simp [go_sem]) ?_)
         simp -implicitDefEqProofs (disch:=omega) [go_sem]
         refine .inl (call_data c5 (by simp [go_sem]) ?_)
         simp -implicitDefEqProofs (disch:=omega) [go_sem,Tryd.f5]
       · rw [decide_eq_false m3] at c4
         simp -implicitDefEqProofs (disch:=omega) [go_sem]
         refine .inl (call_data c4 (by simp [go_sem]) ?_)
         simp -implicitDefEqProofs (disch:=omega) [go_sem,Tryd.f5]
end
end Fs
section
variable (Γ:Nat->Option (List Data))
theorem law_FsmLayers (hΓ:Fs.Spaces Γ) {x0 x1:Data} (a0:argD Tryd.prog 8 3 x0) (a1:argD Tryd.prog 8 3 x1):PC Tryd.prog Γ 5 [x0,x1] (.bool true):=by
 obtain ⟨s,_,_,rfl⟩:=arg_i64 Tryd.underlying3 a0
 obtain ⟨e,_,_,rfl⟩:=arg_i64 Tryd.underlying3 a1
 exact Fs.layers_pc Γ hΓ s e
theorem law_FsmTimes (hΓ:Fs.Spaces Γ) {x0 x1:Data} (a0:argD Tryd.prog 8 3 x0) (a1:argD Tryd.prog 8 3 x1):PC Tryd.prog Γ 6 [x0,x1] (.bool true):=by
 obtain ⟨s,_,_,rfl⟩:=arg_i64 Tryd.underlying3 a0
 obtain ⟨e,_,_,rfl⟩:=arg_i64 Tryd.underlying3 a1
 exact Fs.times_pc Γ hΓ s e
theorem law_FsmNames (hΓ:Fs.Spaces Γ) {x0 x1:Data} (a0:argD Tryd.prog 8 3 x0) (a1:argD Tryd.prog 8 3 x1):PC Tryd.prog Γ 7 [x0,x1] (.bool true):=by
 obtain ⟨s,_,_,rfl⟩:=arg_i64 Tryd.underlying3 a0
 obtain ⟨e,_,_,rfl⟩:=arg_i64 Tryd.underlying3 a1
 exact Fs.names_pc Γ hΓ s e
theorem law_FsmAgrees (hΓ:Fs.Spaces Γ) {x0 x1:Data} (a0:argD Tryd.prog 8 3 x0) (a1:argD Tryd.prog 8 3 x1):PC Tryd.prog Γ 9 [x0,x1] (.bool true):=by
 obtain ⟨s,_,_,rfl⟩:=arg_i64 Tryd.underlying3 a0
 obtain ⟨e,_,_,rfl⟩:=arg_i64 Tryd.underlying3 a1
 exact Fs.agrees_pc Γ hΓ s e
theorem law_FsmBelow (hΓ:Fs.Spaces Γ) {x0:Data} (a0:argD Tryd.prog 8 3 x0):PC Tryd.prog Γ 10 [x0] (.bool true):=by
 obtain ⟨s,_,_,rfl⟩:=arg_i64 Tryd.underlying3 a0
 exact Fs.below_pc Γ hΓ s
end
end Go.Proofs.YtnggelbagedlfaaDoor
namespace Go.Proofs.YtnggelbagedlfaaDoor
set_option linter.unusedSimpArgs false
set_option linter.unusedVariables false
set_option maxRecDepth 100000
end Go.Proofs.YtnggelbagedlfaaDoor
