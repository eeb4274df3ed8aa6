/- Each operation keeps the relation: part six: values put together; the rest of the operations. Each operation keeps the relation: part seven: the rest, and all of them. Each operation keeps the relation: rows of which the room is known, rows put to zero, maps. Each operation keeps the relation: part eight: append, copy, calls; all of them together. Each operation keeps the relation: part nine: calls; all operations. Code on plain data, in the order of the text; calls whose rows are the caller's. -/
import Derived.Test.YtndnlfgchmjbjaaPk1
import Derived.Great.BuildSlice
import Derived.Laws.IdiomStrings
import Derived.Lib.BufferRead
import Derived.MapKept
import Derived.DeepKeys3
import Derived.Lib.ConvBytes
namespace Go.Proofs.Ytndnlfgchmjbjaa
open Go.RowKit
set_option linter.unusedSimpArgs false
set_option linter.unusedVariables false
set_option maxRecDepth 100000
theorem foldl_set (off:Nat):∀ (xs:List Value) (k:Nat) (cells:Array Value),off+k+xs.length<=cells.size →
 ((xs.zipIdx k).foldl (fun cs x=>cs.setIfInBounds (off+x.2) x.1) cells).size=cells.size /\
   ∀ i,((xs.zipIdx k).foldl (fun cs x=>cs.setIfInBounds (off+x.2) x.1) cells)[i]?=if off+k<=i/\i<off+k+xs.length then xs[i-(off+k)]? else cells[i]?
 | [],k,cells,h=>by
   refine⟨rfl,fun i=>?_⟩;rw[if_neg (by simp)];rfl
 | x::xs,k,cells,h=>by
   simp only[List.zipIdx_cons,List.foldl_cons];obtain⟨h1,h2⟩:=foldl_set off xs (k+1) (cells.setIfInBounds (off+k) x) (by simp at h ⊢;omega);refine⟨by rw[h1];simp,fun i=>?_⟩;rw[h2 i];simp only[List.length_cons] at h ⊢;by_cases e:i=off+k
   . subst e;rw[if_neg (by omega),if_pos (by omega)];simp only[Nat.sub_self,List.getElem?_cons_zero];rw[Array.getElem?_setIfInBounds_self_of_lt (by omega)]
   . by_cases e2:off+(k+1)<=i/\i<off+(k+1)+xs.length
     . rw[if_pos e2,if_pos (by omega),show i-(off+k)=i-(off+(k+1))+1 by omega,List.getElem?_cons_succ]
     . rw[if_neg e2,if_neg (by omega),Array.getElem?_setIfInBounds_ne (fun e3=>e e3.symm)]
section
variable {P:Program} {Γ:Nat->Option (List Data)} {L0:Nat->Prop} {w0:W0} {m:Nat->MB} {H:Nat->Blk} {w:World} {fr:Nat} {L:Nat->Prop}
def CellsV (L:Nat->Prop) (w:World) (m:Nat->MB) (cells:List D) (vs:Array Value):Prop :=
 cells.length=vs.size/\∀ (i:Nat) (d:D),cells[i]?=some d->∃ v,vs[i]?=some v/\v.oneCell'=true/\VV L w m d v
def CellsJ (L:Nat->Prop) (w:World) (m:Nat->MB) (cells:List D) (vs:Array Value):Prop :=
 cells.length=vs.size/\∀ (i:Nat) (d:D) (v:Value),cells[i]?=some d->vs[i]?=some v->VV L w m d v
theorem fill_ok (place:Nat->Option (Nat×Nat)):∀ (parts:List (Nat×D)) (vparts:List (Nat×Value)) (cells cells':List D) (vs:Array Value),parts.length=vparts.length →
 (∀ (i:Nat) (p:Nat×D) (q:Nat×Value),parts[i]?=some p->vparts[i]?=some q->p.1=q.1/\VV L w m p.2 q.2)->CellsJ L w m cells vs->fillD place cells parts=some cells' →
 ∃ vs',Instr.fill place vs vparts=some vs'/\CellsJ L w m cells' vs'
 | [],vparts,cells,cells',vs,hl,hp,hc,hf=>by
   have:vparts=[]:=List.eq_nil_of_length_eq_zero (by simpa using hl.symm);subst this;simp only[fillD,Option.some.injEq] at hf;subst hf;exact⟨vs,rfl,hc⟩
 | (i,d)::parts,vparts,cells,cells',vs,hl,hp,hc,hf=>by
   cases vparts with
   | nil=>simp at hl
   | cons q vparts =>
     obtain⟨j,v⟩:=q;obtain⟨hij,hv⟩:=hp 0 (i,d) (j,v) rfl rfl;simp only at hij hv;subst hij;simp only[fillD] at hf;cases hpl:place i with
     | none=>simp[hpl] at hf
     | some os =>
       obtain⟨off,size⟩:=os;simp only[hpl] at hf;split at hf
       . rename_i hcond;obtain⟨hsz,hfit,hall⟩:=hcond;obtain⟨hc1,hc2⟩:=hv.cells hall;obtain⟨hcl,hch⟩:=hc;have hvs:v.cells.size=size:=by omega
         obtain⟨k1,k2⟩:=foldl_set off v.cells.toList 0 vs (by simp;omega);have hfold:v.cells.zipIdx.foldl (fun cs x=>cs.setIfInBounds (off+x.2) x.1) vs=(v.cells.toList.zipIdx 0).foldl (fun cs x=>cs.setIfInBounds (off+x.2) x.1) vs:=by
          rw[<- Array.foldl_toList];simp
         have hj:CellsJ L w m (over cells off d.cells) (v.cells.zipIdx.foldl (fun cs x=>cs.setIfInBounds (off+x.2) x.1) vs):=by
          refine⟨by rw[over_length (by omega),hfold,k1];exact hcl,fun k x y hx hy=>?_⟩;rw[over_get (by omega)] at hx;rw[hfold,k2 k] at hy;simp only[Nat.add_zero,Array.length_toList] at hy;split at hx
          . rename_i hin;rw[if_pos (by omega)] at hy;exact (hc2 _ x y hx (by simpa using hy)).1
          . rename_i hin;rw[if_neg (by omega)] at hy;exact hch k x y hx hy
         obtain⟨vs',e1,e2⟩:=fill_ok place parts vparts (over cells off d.cells) cells' (v.cells.zipIdx.foldl (fun cs x=>cs.setIfInBounds (off+x.2) x.1) vs) (by simpa using hl)
          (fun k p q h1 h2=>hp (k+1) p q (by simpa using h1) (by simpa using h2)) hj hf
         refine⟨vs',?_,e2⟩;have h3:¬ (off+size > vs.size):=by omega
         simp only[Instr.fill,hpl,hvs];simp only[ne_eq,not_true_eq_false,decide_false,Bool.false_or,h3,Bool.false_eq_true,if_false];exact e1
       . cases hf
theorem zero_cellsJ {t:TypeId} {z:List D} (hz:zeT P t=some z):∃ i v,P.info? t=some i/\i.zero=some v/\∀ (L:Nat->Prop) (w:World) (m:Nat->MB),CellsJ L w m z v.cells:=by
 obtain⟨i,v,h1,h2,h3⟩:=zero_of P hz;subst h3;refine⟨i,v,h1,h2,fun L w m=>⟨by simp,fun j d u hd hu=>?_⟩⟩;simp only[List.getElem?_map,Option.map_eq_some_iff,Array.getElem?_toList] at hd;obtain⟨u',hu',rfl⟩:=hd;rw[hu] at hu';cases hu';exact cD_ok u
theorem build_ok {t:TypeId} {parts:List (Nat×D)} {vparts:Array (Nat×Value)} {K:D->Prop} (hl:parts.length=vparts.size) (hp:∀ (i:Nat) (p:Nat×D) (q:Nat×Value),parts[i]?=some p->vparts[i]?=some q->p.1=q.1/\VV L w m p.2 q.2)
 (hk:buildK P t parts K):∃ d v,K d/\VV L w m d v/\(Instr.build t vparts).run P w = .ok v w:=by
 unfold buildK at hk;split at hk
 . rename_i z hz;obtain⟨i,v,h1,h2,h3⟩:=zero_cellsJ hz;have hl':parts.length=vparts.toList.length:=by simpa using hl
   have hp':∀ (i:Nat) (p:Nat×D) (q:Nat×Value),parts[i]?=some p->vparts.toList[i]?=some q->p.1=q.1/\VV L w m p.2 q.2:=fun i p q e1 e2=>hp i p q e1 (by simpa using e2);split at hk
   . rename_i n e he;split at hk
     . rename_i es hs;split at hk
       . rename_i cells hf;obtain⟨ie,hie,hse⟩:=info_of_sz P hs;obtain⟨vs',e1,e2,e3⟩:=fill_ok _ _ _ _ _ _ hl' hp' (h3 L w m) hf;refine⟨_,.agg vs',hk,VV.mk_agg e2 e3,run_build w t vparts vs' ?_⟩;simp only[Program.built,h1,und_arr P he,h2,hie,hse];exact e1
       . exact hk.elim
     . exact hk.elim
   . split at hk
     . rename_i places hpl;split at hk
       . rename_i cells hf;obtain⟨vs',e1,e2,e3⟩:=fill_ok _ _ _ _ _ _ hl' hp' (h3 L w m) hf;refine⟨_,.agg vs',hk,VV.mk_agg e2 e3,run_build w t vparts vs' ?_⟩;unfold plT at hpl;split at hpl
         . rename_i fs hu;simp only[Program.built,h1,hu,h2,hpl,List.getElem?_toArray];exact e1
         . cases hpl
       . exact hk.elim
     . exact hk.elim
 . exact hk.elim
theorem zeros_get {z:List D} {v:Array Value} (hl:z.length=v.size) (h0:0<z.length) (n:Nat) (hat:∀ (i:Nat) (d:D),z[i]?=some d->∃ u,v[i]?=some u/\u.oneCell'=true/\VV L w m d u) :
 CellsV L w m (List.replicate n z).flatten ((Array.range (n*v.size)).map (v[· % v.size]!)):=by
 have hfl:∀ n,(List.replicate n z).flatten.length=n*z.length:=fun n=>by simp
 have hget:∀ n i,i<n*z.length->(List.replicate n z).flatten[i]?=z[i%z.length]?:=by
  intro n
  induction n with
  | zero=>intro i hi;omega
  | succ n ih =>
    intro i hi;rw[List.replicate_succ,List.flatten_cons];by_cases h1:i<z.length
    . rw[List.getElem?_append_left h1,Nat.mod_eq_of_lt h1]
    . rw[List.getElem?_append_right (by omega),ih _ (by rw[Nat.succ_mul] at hi;omega)];congr 1;rw[<- Nat.mod_eq_sub_mod (by omega)]
 refine⟨by rw[hfl,hl];simp,fun i d hd=>?_⟩;have hi:=(List.getElem?_eq_some_iff.1 hd).1;rw[hfl] at hi;rw[hget n i hi] at hd;obtain⟨u,e1,e2,e3⟩:=hat _ d hd;refine⟨u,?_,e2,e3⟩;have hi2:i<n*v.size:=by rw[<- hl];exact hi
 have hm:i%z.length<v.size:=by rw[<- hl];exact Nat.mod_lt _ h0
 rw[hl] at e1;simp only[Array.getElem?_map,Array.getElem?_range,hi2,if_true,Option.map_some];simp[getElem!_def,e1]
theorem makeSlice_ok {t:TypeId} {e:TypeId} {es by_:Nat} {n c:Int} {kn kc:IntKind} {z:List D} (h:WR Γ L0 w0 m H w) (hfr:m fr = .res) (he:sliceT P t=some e) (hs:szT P e=some es) (hb:byT P e=some by_)
 (h0:0<=n) (h1:n<=c) (h2:c*by_<=140737488355328) (h3:c<=9223372036854775807) (hz:zeT P e=some z) (hall:z.all D.cell=true) (hzl:es=z.length) (hz0:0<z.length) :
 ∃ v w',(Instr.makeSlice t (.int kn n) (.int kc c)).run P w = .ok v w'/\After Γ L0 w0 fr H m w (.ref fr 0 n.toNat es) [(fr,.blk true (List.replicate n.toNat z).flatten)] v w':=by
 obtain⟨i,v,k1,k2,k3,k4⟩:=zero_cells hz hall;have hu:=und_slice P he;obtain⟨i',hi',his⟩:=info_of_sz P hs;have hib:i.bytes=by_:=by unfold byT at hb;rw[k1] at hb;simpa using hb
 rw[k1] at hi';cases hi';have hw1:IntKind.i64.wrap n=n:=by rw[IntKind.wrap_i64];omega
 have hw2:IntKind.i64.wrap c=c:=by rw[IntKind.wrap_i64];omega
 have hc0:¬ (c<0):=by omega
 have hn0:¬ (n<0):=by omega
 have hcn:¬ (n > c):=by omega
 have hcb:¬ (281474976710656<(i.bytes:Int)*c):=by rw[hib,Int.mul_comm];omega
 have hr0:Array.range 0 = #[]:=rfl;have hcz:=zeros_get (L:=Live L0 m H) (w:=w) (m:=m) (n:=c.toNat) k3 hz0 (k4 _ _ _);have hvs:v.cells.size=es:=by omega
 have hsub:∀ (j:Nat) (d:D),(List.replicate n.toNat z).flatten[j]?=some d->(List.replicate c.toNat z).flatten[j]?=some d:=by
  intro j d hd;obtain⟨q,hq⟩:∃ q,c.toNat=n.toNat+q:=⟨c.toNat-n.toNat,by omega⟩;rw[hq,<- List.replicate_append_replicate,List.flatten_append,List.getElem?_append_left (List.getElem?_eq_some_iff.1 hd).1];exact hd
 have hlen:(List.replicate n.toNat z).flatten.length<=((Array.range (c.toNat*v.cells.size)).map (v.cells[· % v.cells.size]!)).size:=by
  have:n.toNat*z.length<=c.toNat*v.cells.size:=by rw[k3];exact Nat.mul_le_mul_right _ (by omega)
  simp;exact this
 obtain⟨q1,q2,q3,q4⟩:=h.new (fr:=fr) (w1:=w) (vs:=(Array.range (c.toNat*v.cells.size)).map (v.cells[· % v.cells.size]!)) (ty:=e) (fz:=(0,0)) (H':=Hp.set H fr (.blk true (List.replicate n.toNat z).flatten)) (cells:=(List.replicate n.toNat z).flatten)
  hfr ⟨rfl,rfl,rfl,rfl⟩ (by simp[Hp.set]) (fun g hg=>.inl (by simp[Hp.set,hg])) rfl hlen (fun j d hd=>hcz.2 j d (hsub j d hd))
 refine⟨.slice (some ⟨w.heap.size,0,none⟩) n.toNat c.toNat,w.alloc (.cells ((Array.range (c.toNat*v.cells.size)).map (v.cells[· % v.cells.size]!)) e),?_,_,q1,.ref fr 0 n.toNat es _ _ _ 0 q4 (.inl rfl) (by simp[hvs]) (by omega) (by unfold maxLen;omega),q2,q3⟩;by_cases hc:c.toNat*es=0
 . have hr:(Array.range (c.toNat*v.cells.size)).map (v.cells[· % v.cells.size]!) = #[]:=by rw[hvs,hc];simp
   rw[hr];simp[Instr.makeSlice,run_underlying hu,asInt,asIntOf,typeInfo,sizeOf,k1,his,hw1,hw2,hc0,hn0,hcn,hcb,hc,newRow,hr0]
 . simp[Instr.makeSlice,run_underlying hu,asInt,asIntOf,typeInfo,sizeOf,zeroValue,k1,k2,his,hw1,hw2,hc0,hn0,hcn,hcb,hc,newRow,hvs]
theorem buildSlice_ok {t e:TypeId} {len es:Nat} {z cells:List D} {parts:List (Nat×D)} {vparts:Array (Nat×Value)} (h:WR Γ L0 w0 m H w) (hfr:m fr = .res) (he:sliceT P t=some e) (hs:szT P e=some es) (hbig:len*es<=16777216) (hpos:len≠0)
 (hz:zeT P e=some z) (hall:z.all D.cell=true) (hzl:es=z.length) (hz0:0<z.length)
 (hl:parts.length=vparts.size) (hp:∀ (i:Nat) (p:Nat×D) (q:Nat×Value),parts[i]?=some p->vparts[i]?=some q->p.1=q.1/\VV (Live L0 m H) w m p.2 q.2)
 (hf:fillD (fun i=>some (i*es,es)) (List.replicate len z).flatten parts=some cells) (hcell:cells.all D.cell=true) :
 ∃ v w',(Instr.buildSlice t len vparts).run P w = .ok v w'/\After Γ L0 w0 fr H m w (.ref fr 0 len es) [(fr,.blk true cells)] v w':=by
 obtain⟨i,v,k1,k2,k3,k4⟩:=zero_cells hz hall;have hu:=und_slice P he;obtain⟨i',hi',his⟩:=info_of_sz P hs;rw[k1] at hi';cases hi';have hvs:v.cells.size=es:=by omega
 have hcz:=zeros_get (L:=Live L0 m H) (w:=w) (m:=m) (n:=len) k3 hz0 (k4 _ _ _);have hj:CellsJ (Live L0 m H) w m (List.replicate len z).flatten ((Array.range (len*es)).map (v.cells[· % v.cells.size]!)):=by
  rw[<- hvs];refine⟨hcz.1,fun j d u hd hu=>?_⟩;obtain⟨u',e1,_,e3⟩:=hcz.2 j d hd;rw[hu] at e1;cases e1;exact e3
 obtain⟨vs',e1,e2,e3⟩:=fill_ok (fun i=>some (i*es,es)) _ vparts.toList _ _ _ (by simpa using hl) (fun i p q a1 a2=>hp i p q a1 (by simpa using a2)) hj hf;have hlencells:vs'.size=len*es:=by
  have:∀ (parts:List (Nat×D)) (cs cs':List D),fillD (fun i=>some (i*es,es)) cs parts=some cs'->cs'.length=cs.length:=by
   intro parts
   induction parts with
   | nil=>intro cs cs' h;simp[fillD] at h;rw[h]
   | cons p parts ih =>
     intro cs cs' h;obtain⟨q,d⟩:=p;simp only[fillD] at h;split at h
     . rename_i hc;rw[ih _ _ h,over_length (by omega)]
     . cases h
  have:=this _ _ _ hf;rw[<- e2,this];simp[<- hzl]
 have hpos2:¬ (len*es=0):=by
  have:=Nat.mul_pos (Nat.pos_of_ne_zero hpos) (by omega:0<es);omega
 obtain⟨q1,q2,q3,q4⟩:=h.new (fr:=fr) (w1:=w) (vs:=vs') (ty:=e) (fz:=(0,0)) (H':=Hp.set H fr (.blk true cells)) (cells:=cells)
  hfr ⟨rfl,rfl,rfl,rfl⟩ (by simp[Hp.set]) (fun g hg=>.inl (by simp[Hp.set,hg])) rfl (by omega) (fun j d hd=>by
   have hj:=(List.getElem?_eq_some_iff.1 hd).1;have hq:=Array.getElem?_eq_getElem (xs:=vs') (i:=j) (by omega);have hvv:=e3 j d _ hd hq;rw[List.all_eq_true] at hcell;exact⟨_,hq,hvv.one (hcell d (List.mem_of_getElem? hd)),hvv⟩)
 have hmaxl:len<=maxLen:=by
  have:len<=len*es:=Nat.le_mul_of_pos_right _ (by omega);unfold maxLen;omega
 refine⟨.slice (some ⟨w.heap.size,0,none⟩) len len,w.alloc (.cells vs' e),?_,_,q1,.ref fr 0 len es _ _ _ 0 q4 (.inl rfl) (by omega) (Nat.le_refl _) hmaxl,q2,q3⟩;exact run_buildSlice w t e len vparts vs' i v hu k1 k2 (by rw[his];omega) (by rw[his];exact hpos2) (by rw[his];exact e1)
end
section
variable {P:Program} {Γ:Nat->Option (List Data)} {L0:Nat->Prop} {w0:W0} {m:Nat->MB} {H:Nat->Blk} {w:World} {fr:Nat} {L:Nat->Prop}
theorem len_ok {t ty:TypeId} {x:D} {v:Value} {K:D->Prop} (hv:VV L w m x v) (hk:lenK P t x K):∃ d u,K d/\VV L w m d u/\(Builtin.len_ #[t] ty #[v]).run P w = .ok u w:=by
 have nd:∀ k n,VV L w m (intD k n) (.int k n):=fun k n=>.data _ _ (.int k n);unfold lenK at hk;split at hk
 . obtain⟨ht,hk⟩:=hk;have hv:=hv.data_inv;cases hv;exact⟨_,_,hk,nd _ _,by simp[Builtin.len_,run_underlying (und_str P ht),goInt]⟩
 . obtain⟨ht,hk⟩:=hk;obtain⟨e,he⟩:=Option.isSome_iff_exists.1 ht;have hv:=hv.data_inv;cases hv with
   | sl _ _ a n cap b off vs hn =>
   subst hn;exact⟨_,_,hk,nd _ _,by simp[Builtin.len_,run_underlying (und_slice P he),goInt]⟩
 . obtain⟨ht,hk⟩:=hk;obtain⟨e,he⟩:=Option.isSome_iff_exists.1 ht;cases hv with
   | ref _ _ _ _ b sz cap o=>exact⟨_,_,hk,nd _ _,by simp[Builtin.len_,run_underlying (und_slice P he),goInt]⟩
   | ref0 _ _ a=>exact⟨_,_,hk,nd _ _,by simp[Builtin.len_,run_underlying (und_slice P he),goInt]⟩
 . obtain⟨ht,hk⟩:=hk;obtain⟨e,he⟩:=Option.isSome_iff_exists.1 ht;cases hv with
   | cut _ _ _ _ _ b sz cap o=>exact⟨_,_,hk,nd _ _,by simp[Builtin.len_,run_underlying (und_slice P he),goInt]⟩
 . obtain⟨ht,hk⟩:=hk;obtain⟨e,he⟩:=Option.isSome_iff_exists.1 ht;cases hv with
   | emp _ a=>exact⟨_,_,hk,nd _ _,by simp[Builtin.len_,run_underlying (und_slice P he),goInt]⟩
 . obtain⟨ht,hk⟩:=hk;obtain⟨e,he⟩:=Option.isSome_iff_exists.1 ht;cases hv with
   | ful _ _ a n hd =>
   cases hd with
   | sl _ _ _ _ cap b off vs hn =>
   subst hn;exact⟨_,_,hk,nd _ _,by simp[Builtin.len_,run_underlying (und_slice P he),goInt]⟩
 . split at hk
   . rename_i n e he;exact⟨_,_,hk,nd _ _,by simp[Builtin.len_,run_underlying (und_arr P he),goInt]⟩
   . exact hk.elim
theorem cap_ok {t ty:TypeId} {x:D} {v:Value} {K:D->Prop} (hv:VV L w m x v) (hk:capK P t x K):∃ d u,K d/\VV L w m d u/\(Builtin.cap_ #[t] ty #[v]).run P w = .ok u w:=by
 unfold capK at hk;split at hk
 . obtain⟨ht,hk⟩:=hk;obtain⟨e,he⟩:=Option.isSome_iff_exists.1 ht;cases hv with
   | emp _ a=>exact⟨_,_,hk,.data _ _ (.int _ _),by simp[Builtin.cap_,run_underlying (und_slice P he),goInt]⟩
 . exact hk.elim
theorem conv_ok {src dst:TypeId} {x:D} {v:Value} {K:D->Prop} (hsrc:(P.underlying src).isSome=true) (hv:VV L w m x v) (hk:convK P src dst x K):∃ d u,K d/\VV L w m d u/\(convert src dst v).run P w = .ok u w:=by
 obtain⟨ds,hds⟩:=Option.isSome_iff_exists.1 hsrc;unfold convK at hk;split at hk
 . obtain rfl:=int_inv hv;split at hk
   . rename_i k hkd;refine⟨_,_,hk,.data _ _ (.int _ _),?_⟩;simp only[convert,Sem.run_bind,run_underlying hds,run_underlying (und_int P hkd),Result.andThen_ok];cases ds<;>simp[Conv.intToInt]
   . exact hk.elim
 . obtain⟨ht,hk⟩:=hk;have hv:=hv.data_inv;cases hv;refine⟨_,_,hk,.data _ _ (.str _),?_⟩;simp only[convert,Sem.run_bind,run_underlying hds,run_underlying (und_str P ht),Result.andThen_ok];cases ds<;>simp
 . obtain⟨rfl,ht,hk2,bs,rfl,hk⟩:=hk;split at hk2
   . rename_i e he;have hq0:=hv.data_inv;cases hq0 with
     | sl _ _ a n cap b off vs hn hle hm hes ha hc hvv =>
       refine⟨_,_,hk,.data _ _ (.str _),?_⟩;have hfl:∀ l:List UInt8,flat (l.map fun b=>Data.int .u8 (b.toNat:Int))=l.map fun b=>Data.int .u8 (b.toNat:Int):=fun l=>by
        induction l with
        | nil=>rfl
        | cons y l ih=>simp only[flat,List.map_cons,List.flatMap_cons] at ih ⊢;rw[ih];rfl
       have hn2:n=bs.length:=by simpa using hn
       subst hn2;rcases ha with⟨rfl,_,_⟩|h0
       . refine run_convert_bytes_back w _ _ e ⟨b,off,none⟩ cap bs (und_slice P he) (und_int P hk2) (und_str P ht) fun j hj=>?_;have hx:(flat (bs.map fun b=>Data.int .u8 (b.toNat:Int)))[j]?=some (.int .u8 (bs[j].toNat:Int)):=by rw[hfl];simp[hj]
         have h1:=hc j _ hx;have h2:=hvv j _ hx;generalize vs j=q at h1 h2;cases h2;by_cases hj0:j=0
         . subst hj0;simpa[Addr.add] using h1
         . simpa[Addr.add,hj0] using h1
       . have:bs=[]:=by simpa using h0
         subst this;cases a with
         | none=>exact Lib.run_convert_nil_bytes w _ _ e cap (und_slice P he) (und_int P hk2) (und_str P ht)
         | some ad=>exact run_convert_bytes_back w _ _ e ad cap [] (und_slice P he) (und_int P hk2) (und_str P ht) fun j hj=>by simp at hj
   . exact hk2.elim
 . exact hk.elim
theorem un_ok {op:UnOp} {x:D} {v:Value} {K:D->Prop} (hv:VV L w m x v) (hk:unK op x K):∃ d u,K d/\VV L w m d u/\(Op.unary op v).run P w = .ok u w:=by
 unfold unK at hk;split at hk
 . obtain rfl:=int_inv hv;exact⟨_,_,hk,.data _ _ (.int _ _),by simp[Op.unary,Op.intArith]⟩
 . obtain rfl:=int_inv hv;exact⟨_,_,hk,.data _ _ (.int _ _),by simp[Op.unary,Op.intBits]⟩
 . have hv:=hv.data_inv;cases hv;exact⟨_,_,hk,.data _ _ (.bool _),by simp[Op.unary]⟩
 . exact hk.elim
theorem minmax_ok {big:Bool} {ds:List D} {vs:Array Value} {ts:Array TypeId} {ty:TypeId} {K:D->Prop} (hl:ds.length=vs.size) (hv:∀ (i:Nat) (d:D) (v:Value),ds[i]?=some d->vs[i]?=some v->VV L w m d v) (hk:minmaxK big ds K) :
 ∃ d u,K d/\VV L w m d u/\(if big then Builtin.max_ ts ty vs else Builtin.min_ ts ty vs).run P w = .ok u w:=by
 unfold minmaxK at hk;split at hk
 . rename_i k a k' b;obtain⟨rfl,hk⟩:=hk;have h0:0<vs.size:=by simp at hl;omega
   have h1:1<vs.size:=by simp at hl;omega
   have e0:=int_inv (hv 0 _ _ rfl (Array.getElem?_eq_getElem h0));have e1:=int_inv (hv 1 _ _ rfl (Array.getElem?_eq_getElem h1));have hvs:vs.toList=[.int k a,.int k b]:=by
    apply List.ext_getElem
    . simp at hl ⊢;omega
    . intro i h2 h3;simp at h3
      match i with
      | 0=>simpa using e0
      | 1=>simpa using e1
   refine⟨_,_,hk,.data _ _ (.int _ _),?_⟩;cases big<;>simp[Builtin.max_,Builtin.min_,hvs,Builtin.max2,Builtin.min2]
 . exact hk.elim
theorem sliceArr_ok {t:TypeId} {x:D} {v:Value} {lo hi mx:Option Operand} {ρ:Operand->D} {σ:Operand->Value} {K:D->List Nat->Prop} (h:WR Γ L0 w0 m H w) (hρ:∀ x,VV (Live L0 m H) w m (ρ x) (σ x)) (hv:VV (Live L0 m H) w m x v)
 (hk:sliceArrK P t x (lo.map ρ) (hi.map ρ) (mx.map ρ) H K):∃ d rd u,K d rd/\VV (Live L0 m H) w m d u/\(Instr.sliceAt t v (lo.map σ) (hi.map σ) (mx.map σ)).run P w = .ok u w:=by
 obtain⟨l1,l2⟩:=map_some (a:=lo) hρ;obtain⟨h1,h2⟩:=map_some (a:=hi) hρ;unfold sliceArrK at hk;split at hk
 . exact hk.elim
 . rename_i hmx;have hmx:mx=none:=by cases mx with|none=>rfl|some _=>cases hmx
   subst hmx;simp only[Option.map_none];split at hk
   . rename_i g off n e he;split at hk
     . rename_i es rw cells hs hg;obtain⟨hmax,hfit,hk⟩:=hk;have hu:=und_arr P he;have hml:n<=maxLen:=by unfold maxLen;omega
       cases hv with
       | ptr _ _ b sz k1 =>
       obtain⟨vs,ty,e1,e2,e3,_⟩:=at_of h hg k1;obtain⟨i,j,hk,hab,hbl,hr⟩:=bounds_ok (P:=P) (isSlice:=false) (cap:=n) (Nat.le_refl _) l1 l2 h1 h2 hk;have hmul:i*es+(n-i)*es=n*es:=by rw[<- Nat.add_mul];congr 1;omega
       refine⟨_,_,.slice (some (if n=i then ⟨b,off,none⟩ else ⟨b,off+i*es,none⟩)) (j-i) (n-i),hk,?_,?_⟩
       . by_cases hni:n=i
         . rw[if_pos hni];exact .ref _ _ _ _ b sz _ off k1 (.inr (by omega)) (by omega) (by omega) (by omega)
         . rw[if_neg hni];exact .ref _ _ _ _ b sz _ _ k1 (.inl rfl) (by omega) (by omega) (by omega)
       . simp only[Instr.sliceAt,run_underlying hu,Instr.sureAddr,hr,run_sz P hs,Sem.run_bind,Result.andThen_ok,Sem.run_pure,add_off]
     . exact hk.elim
   . rename_i cells n e he;obtain⟨hs,hmax,hfit,hcell,hk⟩:=hk;have hu:=und_arr P he;have hml:n<=maxLen:=by unfold maxLen;omega
     cases hv with
     | cptr _ b off vs hb hL hc hvv =>
     obtain⟨i,j,hk,hab,hbl,hr⟩:=bounds_ok (P:=P) (isSlice:=false) (cap:=n) (Nat.le_refl _) l1 l2 h1 h2 hk;refine⟨_,_,.slice (some (if n=i then ⟨b,off,none⟩ else ⟨b,off+i*1,none⟩)) (j-i) (n-i),hk,.data _ _ ?_,?_⟩
     . have hone:∀ x∈((cells.take n).take j).drop i,x.cells=[x]:=fun x hx=>by
        have hx:=hcell x (List.mem_of_mem_take (List.mem_of_mem_drop hx));cases x<;>simp_all[Data.cell,Data.cells]
       have hfl:∀ l:List Data,(∀ x∈l,x.cells=[x])->flat l=l:=fun l hl=>by
        induction l with
        | nil=>rfl
        | cons x l ih =>
          simp only[flat,List.flatMap_cons] at ih ⊢;rw[hl x (by simp),ih (fun y hy=>hl y (by simp[hy]))];rfl
       have hf:=hfl _ hone;have hlen:j-i=(((cells.take n).take j).drop i).length:=by simp;omega
       by_cases hij:i=j
       . refine .sl 1 _ _ _ _ b off vs hlen (by omega) (by omega) (fun x hx=>by rw[hone x hx];rfl) (.inr (List.eq_nil_of_length_eq_zero (by omega))) (fun q c hq=>?_) (fun q c hq=>?_)
         all_goals
          rw[hf] at hq;have:=(List.getElem?_eq_some_iff.1 hq).1;omega
       . rw[if_neg (by omega)];refine .sl 1 _ _ _ _ b (off+i*1) (fun q=>vs (i*1+q)) hlen (by omega) (by omega) (fun x hx=>by rw[hone x hx];rfl) (.inl ⟨rfl,hb,hL⟩) (fun q c hq=>?_) (fun q c hq=>?_)
         all_goals
          rw[hf,List.getElem?_drop,List.getElem?_take] at hq;split at hq
          . rw[List.getElem?_take] at hq;split at hq
            . first
              | (rw[Nat.mul_one];exact hvv _ c hq)
              | (rw[Nat.mul_one,Nat.add_assoc];exact hc _ c hq)
            . cases hq
          . cases hq
     . simp only[Instr.sliceAt,run_underlying hu,Instr.sureAddr,hr,run_sz P hs,Sem.run_bind,Result.andThen_ok,Sem.run_pure,add_off]
   . exact hk.elim
end
section
variable {P:Program} {Γ:Nat->Option (List Data)} {L0:Nat->Prop} {w0:W0} {m:Nat->MB} {H:Nat->Blk} {w:World} {fr:Nat} {L:Nat->Prop}
theorem zl_of {e:TypeId} {es:Nat} (h:zlT P e=some es):∃ i z,P.info? e=some i/\i.zero=some z/\z.cells.size=es:=by
 unfold zlT at h;cases hi:P.info? e with
 | none=>simp[hi] at h
 | some i =>
   simp only[hi,Option.bind_some,Option.map_eq_some_iff] at h;obtain⟨z,hz,hs⟩:=h;exact⟨i,z,rfl,hz,hs⟩
theorem Src.cells {es n:Nat} {cs:List D} {v:Value} {news:List Value} (h:Src P L m w es n cs v news) (hall:cs.all D.cell=true) :
 (∀ (i:Nat) (d:D),cs[i]?=some d->∃ u,news[i]?=some u/\u.oneCell'=true/\VV L w m d u)/\∀ u∈news,u.oneCell'=true:=by
 have key:∀ (i:Nat) (d:D),cs[i]?=some d->∃ u,news[i]?=some u/\u.oneCell'=true/\VV L w m d u:=fun i d hd=>by
  obtain⟨u,e1,e2⟩:=h.at' i d hd;rw[List.all_eq_true] at hall;exact⟨u,e1,e2.one (hall d (List.mem_of_getElem? hd)),e2⟩
 refine⟨key,fun u hu=>?_⟩;obtain⟨i,hi⟩:=List.getElem?_of_mem hu;have hlt:i<cs.length:=by rw[h.cl,<- h.nl];exact (List.getElem?_eq_some_iff.1 hi).1
 obtain⟨u',e1,e2,_⟩:=key i _ (List.getElem?_eq_getElem hlt);rw[hi] at e1;cases e1;exact e2
theorem zeros_put {e:TypeId} {z:List D} (hz:zeT P e=some z) (hall:z.all D.cell=true) (h0:0<z.length) (n:Nat):∃ i v,P.info? e=some i/\i.zero=some v/\v.cells.size=z.length/\(List.replicate n z).flatten.length=n*z.length /\
 (Builtin.zeroCells v.cells n).toList.length=n*z.length /\
 (∀ (i:Nat) (d:D),(List.replicate n z).flatten[i]?=some d->∃ u,(Builtin.zeroCells v.cells n).toList[i]?=some u/\u.oneCell'=true/\VV L w m d u)/\∀ u∈(Builtin.zeroCells v.cells n).toList,u.oneCell'=true:=by
 obtain⟨i,v,k1,k2,k3,k4⟩:=zero_cells hz hall;have hcz:=zeros_get (L:=L) (w:=w) (m:=m) (n:=n) k3 h0 (k4 _ _ _);have hfl:(List.replicate n z).flatten.length=n*z.length:=by simp
 have key:∀ (i:Nat) (d:D),(List.replicate n z).flatten[i]?=some d->∃ u,(Builtin.zeroCells v.cells n).toList[i]?=some u/\u.oneCell'=true/\VV L w m d u:=fun j d hd=>by
  obtain⟨u,e1,e2,e3⟩:=hcz.2 j d hd;exact⟨u,by rw[Array.getElem?_toList];exact e1,e2,e3⟩
 have hzl:(Builtin.zeroCells v.cells n).toList.length=n*z.length:=by rw[Array.length_toList,zeroCells_len,k3]
 refine⟨i,v,k1,k2,k3.symm,hfl,hzl,key,fun u hu=>?_⟩;obtain⟨j,hj⟩:=List.getElem?_of_mem hu;have hlt:j<(List.replicate n z).flatten.length:=by rw[hfl,<- hzl];exact (List.getElem?_eq_some_iff.1 hj).1
 obtain⟨u',e1,e2,_⟩:=key j _ (List.getElem?_eq_getElem hlt);rw[hj] at e1;cases e1;exact e2
theorem append_any {st xt ty:TypeId} (vs:Array Value):Builtin.append_ #[st,xt] ty vs=Builtin.append_ #[st,xt] 0 vs:=rfl
theorem append_fits {st xt e:TypeId} {es n:Nat} {cs:List D} {vx:Value} {news:List Value} (he:sliceT P st=some e) (hs:szT P e=some es) (hxs:((sliceT P xt).isSome || strT P xt)=true)
 (hsrc:Src P L m w es n cs vx news) (base:Option Addr) (sLen sCap:Nat) (hfit:sLen+n<=sCap) (w':World) (hst:match base with|some a=>(storeCells (a.add (sLen*es)) news).run P w = .ok () w'|none=>w'=w) :
 (Builtin.append_ #[st,xt] 0 #[.slice base sLen sCap,vx]).run P w = .ok (.slice base (sLen+n) sCap) w':=by
 have hu:=und_slice P he;have hfirst:=hsrc.first n (Nat.le_refl _);rw[<- hsrc.nl,List.take_length] at hfirst;cases base with
 | none =>
   simp only at hst;subst hst;rcases und_src hxs with⟨e2,hd⟩|hd<;>simp[Builtin.append_,run_underlying hu,run_underlying hd,run_sz P hs,hsrc.len,hfit,hfirst]
 | some a =>
   simp only at hst;rcases und_src hxs with⟨e2,hd⟩|hd<;>simp[Builtin.append_,run_underlying hu,run_underlying hd,run_sz P hs,hsrc.len,hfit,hfirst,hst]
theorem put_row (h:WR Γ L0 w0 m H w) {g b sz off at':Nat} {cells cs:List D} {news:List Value} (hg:H g = .blk true cells) (j1:m g = .at b sz) (hl:cs.length=news.length) (hfit:off+cs.length<=cells.length)
 (k6:∀ (i:Nat) (d:D),cs[i]?=some d->∃ u,news[i]?=some u/\u.oneCell'=true/\VV (Live L0 m H) w m d u) (k7:∀ u∈news,u.oneCell'=true) (hat:at'=off \/ cs=[]) :
 ∃ w',(storeCells ⟨b,at',none⟩ news).run P w = .ok () w'/\∀ d r,(∀ L' w' m',Grow (Live L0 m H) w L' w'->(∀ k,m k≠.res->m' k=m k)->VV L' w' m' d r)->After Γ L0 w0 fr H m w d [(g,.blk true (over cells off cs))] r w':=by
 obtain⟨vs,ty,e1,e2,e3,_,e5⟩:=at_of h hg j1;have hst:(storeCells ⟨b,at',none⟩ news).run P w = .ok () (w.setRow b (vs.toList.take off++news++vs.toList.drop (off+news.length)).toArray):=by
  rcases hat with rfl|h0
  . have:=run_storeCells_at P b at' ty news 0 vs w e1 (by omega) k7;simpa using this
  . have hn0:news=[]:=List.eq_nil_of_length_eq_zero (by rw[<- hl,h0];rfl);rw[hn0];simp only[storeCells,List.append_nil,List.length_nil,Nat.add_zero,List.take_append_drop];rw[show vs.toList.toArray=vs by simp,setRow_self w b vs ty (0,0) e1];rfl
 obtain⟨q1,q2,q3,q4,q5⟩:=h.write (t:=g) (H':=Hp.set H g (.blk true (over cells off cs))) (cells':=over cells off cs)
  (vs':=(vs.toList.take off++news++vs.toList.drop (off+news.length)).toArray) hg j1 e1 (.inl rfl) (by simp[Hp.set]) (fun e=>absurd rfl e)
  (fun k hk _=>by simp[Hp.set,hk]) (by rw[over_size (by omega)];exact e2) (by rw[over_length hfit];exact e3) (over_cells hfit (by omega) hl e5 k6)
 refine⟨_,hst,fun d r hr=>⟨_,q1,hr _ _ _ q2 q4,q2,fun q hq=>?_⟩⟩;by_cases e:q=g
 . subst e;simp[j1]
 . exact q3 q e
theorem tup0_ok (L:Nat->Prop) (w:World) (m:Nat->MB):VV L w m (.data (.tup [])) (.tuple #[]):=.data _ _ (.tup [] #[] rfl (fun i x v hx=>by simp at hx))
theorem clear_ok {t ty:TypeId} {x:D} {vx:Value} {K:D->List Nat->List (Nat×Blk)->Prop} (h:WR Γ L0 w0 m H w) (hx:VV (Live L0 m H) w m x vx) (hk:clearK P t x H K) :
 ∃ d rd u v w',K d rd u/\(Builtin.clear_ #[t] ty #[vx]).run P w = .ok v w'/\After Γ L0 w0 fr H m w d u v w':=by
 unfold clearK at hk;split at hk
 . rename_i e he;have hu:=und_slice P he;have row:∀ (g off len es b sz cap o cap':Nat) (cells:List D),H g = .blk true cells->m g = .at b sz->(o=off \/ cap=0)->len<=cap->szT P e=some es->off+len*es<=cells.length->vx = .slice (some ⟨b,o,none⟩) len cap' →
    (zerosK P e len fun z=>K (.data (.tup [])) [g] [(g,.blk true (over cells off z))]) →
    ∃ d rd u v w',K d rd u/\(Builtin.clear_ #[t] ty #[vx]).run P w = .ok v w'/\After Γ L0 w0 fr H m w d u v w':=by
    intro g off len es b sz cap o cap' cells hg hm ho hl hs hfit hv hk;unfold zerosK at hk;split at hk
    . rename_i z hz;obtain⟨hall,hsz,h0,hk⟩:=hk;rw[hs] at hsz;have hes:es=z.length:=by simpa using hsz
      obtain⟨i,v,k1,k2,k3,k4,k5,k6,k7⟩:=zeros_put (P:=P) (L:=Live L0 m H) (w:=w) (m:=m) hz hall h0 len;have hlen:(List.replicate len z).flatten.length=len*es:=by rw[k4,hes]
      obtain⟨w',hst,haf⟩:=put_row (P:=P) (fr:=fr) (at':=o) (off:=off) (cs:=(List.replicate len z).flatten) (news:=(Builtin.zeroCells v.cells len).toList) h hg hm (by rw[k4,k5]) (by omega) k6 k7 (by
       rcases ho with ho|ho
       . exact .inl ho
       . right;have:len=0:=by omega
         subst this;rfl)
      refine⟨_,_,_,.tuple #[],w',hk,?_,haf _ _ (fun L' w' m' _ _=>tup0_ok L' w' m')⟩;subst hv;by_cases hl0:len=0
      . subst hl0;have hz0:(Builtin.zeroCells v.cells 0).toList=[]:=List.eq_nil_of_length_eq_zero (by rw[k5];simp);rw[hz0] at hst;have hw:w'=w:=by simpa[storeCells] using hst.symm
        subst hw;simp[Builtin.clear_,run_underlying hu]
      . obtain⟨n,rfl⟩:∃ n,len=n+1:=⟨len-1,by omega⟩;simp[Builtin.clear_,run_underlying hu,zeroValue,typeInfo,k1,k2,hst]
    . exact hk.elim
   split at hk
   . cases hx with
     | emp _ a =>
       refine⟨_,_,_,.tuple #[],w,hk,?_,After.pure h (tup0_ok _ _ _)⟩;cases a<;>simp[Builtin.clear_,run_underlying hu]
   . rename_i g off len es;split at hk
     . rename_i cells hg;obtain⟨hs,hfit,hk⟩:=hk;cases hx with
       | ref _ _ _ _ b sz cap o j1 j2 j3 j4 j5=>exact row g off len es b sz cap o cap cells hg j1 j2 j4 hs hfit rfl hk
       | ref0 _ _ a j1 =>
         rcases h.heap.blk g true cells hg with⟨_,hc0⟩|⟨b,sz,vs,ty2,p1,_⟩
         . subst hc0;unfold zerosK at hk;split at hk
           . obtain⟨_,_,_,hk⟩:=hk;have e1:over ([]:List D) 0 []=[]:=rfl;simp only[List.replicate_zero,List.flatten_nil,e1] at hk;have:Hp.upd H [(g,.blk true [])]=H:=by
              funext k
              by_cases e:k=g
              . subst e;simp[Hp.upd,Hp.set,hg]
              . simp[Hp.upd,Hp.set,e]
             refine⟨_,_,_,.tuple #[],w,hk,by cases a<;>simp[Builtin.clear_,run_underlying hu],m,?_,tup0_ok _ _ _,?_,fun _ _=>rfl⟩
             . rw[this];exact h
             . rw[this];exact Grow.refl _ _
           . exact hk.elim
         . rw[j1] at p1;cases p1
     . exact hk.elim
   . rename_i g off len cp es;split at hk
     . rename_i cells hg;obtain⟨hs,hfit,hk⟩:=hk;cases hx with
       | cut _ _ _ _ _ b sz cap o j1 j2 j3 j4 j5 j6=>exact row g off len es b sz cap o cap cells hg j1 j2 (by omega) hs hfit rfl hk
     . exact hk.elim
   . exact hk.elim
 . exact hk.elim
theorem cut_ok {t:TypeId} {g off len cp es:Nat} {v:Value} {lo hi mx:Option Operand} {ρ:Operand->D} {σ:Operand->Value} {K:D->Prop} (hρ:∀ x,VV L w m (ρ x) (σ x)) (hv:VV L w m (.cut g off len cp es) v) (hk:cutK P t g off len cp es (lo.map ρ) (hi.map ρ) (mx.map ρ) K) :
 ∃ d u,K d/\VV L w m d u/\(Instr.sliceAt t v (lo.map σ) (hi.map σ) (mx.map σ)).run P w = .ok u w:=by
 unfold cutK at hk;split at hk
 . rename_i e he;obtain⟨hs,hk⟩:=hk;have hu:=und_slice P he;cases hv with
   | cut _ _ _ _ _ b sz cap o k1 k2 k3 k4 k5 k6 =>
   unfold boundsC at hk;split at hk
   . rename_i l h M hl hh hM;obtain⟨h0,h1,h2,h3,hk⟩:=hk;have hb:∀ (y:Nat) (k:IntKind) (n:Int) (c:BoundsCode),0<=n->n<=y->(Instr.sliceBound (.int k n) y c).run P w = .ok n.toNat w:=fun y k n c hn hy=>by
      simp[Instr.sliceBound,asIntOf,hn,hy]
     have hbound:∃ c,c<=cap/\M.toNat<=c/\(Instr.sliceBounds true len cap (lo.map σ) (hi.map σ) (mx.map σ)).run P w = .ok (l.toNat,h.toNat,c) w:=by
      have num:∀ (x:Operand) (n:Int),natD (ρ x)=some n->∃ k,σ x = .int k n:=fun x n hn=>natD_inv hn (hρ x);cases mx with
      | none =>
        simp only[Option.map_none,Option.some.injEq] at hM;subst hM;refine⟨cap,Nat.le_refl _,by omega,?_⟩;cases hi with
        | none =>
          simp only[Option.map_none,Option.some.injEq] at hh;subst hh;cases lo with
          | none =>
            simp only[Option.map_none,Option.some.injEq] at hl;subst hl;simp[Instr.sliceBounds]
          | some a =>
            obtain⟨k,e1⟩:=num a l (by simpa using hl);simp[Instr.sliceBounds,e1,hb len k l _ h0 (by omega)]
        | some c =>
          obtain⟨k2,e2⟩:=num c h (by simpa using hh);cases lo with
          | none =>
            simp only[Option.map_none,Option.some.injEq] at hl;subst hl;simp[Instr.sliceBounds,e2,hb cap k2 h _ (by omega) (by omega)]
          | some a =>
            obtain⟨k,e1⟩:=num a l (by simpa using hl);simp[Instr.sliceBounds,e1,e2,hb cap k2 h _ (by omega) (by omega),hb h.toNat k l _ h0 (by omega)]
      | some q =>
        obtain⟨k3,e3⟩:=num q M (by simpa using hM);refine⟨M.toNat,by omega,Nat.le_refl _,?_⟩;cases hi with
        | none=>simp at hh
        | some c =>
          obtain⟨k2,e2⟩:=num c h (by simpa using hh);cases lo with
          | none =>
            simp only[Option.map_none,Option.some.injEq] at hl;subst hl;simp[Instr.sliceBounds,e2,e3,hb cap k3 M _ (by omega) (by omega),hb M.toNat k2 h _ (by omega) (by omega)]
          | some a =>
            obtain⟨k,e1⟩:=num a l (by simpa using hl);simp[Instr.sliceBounds,e1,e2,e3,hb cap k3 M _ (by omega) (by omega),hb M.toNat k2 h _ (by omega) (by omega),hb h.toNat k l _ h0 (by omega)]
     obtain⟨c,c1,c2,hr⟩:=hbound;refine⟨_,.slice (if c=l.toNat then some ⟨b,o,none⟩ else some ⟨b,o+l.toNat*es,none⟩) (h.toNat-l.toNat) (c-l.toNat),hk,?_,?_⟩
     . have hmul:l.toNat*es+(c-l.toNat)*es=c*es:=by rw[<- Nat.add_mul];congr 1;omega
       have hmul2:c*es<=cap*es:=Nat.mul_le_mul_right _ c1;by_cases hci:c=l.toNat
       . rw[if_pos hci];exact .cut _ _ _ _ _ b sz _ o k1 (.inr (by omega)) (by omega) (by omega) (by omega) (by omega)
       . rw[if_neg hci];refine .cut _ _ _ _ _ b sz _ _ k1 ?_ (by omega) (by omega) (by omega) (by omega);rcases k2 with k2|k2
         . exact .inl (by rw[k2])
         . exact .inr (by omega)
     . simp only[Instr.sliceAt,run_underlying hu,Instr.slice,hr,run_sz P hs,Sem.run_bind,Result.andThen_ok,Sem.run_pure,Option.map_some,add_off]
   . exact hk.elim
 . exact hk.elim
theorem set_obj (h:WR Γ L0 w0 m H w) {g:Nat} {o o':Ob} (hg:H g = .obj o) {b:Nat} {v v':Obj} (hm:m g = .at b 0) (hb:w.heap[b]?=some v) (ho:ObIs (Live L0 m H) w m o' v') :
 ∃ w',w'={ w with heap:=w.heap.setIfInBounds b v' }/\∀ d r,(∀ L' w' m',Grow (Live L0 m H) w L' w'->(∀ k,m k≠.res->m' k=m k)->VV L' w' m' d r)->After Γ L0 w0 fr H m w d [(g,.obj o')] r w':=by
 refine⟨_,rfl,fun d r hr=>?_⟩;have hlt:=h.ltO hg hm;have hold:∀ k,k≠g->Hp.upd H [(g,.obj o')] k=H k:=fun k hk=>by simp[Hp.upd,Hp.set,hk]
 have hnew:Hp.upd H [(g,.obj o')] g = .obj o':=by simp[Hp.upd,Hp.set]
 have hlive:Live L0 m H b:=.inr ⟨g,0,by rw[hg];rfl,hm⟩;have hsub:∀ k,Live L0 m (Hp.upd H [(g,.obj o')]) k->Live L0 m H k:=by
  rintro k (hk|⟨q,sz,hq,hmq⟩)
  . exact .inl hk
  . by_cases e:q=g
    . subst e;exact .inr ⟨q,sz,by rw[hg];rfl,hmq⟩
    . rw[hold q e] at hq;exact .inr ⟨q,sz,hq,hmq⟩
 have hother:∀ k,k≠b->(w.heap.setIfInBounds b v')[k]?=w.heap[k]?:=fun k hk=>by simp[Ne.symm hk]
 have hbase:Own L0 w0.base b:=by
  obtain⟨b',v2,k1,k2,_,_⟩:=h.heap.obj g o hg;rw[k1] at hm;cases hm;exact k2
 have hbase1:=hbase.1;have hgrow:Grow (Live L0 m H) w (Live L0 m (Hp.upd H [(g,.obj o')])) { w with heap:=w.heap.setIfInBounds b v' } :=
  ⟨by simp,fun k hk hL=>⟨hother k (fun e=>hL (by rw[e];exact hlive)),fun hl=>hL (hsub k hl)⟩⟩
 refine⟨m,⟨⟨?_,?_,?_,?_⟩,?_,(fun k hk=>⟨Nat.lt_of_lt_of_le (h.l0 k hk).1 hgrow.size,(hother k (fun e=>hbase.2 (e ▸ hk))).trans (h.l0 k hk).2⟩),h.glob.mono hgrow⟩,hr _ _ _ hgrow (fun _ _=>rfl),hgrow,fun _ _=>rfl⟩
 . intro q rw cs hq;by_cases e:q=g
   . subst e;rw[hnew] at hq;cases hq
   . rw[hold q e] at hq;rcases h.heap.blk q rw cs hq with⟨k1,k2⟩|⟨b2,sz2,vs2,ty2,k1,k2,k3,k4,k5,k6,k7⟩
     . exact .inl ⟨k1,k2⟩
     . have hne:b2≠b:=fun e3=>h.apart hq hg k1 (by rw[hm,e3]);refine .inr ⟨b2,sz2,vs2,ty2,k1,k2,fun hrw hl=>k3 hrw (hsub _ hl),by rw[hother b2 hne];exact k4,k5,k6,fun i d hd=>?_⟩;obtain⟨v,hv,h1c,hvv⟩:=k7 i d hd;exact⟨v,hv,h1c,hvv.mono hgrow (fun _ _=>rfl)⟩
 . intro q q' cs rw' cs' b1 sz1 sz2 hq hq' hm1 hm2;have e:q≠g:=fun e=>by subst e;rw[hnew] at hq;cases hq
   have e':q'≠g:=fun e=>by subst e;rw[hnew] at hq';cases hq'
   rw[hold q e] at hq;rw[hold q' e'] at hq';exact h.heap.inj q q' cs rw' cs' b1 sz1 sz2 hq hq' hm1 hm2
 . intro q o2 hq;by_cases e:q=g
   . subst e;rw[hnew] at hq;cases hq;exact⟨b,v',hm,hbase,by simp[hlt],ho.mono hgrow (fun _ _=>rfl)⟩
   . rw[hold q e] at hq;obtain⟨b2,v2,k1,k2,k3,k4⟩:=h.heap.obj q o2 hq;have hne:b2≠b:=fun e3=>e (h.heap.injO q g o2 o b 0 0 hq hg (by rw[k1,e3]) hm);exact⟨b2,v2,k1,k2,by rw[hother b2 hne];exact k3,k4.mono hgrow (fun _ _=>rfl)⟩
 . intro q q' o1 o2 b1 s1 s2 hq hq' hm1 hm2;have old:∀ q o1,Hp.upd H [(g,.obj o')] q = .obj o1->∃ o,H q = .obj o:=fun q o1 hq=>by
    by_cases e:q=g
    . subst e;exact⟨o,hg⟩
    . exact⟨o1,by rw[<- hold q e];exact hq⟩
   obtain⟨p1,hp1⟩:=old q o1 hq;obtain⟨p2,hp2⟩:=old q' o2 hq';exact h.heap.injO q q' p1 p2 b1 s1 s2 hp1 hp2 hm1 hm2
 . have hbl:=h.below;refine hbl.trans ⟨rfl,rfl,rfl,by simp,fun k hk=>hother k (by omega)⟩
theorem new_obj (h:WR Γ L0 w0 m H w) (hfr:m fr = .res) {o:Ob} {v:Obj} (ho:ObIs (Live L0 m H) w m o v) {d:D} {r:Value} (hd:∀ L' w' m',m' fr = .at w.heap.size 0->VV L' w' m' d r):After Γ L0 w0 fr H m w d [(fr,.obj o)] r (w.alloc v):=by
 obtain⟨k1,k2,k3,k4⟩:=h.newB (fr:=fr) (w1:=w) (ob:=v) (sz:=0) (H':=Hp.set H fr (.obj o)) hfr ⟨rfl,rfl,rfl,rfl⟩ (fun g hg=>.inl (by simp[Hp.set,hg])) (fun rw cells hg=>by simp[Hp.set] at hg) (fun o' hg=>by
  simp[Hp.set] at hg;subst hg;exact⟨rfl,ho⟩)
 exact⟨_,k1,hd _ _ _ k4,k2,k3⟩
theorem und_map {t kt et:TypeId} (h:mapT P t=some (kt,et)):P.underlying t=some (.map kt et):=by
 unfold mapT at h;split at h
 . cases h;assumption
 . cases h
theorem key_plain {kt:TypeId} {k:Data} {v:Value} (h:keyT P kt k=true) (hv:VD L w k v):(∃ d,P.underlying kt=some d/\MapKept.IsKey d v) \/ ∃ cs n e,k = .agg cs/\P.underlying kt=some (.array n e)/\(bolL cs).isSome=true/\wideB P kt cs.length=true:=by
 unfold keyT at h;split at h
 . rename_i hu;cases hv;exact .inl ⟨_,hu,by simp only[MapKept.IsKey];simpa using h⟩
 . rename_i hu;cases hv;exact .inl ⟨_,hu,trivial⟩
 . rename_i hu;cases hv;exact .inl ⟨_,hu,trivial⟩
 . rename_i hu;exact .inr ⟨_,_,_,rfl,hu,(Bool.and_eq_true_iff.1 h).1,(Bool.and_eq_true_iff.1 h).2⟩
 . cases h
theorem keyEq_ok {d:TypeDesc} {k x:Data} {v u:Value} {r:Bool} (hd:MapKept.IsKey d v) (hk:VD L w k v) (hx:VD L w x u) (h:keyEq k x=some r):Instr.sameNow d v u=some r/\(r=true->u=v):=by
 unfold keyEq at h;split at h
 . cases hk;cases hx;split at h
   . rename_i e;subst e;cases h;cases d<;>simp_all[MapKept.IsKey,Instr.sameNow]
   . cases h
 . cases hk;cases hx;cases h;cases d<;>simp_all[MapKept.IsKey,Instr.sameNow,MapKept.bytes_beq]
 . cases hk;cases hx;cases h;cases d<;>simp_all[MapKept.IsKey,Instr.sameNow]
 . cases hk;cases d<;>simp[MapKept.IsKey] at hd
 . cases h
theorem find_ok {d:TypeDesc} {k:Data} {v:Value} (hd:MapKept.IsKey d v) (hk:VD L w k v):∀ (ks:List Data) (l:List MapEntry) (i:Nat) (r:Option Nat),ks.length=l.length->(∀ (j:Nat) (x:Data) (e:MapEntry),ks[j]?=some x->l[j]?=some e->VD L w x e.key)->findD k ks i=some r →
 (r=none/\Instr.findNow d v l i=some none) \/ ∃ j e,r=some (i+j)/\l[j]?=some e/\e.key=v/\Instr.findNow d v l i=some (some (i+j,e.val))
 | [],[],i,r,_,_,h=>by
   simp only[findD,Option.some.injEq] at h;exact .inl ⟨h.symm,rfl⟩
 | x::ks,e::l,i,r,hl,hv,h=>by
   have h0:=hv 0 x e rfl rfl;unfold findD at h;split at h
   . rename_i hq;obtain⟨h1,h2⟩:=keyEq_ok hd hk h0 hq;cases h;exact .inr ⟨0,e,rfl,rfl,h2 rfl,by simp[Instr.findNow,h1]⟩
   . rename_i hq;obtain⟨h1,_⟩:=keyEq_ok hd hk h0 hq;rcases find_ok hd hk ks l (i+1) r (by simpa using hl) (fun j x e a b=>hv (j+1) x e (by simpa using a) (by simpa using b)) h with⟨a,b⟩|⟨j,e',a,b,c,q⟩
     . exact .inl ⟨a,by simp[Instr.findNow,h1,b]⟩
     . exact .inr ⟨j+1,e',by rw[a];congr 1;omega,by simpa using b,c,by
        have:i+(j+1)=i+1+j:=by omega
        rw[this];simp[Instr.findNow,h1,q]⟩
   . cases h
 | [],_::_,_,_,hl,_,_=>by simp at hl
 | _::_,[],_,_,hl,_,_=>by simp at hl
theorem bols_mem:∀ l:List Bool,l∈bools l.length
 | []=>by simp[bools]
 | b::l=>by
   simp only[List.length_cons,bools,List.mem_flatMap];exact⟨l,bols_mem l,by cases b<;>simp⟩
theorem map_bool_inj:∀ {xs ys:List Bool},xs.map Value.bool=ys.map Value.bool->xs=ys
 | [],[],_=>rfl
 | a::xs,b::ys,h=>by
   simp only[List.map_cons,List.cons.injEq,Value.bool.injEq] at h;rw[h.1,map_bool_inj h.2]
 | [],_::_,h=>by simp at h
 | _::_,[],h=>by simp at h
theorem bolL_some:∀ {cs:List Data},(bolL cs).isSome=true->∃ bs:List Bool,cs=bs.map .bool
 | [],_=>⟨[],rfl⟩
 | .bool b::l,h=>by
   simp only[bolL,Option.isSome_map] at h;obtain⟨bs,rfl⟩:=bolL_some h;exact⟨b::bs,rfl⟩
 | .int _ _::_,h | .str _::_,h | .agg _::_,h | .sl _ _::_,h | .tup _::_,h | .fn _ _::_,h | .bn _ _::_,h | .nilf::_,h | .ifc _ _::_,h | .nili::_,h | .nilp::_,h | .nilm::_,h | .pc _::_,h | .mp _ _::_,h=>by simp[bolL] at h
theorem bolEq_some:∀ {xs:List Bool} {cs:List Data} {r:Bool},bolEq (xs.map .bool) cs=some r->∃ ys:List Bool,cs=ys.map .bool/\ys.length=xs.length/\(r=true ↔ xs=ys)
 | [],[],r,h=>by
   simp only[List.map_nil,bolEq,Option.some.injEq] at h;exact⟨[],rfl,rfl,by simp[<- h]⟩
 | x::xs,.bool y::l,r,h=>by
   simp only[List.map_cons,bolEq,Option.map_eq_some_iff] at h;obtain⟨q,hq,rfl⟩:=h;obtain⟨ys,rfl,hl,hi⟩:=bolEq_some hq;exact⟨y::ys,rfl,by simp[hl],by simp[hi]⟩
 | [],_::_,r,h=>by simp[bolEq] at h
 | _::_,[],r,h=>by simp[bolEq] at h
 | _::_,.int _ _::_,_,h|_::_,.str _::_,_,h|_::_,.agg _::_,_,h|_::_,.sl _ _::_,_,h|_::_,.tup _::_,_,h|_::_,.fn _ _::_,_,h|_::_,.bn _ _::_,_,h|_::_,.nilf::_,_,h|_::_,.ifc _ _::_,_,h|_::_,.nili::_,_,h|_::_,.nilp::_,_,h|_::_,.nilm::_,_,h|_::_,.pc _::_,_,h|_::_,.mp _ _::_,_,h=>by simp[bolEq] at h
theorem bols_val {bs:List Bool} {v:Value} (h:VD L w (.agg (bs.map .bool)) v):v = .agg (bs.map Value.bool).toArray:=by
 cases h with
 | agg cs vs hl h =>
 congr 1;apply Array.ext (by simpa using hl.symm);intro i h1 h2;have hb:i<bs.length:=by simpa using h2
 have:=h i (.bool bs[i]) vs[i] (by simp[hb]) (Array.getElem?_eq_getElem h1);cases hv:vs[i] with
 | bool b=>rw[hv] at this;cases this;simp
 | _=>rw[hv] at this;cases this
structure KeyIs (P:Program) (L:Nat->Prop) (w:World) (kt:TypeId) (k:Data) (v:Value):Prop where
 check:∀ em,(Instr.checkKey em 10000 kt v).run P w = .ok () w
 stays:(Instr.keyThatStays v v).run P w = .ok v w
 find:∀ (ks:List Data) (l:List MapEntry) (r:Option Nat),ks.length=l.length->(∀ (j:Nat) (x:Data) (e:MapEntry),ks[j]?=some x->l[j]?=some e->VD L w x e.key)->findD k ks 0=some r →
  (r=none/\(Instr.findKey kt v l).run P w = .ok none w) \/ ∃ j e,r=some j/\l[j]?=some e/\e.key=v/\(Instr.findKey kt v l).run P w = .ok (some (j,e.val)) w
theorem ask_ok {kt:TypeId} {bs:List Bool} (hk:P.keyTypeAt 9 kt=true) (ht:P.tiled 9 kt=true) (hwide:(match P.underlying kt with|some (.array _ _)|some (.struct _)=>true|_=>false)=true)
 (hall:∀ ys:List Bool,ys.length=bs.length->∃ l,keyOf P kt (.agg (ys.map Value.bool).toArray)=some l):∀ (ks:List Data) (l:List MapEntry) (i:Nat) (r:Option Nat),ks.length=l.length->(∀ (j:Nat) (x:Data) (e:MapEntry),ks[j]?=some x->l[j]?=some e->VD L w x e.key)->findD (.agg (bs.map .bool)) ks i=some r →
 (r=none/\(Instr.findAsking kt (.agg (bs.map Value.bool).toArray) l i).run P w = .ok none w) \/ ∃ j e,r=some (i+j)/\l[j]?=some e/\e.key = .agg (bs.map Value.bool).toArray/\(Instr.findAsking kt (.agg (bs.map Value.bool).toArray) l i).run P w = .ok (some (i+j,e.val)) w
 | [],[],i,r,_,_,h=>by
   simp only[findD,Option.some.injEq] at h;exact .inl ⟨h.symm,by simp[Instr.findAsking]⟩
 | x::ks,e::l,i,r,hl,hv,h=>by
   have h0:=hv 0 x e rfl rfl;have law:=deep_law (P:=P) (m:=9) (by omega) hk ht hwide;have eqs:∀ q,keyEq (.agg (bs.map .bool)) x=some q->(Op.equal kt (.agg (bs.map Value.bool).toArray) e.key).run P w = .ok q w/\(q=true->e.key = .agg (bs.map Value.bool).toArray):=by
    intro q hq;cases x with
    | agg cs =>
      obtain⟨ys,rfl,hyl,hyi⟩:=bolEq_some (show bolEq (bs.map .bool) cs=some q from hq);have he:=bols_val h0;obtain⟨l1,hl1⟩:=hall bs rfl;obtain⟨l2,hl2⟩:=hall ys hyl;rw[he];obtain⟨p,hp,hiff⟩:=run_equal_deep w (show 9<=10000 by omega) hk hwide hl1 hl2;have hpq:p=q:=by
       have h1:p=true ↔ bs=ys:=by
        rw[hiff];constructor
        . intro e1;rw[<- e1] at hl2;have:=law.inj hl1 hl2;have h3:(bs.map Value.bool)=(ys.map Value.bool):=by simpa using this
          exact map_bool_inj h3
        . rintro rfl;rw[hl1] at hl2;exact Option.some.inj hl2
       cases p<;>cases q<;>simp_all
      subst hpq;refine⟨hp,fun e1=>?_⟩;rw[hyi.1 e1]
    | _=>cases hq
   unfold findD at h;split at h
   . rename_i hq;obtain⟨h1,h2⟩:=eqs _ hq;cases h;exact .inr ⟨0,e,rfl,rfl,h2 rfl,by simp[Instr.findAsking,h1]⟩
   . rename_i hq;obtain⟨h1,_⟩:=eqs _ hq;rcases ask_ok hk ht hwide hall ks l (i+1) r (by simpa using hl) (fun j x e a b=>hv (j+1) x e (by simpa using a) (by simpa using b)) h with⟨a,b⟩|⟨j,e',a,b,c,q⟩
     . exact .inl ⟨a,by simp[Instr.findAsking,h1,b]⟩
     . refine .inr ⟨j+1,e',by rw[a];congr 1;omega,by simpa using b,c,?_⟩;have:i+(j+1)=i+1+j:=by omega
       rw[this];simp[Instr.findAsking,h1,q]
   . cases h
 | [],_::_,_,_,hl,_,_=>by simp at hl
 | _::_,[],_,_,hl,_,_=>by simp at hl
theorem key_is {kt:TypeId} {k:Data} {v:Value} (h:keyT P kt k=true) (hv:VD L w k v):KeyIs P L w kt k v:=by
 rcases key_plain h hv with⟨d,hu,hd⟩|⟨cs,n,e,rfl,hu,hs,hw⟩
 . refine⟨fun em=>MapKept.run_checkKey hu hd em 9999,MapKept.run_keyThatStays hd,fun ks l r hl hvs hf=>?_⟩;rcases find_ok hd hv ks l 0 r hl hvs hf with⟨a,q⟩|⟨j,e,a,b,c,q⟩
   . exact .inl ⟨a,MapKept.run_findKey hu q⟩
   . rw[Nat.zero_add] at a q;exact .inr ⟨j,e,a,b,c,MapKept.run_findKey hu q⟩
 . obtain⟨bs,rfl⟩:=bolL_some hs;have hb:=bols_val hv;subst hb;unfold wideB at hw;rw[Bool.and_eq_true,Bool.and_eq_true,List.all_eq_true] at hw;obtain⟨⟨hk,ht⟩,hall⟩:=hw;have hwide:(match P.underlying kt with|some (.array _ _)|some (.struct _)=>true|_=>false)=true:=by rw[hu]
   have law:=deep_law (P:=P) (m:=9) (by omega) hk ht hwide;have hall:∀ ys:List Bool,ys.length=bs.length->∃ l,keyOf P kt (.agg (ys.map Value.bool).toArray)=some l:=fun ys hy=>by
    have:=hall ys (by rw[List.length_map,<- hy];exact bols_mem ys);exact Option.isSome_iff_exists.1 this
   obtain⟨l0,hl0⟩:=hall bs rfl;refine⟨fun em=>law.check w em hl0,law.stays w hl0,fun ks l r hl hvs hf=>?_⟩;rw[run_findKey_eq w hwide];rcases ask_ok hk ht hwide hall ks l 0 r hl hvs hf with⟨a,q⟩|⟨j,e,a,b,c,q⟩
   . exact .inl ⟨a,q⟩
   . rw[Nat.zero_add] at a q;exact .inr ⟨j,e,a,b,c,q⟩
theorem zv_ok {t:TypeId} {K:D->Prop} (h:zvK P t K):∃ d v,K d/\(∀ (L:Nat->Prop) (w:World) (m:Nat->MB),VV L w m d v)/\∀ w,(zeroValue t).run P w = .ok v w:=by
 unfold zvK at h;split at h
 . rename_i d hd;unfold zvT at hd;cases hi:P.info? t with
   | none=>rw[hi] at hd;cases hd
   | some i =>
     rw[hi,Option.bind_some,Option.map_eq_some_iff] at hd;obtain⟨v,hv,rfl⟩:=hd;refine⟨_,v,h,fun L w m=>?_,fun w=>by simp[zeroValue,typeInfo,hi,hv]⟩;unfold zvD;split
     . rename_i vs;refine VV.mk_agg (by simp) fun i x u hx hu=>?_;simp only[List.getElem?_map,Option.map_eq_some_iff,Array.getElem?_toList] at hx;obtain⟨y,hy,rfl⟩:=hx;rw[hu] at hy;cases hy;exact cD_ok _
     . exact cD_ok _
 . exact h.elim
theorem pair_ok {d:D} {b:Bool} {v:Value} (h:VV L w m d v):VV L w m (pairD d b) (.tuple #[v,.bool b]):=by
 unfold pairD;split
 . rename_i x;have hv:=h.data_inv;refine .data _ _ (.tup _ _ rfl fun i y u hy hu=>?_)
   match i with
   | 0=>simp at hy hu;subst hy;subst hu;exact hv
   | 1=>simp at hy hu;subst hy;subst hu;exact .bool b
   | i+2=>simp at hy
 . refine .tp _ _ rfl fun i y u hy hu=>?_
   match i with
   | 0=>simp at hy hu;subst hy;subst hu;exact h
   | 1=>simp at hy hu;subst hy;subst hu;exact .data _ _ (.bool b)
   | i+2=>simp at hy
theorem look_ok {kt et:TypeId} {ks:List Data} {xs:List D} {es:Array MapEntry} {k:Data} {v:Value} {ok:Bool} {K:D->Prop} (hd:KeyIs P L w kt k v) (hkl:ks.length=es.size) (hxl:xs.length=es.size)
 (hkv:∀ (i:Nat) (x:Data) (e:MapEntry),ks[i]?=some x->es[i]?=some e->VD L w x e.key) (hxv:∀ (i:Nat) (x:D) (e:MapEntry),xs[i]?=some x->es[i]?=some e->VV L w m x e.val) (h:lookK P et ks xs k ok K) :
 ∃ r u a,K r/\VV L w m r u/\(Instr.findKey kt v es.toList).run P w = .ok a w/\((∃ p,a=some p/\u=if ok then Value.tuple #[p.2,.bool true] else p.2) \/ (a=none/\∃ z,(zeroValue et).run P w = .ok z w/\u=if ok then Value.tuple #[z,.bool false] else z)):=by
 unfold lookK at h;split at h
 . rename_i i hf;rcases hd.find ks es.toList _ (by simpa using hkl) (fun j x e a b=>hkv j x e a (by simpa using b)) hf with⟨a,_⟩|⟨j,e,a,b,c,hrun⟩
   . cases a
   . simp only[Option.some.injEq] at a;subst a;split at h
     . rename_i x hx;have hv:=hxv i x e hx (by simpa using b);refine⟨_,if ok then Value.tuple #[e.val,.bool true] else e.val,_,h,?_,hrun,.inl ⟨_,rfl,rfl⟩⟩;cases ok
       . exact hv
       . exact pair_ok hv
     . exact h.elim
 . rename_i hf;rcases hd.find ks es.toList _ (by simpa using hkl) (fun j x e a b=>hkv j x e a (by simpa using b)) hf with⟨_,hrun⟩|⟨j,e,a,_⟩
   . obtain⟨z,u,h,hv,hz⟩:=zv_ok h;refine⟨_,if ok then Value.tuple #[u,.bool false] else u,_,h,?_,hrun,.inr ⟨rfl,u,hz w,rfl⟩⟩;cases ok
     . exact hv L w m
     . exact pair_ok (hv L w m)
   . cases a
 . exact h.elim
theorem lookup_ok {t:TypeId} {x key:D} {ok:Bool} {vx vk:Value} {K:D->List Nat->Prop} (h:WR Γ L0 w0 m H w) (hx:VV (Live L0 m H) w m x vx) (hkey:VV (Live L0 m H) w m key vk) (hk:lookupK P t x key ok H K) :
 ∃ d rd u,K d rd/\VV (Live L0 m H) w m d u/\(Instr.lookup t vx vk ok).run P w = .ok u w:=by
 unfold lookupK at hk;split at hk
 . rename_i kt et k hm;obtain⟨hkt,hk⟩:=hk;have hkv:=hkey.data_inv;have hd:=key_is hkt hkv;have hum:=und_map hm;split at hk
   . rename_i ks xs;have hx:=hx.data_inv;cases hx with
     | mp _ _ b es clock hb hL hh hkl hxl h1 h2 hborn hclock =>
     obtain⟨r,u,a,q1,q2,q3,q4⟩:=look_ok (m:=m) (xs:=xs.map .data) hd hkl (by simpa using hxl) h1 (fun i x e hx he=>by
      rw[List.getElem?_map,Option.map_eq_some_iff] at hx;obtain⟨y,hy,rfl⟩:=hx;exact .data _ _ (h2 i y e hy he)) hk
     refine⟨r,_,u,q1,q2,?_⟩;simp only[Instr.lookup,run_underlying hum,Sem.run_bind,Result.andThen_ok,MapKept.run_getObj_map hh,Sem.run_pure,hd.check,q3];rcases q4 with⟨p,rfl,rfl⟩|⟨rfl,z,hz,rfl⟩
     . simp
     . simp[hz]
   . rename_i g;split at hk
     . rename_i ks xs hg;obtain⟨b,v,k1,k2,k3,k4⟩:=h.heap.obj g _ hg;cases hx with
       | mref _ b' hm' =>
       rw[k1] at hm';cases hm';cases k4 with
       | mp _ _ es clock hkl hxl h1 h2 hborn hclock =>
       obtain⟨r,u,a,q1,q2,q3,q4⟩:=look_ok (m:=m) hd hkl hxl h1 h2 hk;refine⟨r,_,u,q1,q2,?_⟩;simp only[Instr.lookup,run_underlying hum,Sem.run_bind,Result.andThen_ok,MapKept.run_getObj_map k3,Sem.run_pure,hd.check,q3];rcases q4 with⟨p,rfl,rfl⟩|⟨rfl,z,hz,rfl⟩
       . simp
       . simp[hz]
     . exact hk.elim
   . exact hk.elim
 . exact hk.elim
theorem insert_ok {t:TypeId} {x key d:D} {vx vk v:Value} {K:List Nat->List (Nat×Blk)->Prop} (h:WR Γ L0 w0 m H w) (hx:VV (Live L0 m H) w m x vx) (hkey:VV (Live L0 m H) w m key vk) (hv:VV (Live L0 m H) w m d v) (hk:insertK P t x key d H K) :
 ∃ rd u w',K rd u/\(Instr.mapUpdate t vx vk v).run P w = .ok () w'/\After Γ L0 w0 fr H m w .junk u undef w':=by
 unfold insertK at hk;split at hk
 . rename_i kt et k g hm;obtain⟨hkt,hk⟩:=hk;have hkv:=hkey.data_inv;have hd:=key_is hkt hkv;have hum:=und_map hm;split at hk
   . rename_i ks xs hg;obtain⟨b,ob,k1,k2,k3,k4⟩:=h.heap.obj g _ hg;cases hx with
     | mref _ b' hm' =>
     rw[k1] at hm';cases hm';cases k4 with
     | mp _ _ es clock hkl hxl h1 h2 hborn hclock =>
     split at hk
     . rename_i i hf;rcases hd.find ks es.toList _ (by simpa using hkl) (fun j x e a b=>h1 j x e a (by simpa using b)) hf with⟨a,_⟩|⟨j,e,a,b',c,q⟩
       . cases a
       . simp only[Option.some.injEq] at a;subst a;have hei:es[i]?=some e:=by simpa using b'
         have hob:ObIs (Live L0 m H) w m (.mp ks (xs.set i d)) (.map (es.modify i fun e=>{ e with key:=vk,val:=v }) clock):=by
          refine .mp _ _ _ _ (by simpa using hkl) (by simpa using hxl) (fun j x e' hx he=>?_) (fun j x e' hx he=>?_) (fun j e' he=>?_) (by simpa using hclock)
          . rw[Array.getElem?_modify] at he;split at he
            . rename_i e1;subst e1;rw[hei] at he;simp only[Option.map_some,Option.some.injEq] at he;subst he;have:=h1 i x e hx hei;rw[c] at this;exact this
            . exact h1 j x e' hx he
          . rw[Array.getElem?_modify] at he;split at he
            . rename_i e1;subst e1;rw[hei] at he;simp only[Option.map_some,Option.some.injEq] at he;subst he;have hlt:i<xs.length:=by rw[hxl];exact (Array.getElem?_eq_some_iff.1 hei).1
              rw[List.getElem?_set_self hlt] at hx;cases hx;exact hv
            . rename_i e1;rw[List.getElem?_set_ne e1] at hx;exact h2 j x e' hx he
          . rw[Array.getElem?_modify] at he;split at he
            . rename_i e1;subst e1;rw[hei] at he;simp only[Option.map_some,Option.some.injEq] at he;subst he;exact hborn i e hei
            . exact hborn j e' he
         obtain⟨w',hw',haf⟩:=set_obj (fr:=fr) h hg k1 k3 hob;refine⟨_,_,w',hk,?_,haf _ _ (fun _ _ _ _ _=>.junk _)⟩;rw[hw'];have hstay:(Instr.keyThatStays e.key vk).run P w = .ok vk w:=by rw[c];exact hd.stays
         simp[Instr.mapUpdate,run_underlying hum,MapKept.run_getObj_map k3,hd.check,q,hei,hstay,MapKept.run_setObj_map _ k3]
     . rename_i hf;rcases hd.find ks es.toList _ (by simpa using hkl) (fun j x e a b=>h1 j x e a (by simpa using b)) hf with⟨_,q⟩|⟨j,e,a,_⟩
       . have hob:ObIs (Live L0 m H) w m (.mp (ks++[k]) (xs++[d])) (.map (es.push { key:=vk,val:=v,born:=clock }) (clock+1)):=by
          refine .mp _ _ _ _ (by simp[hkl]) (by simp[hxl]) (fun j x e' hx he=>?_) (fun j x e' hx he=>?_) (fun j e' he=>?_) (by simp[hclock])
          . rw[Array.getElem?_push] at he;split at he
            . rename_i e1;cases he;rw[List.getElem?_append_right (by omega)] at hx;have:j-ks.length=0:=by omega
              rw[this] at hx;simp at hx;subst hx;exact hkv
            . have hlt:j<es.size:=(Array.getElem?_eq_some_iff.1 he).1;rw[List.getElem?_append_left (by omega)] at hx;exact h1 j x e' hx he
          . rw[Array.getElem?_push] at he;split at he
            . rename_i e1;cases he;rw[List.getElem?_append_right (by omega)] at hx;have:j-xs.length=0:=by omega
              rw[this] at hx;simp at hx;subst hx;exact hv
            . have hlt:j<es.size:=(Array.getElem?_eq_some_iff.1 he).1;rw[List.getElem?_append_left (by omega)] at hx;exact h2 j x e' hx he
          . rw[Array.getElem?_push] at he;split at he
            . rename_i e1;cases he;simp[hclock,e1]
            . exact hborn j e' he
         obtain⟨w',hw',haf⟩:=set_obj (fr:=fr) h hg k1 k3 hob;refine⟨_,_,w',hk,?_,haf _ _ (fun _ _ _ _ _=>.junk _)⟩;rw[hw'];simp[Instr.mapUpdate,run_underlying hum,MapKept.run_getObj_map k3,hd.check,q,MapKept.run_setObj_map _ k3]
       . cases a
     . exact hk.elim
   . exact hk.elim
 . exact hk.elim
theorem makeMap_ok {t:TypeId} (h:WR Γ L0 w0 m H w) (hfr:m fr = .res):∃ v w',(Instr.makeMap t none).run P w = .ok v w'/\After Γ L0 w0 fr H m w (.mref fr) [(fr,.obj (.mp [] []))] v w':=by
 refine⟨.map (some w.heap.size),w.alloc (.map #[] 0),by simp[Instr.makeMap],new_obj h hfr (.mp [] [] #[] 0 rfl rfl (fun i x e hx=>by simp at hx) (fun i x e hx=>by simp at hx) (fun i e he=>by simp at he) rfl) fun L' w' m' hm=>.mref fr _ hm⟩
theorem range_ok {t:TypeId} {q:TypeId×TypeId} {ks xs:List Data} {vx:Value} (h:WR Γ L0 w0 m H w) (hfr:m fr = .res) (hq:mapT P t=some q) (hx:VV (Live L0 m H) w m (.data (.mp ks xs)) vx) :
 ∃ v w',(Instr.range t vx).run P w = .ok v w'/\After Γ L0 w0 fr H m w (.iref fr) [(fr,.obj (.it ks xs (List.range ks.length) none))] v w':=by
 obtain⟨kt,et⟩:=q;have hx0:=hx.data_inv;have hx:=hx0;cases hx with
 | mp _ _ b es clock hb hL hh hkl hxl h1 h2 hborn hclock =>
 refine⟨.pointer (some ⟨w.heap.size,0,none⟩),w.alloc (.mapIter (some b) ks.length #[] ks.length),?_,new_obj h hfr (.it ks xs _ none b #[] hx0 (fun i=>by simp) (fun i hi=>by cases hi)) fun L' w' m' hm=>.iref fr _ hm⟩;simp[Instr.range,run_underlying (und_map hq),MapKept.run_getObj_map hh,hclock,<- hkl]
theorem run_getObj_any {r:Nat} {o:Obj} (hb:w.heap[r]?=some o) (hn:∀ vs ty fz,o≠.cells vs ty fz):(getObj r).run P w = .ok o w:=by
 cases o<;>simp_all[getObj,Sem.run]
theorem range_str_ok {t:TypeId} {s:ByteArray} {vx:Value} (h:WR Γ L0 w0 m H w) (hfr:m fr = .res) (ht:strT P t=true) (hx:VV (Live L0 m H) w m (.data (.str s)) vx) :
 ∃ v w',(Instr.range t vx).run P w = .ok v w'/\After Γ L0 w0 fr H m w (.iref fr) [(fr,.obj (.si s 0))] v w':=by
 have hx:=hx.data_inv;cases hx with
 | str _ =>
 refine⟨.pointer (some ⟨w.heap.size,0,none⟩),w.alloc (.stringIter s 0),?_,new_obj h hfr (.si s 0) fun L' w' m' hm=>.iref fr _ hm⟩;simp[Instr.range,run_underlying (und_str P ht)]
theorem snext_ok {x:D} {vx:Value} {ty:TypeId} {K:D->List Nat->List (Nat×Blk)->Prop} (h:WR Γ L0 w0 m H w) (hx:VV (Live L0 m H) w m x vx) (hk:snextK x H K) :
 ∃ d rd u r w',K d rd u/\(Instr.next vx true ty).run P w = .ok r w'/\After Γ L0 w0 fr H m w d u r w':=by
 unfold snextK at hk;split at hk
 . rename_i g;split at hk
   . rename_i s pos hg;obtain⟨b,ob,k1,k2,k3,k4⟩:=h.heap.obj g _ hg;cases hx with
     | iref _ b' hm' =>
     rw[k1] at hm';cases hm';cases k4 with
     | si _ _ =>
     have hgi:=run_getObj_any (P:=P) k3 (fun vs ty fz e=>by cases e);by_cases hlt:pos<s.size
     . rw[if_pos hlt] at hk;obtain⟨w',hw',haf⟩:=set_obj (fr:=fr) h hg k1 k3 (o':=.si s (pos+(Utf8.decode s pos).2)) (.si s (pos+(Utf8.decode s pos).2));refine⟨_,_,_,.tuple #[.bool true,goInt pos,.int .i32 (Utf8.decode s pos).1],w',hk,?_,haf _ _ fun L' w2 m' hgr _=>.data _ _ (.tup _ _ rfl fun j y u hy hu=>?_)⟩
       . have hset:(setObj b (.stringIter s (pos+(Utf8.decode s pos).2))).run P w = .ok () w':=by
          rw[hw'];simp[setObj,Sem.run,k3]
         simp[Instr.next,hgi,hlt,hset]
       . match j with
         | 0=>simp at hy hu;subst hy;subst hu;exact .bool true
         | 1=>simp at hy hu;subst hy;subst hu;exact .int .i64 _
         | 2=>simp at hy hu;subst hy;subst hu;exact .int .i32 _
         | j+3=>simp at hy
     . rw[if_neg hlt] at hk;refine⟨_,_,_,.tuple #[.bool false],w,hk,?_,After.pure h (.data _ _ (.tup _ _ rfl fun i y u hy hu=>?_))⟩
       . simp[Instr.next,hgi,hlt]
       . match i with
         | 0=>simp at hy hu;subst hy;subst hu;exact .bool false
         | i+1=>simp at hy
   . exact hk.elim
 . exact hk.elim
theorem entry_ok {x:D} {vx:Value} {K:D->List Nat->Prop} (h:WR Γ L0 w0 m H w) (hx:VV (Live L0 m H) w m x vx) (hk:entryK x H K) :
 ∃ d rd u,K d rd/\VV (Live L0 m H) w m d u/\(Instr.entry vx).run P w = .ok u w:=by
 unfold entryK at hk;split at hk
 . rename_i g;split at hk
   . rename_i ks xs left i hg;obtain⟨k,x,hki,hxi,hk⟩:=hk;obtain⟨b,ob,k1,k2,k3,k4⟩:=h.heap.obj g _ hg;cases hx with
     | iref _ b' hm' =>
     rw[k1] at hm';cases hm';cases k4 with
     | it _ _ _ _ bm seen hv hleft hcur =>
     obtain⟨e1,e2⟩:=hcur i rfl;cases hv with
     | mp _ _ _ es clock hb hL hh hkl hxl h1 h2 hborn hclock =>
     have hlt:i<es.size:=by omega
     have hei:es[i]?=some es[i]:=Array.getElem?_eq_getElem hlt;have hfind:es.find? (·.born == i)=some es[i]:=by
      rw[Array.find?_eq_some_iff_getElem];refine⟨by simp[hborn i _ hei],i,hlt,rfl,fun j hj=>?_⟩;have:=hborn j es[j] (Array.getElem?_eq_getElem (by omega));simp[this];omega
     refine⟨_,_,.tuple #[es[i].key,es[i].val],hk,.data _ _ (.tup _ _ rfl fun j y u hy hu=>?_),?_⟩
     . match j with
       | 0=>simp at hy hu;subst hy;subst hu;exact h1 i k _ hki hei
       | 1=>simp at hy hu;subst hy;subst hu;exact h2 i x _ hxi hei
       | j+2=>simp at hy
     . have hg1:=run_getObj_any (P:=P) k3 (fun vs ty fz e=>by cases e);simp[Instr.entry,hg1,e1,MapKept.run_getObj_map hh,hclock,hkl,hfind]
   . exact hk.elim
 . exact hk.elim
end
section
variable {P:Program} {Γ:Nat->Option (List Data)} {L0:Nat->Prop} {w0:W0} {m:Nat->MB} {H:Nat->Blk} {w:World} {fr:Nat} {L:Nat->Prop}
theorem append_ok {st xt ty:TypeId} {x y:D} {vx vy:Value} {K:D->List Nat->List (Nat×Blk)->Prop} (h:WR Γ L0 w0 m H w) (hfr:m fr = .res) (hd:H fr = .dead) (hx:VV (Live L0 m H) w m x vx) (hy:VV (Live L0 m H) w m y vy) (hk:appendK P st xt x y H fr K) :
 ∃ d rd u v w',K d rd u/\(Builtin.append_ #[st,xt] ty #[vx,vy]).run P w = .ok v w'/\After Γ L0 w0 fr H m w d u v w':=by
 rw[append_any];unfold appendK at hk;split at hk
 . rename_i e he;split at hk
   . rename_i es by_ hs hb;obtain⟨hes,hzl,hk⟩:=hk;obtain⟨ie,ze,hie,hze,hzs⟩:=zl_of hzl;have hbind:(P.info? e).bind (·.zero)=some ze:=by rw[hie];exact hze
     split at hk
     . -- nothing,or an empty row
       cases hx with
       | emp _ a =>
       split at hk
       . rename_i hxi;split at hk
         . rename_i k n;obtain⟨h00,hb1,hb2,hk⟩:=hk;have h0:0<=n:=by omega
           obtain rfl:=int_inv hy;unfold zerosK at hk;split at hk
           . rename_i z hz;obtain⟨hall,hsz,hz0,hk⟩:=hk;have hzz:es=z.length:=by rw[hs] at hsz;simpa using hsz
             obtain⟨i,v,k1,k2,k3,k4,k5,k6,k7⟩:=zeros_put (L:=Live L0 m H) (w:=w) (m:=m) hz hall hz0 n.toNat;rw[hie] at k1;cases k1;rw[hze] at k2;cases k2;have hput:=put_zeros (P:=P) (w:=w) (k:=k) (n:=n.toNat) he hs hes hb hxi hbind hzs a 0 0 (by omega) (by
              rw[Nat.zero_add];have:((n.toNat*by_:Nat):Int)<=((140737488355328:Nat):Int):=by rw[Int.natCast_mul,Int.toNat_of_nonneg h0];exact hb1
              exact Int.ofNat_le.1 this)
             rw[Int.toNat_of_nonneg h0] at hput;obtain⟨v',w',m',q1,q2,q3,q4,q5⟩:=append_core h hfr (olds:=[]) (old:=[]) (cs:=(List.replicate n.toNat z).flatten) (H':=Hp.set H fr (.blk true (List.replicate n.toNat z).flatten)) hes he hbind hzs hput (by rw[k4,hzz]) (by rw[k5,hzz]) (Nat.zero_le _) (by omega) k6 k7
              (by simp[Hp.set]) (.inl ⟨rfl,rfl,rfl,rfl,fun g hg=>.inl (by simp[Hp.set,hg])⟩)
             rw[Nat.zero_add] at q3;have hpos:0<n.toNat:=by omega
             refine⟨_,_,_,v',w',hk,q1,m',q2,?_,q4,q5⟩;generalize n.toNat=q at q3 hpos;cases q3 with
             | ref _ _ _ _ b sz cap o j1 j2 j3 j4 j5=>exact .cut fr 0 q q es b sz cap o j1 j2 j3 (Nat.le_refl _) j4 j5
             | ref0=>omega
           . exact hk.elim
         . exact hk.elim
       . rename_i hxi;obtain⟨hxs,hk⟩:=hk;obtain⟨n,cs,rd,news,hk,hsrc⟩:=src_ok (P:=P) h hy hk;obtain⟨hall,hb1,hb2,hk⟩:=hk;obtain⟨k6,k7⟩:=hsrc.cells hall;have hput:=put_src (st:=st) he hs hb hxs hsrc a 0 0 (by omega) (by rw[Nat.zero_add];exact hb1);obtain⟨v',w',m',q1,q2,q3,q4,q5⟩:=append_core h hfr (olds:=[]) (old:=[]) (cs:=cs) (H':=Hp.set H fr (.blk true cs)) hes he hbind hzs hput hsrc.cl hsrc.nl (Nat.zero_le _) (by omega) k6 k7
          (by simp[Hp.set]) (.inl ⟨rfl,rfl,rfl,rfl,fun g hg=>.inl (by simp[Hp.set,hg])⟩)
         rw[Nat.zero_add] at q3;exact⟨_,_,_,v',w',hk,q1,m',q2,q3,q4,q5⟩
     . -- a row of the call's own
       rename_i g len es';obtain⟨rfl,hk⟩:=hk;split at hk
       . rename_i cells hg;obtain⟨hcl,hk⟩:=hk;have hfg:fr≠g:=fun e=>by subst e;rw[hd] at hg;cases hg
         have finish:∀ (n:Nat) (cs:List D) (news:List Value) (rd:List Nat),K (.ref fr 0 (len+n) es') rd [(g,.dead),(fr,.blk true (cells++cs))]->(∀ base sCap,Put P w st xt es' by_ n news vy base len sCap)->cs.length=n*es'->news.length=n*es'->len+n<=140737488355328 →
          (∀ (i:Nat) (d:D),cs[i]?=some d->∃ u,news[i]?=some u/\u.oneCell'=true/\VV (Live L0 m H) w m d u)->(∀ u∈news,u.oneCell'=true) →
          ∃ d rd u v w',K d rd u/\(Builtin.append_ #[st,xt] 0 #[vx,vy]).run P w = .ok v w'/\After Γ L0 w0 fr H m w d u v w':=by
          intro n cs news rd hk hput hc1 hc2 hb2 k6 k7;have hnew:Hp.upd H [(g,.dead),(fr,.blk true (cells++cs))] fr = .blk true (cells++cs):=by simp[Hp.upd,Hp.set]
          have hgone:Hp.upd H [(g,.dead),(fr,.blk true (cells++cs))] g = .dead:=by simp[Hp.upd,Hp.set,hfg.symm]
          have hold:∀ k,k≠fr->k≠g->Hp.upd H [(g,.dead),(fr,.blk true (cells++cs))] k=H k:=fun k h1 h2=>by simp[Hp.upd,Hp.set,h1,h2]
          cases hx with
          | ref _ _ _ _ b sz cap o j1 j2 j3 j4 j5 =>
            obtain⟨v',w',m',q1,q2,q3,q4,q5⟩:=append_core h hfr (olds:=[]) (old:=cells) (cs:=cs) (H':=Hp.upd H [(g,.dead),(fr,.blk true (cells++cs))]) hes he hbind hzs (hput (some ⟨b,o,none⟩) cap) hc1 hc2 j5 hb2 k6 k7 hnew
             (.inr (.inr ⟨g,b,sz,o,hfg,hg,hgone,hold,j1,rfl,j2,by omega,j4,hcl⟩))
            exact⟨_,_,_,v',w',hk,q1,m',q2,q3,q4,q5⟩
          | ref0 _ _ a j1 =>
            have hc0:cells=[]:=List.eq_nil_of_length_eq_zero (by omega);subst hc0;obtain⟨v',w',m',q1,q2,q3,q4,q5⟩:=append_core h hfr (olds:=[]) (old:=[]) (cs:=cs) (H':=Hp.upd H [(g,.dead),(fr,.blk true ([]++cs))]) hes he hbind hzs (hput a 0) hc1 hc2 (Nat.zero_le _) hb2 k6 k7 hnew
             (.inl ⟨rfl,rfl,rfl,rfl,fun k hk=>by
               by_cases e:k=g
               . subst e;exact .inr hgone
               . exact .inl (hold k hk e)⟩)
            exact⟨_,_,_,v',w',hk,q1,m',q2,q3,q4,q5⟩
         split at hk
         . rename_i hxi;split at hk
           . rename_i k n;obtain⟨h0,hb1,hb2,hk⟩:=hk;obtain rfl:=int_inv hy;unfold zerosK at hk;split at hk
             . rename_i z hz;obtain⟨hall,hsz,hz0,hk⟩:=hk;have hzz:es'=z.length:=by rw[hs] at hsz;simpa using hsz
               obtain⟨i,v,k1,k2,k3,k4,k5,k6,k7⟩:=zeros_put (L:=Live L0 m H) (w:=w) (m:=m) hz hall hz0 n.toNat;rw[hie] at k1;cases k1;rw[hze] at k2;cases k2;refine finish n.toNat _ _ _ hk (fun base sCap=>?_) (by rw[k4,hzz]) (by rw[k5,hzz]) (by omega) k6 k7;have hput:=put_zeros (P:=P) (w:=w) (k:=k) (n:=n.toNat) he hs hes hb hxi hbind hzs base len sCap (by omega) (by
                have:(((len+n.toNat)*by_:Nat):Int)<=((140737488355328:Nat):Int):=by rw[Int.natCast_mul,Int.natCast_add,Int.toNat_of_nonneg h0];exact hb1
                exact Int.ofNat_le.1 this)
               rw[Int.toNat_of_nonneg h0] at hput;exact hput
             . exact hk.elim
           . exact hk.elim
         . obtain⟨hxs,hk⟩:=hk;obtain⟨n,cs,rd,news,hk,hsrc⟩:=src_ok (P:=P) h hy hk;obtain⟨hall,hb1,hb2,hk⟩:=hk;obtain⟨k6,k7⟩:=hsrc.cells hall;exact finish n cs news _ hk (fun base sCap=>put_src (st:=st) he hs hb hxs hsrc base len sCap (by omega) hb1) hsrc.cl hsrc.nl (by omega) k6 k7
       . exact hk.elim
     . rename_i g off len cp es';obtain⟨rfl,hk⟩:=hk;split at hk
       . rename_i cells hg;obtain⟨_,hxs,hk⟩:=hk;split at hk;rotate_left
         . obtain⟨rfl,hol,hk⟩:=hk;obtain⟨n,cs,rd,news,hk,hsrc⟩:=src_ok (P:=P) h hy hk;obtain⟨hall,hcp,hk⟩:=hk;obtain⟨k6,k7⟩:=hsrc.cells hall;cases hx with
           | cut _ _ _ _ _ b sz cap o j1 j2 j3 j4 j5 j6 =>
             obtain⟨v,w',hr,ha⟩:=append_keep (fr:=fr) h hfr hes he hbind hzs (news:=news) (n:=n) (vx:=vy) (b:=b) (o:=o) (len:=len) (sCap:=cap) (fun w' hst=>append_fits he hs hxs hsrc (some ⟨b,o,none⟩) len cap (by omega) w' hst) hsrc.cl hsrc.nl j6 k6 k7 hg j1 j2 (by omega) (by omega) hol hcp j5;exact⟨_,_,_,v,w',hk,hr,ha⟩
         rename_i hfit0;have hfit:=of_decide_eq_true hfit0;obtain⟨n,cs,rd,news,hk,hsrc⟩:=src_ok (P:=P) h hy hk;obtain⟨hall,hcp,hk⟩:=hk;obtain⟨k6,k7⟩:=hsrc.cells hall;cases hx with
         | cut _ _ _ _ _ b sz cap o j1 j2 j3 j4 j5 j6 =>
           have hmul:(len+n)*es'<=cp*es':=Nat.mul_le_mul_right _ hcp;rw[Nat.add_mul] at hmul;have hcl:=hsrc.cl;have hnl:=hsrc.nl;obtain⟨w',hst,haf⟩:=put_row (P:=P) (fr:=fr) (at':=o+len*es') (off:=off+len*es') (cs:=cs) (news:=news) h hg j1 (by omega) (by omega) k6 k7 (by
            rcases j2 with j2|j2
            . exact .inl (by omega)
            . right;have hn0:n=0:=by omega
              subst hn0;exact List.eq_nil_of_length_eq_zero (by omega))
           refine⟨_,_,_,.slice (some ⟨b,o,none⟩) (len+n) cap,w',hk,append_fits he hs hxs hsrc (some ⟨b,o,none⟩) len cap (by omega) w' (by simpa[add_off] using hst),haf _ _ (fun L' w' m' _ hmr=>.cut _ _ _ _ _ b sz cap o (by rw[hmr g (by rw[j1];intro e;cases e)];exact j1) j2 j3 (by omega) j5 j6)⟩
       . exact hk.elim
     . rename_i es' l;obtain⟨rfl,hfc,_,hxs,hk⟩:=hk;obtain⟨n,cs,rd,news,hk,hsrc⟩:=src_ok (P:=P) h hy hk;obtain⟨hall,hn0,hb1,hb2,hk⟩:=hk;obtain⟨k6,k7⟩:=hsrc.cells hall;cases hx with
       | ful _ _ a q hvd =>
       have hq:q=l.length:=by cases hvd with|sl _ _ _ _ _ b off vs hn=>exact hn
       subst hq;have hcm:l.length<=maxLen:=by cases hvd with|sl _ _ _ _ _ b off vs hn hle hm=>exact hm
       obtain⟨v',w',m',q1,q2,q3,q4,q5⟩:=append_core h hfr (olds:=[]) (old:=(flat l).map D.data) (cs:=cs) (H':=Hp.set H fr (.blk true ((flat l).map D.data++cs))) hes he hbind hzs (put_src (st:=st) he hs hb hxs hsrc a l.length l.length (by omega) hb1) hsrc.cl hsrc.nl hcm (by omega) k6 k7
        (by simp[Hp.set]) (.inr (.inl ⟨rfl,hn0,fun g hg=>.inl (by simp[Hp.set,hg]),l,rfl,hfc,hvd⟩))
       exact⟨_,_,_,v',w',hk,q1,m',q2,q3,q4,q5⟩
     . exact hk.elim
   . exact hk.elim
 . exact hk.elim
theorem copy_ok {st xt ty:TypeId} {x y:D} {vx vy:Value} {K:D->List Nat->List (Nat×Blk)->Prop} (h:WR Γ L0 w0 m H w) (hfr:m fr = .res) (hx:VV (Live L0 m H) w m x vx) (hy:VV (Live L0 m H) w m y vy) (hk:copyK P st x y H K) :
 ∃ d rd u v w',K d rd u/\(Builtin.copy_ #[st,xt] ty #[vx,vy]).run P w = .ok v w'/\After Γ L0 w0 fr H m w d u v w':=by
 unfold copyK at hk;split at hk
 . rename_i e he;split at hk
   . rename_i es hs;have hu:=und_slice P he;split at hk
     . rename_i g off len es';obtain⟨rfl,hk⟩:=hk;split at hk
       . rename_i cells hg;obtain⟨hfit,hk⟩:=hk;obtain⟨n,cs,rd,news,hk,hsrc⟩:=src_ok (P:=P) h hy hk;obtain⟨hall,hk⟩:=hk;obtain⟨k6,k7⟩:=hsrc.cells hall;have hmin:Nat.min n len=min n len:=rfl;have hfirst:=hsrc.first (min n len) (Nat.min_le_left _ _);have hm1:min n len*es'<=n*es':=Nat.mul_le_mul_right _ (Nat.min_le_left _ _);have hm2:min n len*es'<=len*es':=Nat.mul_le_mul_right _ (Nat.min_le_right _ _);have hcl:=hsrc.cl;have hnl:=hsrc.nl;cases hx with
         | ref _ _ _ _ b sz cap o j1 j2 j3 j4 j5 =>
           obtain⟨vs,ty',e1,e2,e3,_,e5⟩:=at_of h hg j1;have hlc:(cs.take (min n len*es')).length=min n len*es':=by rw[List.length_take];omega
           have hln:(news.take (min n len*es')).length=min n len*es':=by rw[List.length_take];omega
           have hoff:o=off \/ min n len*es'=0:=by
            rcases j2 with j2|j2
            . exact .inl j2
            . right;have:len=0:=by omega
              subst this;simp
           have hst:(storeCells ⟨b,o,none⟩ (news.take (min n len*es'))).run P w = .ok () (w.setRow b (vs.toList.take off++news.take (min n len*es')++vs.toList.drop (off+(news.take (min n len*es')).length)).toArray):=by
            rcases hoff with rfl|h0
            . have:=run_storeCells_at P b o ty' (news.take (min n len*es')) 0 vs w e1 (by omega) (fun u hu=>k7 u (List.mem_of_mem_take hu));simpa using this
            . have hn0:news.take (min n len*es')=[]:=by rw[h0];rfl
              rw[hn0];simp only[storeCells,List.append_nil,List.length_nil,Nat.add_zero,List.take_append_drop];rw[show vs.toList.toArray=vs by simp,setRow_self w b vs ty' (0,0) e1];rfl
           obtain⟨q1,q2,q3,q4,q5⟩:=h.write (t:=g) (H':=Hp.set H g (.blk true (over cells off (cs.take (min n len*es'))))) (cells':=over cells off (cs.take (min n len*es')))
            (vs':=(vs.toList.take off++news.take (min n len*es')++vs.toList.drop (off+(news.take (min n len*es')).length)).toArray) hg j1 e1 (.inl rfl) (by simp[Hp.set]) (fun e=>absurd rfl e)
            (fun k hk _=>by simp[Hp.set,hk]) (by rw[over_size (by omega)];exact e2) (by rw[over_length (by omega)];exact e3)
            (over_cells (by omega) (by omega) (by omega) e5 (fun i d hd=>by
              have hi:=(List.getElem?_eq_some_iff.1 hd).1;rw[List.getElem?_take_of_lt (by omega)] at hd;obtain⟨u,a1,a2,a3⟩:=k6 i d hd;exact⟨u,by rw[List.getElem?_take_of_lt (by omega)];exact a1,a2,a3⟩))
           refine⟨_,_,_,_,_,hk,?_,_,q1,.data _ _ (.int _ _),q2,fun q hq=>?_⟩
           . simp only[Builtin.copy_];simp[run_underlying hu,hsrc.len,run_sz P hs,hmin,hfirst,hst,goInt]
           . by_cases e:q=g
             . subst e;simp[j1]
             . exact q3 q e
         | ref0 _ _ a j1 =>
           rcases h.heap.blk g true cells hg with⟨_,hc0⟩|⟨b,sz,vs,ty2,p1,_⟩
           . subst hc0;have h0:min n 0=0:=Nat.min_eq_right (Nat.zero_le _);rw[h0] at hk hfirst;simp only[Nat.zero_mul,List.take_zero] at hk hfirst;have hov:over ([]:List D) 0 []=[]:=rfl;rw[hov] at hk;refine⟨_,_,_,.int .i64 0,w,hk,?_,m,?_,.data _ _ (.int _ _),?_,fun _ _=>rfl⟩
             . cases a<;>simp[Builtin.copy_,run_underlying hu,hsrc.len,run_sz P hs,hmin,h0,hfirst,goInt,storeCells]
             . have:Hp.upd H [(g,.blk true [])]=H:=by
                funext k
                by_cases e:k=g
                . subst e;simp[Hp.upd,Hp.set,hg]
                . simp[Hp.upd,Hp.set,e]
               rw[this];exact h
             . have:Hp.upd H [(g,.blk true [])]=H:=by
                funext k
                by_cases e:k=g
                . subst e;simp[Hp.upd,Hp.set,hg]
                . simp[Hp.upd,Hp.set,e]
               rw[this];exact Grow.refl _ _
           . rw[j1] at p1;cases p1
       . exact hk.elim
     . exact hk.elim
   . exact hk.elim
 . exact hk.elim
end
section
variable {P:Program} {Γ:Nat->Option (List Data)} {L0:Nat->Prop} {w0:W0} {m:Nat->MB} {H:Nat->Blk} {w:World} {fr:Nat} {L:Nat->Prop}
theorem Bare.vd {L L':Nat->Prop} {w w':World} {x:Data} {v:Value} (hb:Bare x) (h:VD L w x v):VD L' w' x v:=by
 induction h with
 | bool b=>exact .bool b
 | int k n=>exact .int k n
 | str s=>exact .str s
 | agg cs vs hl _ ih=>cases hb with|agg _ hh=>exact .agg cs vs hl fun i x v hx hv=>ih i x v hx hv (hh x (List.mem_of_getElem? hx))
 | sl=>cases hb
 | tup cs vs hl _ ih=>cases hb with|tup _ hh=>exact .tup cs vs hl fun i x v hx hv=>ih i x v hx hv (hh x (List.mem_of_getElem? hx))
 | fn=>cases hb
 | bn=>cases hb
 | mp=>cases hb
 | nilf=>exact .nilf
 | ifc=>cases hb
 | nili=>exact .nili
 | nilp=>exact .nilp
 | nilm=>exact .nilm
 | pc=>cases hb
theorem Frz.vd {ok:Bool} {H:Nat->Blk} {L L':Nat->Prop} (hless:∀ b,L' b->L b)
 (hblk:∀ g rw cells b sz,H g = .blk rw cells->(ok=true \/ rw=false)->m g = .at b sz->b<w.heap.size/\¬ L' b/\∃ vs ty,w.heap[b]?=some (.cells vs ty (0,0))/\∀ (i:Nat) (d:D),cells[i]?=some d->∃ v,vs[i]?=some v/\VV L w m d v)
 (hnil:∀ g rw cells,H g = .blk rw cells->m g = .nil->cells=[])
 (hobj:ok=true->∀ g o b,H g = .obj o->m g = .at b 0->b<w.heap.size/\¬ L' b/\∃ v,w.heap[b]?=some v/\ObIs L w m o v)
 {d:D} {x:Data} (h:Frz ok H d x):∀ {v:Value},VV L w m d v->VD L' w x v:=by
 have hg:Grow L w L' w:=Grow.less w hless
 induction h with
 | data x=>intro v hv;exact hv.data_inv.mono hg
 | emp es es' =>
   intro v hv;cases hv with
   | emp _ a=>exact .sl es' [] a 0 0 0 0 (fun _=>undef) rfl (Nat.le_refl _) (Nat.zero_le _) (by simp) (.inr rfl) (fun i x hx=>by simp[flat] at hx) (fun i x hx=>by simp[flat] at hx)
 | ref g off len es rw cells l ds hgb hrw hl hes hfit hc hvv ih =>
   intro v hv;cases hv with
   | ref _ _ _ _ b sz cap o j1 j2 j3 j4 j5 =>
     obtain⟨hb,hL,vs,ty,e1,e2⟩:=hblk g rw cells b sz hgb hrw j1;subst hl;have hfl:=flat_length hes;by_cases h0:l=[]
     . subst h0;exact .sl es [] _ _ cap b o (fun _=>undef) rfl j4 j5 (by simp) (.inr rfl) (fun i x hx=>by simp[flat] at hx) (fun i x hx=>by simp[flat] at hx)
     . have hpos:=List.length_pos_iff.2 h0;have ho:o=off:=by
        rcases j2 with j2|j2
        . exact j2
        . omega
       subst ho;refine .sl es l _ _ cap b o (fun i=>vs.getD (o+i) undef) rfl j4 j5 hes (.inl ⟨rfl,hb,hL⟩) (fun i x hx=>?_) (fun i x hx=>?_)
       . obtain⟨v,q1,q2⟩:=e2 _ _ (hc i x hx);rw[cell_of e1];have hlt:=(Array.getElem?_eq_some_iff.1 q1).1;simp[hlt]
       . obtain⟨v,q1,q2⟩:=e2 _ _ (hc i x hx);have hlt:=(Array.getElem?_eq_some_iff.1 q1).1;have hq:=(Array.getElem?_eq_some_iff.1 q1).2;have:vs.getD (o+i) undef=v:=by simp[hlt,hq]
         rw[this];exact ih i x hx q2
   | ref0 _ _ a j1 =>
     have:l=[]:=List.eq_nil_of_length_eq_zero hl;subst this;exact .sl es [] a 0 0 0 0 (fun _=>undef) rfl (Nat.le_refl _) (Nat.zero_le _) (by simp) (.inr rfl) (fun i x hx=>by simp[flat] at hx) (fun i x hx=>by simp[flat] at hx)
 | cut g off len cp es rw cells l ds hgb hrw hl hes hfit hc hvv ih =>
   intro v hv;cases hv with
   | cut _ _ _ _ _ b sz cap o j1 j2 j3 j40 j41 j5 =>
     have j4:len<=cap:=Nat.le_trans j40 j41;obtain⟨hb,hL,vs,ty,e1,e2⟩:=hblk g rw cells b sz hgb hrw j1;subst hl;have hfl:=flat_length hes;by_cases h0:l=[]
     . subst h0;exact .sl es [] _ _ cap b o (fun _=>undef) rfl j4 j5 (by simp) (.inr rfl) (fun i x hx=>by simp[flat] at hx) (fun i x hx=>by simp[flat] at hx)
     . have hpos:=List.length_pos_iff.2 h0;have ho:o=off:=by
        rcases j2 with j2|j2
        . exact j2
        . omega
       subst ho;refine .sl es l _ _ cap b o (fun i=>vs.getD (o+i) undef) rfl j4 j5 hes (.inl ⟨rfl,hb,hL⟩) (fun i x hx=>?_) (fun i x hx=>?_)
       . obtain⟨v,q1,q2⟩:=e2 _ _ (hc i x hx);rw[cell_of e1];have hlt:=(Array.getElem?_eq_some_iff.1 q1).1;simp[hlt]
       . obtain⟨v,q1,q2⟩:=e2 _ _ (hc i x hx);have hlt:=(Array.getElem?_eq_some_iff.1 q1).1;have hq:=(Array.getElem?_eq_some_iff.1 q1).2;have:vs.getD (o+i) undef=v:=by simp[hlt,hq]
         rw[this];exact ih i x hx q2
 | agg cs xs hl _ ih =>
   intro v hv;cases hv with
   | agg _ vs hl2 hh =>
   refine .agg xs vs (by omega) fun i x v hx hv=>?_;have hi:i<cs.length:=by rw[hl];exact (List.getElem?_eq_some_iff.1 hx).1
   exact ih i _ x (List.getElem?_eq_getElem hi) hx (hh i _ v (List.getElem?_eq_getElem hi) hv)
 | fn f cs xs hl _ ih =>
   intro v hv;cases hv with
   | fn _ _ vs hl2 hh =>
   refine .fn f xs vs (by omega) fun i x v hx hv=>?_;have hi:i<cs.length:=by rw[hl];exact (List.getElem?_eq_some_iff.1 hx).1
   exact ih i _ x (List.getElem?_eq_getElem hi) hx (hh i _ v (List.getElem?_eq_getElem hi) hv)
 | bnd f c x _ ih =>
   intro v hv;cases hv with
   | bnd _ _ u h=>exact .bn f x u (ih h)
 | mref g ks xs ds hok hgo hl _ ih =>
   intro v hv;cases hv with
   | mref _ b j1 =>
     obtain⟨hb,hL,ob,e1,e2⟩:=hobj hok g _ b hgo j1;cases e2 with
     | mp _ _ es clock hk hx h1 h2 h3 h4 =>
     refine .mp ks xs b es clock hb hL e1 hk (by omega) (fun i x e a c=>(h1 i x e a c).mono hg) (fun i x e a c=>?_) h3 h4;have hi:i<ds.length:=by rw[hl];exact (List.getElem?_eq_some_iff.1 a).1
     exact ih i _ x (List.getElem?_eq_getElem hi) a (h2 i _ e (List.getElem?_eq_getElem hi) c)
 | cptr cells =>
   intro v hv;cases hv with
   | cptr _ b off vs hb hL hc hvv=>exact .pc cells b off vs hb (fun k=>hL (hless b k)) hc fun i x hx=>(hvv i x hx).mono hg
 | ful es l =>
   intro v hv;cases hv with
   | ful _ _ a n h=>exact h.mono hg
 | ptr g off rw cells l ds hgb hrw hc hvv ih =>
   intro v hv;cases hv with
   | ptr _ _ b sz j1 =>
     obtain⟨hb,hL,vs,ty,e1,e2⟩:=hblk g rw cells b sz hgb hrw j1;refine .pc l b off (fun i=>vs.getD (off+i) undef) hb hL (fun i x hx=>?_) (fun i x hx=>?_)
     . obtain⟨v,q1,q2⟩:=e2 _ _ (hc i x hx);rw[cell_of e1];have hlt:=(Array.getElem?_eq_some_iff.1 q1).1;simp[hlt]
     . obtain⟨v,q1,q2⟩:=e2 _ _ (hc i x hx);have hlt:=(Array.getElem?_eq_some_iff.1 q1).1;have hq:=(Array.getElem?_eq_some_iff.1 q1).2;have:vs.getD (off+i) undef=v:=by simp[hlt,hq]
       rw[this];exact ih i x hx q2
theorem freeze_heap (w:World) (b n k:Nat):(w.freeze ⟨b,n,none⟩ 1).heap.size=w.heap.size/\(k≠b->(w.freeze ⟨b,n,none⟩ 1).heap[k]?=w.heap[k]?)/\((w.freeze ⟨b,n,none⟩ 1).os=w.os/\(w.freeze ⟨b,n,none⟩ 1).tape=w.tape/\(w.freeze ⟨b,n,none⟩ 1).output=w.output) /\
 ∀ vs ty fz,w.heap[b]?=some (.cells vs ty fz)->∃ fz',(w.freeze ⟨b,n,none⟩ 1).heap[b]?=some (.cells vs ty fz'):=by
 unfold World.freeze;rw[if_neg (by decide)];refine⟨by simp,fun hk=>?_,⟨rfl,rfl,rfl⟩,fun vs ty fz hb=>?_⟩
 . simp[Array.getElem?_modify,Ne.symm hk]
 . obtain⟨lo,hi⟩:=fz;simp[Array.getElem?_modify,hb]
theorem cell_one {x:Data} (h:x.cell=true):x.cells=[x]:=by cases x<;>first|rfl|cases h
theorem flat_cell:∀ {l:List Data},(∀ x∈l,x.cell=true)->flat l=l
 | [],_=>rfl
 | x::l,h=>by
   have ih:=flat_cell (l:=l) fun y hy=>h y (by simp[hy]);unfold flat at ih ⊢;rw[List.flatMap_cons,cell_one (h x (by simp)),ih];rfl
theorem mark_ok {src dst:TypeId} {g off len es:Nat} {v:Value} {K:D->List (Nat×Blk)->Prop} (h:WR Γ L0 w0 m H w) (hv:VV (Live L0 m H) w m (.ref g off len es) v) (hk:markK P src dst g off len es H K) :
 ∃ d u v' w',K d u/\(convert src dst v).run P w = .ok v' w'/\After Γ L0 w0 fr H m w d u v' w':=by
 unfold markK at hk;obtain⟨rfl,rfl,rfl,hlen,hk⟩:=hk;split at hk
 . rename_i e he;obtain⟨hie,hk⟩:=hk;split at hk
   . rename_i cells hg;split at hk
     . rename_i l hl;obtain⟨hll,hcell,hk⟩:=hk;have hcs:=allData_eq hl;rw[List.all_eq_true] at hcell;cases hv with
       | ref0=>omega
       | ref _ _ _ _ b sz cap o j1 j2 j3 j4 j5 =>
         have ho:o=0:=by rcases j2 with j2|j2<;>omega
         subst ho;obtain⟨vs,ty,e1,e2,e3,e4,e5⟩:=at_of h hg j1;obtain⟨f1,f2,f3,f4⟩:=freeze_heap w b vs.size 0;have f2':∀ k,k≠b->(w.freeze ⟨b,vs.size,none⟩ 1).heap[k]?=w.heap[k]?:=fun k=>(freeze_heap w b vs.size k).2.1;obtain⟨fz',f5⟩:=f4 vs ty (0,0) e1;obtain⟨q1,q2,q3⟩:=h.kill hg j1 f1 f2' f3 (H':=Hp.upd H [(g,.dead)]) (by simp[Hp.upd,Hp.set]) (fun k hk=>by simp[Hp.upd,Hp.set,hk]);refine⟨_,_,.slice (some ⟨b,0,none⟩) len cap,w.freeze ⟨b,vs.size,none⟩ 1,hk,?_,m,q1,?_,q2,fun _ _=>rfl⟩
         . have hsh:w.shape? b=some (ty,vs.size):=by unfold World.shape?;rw[e1]
           simp[convert,run_underlying (und_slice P he),run_underlying (und_int P hie),markStringish,hsh]
         . have hfl:=flat_cell hcell;refine .data _ _ (.sl 1 l _ _ cap b 0 (fun i=>vs.getD i undef) hll.symm j4 j5 (fun x hx=>by rw[cell_one (hcell x hx)];rfl) (.inl ⟨rfl,by rw[f1];exact h.lt hg j1,q3⟩) (fun i x hx=>?_) (fun i x hx=>?_))
           . rw[hfl] at hx;obtain⟨v,a1,_,a3⟩:=e5 i (.data x) (by rw[hcs,List.getElem?_map,hx];rfl);rw[cell_of f5];have hlt:=(Array.getElem?_eq_some_iff.1 a1).1;simp[hlt]
           . rw[hfl] at hx;obtain⟨v,a1,_,a3⟩:=e5 i (.data x) (by rw[hcs,List.getElem?_map,hx];rfl);have hlt:=(Array.getElem?_eq_some_iff.1 a1).1;have hq:=(Array.getElem?_eq_some_iff.1 a1).2;have:vs.getD i undef=v:=by simp[hlt,hq]
             rw[this];exact a3.data_inv.mono q2
     . exact hk.elim
   . exact hk.elim
 . exact hk.elim
theorem callee_ok {m:Nat->MB} {L:Nat->Prop} {x:D} {v:Value} {f:FuncId} {pre caps:List D} (hx:VV L w m x v) (hf:fnD x=some (f,pre,caps)) :
 ∃ pvs cvs,v = .func (.func f) pvs cvs/\pre.length=pvs.size/\(∀ (i:Nat) (d:D) (v:Value),pre[i]?=some d->pvs[i]?=some v->VV L w m d v)/\caps.length=cvs.size/\∀ (i:Nat) (d:D) (v:Value),caps[i]?=some d->cvs[i]?=some v->VV L w m d v:=by
 unfold fnD at hf;split at hf
 . rename_i f' caps';cases hf;have:=hx.data_inv;cases this with
   | fn _ _ vs hl hh =>
   refine⟨#[],vs,rfl,rfl,fun i d v hx=>by simp at hx,by simpa using hl,fun i d v hx hv=>?_⟩;rw[List.getElem?_map,Option.map_eq_some_iff] at hx;obtain⟨y,hy,rfl⟩:=hx;exact toD_ok (hh i y v hy hv)
 . rename_i f' r';cases hf;have:=hx.data_inv;cases this with
   | bn _ _ u h =>
   refine⟨#[u],#[],rfl,rfl,fun i d v hx hv=>?_,rfl,fun i d v hx=>by simp at hx⟩
   match i with
   | 0=>simp at hx hv;subst hx;subst hv;exact toD_ok h
   | i+1=>simp at hx
 . rename_i f' caps';cases hf;cases hx with
   | fn _ _ vs hl hh=>exact⟨#[],vs,rfl,rfl,fun i d v hx=>by simp at hx,hl,hh⟩
 . rename_i f' r;cases hf;cases hx with
   | bnd _ _ u h =>
     refine⟨#[u],#[],rfl,rfl,fun i d v hx hv=>?_,rfl,fun i d v hx=>by simp at hx⟩
     match i with
     | 0=>simp at hx hv;subst hx;subst hv;exact h
     | i+1=>simp at hx
 . cases hf
theorem args_ok {m:Nat->MB} {L:Nat->Prop} {pre caps as:List D} {pvs cvs avs:Array Value} (hp:pre.length=pvs.size) (hpv:∀ (i:Nat) (d:D) (v:Value),pre[i]?=some d->pvs[i]?=some v->VV L w m d v)
 (ha:as.length=avs.size) (hav:∀ (i:Nat) (d:D) (v:Value),as[i]?=some d->avs[i]?=some v->VV L w m d v) (hcv:∀ (i:Nat) (d:D) (v:Value),caps[i]?=some d->cvs[i]?=some v->VV L w m d v) :
 ∀ (i:Nat) (d:D) (v:Value),(pre++(as++caps))[i]?=some d->(pvs++(avs++cvs))[i]?=some v->VV L w m d v:=fun i d v h1 h2=>by
 rw[Array.getElem?_append] at h2;rw[List.getElem?_append] at h1;split at h2
 . rename_i hlt;rw[if_pos (by omega)] at h1;exact hpv i d v h1 h2
 . rename_i hlt;rw[if_neg (by omega)] at h1;rw[hp,List.getElem?_append] at h1;rw[Array.getElem?_append] at h2;split at h2
   . rename_i hlt2;rw[if_pos (by omega)] at h1;exact hav _ d v h1 h2
   . rename_i hlt2;rw[if_neg (by omega),ha] at h1;exact hcv _ d v h1 h2
theorem upd_fz (H0:Nat->Blk):∀ (F:List Nat) (H:Nat->Blk),(∀ k,H k=H0 k \/ H k=fz (H0 k))->∀ k,Hp.upd H (F.map fun g=>(g,fz (H0 g))) k=if k∈F then fz (H0 k) else H k
 | [],H,_,k=>by simp[Hp.upd]
 | g::F,H,hH,k=>by
   simp only[List.map_cons,Hp.upd];rw[upd_fz H0 F (Hp.set H g (fz (H0 g))) (fun j=>by
    by_cases e:j=g
    . subst e;exact .inr (by simp[Hp.set])
    . have:Hp.set H g (fz (H0 g)) j=H j:=by simp[Hp.set,e]
      rw[this];exact hH j) k]
   by_cases e:k∈F
   . simp[e]
   . by_cases e2:k=g
     . subst e2;simp[e,Hp.set]
     . simp[e,e2,Hp.set]
theorem call_ok {f:FuncId} {ds:List D} {vs:Array Value} {K:D->List Nat->List (Nat×Blk)->Prop} (h:WR Γ L0 w0 m H w) (hl:ds.length=vs.size) (hv:∀ (i:Nat) (d:D) (v:Value),ds[i]?=some d->vs[i]?=some v->VV (Live L0 m H) w m d v) (hk:callK P Γ f ds H K) :
 ∃ d rd u,K d rd u/\CallOk P f/\Calls P f vs w fun e w'=>∃ v,e = .returned v/\After Γ L0 w0 fr H m w d u v w':=by
 obtain⟨F,xs,r,rd,hF,⟨hcall,hpc⟩,hfrz,hk⟩:=hk;have hupd:=upd_fz H F H (fun k=>.inl rfl);have hold:∀ g,Hp.upd H (F.map fun g=>(g,fz (H g))) g=H g \/ ∃ rw cells,H g = .blk rw cells/\Hp.upd H (F.map fun g=>(g,fz (H g))) g = .blk false cells:=fun g=>by
  rw[hupd g];by_cases e:g∈F
  . obtain⟨rw,cells,hg⟩:=hF g e;exact .inr ⟨rw,cells,hg,by simp[e,hg,fz]⟩
  . exact .inl (by simp[e])
 obtain⟨h1,hg1⟩:=h.called (Below.refl _ w) hold;refine⟨_,_,_,hk,hcall,?_⟩;have blkfact:∀ (H2:Nat->Blk) (h2:WR Γ L0 w0 m H2 w) (hlive:∀ b,Live L0 m H2 b->Live L0 m H b) (hcells:∀ g rw cells,H2 g = .blk rw cells->∃ rw',H g = .blk rw' cells),∀ g rw cells b sz,H2 g = .blk rw cells->m g = .at b sz →
  b<w.heap.size/\(rw=false->¬ Live L0 m H2 b)/\∃ vs ty,w.heap[b]?=some (.cells vs ty (0,0))/\∀ (i:Nat) (d:D),cells[i]?=some d->∃ v,vs[i]?=some v/\VV (Live L0 m H) w m d v:=by
  intro H2 h2 hlive hcells g rw cells b sz hg hm;obtain⟨rw',hg'⟩:=hcells g rw cells hg;obtain⟨vs,ty,e1,e2,e3,e4,e5⟩:=at_of h hg' hm;obtain⟨_,_,_,_,_,f4,_⟩:=at_of h2 hg hm;exact⟨h.lt hg' hm,f4,vs,ty,e1,fun i d hd=>by obtain⟨v,a1,_,a3⟩:=e5 i d hd;exact⟨v,a1,a3⟩⟩
 have hnil:∀ (H2:Nat->Blk),WR Γ L0 w0 m H2 w->∀ g rw cells,H2 g = .blk rw cells->m g = .nil->cells=[]:=fun H2 h2 g rw cells hg hm=>by
  rcases h2.heap.blk g rw cells hg with⟨_,k⟩|⟨b,sz,vs,ty,k1,_⟩
  . exact k
  . rw[hm] at k1;cases k1
 rcases hfrz with⟨hF0,hbare,hfz⟩|hfz
 . subst hF0;obtain⟨hlx,hfx⟩:=hfz H (fun _ _=>rfl);refine (hpc (fun _=>False) w vs (h.glob.mono (Grow.less w fun b hb=>hb.elim)) (fun b hb=>hb.elim) (by omega) (fun i x v hx hvi=>?_)).mono fun e w' ⟨v,he,hr,hb⟩=>⟨v,he,?_⟩
   . have hi:i<ds.length:=by rw[hlx];exact (List.getElem?_eq_some_iff.1 hx).1
     have hd:=List.getElem?_eq_getElem hi;refine (hfx i _ x hd hx).vd (m:=m) (L:=Live L0 m H) (fun b hb=>hb.elim) (fun g rw cells b sz hg _ hm=>?_) (hnil H h) (fun _ g o b hg hm=>?_) (hv i _ v hd hvi);rotate_left 1
     . obtain⟨b2,v2,k1,k2,k3,k4⟩:=h.heap.obj g o hg;rw[k1] at hm;cases hm;exact⟨h.ltO hg k1,fun hb=>hb.elim,v2,k3,k4⟩
     obtain⟨a1,_,a3⟩:=blkfact H h (fun b hb=>hb) (fun g rw cells hg=>⟨rw,hg⟩) g rw cells b sz hg hm;exact⟨a1,fun hb=>hb.elim,a3⟩
   . obtain⟨h2,hg2⟩:=h.called hb (H':=H) (fun g=>.inl rfl);exact⟨m,h2,.data _ _ (hbare.vd hr),hg2,fun _ _=>rfl⟩
 . obtain⟨hlx,hfx⟩:=hfz H (fun _ _=>rfl);refine (hpc (Live L0 m (Hp.upd H (F.map fun g=>(g,fz (H g))))) w vs h1.glob (fun b hb=>h1.live_lt hb) (by omega) (fun i x v hx hvi=>?_)).mono fun e w' ⟨v,he,hr,hb⟩=>⟨v,he,?_⟩
   . have hi:i<ds.length:=by rw[hlx];exact (List.getElem?_eq_some_iff.1 hx).1
     have hd:=List.getElem?_eq_getElem hi;have hlive:∀ b,Live L0 m (Hp.upd H (F.map fun g=>(g,fz (H g)))) b->Live L0 m H b:=by
      rintro b (hb|⟨g,sz,hg,hm⟩)
      . exact .inl hb
      . rcases hold g with e|⟨rw,cs,e1,e2⟩
        . rw[e] at hg;exact .inr ⟨g,sz,hg,hm⟩
        . rw[e2] at hg;cases hg
     refine (hfx i _ x hd hx).vd (m:=m) (L:=Live L0 m H) hlive (fun g rw cells b sz hg hrw hm=>?_) (hnil _ h1) (fun e=>by cases e) (hv i _ v hd hvi);obtain⟨a1,a2,a3⟩:=blkfact _ h1 hlive (fun g rw cells hg=>by
      rcases hold g with e|⟨rw',cs,e1,e2⟩
      . rw[e] at hg;exact⟨rw,hg⟩
      . rw[e2] at hg;cases hg;exact⟨rw',e1⟩) g rw cells b sz hg hm
     refine⟨a1,a2 ?_,a3⟩;rcases hrw with e|e
     . cases e
     . exact e
   . obtain⟨h2,hg2⟩:=h.called hb hold;exact⟨m,h2,.data _ _ hr,hg2,fun _ _=>rfl⟩
theorem strBytes_ok {m:Nat->MB} {H:Nat->Blk} {w:World} {fr:Nat} {src dst:TypeId} {s:ByteArray} {v:Value} (h:WR Γ L0 w0 m H w) (hs:(P.underlying src).isSome=true) (hb:bytT P dst=true) (hlen:s.size<=140737488355328) (hv:VV (Live L0 m H) w m (.data (.str s)) v) :
 ∃ u w',(convert src dst v).run P w = .ok u w'/\After Γ L0 w0 fr H m w (.data (.sl 1 (s.toList.map fun b=>.int .u8 b.toNat))) [] u w':=by
 have hv:=hv.data_inv;cases hv;obtain⟨us,hus⟩:=Option.isSome_iff_exists.1 hs;unfold bytT at hb;split at hb
 . rename_i e hd;split at hb
   . rename_i he;refine⟨_,_,Lib.run_convert_string_bytes w src dst e s hus hd he,?_⟩;have hsz:=Lib.bytesWorld_size w e s;have hbel:Below w.heap.size w (Lib.bytesWorld w e s):=⟨rfl,rfl,rfl,by omega,fun k hk=>Lib.bytesWorld_at_old w e s k hk⟩;obtain⟨q1,q2⟩:=h.called hbel (H':=H) (fun g=>.inl rfl);have hge:=grownCap_ge w s.size 0 e;have hmax:=grownCap_le_maxLen w s.size 0 e (by unfold maxLen;omega);have hfl:flat (s.toList.map fun b=>Data.int .u8 b.toNat)=s.toList.map fun b=>Data.int .u8 b.toNat:=by
      generalize s.toList=l
      induction l with
      | nil=>rfl
      | cons b l ih=>simp only[List.map_cons,flat,List.flatMap_cons,Data.cells] at ih ⊢;rw[ih];rfl
     have hll:s.toList.length=s.size:=by rw[ByteArray.toList_eq,Array.length_toList];rfl
     refine⟨m,q1,.data _ _ (.sl 1 _ _ s.size (grownCap w s.size 0 e) w.heap.size 0 (fun i=>.int .u8 (s.toList.getD i 0).toNat) (by rw[List.length_map,hll]) hge hmax (fun x hx=>?_) (.inl ⟨rfl,by omega,fun hl=>?_⟩) (fun i x hx=>?_) (fun i x hx=>?_)),q2,fun _ _=>rfl⟩
     . obtain⟨b,_,rfl⟩:=List.mem_map.1 hx;rfl
     . exact absurd (h.live_lt hl) (Nat.lt_irrefl _)
     . rw[hfl] at hx;have hi:i<s.size:=by have:=(List.getElem?_eq_some_iff.1 hx).1;rw[List.length_map,hll] at this;exact this
       rw[Nat.zero_add];rw[ByteArray.toList_eq];exact Lib.bytesWorld_cell w e s i hi
     . rw[hfl] at hx;rw[List.getElem?_map,Option.map_eq_some_iff] at hx;obtain⟨b,hb2,rfl⟩:=hx;have:s.toList.getD i 0=b:=by rw[List.getD_eq_getElem?_getD,hb2];rfl
       rw[this];exact .int .u8 b.toNat
   . cases hb
 . cases hb
theorem assert_ok {m:Nat->MB} {L:Nat->Prop} {w:World} {t t' st:TypeId} {d:Data} {v:Value} {ok:Bool} {K:D->List Nat->List (Nat×Blk)->Prop} (hc:concT P t=true) (hv:VV L w m (.data (.ifc t' d)) v)
 (hk:if t'=t then (if ok=true then K (.data (.tup [d,.bool true])) [] [] else K (.data d) [] []) else ok=true/\zvK P t fun z=>match z with | .data z=>K (.data (.tup [z,.bool false])) [] []|_=>False) :
 ∃ r u,K r [] []/\VV L w m r u/\(Instr.typeAssert v st t ok).run P w = .ok u w:=by
 have hv:=hv.data_inv;cases hv with
 | ifc _ _ x hx =>
 have hu:∃ d,P.underlying t=some d/\∀ ms,d≠.interface ms:=by
  unfold concT Program.concrete at hc;cases hd:P.underlying t with
  | none=>rw[hd] at hc;cases hc
  | some d=>exact⟨d,rfl,fun ms e=>by subst e;rw[hd] at hc;cases hc⟩
 obtain⟨du,hd,hni⟩:=hu;have pair:∀ (y:Data) (b:Bool) (u:Value),VD L w y u->VV L w m (.data (.tup [y,.bool b])) (.tuple #[u,.bool b]):=fun y b u hy=>.data _ _ (.tup _ _ rfl fun i z v hz hv2=>by
  match i with
  | 0=>simp at hz hv2;subst hz;subst hv2;exact hy
  | 1=>simp at hz hv2;subst hz;subst hv2;exact .bool b
  | i+2=>simp at hz)
 by_cases e:t'=t
 . subst e;rw[if_pos rfl] at hk;cases ok with
   | true =>
     refine⟨_,.tuple #[x,.bool true],by simpa using hk,pair d true x hx,?_⟩;cases du<;>first|(exact absurd rfl (hni _))|simp[Instr.typeAssert,run_underlying hd]
   | false =>
     refine⟨_,x,by simpa using hk,.data _ _ hx,?_⟩;cases du<;>first|(exact absurd rfl (hni _))|simp[Instr.typeAssert,run_underlying hd]
 . rw[if_neg e] at hk;obtain⟨rfl,hk⟩:=hk;obtain⟨dz,u,hK,hall,hrun⟩:=zv_ok hk;split at hK
   . rename_i z';refine⟨_,.tuple #[u,.bool false],hK,pair _ false u (hall L w m).data_inv,?_⟩;have hrun:=hrun w;cases du<;>first|(exact absurd rfl (hni _))|simp[Instr.typeAssert,run_underlying hd,e,hrun]
   . exact hK.elim
theorem op_sound {o:Oper} {e:Nat->D} {a:Act} {K:D->List Nat->List (Nat×Blk)->Prop} (h:WR Γ L0 w0 m H w) (hfr:m fr = .res) (hd:H fr = .dead) (hv:∀ t,VV (Live L0 m H) w m (e t) (a.tmps.getD t undef)) (hk:opK P Γ o e H fr K) :
 ∃ d rd u,K d rd u/\Runs P o a w (After Γ L0 w0 fr H m w d u):=by
 have hρ:∀ x,VV (Live L0 m H) w m (evalD Γ e x) (a.eval x):=fun x=>eval_ok h.glob hv x;unfold opK at hk;obtain⟨dst,op,type,pos,after,guard⟩:=o;cases op<;>simp only at hk
 case move x=>exact⟨_,_,_,hk,runs_pure (by simp[execOp]) h (coe_ok P type (hρ x))⟩
 case assign x=>exact⟨_,_,_,hk,runs_pure (by simp[execOp]) h (coe_ok P type (hρ x))⟩
 case pick c x y =>
  split at hk
  . rename_i hc;have hcv:=hρ c;rw[hc] at hcv;have:=hcv.data_inv;generalize hce:a.eval c=vc at this;cases this;exact⟨_,_,_,hk,runs_pure (by simp[execOp,hce,asBool]) h (hρ x)⟩
  . rename_i hc;have hcv:=hρ c;rw[hc] at hcv;have:=hcv.data_inv;generalize hce:a.eval c=vc at this;cases this;exact⟨_,_,_,hk,runs_pure (by simp[execOp,hce,asBool]) h (hρ y)⟩
  . exact hk.elim
 case alloc t =>
  split at hk
  . rename_i z hz;obtain⟨hall,hk⟩:=hk;obtain⟨v,w',h1,h2⟩:=alloc_ok h hfr hz hall;exact⟨_,_,_,hk,.inl ⟨v,w',by simp[execOp,h1],h2⟩⟩
  . exact hk.elim
 case box t x =>
  obtain⟨hall,hk⟩:=hk;obtain⟨v,w',h1,h2⟩:=box_ok (P:=P) (t:=t) h hfr (hρ x) hall;exact⟨_,_,_,hk,.inl ⟨v,w',by simp[execOp,h1],h2⟩⟩
 case build t parts =>
  obtain⟨d,v,h1,h2,h3⟩:=build_ok (P:=P) (vparts:=parts.map fun (i,x)=>(i,a.eval x)) (by simp) (fun i p q hp hq=>by
   simp only[List.getElem?_map,Option.map_eq_some_iff,Array.getElem?_toList] at hp;simp only[Array.getElem?_map,Option.map_eq_some_iff] at hq;obtain⟨y,hy,rfl⟩:=hp;obtain⟨y',hy',rfl⟩:=hq;rw[hy] at hy';cases hy';exact⟨rfl,hρ _⟩) hk
  exact⟨_,_,_,h1,runs_pure (by simp[execOp,h3]) h h2⟩
 case buildSlice t len parts =>
  split at hk
  . rename_i el he;split at hk
    . rename_i es hs;obtain⟨hbig,hk⟩:=hk;split at hk
      . rename_i h0;subst h0;obtain⟨hp0,hk⟩:=hk;have hpe:parts = #[]:=Array.eq_empty_of_size_eq_zero hp0;subst hpe;have hbel:Below w.heap.size w (w.alloc (.cells #[] el)):=(Below.refl _ w).alloc (Nat.le_refl _) _;obtain⟨q1,q2⟩:=h.called hbel (H':=H) (fun g=>.inl rfl);refine⟨_,_,_,hk,.inl ⟨.slice (some ⟨w.heap.size,0,none⟩) 0 0,w.alloc (.cells #[] el),?_,m,q1,.emp _ _,q2,fun _ _=>rfl⟩⟩;have hr0:Array.range 0 = #[]:=rfl;simp[execOp,Instr.buildSlice,run_underlying (und_slice P he),run_sz P hs,Instr.fill,newRow,hr0]
      . rename_i h0;unfold zerosK at hk;split at hk
        . rename_i z hz;obtain⟨hall,hsz,hz0,hk⟩:=hk;split at hk
          . rename_i cells hf;obtain⟨hcell,hk⟩:=hk;obtain⟨v,w',h1,h2⟩:=buildSlice_ok (P:=P) (vparts:=parts.map fun (i,x)=>(i,a.eval x)) h hfr he hs hbig h0 hz hall (by rw[hs] at hsz;simpa using hsz) hz0 (by simp) (fun i p q hp hq=>by
             simp only[List.getElem?_map,Option.map_eq_some_iff,Array.getElem?_toList] at hp;simp only[Array.getElem?_map,Option.map_eq_some_iff] at hq;obtain⟨y,hy,rfl⟩:=hp;obtain⟨y',hy',rfl⟩:=hq;rw[hy] at hy';cases hy';exact⟨rfl,hρ _⟩) hf hcell
            exact⟨_,_,_,hk,.inl ⟨v,w',by simp[execOp,h1],h2⟩⟩
          . exact hk.elim
        . exact hk.elim
    . exact hk.elim
  . exact hk.elim
 case load t x =>
  obtain⟨d,rd,u,h1,h2,h3⟩:=load_ok h (hρ x) hk;exact⟨_,_,_,h1,runs_pure (by simp[execOp,h3]) h h2⟩
 case store t x y =>
  obtain⟨u,w',h1,h2,h3⟩:=store_ok (fr:=fr) h hfr (hρ x) (coe_ok P t (hρ y)) hk;exact⟨_,_,_,h1,.inr (.inl ⟨w',by simp[execOp,h2],h3 _ _ fun L' w' m' _ _=>.junk _⟩)⟩
 case binOp op t x y _ =>
  obtain⟨d,v,h1,h2,h3⟩:=bin_ok x y _ (hρ x) (hρ y) hk;exact⟨_,_,_,h1,runs_pure (by simp only[execOp];rw[Sem.run_bind,h3];rfl) h h2⟩
 case unOp op t x =>
  obtain⟨d,v,h1,h2,h3⟩:=un_ok (P:=P) (w:=w) (hρ x) hk;exact⟨_,_,_,h1,runs_pure (by simp[execOp,h3]) h h2⟩
 case convert s d x =>
  split at hk
  . rename_i g off len es hx;have hxv:=hρ x;rw[hx] at hxv;obtain⟨d,u,v',w',h1,h2,h3⟩:=mark_ok (P:=P) (fr:=fr) h hxv hk;exact⟨_,_,_,h1,.inl ⟨v',w',by simp[execOp,h2],h3⟩⟩
  . rename_i s' hx;split at hk
    . rename_i hb;obtain⟨hs,hlen,hk⟩:=hk;have hxv:=hρ x;rw[hx] at hxv;obtain⟨v,w',h1,h2⟩:=strBytes_ok (P:=P) (fr:=fr) h hs hb hlen hxv;exact⟨_,_,_,hk,.inl ⟨v,w',by simp[execOp,h1],h2⟩⟩
    . obtain⟨hs,hk⟩:=hk;obtain⟨d,v,h1,h2,h3⟩:=conv_ok (P:=P) (w:=w) hs (by have:=hρ x;rwa[hx] at this) hk;exact⟨_,_,_,h1,runs_pure (by simp[execOp,h3]) h h2⟩
  . obtain⟨hs,hk⟩:=hk;obtain⟨d,v,h1,h2,h3⟩:=conv_ok (P:=P) (w:=w) hs (hρ x) hk;exact⟨_,_,_,h1,runs_pure (by simp[execOp,h3]) h h2⟩
 case makeInterface t x =>
  split at hk
  . rename_i d hx;obtain⟨hc,hk⟩:=hk;have hxv:=hρ x;rw[hx] at hxv;exact⟨_,_,_,hk,runs_pure (v:=.iface t (a.eval x)) (by simp[execOp,run_makeInterface w t (a.eval x) hc]) h (.data _ _ (.ifc t d _ hxv.data_inv))⟩
  . exact hk.elim
 case typeAssert x st t ok =>
  split at hk
  . rename_i t' d hx;obtain⟨hc,hk⟩:=hk;have hxv:=hρ x;rw[hx] at hxv;obtain⟨d,v,h1,h2,h3⟩:=assert_ok (P:=P) (w:=w) (st:=st) hc hxv hk;exact⟨_,_,_,h1,runs_pure (by simp[execOp,h3]) h h2⟩
  . exact hk.elim
 case makeSlice t l c =>
  split at hk
  . rename_i el he;split at hk
    . rename_i es by_ k1 n k2 n2 hs hb hln hcn;obtain⟨h0,h1,h2,h3,hk⟩:=hk;unfold zerosK at hk;split at hk
      . rename_i z hz;obtain⟨hall,hsz,hz0,hk⟩:=hk;have el1:=hρ l;have el2:=hρ c;rw[hln] at el1;rw[hcn] at el2;have el1:=int_inv el1;have el2:=int_inv el2;obtain⟨v,w',q1,q2⟩:=makeSlice_ok (P:=P) h hfr he hs hb h0 h1 h2 h3 hz hall (by rw[hs] at hsz;simpa using hsz) hz0;exact⟨_,_,_,hk,.inl ⟨v,w',by simp only[execOp,el1,el2];rw[Sem.run_bind,q1];rfl,q2⟩⟩
      . exact hk.elim
    . exact hk.elim
  . exact hk.elim
 case slice t x lo hi mx =>
  split at hk
  . obtain⟨d,rd,u,h1,h2,h3⟩:=sliceArr_ok (P:=P) h hρ (hρ x) hk;exact⟨_,_,_,h1,runs_pure (by simp[execOp,h3]) h h2⟩
  . obtain⟨d,rd,u,h1,h2,h3⟩:=sliceArr_ok (P:=P) h hρ (hρ x) hk;exact⟨_,_,_,h1,runs_pure (by simp[execOp,h3]) h h2⟩
  . rename_i g off len cp es hx;have hxv:=hρ x;rw[hx] at hxv;obtain⟨d,u,h1,h2,h3⟩:=cut_ok (P:=P) hρ hxv hk;exact⟨_,_,_,h1,runs_pure (by simp[execOp,h3]) h h2⟩
  . obtain⟨d,u,h1,h2,h3⟩:=slice_ok (P:=P) hρ (hρ x) hk;exact⟨_,_,_,h1,runs_pure (by simp[execOp,h3]) h h2⟩
 case fieldAddr t x f =>
  obtain⟨d,u,h1,h2,h3⟩:=field_ok (P:=P) (hρ x) hk;exact⟨_,_,_,h1,runs_pure (by simp[execOp,h3]) h h2⟩
 case sliceToArrayPointer t x =>
  obtain⟨d,u,h1,h2,h3⟩:=arrPtr_ok (P:=P) (hρ x) hk;exact⟨_,_,_,h1,runs_pure (by simp[execOp,h3]) h h2⟩
 case field t x f =>
  obtain⟨d,u,h1,h2,h3⟩:=fieldV_ok (P:=P) (hρ x) hk;exact⟨_,_,_,h1,runs_pure (by simp[execOp,h3]) h h2⟩
 case indexAddr t x ix =>
  obtain⟨d,u,h1,h2,h3⟩:=indexAddr_ok (P:=P) (hρ x) (hρ ix) hk;exact⟨_,_,_,h1,runs_pure (by simp[execOp,h3]) h h2⟩
 case index t x ix =>
  obtain⟨d,u,h1,h2,h3⟩:=indexV_ok (P:=P) (hρ x) (hρ ix) hk;exact⟨_,_,_,h1,runs_pure (by simp[execOp,h3]) h h2⟩
 case extract x i =>
  unfold extractK at hk;split at hk
  . rename_i vs hx;obtain⟨v,hvi,hk⟩:=hk;have hxv:=hρ x;rw[hx] at hxv;have:=hxv.data_inv;generalize hce:a.eval x=vx at this;cases this with
    | tup _ us hl hh =>
    have hi:i<us.size:=by rw[<- hl];exact (List.getElem?_eq_some_iff.1 hvi).1
    exact⟨_,_,_,hk,runs_pure (by simp[execOp,Instr.extract,hce,hi]) h (.data _ _ (hh i v _ hvi (Array.getElem?_eq_getElem hi)))⟩
  . rename_i cs hx;obtain⟨d,hdi,hk⟩:=hk;have hxv:=hρ x;rw[hx] at hxv;generalize hce:a.eval x=vx at hxv;cases hxv with
    | tp _ us hl hh =>
    have hi:i<us.size:=by rw[<- hl];exact (List.getElem?_eq_some_iff.1 hdi).1
    exact⟨_,_,_,hk,runs_pure (by simp[execOp,Instr.extract,hce,hi]) h (hh i d _ hdi (Array.getElem?_eq_getElem hi))⟩
  . exact hk.elim
 case nilCheck x =>
  obtain⟨hs,hk⟩:=hk;have hxv:=hρ x;have hpv:VV (Live L0 m H) w m (ptrD (evalD Γ e x)) (a.eval x):=by
   generalize evalD Γ e x=dx at hxv;unfold ptrD;split
   . exact toD_ok hxv.data_inv
   . exact hxv
  refine⟨_,_,_,hk,runs_pure ?_ h hpv⟩;generalize hdx:evalD Γ e x=dx at hs hxv;unfold sureD at hs;split at hs
  . generalize hce:a.eval x=vx at hxv;cases hxv;simp[execOp,hce]
  . generalize hce:a.eval x=vx at hxv;cases hxv;simp[execOp,hce]
  . have hxv:=hxv.data_inv;generalize hce:a.eval x=vx at hxv;cases hxv;simp[execOp,hce]
  . cases hs
 case makeMap t r =>
  cases r with
  | none =>
    obtain⟨v,w',h1,h2⟩:=makeMap_ok (P:=P) (t:=t) h hfr;exact⟨_,_,_,hk,.inl ⟨v,w',by simp[execOp,h1],h2⟩⟩
  | some r=>exact hk.elim
 case insert t mo k x =>
  obtain⟨rd,u,w',h1,h2,h3⟩:=insert_ok (P:=P) (fr:=fr) h (hρ mo) (hρ k) (coe_ok P _ (hρ x)) hk;exact⟨_,_,_,h1,.inr (.inl ⟨w',by simp[execOp,h2],h3⟩)⟩
 case mapUpdate t mo k x =>
  obtain⟨rd,u,w',h1,h2,h3⟩:=insert_ok (P:=P) (fr:=fr) h (hρ mo) (hρ k) (coe_ok P _ (hρ x)) hk;exact⟨_,_,_,h1,.inr (.inl ⟨w',by simp[execOp,h2],h3⟩)⟩
 case lookup t x i ok =>
  obtain⟨d,rd,u,h1,h2,h3⟩:=lookup_ok (P:=P) h (hρ x) (hρ i) hk;exact⟨_,_,_,h1,runs_pure (by simp[execOp,h3]) h h2⟩
 case range t x =>
  split at hk
  . rename_i q ks xs hq hx;have hxv:=hρ x;rw[hx] at hxv;obtain⟨v,w',h1,h2⟩:=range_ok (P:=P) h hfr hq hxv;exact⟨_,_,_,hk,.inl ⟨v,w',by simp[execOp,h1],h2⟩⟩
  . rename_i s hq hx;have hxv:=hρ x;rw[hx] at hxv;obtain⟨v,w',h1,h2⟩:=range_str_ok (P:=P) h hfr hk.1 hxv;exact⟨_,_,_,hk.2,.inl ⟨v,w',by simp[execOp,h1],h2⟩⟩
  . exact hk.elim
 case next x b =>
  cases b
  . exact hk.elim
  . obtain⟨d,rd,u,r,w',h1,h2,h3⟩:=snext_ok (P:=P) (fr:=fr) (ty:=type) h (hρ x) hk;exact⟨_,_,_,h1,.inl ⟨r,w',by simp[execOp,h2],h3⟩⟩
 case entry x =>
  obtain⟨d,rd,u,h1,h2,h3⟩:=entry_ok (P:=P) h (hρ x) hk;exact⟨_,_,_,h1,runs_pure (by simp[execOp,h3]) h h2⟩
 case makeFunc f first caps =>
  split at hk
  . rename_i f hfi;have hfe:first = #[]:=by apply Array.ext';simpa using hfi
    subst hfe;refine⟨_,_,_,hk,runs_pure (v:=.func (.func f) #[] (caps.map a.eval)) (by simp[execOp,Instr.makeFunc]) h (.fn f _ _ (by simp) fun i d v h1 h2=>?_)⟩;simp only[List.getElem?_map,Option.map_eq_some_iff,Array.getElem?_toList] at h1;simp only[Array.getElem?_map,Option.map_eq_some_iff] at h2;obtain⟨y,hy,rfl⟩:=h1;obtain⟨y',hy',rfl⟩:=h2;rw[hy] at hy';cases hy';exact hρ _
  . rename_i f r hfi;obtain⟨hc0,hk⟩:=hk;have hfe:first = #[r]:=by apply Array.ext';simpa using hfi
    subst hfe;have hce:caps = #[]:=Array.eq_empty_of_size_eq_zero hc0;subst hce;exact⟨_,_,_,hk,runs_pure (v:=.func (.func f) #[a.eval r] #[]) (by simp[execOp,Instr.makeFunc]) h (.bnd f _ _ (hρ r))⟩
  . exact hk.elim
 case call c =>
  obtain⟨callee,args,argTypes⟩:=c;have hargs:∀ (i:Nat) (d:D) (v:Value),(args.toList.map (evalD Γ e))[i]?=some d->(args.map a.eval)[i]?=some v->VV (Live L0 m H) w m d v:=fun i d v h1 h2=>by
   simp only[List.getElem?_map,Option.map_eq_some_iff,Array.getElem?_toList] at h1;simp only[Array.getElem?_map,Option.map_eq_some_iff] at h2;obtain⟨y,hy,rfl⟩:=h1;obtain⟨y',hy',rfl⟩:=h2;rw[hy] at hy';cases hy';exact hρ _
  split at hk
  . rename_i x hc;simp only at hc;subst hc;split at hk
    . rename_i f pre caps hf;obtain⟨pvs,cvs,hce,hpl,hpv,hcl,hch⟩:=callee_ok (hρ x) hf;obtain⟨d,rd,u,h1,h2,h3⟩:=call_ok (P:=P) (fr:=fr) (vs:=pvs++(args.map a.eval++cvs)) h (by simp[hcl,hpl]) (args_ok hpl hpv (by simp) hargs hch) hk;refine⟨_,_,_,h1,.inr (.inr ⟨f,pvs++(args.map a.eval++cvs),w,?_,h3⟩)⟩;simp only[execOp,resolve,Sem.run_bind,hce,Deferred.ofValue,Sem.run_pure,Result.andThen_ok,invoke];rw[<- Array.append_assoc];have h2:=h2 (pvs++(args.map a.eval++cvs)) w;rw[<- Array.append_assoc] at h2;exact h2
    . exact hk.elim
  . rename_i r name hc;simp only at hc;subst hc;split at hk
    . rename_i t d hr;obtain⟨f,hmeth,hk⟩:=hk;have hrv:=hρ r;rw[hr] at hrv;have hrv:=hrv.data_inv;generalize hre:a.eval r=vr at hrv;cases hrv with
      | ifc _ _ x hx =>
      obtain⟨d,rd,u,h1,h2,h3⟩:=call_ok (P:=P) (fr:=fr) (vs:=#[x]++args.map a.eval) h (by simp[Nat.add_comm]) (fun i d v h1 h2=>by
       cases i with
       | zero =>
         simp only[List.getElem?_cons_zero,Option.some.injEq] at h1;rw[Array.getElem?_append_left (by simp)] at h2;simp only[Array.getElem?_singleton,if_true,Option.some.injEq] at h2;subst h1;subst h2;exact toD_ok hx
       | succ i =>
         rw[List.getElem?_cons_succ] at h1;rw[Array.getElem?_append_right (by simp)] at h2;simp only[List.size_toArray,List.length_cons,List.length_nil,Nat.zero_add,Nat.add_sub_cancel] at h2;exact hargs i d v h1 h2) hk
      refine⟨_,_,_,h1,.inr (.inr ⟨f,#[x]++args.map a.eval,w,?_,h3⟩)⟩;simp only[execOp,resolve,Sem.run_bind,hre,Sem.run_pure,Result.andThen_ok];exact hmeth x (args.map a.eval) w
    . exact hk.elim
  . rename_i hc;simp only at hc;subst hc;split at hk
    . rename_i t x ht hx;simp only at hx;have hax:args = #[x]:=by apply Array.ext';simpa using hx
      subst hax;obtain⟨d,u,h1,h2,h3⟩:=len_ok (P:=P) (w:=w) (ty:=type) (hρ x) hk;refine⟨_,_,_,h1,runs_pure ?_ h h2⟩;have h4:(Builtin.len_ argTypes type #[a.eval x]).run P w = .ok u w:=by
       have:∀ vs,Builtin.len_ argTypes type vs=Builtin.len_ #[t] type vs:=fun vs=>by unfold Builtin.len_;simp[ht]
       rw[this];exact h3
      simp[execOp,resolve,invoke,builtin,h4]
    . exact hk.elim
  . rename_i hc;simp only at hc;subst hc;split at hk
    . rename_i st xt x y hst hxt hx;simp only at hx;have hax:args = #[x,y]:=by apply Array.ext';simpa using hx
      subst hax;obtain⟨d,rd,u,v,w',h1,h2,h3⟩:=append_ok (P:=P) (ty:=type) h hfr hd (hρ x) (hρ y) hk;refine⟨_,_,_,h1,.inl ⟨v,w',?_,h3⟩⟩;have h4:(Builtin.append_ argTypes type #[a.eval x,a.eval y]).run P w = .ok v w':=by
       have:∀ vs,Builtin.append_ argTypes type vs=Builtin.append_ #[st,xt] type vs:=fun vs=>by unfold Builtin.append_;simp[hst,hxt]
       rw[this];exact h2
      simp[execOp,resolve,invoke,builtin,h4]
    . exact hk.elim
  . rename_i hc;simp only at hc;subst hc;split at hk
    . rename_i st x y hst hx;simp only at hx;have hax:args = #[x,y]:=by apply Array.ext';simpa using hx
      subst hax;obtain⟨d,rd,u,v,w',h1,h2,h3⟩:=copy_ok (P:=P) (xt:=st) (ty:=type) (fr:=fr) h hfr (hρ x) (hρ y) hk;refine⟨_,_,_,h1,.inl ⟨v,w',?_,h3⟩⟩;have h4:(Builtin.copy_ argTypes type #[a.eval x,a.eval y]).run P w = .ok v w':=by
       have:∀ vs,Builtin.copy_ argTypes type vs=Builtin.copy_ #[st,st] type vs:=fun vs=>by unfold Builtin.copy_;simp[hst]
       rw[this];exact h2
      simp[execOp,resolve,invoke,builtin,h4]
    . exact hk.elim
  . rename_i hc;simp only at hc;subst hc;split at hk
    . rename_i t x ht hx;simp only at hx;have hax:args = #[x]:=by apply Array.ext';simpa using hx
      subst hax;obtain⟨d,rd,u,v,w',h1,h2,h3⟩:=clear_ok (P:=P) (ty:=type) (fr:=fr) h (hρ x) hk;refine⟨_,_,_,h1,.inl ⟨v,w',?_,h3⟩⟩;have h4:(Builtin.clear_ argTypes type #[a.eval x]).run P w = .ok v w':=by
       have:∀ vs,Builtin.clear_ argTypes type vs=Builtin.clear_ #[t] type vs:=fun vs=>by unfold Builtin.clear_;simp[ht]
       rw[this];exact h2
      simp[execOp,resolve,invoke,builtin,h4]
    . exact hk.elim
  . rename_i hc;simp only at hc;subst hc;obtain⟨d,u,h1,h2,h3⟩:=minmax_ok (P:=P) (w:=w) (ts:=argTypes) (ty:=type) (vs:=args.map a.eval) (by simp) hargs hk;refine⟨_,_,_,h1,runs_pure ?_ h h2⟩;simp only[Bool.false_eq_true,if_false] at h3;simp[execOp,resolve,invoke,builtin,h3]
  . rename_i hc;simp only at hc;subst hc;obtain⟨d,u,h1,h2,h3⟩:=minmax_ok (P:=P) (w:=w) (ts:=argTypes) (ty:=type) (vs:=args.map a.eval) (by simp) hargs hk;refine⟨_,_,_,h1,runs_pure ?_ h h2⟩;simp only[if_true] at h3;simp[execOp,resolve,invoke,builtin,h3]
  . rename_i hc;simp only at hc;subst hc;split at hk
    . rename_i t x ht hx;simp only at hx;have hax:args = #[x]:=by apply Array.ext';simpa using hx
      subst hax;obtain⟨d,u,h1,h2,h3⟩:=cap_ok (P:=P) (w:=w) (ty:=type) (hρ x) hk;refine⟨_,_,_,h1,runs_pure ?_ h h2⟩;have h4:(Builtin.cap_ argTypes type #[a.eval x]).run P w = .ok u w:=by
       have:∀ vs,Builtin.cap_ argTypes type vs=Builtin.cap_ #[t] type vs:=fun vs=>by unfold Builtin.cap_;simp[ht]
       rw[this];exact h3
      simp[execOp,resolve,invoke,builtin,h4]
    . exact hk.elim
  . exact hk.elim
 all_goals exact hk.elim
end
def undefD:D:=.data (.tup [])
def stepSt (s:St) (o:Oper) (d:D) (u:List (Nat×Blk)):St:=⟨Env.dst s.env o.dst d,Hp.upd s.hp u,s.nx+1,s.lo,s.nt⟩
def dstOk (o:Oper) (nt:Nat):Bool:=match o.dst with
 | some t=>decide (t<nt)
 | none=>true
def wantedD (ops:Array Oper) (e:Nat->D) (o:Oper):Option Bool:=match o.guard with
 | none=>some true
 | some (j,want)=>match (ops[j]?).bind (·.dst) with
   | some t=>(match e t with
     | .data (.bool b)=>some (b == want)
     | .data (.tup [])=>some false
     | _=>none)
   | none=>some false
def DC (P:Program) (Γ:Nat->Option (List Data)) (f:FuncId) (ds:List D) (H:Nat->Blk) (nx:Nat) (K:D->(Nat->Blk)->Nat->Prop):Prop :=
 CallOk P f/\∀ (L0:Nat->Prop) (w0:W0) (m:Nat->MB) (w:World) (vs:Array Value),WR Γ L0 w0 m H w->(∀ g,nx<=g->m g = .res)->(∀ g,nx<=g->H g = .dead)->ds.length=vs.size->(∀ (i:Nat) (d:D) (v:Value),ds[i]?=some d->vs[i]?=some v->VV (Live L0 m H) w m d v) →
  Calls P f vs w fun e w'=>∃ v d H' nx' m',e = .returned v/\WR Γ L0 w0 m' H' w'/\VV (Live L0 m' H') w' m' d v/\Grow (Live L0 m H) w (Live L0 m' H') w'/\(∀ g,g<nx->m' g=m g)/\(∀ g,nx'<=g->m' g = .res)/\nx<=nx'/\K d H' nx'
def dcK (P:Program) (Γ:Nat->Option (List Data)) (o:Oper) (e:Nat->D) (H:Nat->Blk) (nx:Nat) (K:D->(Nat->Blk)->Nat->Prop):Prop:=match o.op with
 | .call c=>(match c.callee with
   | .value x=>(match fnD (evalD Γ e x) with
     | some (f,pre,caps)=>DC P Γ f (pre++(c.args.toList.map (evalD Γ e)++caps)) H nx K
     | none=>False)
   | _=>False)
 | .next it false=>(match evalD Γ e it with
   | .iref g=>(match H g with
     | .obj (.it ks xs left _)=>(left=[]->K (.data (.tup [.bool false])) (Hp.upd H []) (nx+1)) /\
        ∀ i k x,i∈left->ks[i]?=some k->xs[i]?=some x->K (.data (.tup [.bool true,k,x])) (Hp.upd H [(g,.obj (.it ks xs (left.filter (· != i)) (some i)))]) (nx+1)
     | _=>False)
   | _=>False)
 | .binOp .eql t x (.const (.slice none 0 0)) _=>(sliceT P t).isSome=true/\(match evalD Γ e x with
   | .data (.sl _ l)=>∀ b:Bool,(b=true->l=[])->K (.data (.bool b)) (Hp.upd H []) (nx+1)
   | .ref _ _ len _=>∀ b:Bool,(b=true->len=0)->K (.data (.bool b)) (Hp.upd H []) (nx+1)
   | .emp _=>∀ b:Bool,K (.data (.bool b)) (Hp.upd H []) (nx+1)
   | _=>False)
 | _=>False
def isCall (o:Oper):Bool:=match o.op with
 | .call c=>(match c.callee with
   | .value _=>true
   | _=>false)
 | .next _ false=>true
 | .binOp .eql _ _ (.const (.slice none 0 0)) _=>true
 | _=>false
def ifW (b:Bool) (x y:Prop):Prop:=match b with
 | true=>x
 | false=>y
section
variable (P:Program) (Γ:Nat->Option (List Data))
def opsW (ops:Array Oper):List Oper->St->(St->Prop)->Prop
 | [],s,K=>K s
 | o::rest,s,K=>dstOk o s.nt=true/\(match wantedD ops s.env o with
   | some b=>ifW b (ifW (isCall o)
      ((opK P Γ o s.env s.hp s.nx fun d _ u=>opsW ops rest (stepSt s o d u) K) \/ dcK P Γ o s.env s.hp s.nx fun d H' nx'=>opsW ops rest ⟨Env.dst s.env o.dst d,H',nx',s.lo,s.nt⟩ K)
      (opK P Γ o s.env s.hp s.nx fun d _ u=>opsW ops rest (stepSt s o d u) K)) (opsW ops rest (stepSt s o undefD []) K)
   | none=>False)
end
section
variable {P:Program} {Γ:Nat->Option (List Data)} {L0:Nat->Prop} {w0:W0}
theorem dst_get {a:Act} {e:Nat->D} {dst:Option Nat} {d:D} {v:Value} {L:Nat->Prop} {w:World} {m:Nat->MB} (hd:∀ t,dst=some t->t<a.tmps.size) (hv:VV L w m d v) (h:∀ t,VV L w m (e t) (a.tmps.getD t undef)) (t:Nat) :
 VV L w m (Env.dst e dst d t) ((a.put dst v).tmps.getD t undef):=by
 cases dst with
 | none=>exact h t
 | some q =>
   have hq:=hd q rfl;by_cases e1:t=q
   . subst e1;have h1:(a.put (some t) v).tmps.getD t undef=v:=by simp[Act.put,hq]
     have h2:Env.dst e (some t) d t=d:=by simp[Env.dst,Env.set]
     rw[h1,h2];exact hv
   . have h1:(a.put (some q) v).tmps.getD t undef=a.tmps.getD t undef:=by
      simp[Act.put,Array.getElem?_setIfInBounds_ne (Ne.symm e1)]
     have h2:Env.dst e (some q) d t=e t:=by simp[Env.dst,Env.set,e1]
     rw[h1,h2];exact h t
structure Ext (L0:Nat->Prop) (m:Nat->MB) (s:St) (w:World) (m':Nat->MB) (s':St) (w':World):Prop where
 grow:Grow (Live L0 m s.hp) w (Live L0 m' s'.hp) w'
 keep:∀ g,g<s.lo->m' g=m g
 lo:s'.lo=s.lo
 nt:s'.nt=s.nt
theorem Ext.refl (L0:Nat->Prop) (m:Nat->MB) (s:St) (w:World):Ext L0 m s w m s w:=⟨Grow.refl _ _,fun _ _=>rfl,rfl,rfl⟩
theorem Ext.trans {m m' m'':Nat->MB} {s s' s'':St} {w w' w'':World} (h:Ext L0 m s w m' s' w') (k:Ext L0 m' s' w' m'' s'' w''):Ext L0 m s w m'' s'' w'' :=
 ⟨h.grow.trans k.grow,fun g hg=>(k.keep g (by rw[h.lo];exact hg)).trans (h.keep g hg),k.lo.trans h.lo,k.nt.trans h.nt⟩
theorem put_slots (a:Act) (dst:Option Nat) (v:Value):(a.put dst v).tmps.size=a.tmps.size:=by cases dst<;>simp[Act.put]
theorem WR.none {m:Nat->MB} {H:Nat->Blk} {w:World} (h:WR Γ L0 w0 m H w) {g:Nat} (hg:m g = .res):H g = .dead:=by
 cases hb:H g with
 | dead=>rfl
 | blk rw cells =>
   rcases h.heap.blk g rw cells hb with⟨k,_⟩|⟨_,_,_,_,k,_⟩
   . rw[hg] at k;cases k
   . rw[hg] at k;cases k
 | obj o =>
   obtain⟨_,_,k,_⟩:=h.heap.obj g o hb;rw[hg] at k;cases k
theorem After.drew {fr:Nat} {m:Nat->MB} {H:Nat->Blk} {w:World} {d:D} {u:List (Nat×Blk)} {v:Value} {w':World} (h:After Γ L0 w0 fr H m w.drew d u v w'):After Γ L0 w0 fr H m w d u v w':=by
 obtain⟨m',h1,h2,h3,h4⟩:=h;exact⟨m',h1,h2,⟨h3.size,fun b hb hL=>h3.keep b hb hL⟩,h4⟩
theorem next_ok {m:Nat->MB} {H:Nat->Blk} {w:World} {fr g:Nat} {ks xs:List Data} {left:List Nat} {cur:Option Nat} {v:Value} {ty:TypeId} {K:D->(Nat->Blk)->Prop} (h:WR Γ L0 w0 m H w) (hg:H g = .obj (.it ks xs left cur)) (hv:VV (Live L0 m H) w m (.iref g) v)
 (h0:left=[]->K (.data (.tup [.bool false])) (Hp.upd H [])) (h1:∀ i k x,i∈left->ks[i]?=some k->xs[i]?=some x->K (.data (.tup [.bool true,k,x])) (Hp.upd H [(g,.obj (.it ks xs (left.filter (· != i)) (some i)))])) :
 ∃ d u r w',K d (Hp.upd H u)/\(Instr.next v false ty).run P w = .ok r w'/\After Γ L0 w0 fr H m w d u r w':=by
 obtain⟨b,ob,k1,k2,k3,k4⟩:=h.heap.obj g _ hg;cases hv with
 | iref _ b' hm' =>
 rw[k1] at hm';cases hm';cases k4 with
 | it _ _ _ _ bm seen hmv hleft hcur =>
 have hmv0:=hmv;cases hmv with
 | mp _ _ _ es clock hb hL hh hkl hxl hk hx hborn hclock =>
 have hgi:=run_getObj_any (P:=P) k3 (fun vs ty fz e=>by cases e);have hgm:=MapKept.run_getObj_map (P:=P) hh;have hold:(es.filter fun e=>!seen.contains e.born).filter (fun e=>decide (e.born<ks.length))=es.filter fun e=>!seen.contains e.born:=by
  rw[Array.filter_eq_self];intro e he;obtain⟨i,hi,hie⟩:=Array.mem_iff_getElem.1 (Array.mem_filter.1 he).1;have:=hborn i e (by rw[<- hie];exact Array.getElem?_eq_getElem hi);simp;omega
 have hnew:(es.filter fun e=>!seen.contains e.born).filter (fun e=>decide (ks.length<=e.born)) = #[]:=by
  rw[Array.filter_eq_empty_iff];intro e he;obtain⟨i,hi,hie⟩:=Array.mem_iff_getElem.1 (Array.mem_filter.1 he).1;have:=hborn i e (by rw[<- hie];exact Array.getElem?_eq_getElem hi);simp;omega
 have hnot:(!seen.isEmpty && !es.isEmpty && es.all (fun e=>decide (ks.length<=e.born)))=false:=by
  by_cases he:es = #[]
  . subst he;simp
  . have hpos:0<es.size:=by
     rcases Nat.eq_zero_or_pos es.size with q|q
     . exact absurd (Array.eq_empty_of_size_eq_zero q) he
     . exact q
    have:es.all (fun e=>decide (ks.length<=e.born))=false:=by
     rw[Bool.eq_false_iff];intro hall;rw[Array.all_eq_true] at hall;have h2:=hall 0 hpos;have h3:=hborn 0 es[0] (Array.getElem?_eq_getElem hpos);simp only[decide_eq_true_eq] at h2;omega
    simp[this]
 generalize hcand:(es.filter fun e=>!seen.contains e.born)=rest at hold hnew;have hstep:∀ (c:Nat) (w1:World),w1.heap=w.heap->((if rest.isEmpty then #[none] else #[])++rest.map some:Array (Option MapEntry))[c]?=some none->left=[]:=by
  intro c w1 _ hc;have hre:rest = #[]:=by
   by_cases he:rest = #[]
   . exact he
   . have:rest.isEmpty=false:=by simpa using he
     rw[this] at hc;simp at hc
  rw[hre] at hcand;rw[Array.filter_eq_empty_iff] at hcand;apply List.eq_nil_iff_forall_not_mem.2;intro i hi;obtain⟨q1,q2⟩:=(hleft i).1 hi;have hlt:i<es.size:=by omega
  have:=hcand es[i] (Array.getElem_mem hlt);rw[hborn i es[i] (Array.getElem?_eq_getElem hlt)] at this;simp at this;exact q2 this
 have hsome:∀ (c:Nat) (e:MapEntry),((if rest.isEmpty then #[none] else #[])++rest.map some:Array (Option MapEntry))[c]?=some (some e)->∃ i,es[i]?=some e/\e.born=i/\i∈left:=by
  intro c e hc;have hmem:e∈rest:=by
   have:=Array.mem_of_getElem? hc;simp only[Array.mem_append,Array.mem_map] at this;rcases this with q|⟨y,hy,e2⟩
   . split at q<;>simp at q
   . cases e2;exact hy
  rw[<- hcand] at hmem;obtain⟨q1,q2⟩:=Array.mem_filter.1 hmem;obtain⟨i,hi,hie⟩:=Array.mem_iff_getElem.1 q1;have hei:es[i]?=some e:=by rw[<- hie];exact Array.getElem?_eq_getElem hi
  have hbi:=hborn i e hei;refine⟨i,hei,hbi,(hleft i).2 ⟨by omega,?_⟩⟩;rw[hbi] at q2;simpa using q2
 have hsize:0<((if rest.isEmpty then #[none] else #[])++rest.map some:Array (Option MapEntry)).size:=by
  by_cases he:rest = #[]
  . subst he;simp
  . have:0<rest.size:=by
     rcases Nat.eq_zero_or_pos rest.size with q|q
     . exact absurd (Array.eq_empty_of_size_eq_zero q) he
     . exact q
    simp;omega
 generalize hcs:((if rest.isEmpty then #[none] else #[])++rest.map some:Array (Option MapEntry))=cands at *;have hdraw:∃ c w1,c<cands.size/\(choose (.mapNext cands.size)).run P w = .ok c w1/\(w1=w \/ w1=w.drew):=by
  by_cases hf:cands.size<=1
  . exact⟨0,w,hsize,by simp[choose,Sem.run,Question.forced,hf],.inl rfl⟩
  . exact⟨w.tape w.drawn (.mapNext cands.size)%cands.size,w.drew,Nat.mod_lt _ hsize,by simp only[choose,Sem.run];rw[if_neg (by simp[Question.forced,hf])];rfl,.inr rfl⟩
 obtain⟨c,w1,hc,hrun,hw1⟩:=hdraw;have hwr1:WR Γ L0 w0 m H w1:=by
  rcases hw1 with e|e
  . rw[e];exact h
  . rw[e];exact h.drew
 have back:∀ {d u r w'},After Γ L0 w0 fr H m w1 d u r w'->After Γ L0 w0 fr H m w d u r w':=fun ha=>by
  rcases hw1 with e|e
  . rw[e] at ha;exact ha
  . rw[e] at ha;exact ha.drew
 have hheap:w1.heap=w.heap:=by rcases hw1 with e|e<;>rw[e]<;>rfl
 have hcell:=Array.getElem?_eq_getElem hc;cases hce:cands[c] with
 | none =>
   rw[hce] at hcell;have hl:=hstep c w1 hheap hcell;refine⟨_,[],.tuple #[.bool false],w1,h0 hl,?_,back (After.pure hwr1 (.data _ _ (.tup _ _ rfl fun i y u hy hu=>?_)))⟩
   . simp only[Instr.next,Sem.run_bind,hgi,Result.andThen_ok,hgm,ge_iff_le,hnot,Bool.false_eq_true,if_false,hcand,hold,hnew,Array.append_empty,hcs,hrun,hcell,Sem.run_pure]
   . match i with
     | 0=>simp at hy hu;subst hy;subst hu;exact .bool false
     | i+1=>simp at hy
 | some e =>
   rw[hce] at hcell;obtain⟨i,hei,hbi,hil⟩:=hsome c e hcell;have hlt:i<es.size:=(Array.getElem?_eq_some_iff.1 hei).1;have hki:=List.getElem?_eq_getElem (l:=ks) (show i<ks.length by omega);have hxi:=List.getElem?_eq_getElem (l:=xs) (show i<xs.length by omega);have hob:ObIs (Live L0 m H) w1 m (.it ks xs (left.filter (· != i)) (some i)) (.mapIter (some bm) ks.length (seen.push i) ks.length):=by
    refine .it ks xs _ _ bm (seen.push i) ?_ (fun j=>?_) (fun j hj=>?_)
    . exact hmv0.mono ⟨by rw[hheap];exact Nat.le_refl _,fun b hb hL=>⟨by rw[hheap],hL⟩⟩
    . rw[List.mem_filter,hleft j];simp only[bne_iff_ne,ne_eq,Array.mem_push,not_or];constructor
      . rintro⟨⟨a,b⟩,c⟩;exact⟨a,b,c⟩
      . rintro⟨a,b,c⟩;exact⟨⟨a,b⟩,c⟩
    . cases hj;exact⟨by simp,by omega⟩
   obtain⟨w',hw',haf⟩:=set_obj (fr:=fr) hwr1 hg k1 (by rw[hheap];exact k3) hob;refine⟨_,_,.tuple #[.bool true,e.key,e.val],w',h1 i _ _ hil hki hxi,?_,back (haf _ _ fun L' w2 m' hgr _=>.data _ _ (.tup _ _ rfl fun j y u hy hu=>?_))⟩
   . have hset:(setObj b (.mapIter (some bm) ks.length (seen.push e.born) clock)).run P w1 = .ok () w':=by
      rw[hw',hbi,hclock,<- hkl];simp[setObj,Sem.run,hheap,k3]
     simp only[Instr.next,Sem.run_bind,hgi,Result.andThen_ok,hgm,ge_iff_le,hnot,Bool.false_eq_true,if_false,hcand,hold,hnew,Array.append_empty,hcs,hrun,hcell,Sem.run_pure,hset]
   . have hg2:Grow (Live L0 m H) w L' w2:=⟨by rw[<- hheap];exact hgr.size,fun b hb hL=>by rw[<- hheap];exact hgr.keep b (by rw[hheap];exact hb) hL⟩
     match j with
     | 0=>simp at hy hu;subst hy;subst hu;exact .bool true
     | 1=>simp at hy hu;subst hy;subst hu;exact (hk i _ e hki hei).mono hg2
     | 2=>simp at hy hu;subst hy;subst hu;exact (hx i _ e hxi hei).mono hg2
     | j+3=>simp at hy
theorem isnil_ok {m:Nat->MB} {H:Nat->Blk} {w:World} {t:TypeId} {v:Value} {a:Option Addr} {n c:Nat} (ox oy:Operand) (ht:(sliceT P t).isSome=true) (hv:v = .slice a n c) :
 (do eqGuard .eql t ox oy v (.slice none 0 0);binOp .eql t v (.slice none 0 0):Sem Value).run P w = .ok (.bool a.isNone) w:=by
 obtain⟨e,he⟩:=Option.isSome_iff_exists.1 ht;have hu:=und_slice P he;subst hv;have heq:∀ d,(Op.equalIn (d+1) t (.slice a n c) (.slice none 0 0)).run P w = .ok a.isNone w:=fun d=>by
  cases a<;>simp[Op.equalIn,run_underlying hu]
 have h2:(Op.equal t (.slice a n c) (.slice none 0 0)).run P w = .ok a.isNone w:=heq _;cases a<;>simp[eqGuard,binOp,h2]
theorem step_rel {m:Nat->MB} {s:St} {a:Act} {w:World} {o:Oper} {d:D} {u:List (Nat×Blk)} {v:Value} {w':World} (h:Rel Γ L0 w0 m s a w) (hd:dstOk o s.nt=true) (ha:After Γ L0 w0 s.nx s.hp m w d u v w') :
 ∃ m',Rel Γ L0 w0 m' (stepSt s o d u) (a.put o.dst v) w'/\Ext L0 m s w m' (stepSt s o d u) w':=by
 obtain⟨m',h1,h2,h3,h4⟩:=ha;have hmr:∀ g,m g≠.res->m' g=m g:=fun g hg=>h4 g fun e=>hg (by rw[e];exact h.res _ (Nat.le_refl _));have hres:∀ g,s.nx+1<=g->m' g = .res:=fun g hg=>by rw[h4 g (by omega)];exact h.res g (by omega)
 refine⟨m',⟨?_,?_,h1.heap,hres,?_,h1.below,h1.l0,h1.glob,?_,?_⟩,h3,fun g hg=>h4 g (by have:=h.lo;omega),rfl,rfl⟩
 . have:(a.put o.dst v).defers=a.defers:=by cases o.dst<;>rfl
   rw[this];exact h.defers
 . intro t;refine dst_get (fun t ht=>?_) h2 (fun t=>(h.vals t).mono h3 hmr) t;rw[h.slots];simpa[dstOk,ht] using hd
 . intro g hg;exact h1.none (hres g hg)
 . exact Nat.le_succ_of_le h.lo
 . rw[put_slots];exact h.slots
theorem wanted_ok {ops:Array Oper} {e:Nat->D} {a:Act} {L:Nat->Prop} {w:World} {m:Nat->MB} {o:Oper} {b:Bool} (h:∀ t,VV L w m (e t) (a.tmps.getD t undef)) (hw:wantedD ops e o=some b):Region.wanted o (yielded ops a.tmps)=b:=by
 unfold wantedD at hw;unfold Region.wanted;cases hg:o.guard with
 | none=>rw[hg] at hw;simpa using hw
 | some jw =>
   obtain⟨j,want⟩:=jw;rw[hg] at hw;simp only at hw ⊢;unfold yielded;cases hj:(ops[j]?).bind (·.dst) with
   | none=>rw[hj] at hw;simp only[Option.some.injEq] at hw;subst hw;simp
   | some t =>
     rw[hj] at hw;simp only at hw;have ht:=h t;simp only[Option.bind_some];split at hw
     . rename_i b' hb;rw[hb] at ht;have:=ht.data_inv;generalize hv:a.tmps.getD t undef=v at this;cases this;have hlt:a.tmps[t]?=some (.bool b'):=by
        rcases Nat.lt_or_ge t a.tmps.size with h1|h1
        . simp[h1] at hv;simp[h1,hv]
        . simp[Array.getElem?_eq_none h1,undef] at hv
       rw[hlt];simp only[Option.some.injEq] at hw;subst hw;simp
     . rename_i hb;rw[hb] at ht;have:=ht.data_inv;generalize hv:a.tmps.getD t undef=v at this;cases this with
       | tup _ vs hl _ =>
       simp only[Option.some.injEq] at hw;subst hw;cases hq:a.tmps[t]? with
       | none=>simp
       | some x =>
         have:x = .tuple vs:=by simpa[hq] using hv
         subst this;simp
     . cases hw
theorem undef_ok (L:Nat->Prop) (w:World) (m:Nat->MB):VV L w m undefD undef:=.data _ _ (.tup [] #[] rfl (fun i x v hx=>by simp at hx))
theorem dc_step {m:Nat->MB} {s:St} {a:Act} {w:World} {o:Oper} {K:St->Prop} {next:Act->World->Prop} {Q:Exit->Act->World->Prop} (h:Rel Γ L0 w0 m s a w) (hd:dstOk o s.nt=true)
 (hk:dcK P Γ o s.env s.hp s.nx fun d H' nx'=>K ⟨Env.dst s.env o.dst d,H',nx',s.lo,s.nt⟩)
 (hn:∀ m' s' a' w',Rel Γ L0 w0 m' s' a' w'->Ext L0 m s w m' s' w'->K s'->next a' w'):o.wp P a w next Q:=by
 obtain⟨dst,op,type,pos,after,guard⟩:=o;unfold dcK at hk;have viaAfter:∀ (hr:Runs P ⟨dst,op,type,pos,after,guard⟩ a w fun v w'=>∃ d u,K ⟨Env.dst s.env dst d,Hp.upd s.hp u,s.nx+1,s.lo,s.nt⟩/\After Γ L0 w0 s.nx s.hp m w d u v w'),Oper.wp P ⟨dst,op,type,pos,after,guard⟩ a w next Q:=fun hr=>by
  refine hr.wp fun v w' ⟨d,u,hK,ha⟩=>?_;obtain⟨m',h1,h2⟩:=step_rel h hd ha;exact hn m' _ _ _ h1 h2 hK
 have hρ:∀ x,VV (Live L0 m s.hp) w m (evalD Γ s.env x) (a.eval x):=fun x=>eval_ok h.glob h.vals x;cases op<;>simp only at hk
 case next it isStr =>
  split at hk
  . rename_i heq;cases heq
  . rename_i it' heq;cases heq;split at hk
    . rename_i g hx;have hxv:=hρ it;rw[hx] at hxv;split at hk
      . rename_i ks xs left cur hg;obtain⟨d,u,r,w',q1,q2,q3⟩:=next_ok (P:=P) (fr:=s.nx) (ty:=type) (K:=fun d H'=>K ⟨Env.dst s.env dst d,H',s.nx+1,s.lo,s.nt⟩) h.wr hg hxv hk.1 hk.2;exact viaAfter (.inl ⟨r,w',by simp[execOp,q2],d,u,q1,q3⟩)
      . exact hk.elim
    . exact hk.elim
  all_goals first|exact hk.elim|(rename_i heq;cases heq)
 case binOp op t x y yt =>
  split at hk
  . rename_i heq;cases heq
  . rename_i heq;cases heq
  . rename_i t' x' yt' heq;cases heq;obtain⟨ht,hk⟩:=hk;have hxv:=hρ x;have fin:∀ (q:Option Addr) (n c:Nat),a.eval x = .slice q n c->K ⟨Env.dst s.env dst (.data (.bool q.isNone)),Hp.upd s.hp [],s.nx+1,s.lo,s.nt⟩->Oper.wp P ⟨dst,.binOp .eql t x (.const (.slice none 0 0)) yt,type,pos,after,guard⟩ a w next Q:=fun q n c hv hK =>
     viaAfter (.inl ⟨.bool q.isNone,w,by
      have:=isnil_ok (P:=P) (m:=m) (H:=s.hp) (w:=w) (t:=t) (v:=a.eval x) (a:=q) (n:=n) (c:=c) x (.const (.slice none 0 0)) ht hv;simp only[execOp,Act.eval];simp only[Act.eval] at this;rw[Sem.run_bind,this];rfl,_,[],hK,After.pure h.wr (.data _ _ (.bool _))⟩)
    split at hk
    . rename_i es l hx;rw[hx] at hxv;have hxv:=hxv.data_inv;generalize hce:a.eval x=vx at hxv;cases hxv with
      | sl _ _ q n cap b off vs hn hle hm hes ha hc hv =>
      refine fin q n cap hce (hk _ fun hq=>?_);rcases ha with⟨rfl,_⟩|h0
      . cases hq
      . exact h0
    . rename_i g off len es hx;rw[hx] at hxv;generalize hce:a.eval x=vx at hxv;cases hxv with
      | ref _ _ _ _ b sz cap o j1 j2 j3 j4 j5=>exact fin _ _ _ hce (hk _ fun hq=>by cases hq)
      | ref0 _ _ q j1=>exact fin _ _ _ hce (hk _ fun hq=>rfl)
    . rename_i es hx;rw[hx] at hxv;generalize hce:a.eval x=vx at hxv;cases hxv with
      | emp _ q=>exact fin _ _ _ hce (hk _)
    . exact hk.elim
  . exact hk.elim
 case call c =>
  obtain⟨callee,args,argTypes⟩:=c;cases callee<;>simp only at hk
  case value x =>
   split at hk
   . rename_i f pre caps hf;obtain⟨hcall,hk⟩:=hk;have hρ:∀ x,VV (Live L0 m s.hp) w m (evalD Γ s.env x) (a.eval x):=fun x=>eval_ok h.glob h.vals x;have hargs:∀ (i:Nat) (d:D) (v:Value),(args.toList.map (evalD Γ s.env))[i]?=some d->(args.map a.eval)[i]?=some v->VV (Live L0 m s.hp) w m d v:=fun i d v h1 h2=>by
      simp only[List.getElem?_map,Option.map_eq_some_iff,Array.getElem?_toList] at h1;simp only[Array.getElem?_map,Option.map_eq_some_iff] at h2;obtain⟨y,hy,rfl⟩:=h1;obtain⟨y',hy',rfl⟩:=h2;rw[hy] at hy';cases hy';exact hρ _
     obtain⟨pvs,cvs,hce,hpl,hpv,hcl,hch⟩:=callee_ok (hρ x) hf;have hc:=hk L0 w0 m w (pvs++(args.map a.eval++cvs)) h.wr h.res h.dead (by simp[hcl,hpl]) (args_ok hpl hpv (by simp) hargs hch);have hrun:(execOp a.eval ⟨dst,.call ⟨.value x,args,argTypes⟩,type,pos,after,guard⟩).run P w = .ok (.enter f (pvs++(args.map a.eval++cvs))) w:=by
      simp only[execOp,resolve,Sem.run_bind,hce,Deferred.ofValue,Sem.run_pure,Result.andThen_ok,invoke];rw[<- Array.append_assoc];exact hcall _ w
     unfold Oper.wp;rw[hrun,Oper.upon_enter];refine hc.mono fun e w' ⟨v,d,H',nx',m',he,k1,k2,k3,k4,k5,k6,k7⟩=>?_;subst he;simp only;have hmr:∀ g,m g≠.res->m' g=m g:=fun g hg=>k4 g (Nat.lt_of_not_le fun hle=>hg (h.res g hle));have hrel:Rel Γ L0 w0 m' ⟨Env.dst s.env dst d,H',nx',s.lo,s.nt⟩ (a.put dst v) w':=by
      refine⟨?_,?_,k1.heap,k5,?_,k1.below,k1.l0,k1.glob,Nat.le_trans h.lo k6,by rw[put_slots];exact h.slots⟩
      . have:(a.put dst v).defers=a.defers:=by cases dst<;>rfl
        rw[this];exact h.defers
      . intro t;refine dst_get (fun t ht=>?_) k2 (fun t=>(h.vals t).mono k3 hmr) t;rw[h.slots];simpa[dstOk,ht] using hd
      . intro g hg;exact k1.none (k5 g hg)
     exact hn m' _ _ _ hrel ⟨k3,fun g hg=>k4 g (Nat.lt_of_lt_of_le hg h.lo),rfl,rfl⟩ k7
   . exact hk.elim
  all_goals exact hk.elim
 all_goals exact hk.elim
theorem ops_sound {ops:Array Oper} {Q:Exit->Act->World->Prop} {K:St->Prop}:∀ (l:List Oper) (m:Nat->MB) (s:St) (a:Act) (w:World),Rel Γ L0 w0 m s a w->opsW P Γ ops l s K →
 (∀ m' s' a' w',Rel Γ L0 w0 m' s' a' w'->Ext L0 m s w m' s' w'->K s'->Q .normal a' w')->wpList P ops Q l a w
 | [],m,s,a,w,h,hk,hQ=>hQ m s a w h (Ext.refl _ _ _ _) hk
 | o::rest,m,s,a,w,h,hk,hQ=>by
   obtain⟨hd,hk⟩:=hk;have viaOp:(opK P Γ o s.env s.hp s.nx fun d _ u=>opsW P Γ ops rest (stepSt s o d u) K)->o.wp P a w (wpList P ops Q rest) Q:=fun hk=>by
    obtain⟨d,rd,u,hk,hr⟩:=op_sound h.wr (h.res _ (Nat.le_refl _)) (h.dead _ (Nat.le_refl _)) h.vals hk;refine hr.wp fun v w' ha=>?_;obtain⟨m',h1,h2⟩:=step_rel h hd ha;exact ops_sound rest m' _ _ _ h1 hk fun m'' s' a' w'' h3 h4 h5=>hQ m'' s' a' w'' h3 (h2.trans h4) h5
   have viaDc:(dcK P Γ o s.env s.hp s.nx fun d H' nx'=>opsW P Γ ops rest ⟨Env.dst s.env o.dst d,H',nx',s.lo,s.nt⟩ K)->o.wp P a w (wpList P ops Q rest) Q:=fun hk =>
    dc_step h hd hk fun m' s' a' w' h1 h2 h3=>ops_sound rest m' _ _ _ h1 h3 fun m'' s' a' w'' h4 h5 h6=>hQ m'' s' a' w'' h4 (h2.trans h5) h6
   unfold wpList;cases hw:wantedD ops s.env o with
   | none=>rw[hw] at hk;exact hk.elim
   | some b =>
     rw[hw] at hk;rw[wanted_ok h.vals hw];cases b with
     | true =>
       simp only[ifW] at hk;rw[if_pos rfl];left;split at hk
       . rcases hk with hk|hk
         . exact viaOp hk
         . exact viaDc hk
       . exact viaOp hk
     | false =>
       simp only[ifW] at hk;rw[if_neg (by simp)];obtain⟨m',h1,h2⟩:=step_rel (d:=undefD) (u:=[]) (v:=undef) (w':=w) h hd ⟨m,h.wr,undef_ok _ _ _,Grow.refl _ _,fun _ _=>rfl⟩;exact ops_sound rest m' _ _ _ h1 hk fun m'' s' a' w'' h3 h4 h5=>hQ m'' s' a' w'' h3 (h2.trans h4) h5
end
end Go.Proofs.Ytndnlfgchmjbjaa
