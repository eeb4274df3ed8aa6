/- What StoreGens asks for besides. -/
import Derived.Test.YtjkpeebajibgiaaGreatPk10
import Derived.OpenShut
import Derived.SizedLaws
import Derived.LaidMore
namespace Go.Proofs.YtjkpeebajibgiaaGreat
open Go.RowKit
set_option linter.unusedVariables false
set_option linter.unusedSimpArgs false
/-- Types that are read as plain data. -/
def suppF (P:Program) (s:TypeId->Bool):Nat->List Field->Option Nat
 | o,[]=>some o
 | o,f :: fs=>if f.offset = o∧s f.type = true then suppF P s (o + P.cellsOf f.type) fs else none
def supp (P:Program):Nat->TypeId->Bool
 | 0,_=>false
 | n + 1,t=>match P.underlying t with
   | some .bool | some .string=>true
   | some (.int _)=>true
   | some (.slice e)=>supp P n e && decide (0 < P.cellsOf e) && decide (0 < P.bytesOf e)
   | some (.struct fs)=>suppF P (supp P n) 0 fs.toList == some (P.cellsOf t)
   | some (.array m e)=>supp P n e && decide (P.cellsOf t = m * P.cellsOf e)
   | _=>false
/-- The cells that a reading tells. -/
def dDF {H:Type} (r:TypeId->DataW H->List Data):List Field->List (DataW H)->List Data
 | f :: fs,d :: ds=>r f.type d++dDF r fs ds
 | _,_=>[]
def dD {H:Type} (P:Program):Nat->TypeId->DataW H->List Data
 | 0,_,_=>[]
 | n + 1,t,d=>match P.underlying t with
   | some (.slice e)=>(match d with
     | .slice elems _=>[.sl (P.cellsOf e) (elems.map fun x=>mkE P e (dD P n e x))]
     | _=>[.sl (P.cellsOf e) []])
   | some (.struct fs)=>(match d with
     | .agg parts=>dDF (dD P n) fs.toList parts
     | _=>[])
   | some (.array _ e)=>(match d with
     | .agg parts=>parts.flatMap (dD P n e)
     | _=>[])
   | _=>(match d with
     | .lit (.bool b)=>[.bool b]
     | .lit (.int k i)=>[.int k i]
     | .lit (.string s)=>[.str ⟨s.toArray⟩]
     | _=>[])
section
variable {H:Type} {enc:TypeId × Value->H} {P:Program} {w:World} {held:Bool} {spare:Nat->Bool}
theorem weights_each {ts:List TypeId} {ds:List (DataW H)} (hz:∀ x∈DataW.weightsEach P ts ds,x≤reachBytes):∀ (i:Nat) t d,ts[i]? = some t->ds[i]? = some d->∀ x∈DataW.weights P t d,x≤reachBytes:=by
 induction ts generalizing ds with
 | nil=>intro i t d h;simp at h
 | cons t ts ih =>
   cases ds with
   | nil=>intro i t d _ h;simp at h
   | cons d ds =>
     simp only [DataW.weightsEach,List.mem_append] at hz
     intro i t' d' ht hd x hx
     match i with
     | 0=>simp at ht hd;subst ht;subst hd;exact hz x (.inl hx)
     | i + 1=>exact ih (fun y hy=>hz y (.inr hy)) i t' d' (by simpa using ht) (by simpa using hd) x hx
theorem weights_all {e:TypeId} {ds:List (DataW H)} (hz:∀ x∈DataW.weightsAll P e ds,x≤reachBytes):∀ d∈ds,∀ x∈DataW.weights P e d,x≤reachBytes:=by
 induction ds with
 | nil=>intro d h;simp at h
 | cons d ds ih =>
   simp only [DataW.weightsAll,List.mem_append] at hz
   intro d' hd x hx
   rcases List.mem_cons.1 hd with rfl | hd
   · exact hz x (.inl hx)
   · exact ih (fun y hy=>hz y (.inr hy)) d' hd x hx
/-- The cells of a memory row. -/
theorem cells_get {b0:Nat} {a:Addr} {n:Nat} {cs:List Value} (h:w.cells? b0 a n = some cs):cs.length = n∧∀ i,i < n->w.cell? (a.add i) = cs[i]?:=by
 unfold World.cells? at h
 split at h
 · exact ⟨by simpa using mapM_some_length h,fun i hi=>mapM_some_get h i i (by simp [hi])⟩
 · cases h
theorem cell_lt {a:Addr} {v:Value} (h:w.cell? a = some v):a.block < w.heap.size∧a.spot = none:=by
 unfold World.cell? at h
 split at h
 · rename_i hb
   exact ⟨(Array.getElem?_eq_some_iff.1 hb).1,by cases hs:a.spot with
    | none=>rfl
    | some s=>rw [hs] at h;simp at h⟩
 · cases h
theorem mkE_cells {n:Nat} {t:TypeId} {es:List Data} (h:okD P n t es):(mkE P t es).cells = es:=by
 cases n with
 | zero=>exact h.elim
 | succ n =>
   unfold okD at h
   unfold mkE
   split at h
   all_goals rename_i hu;simp only [hu]
   · obtain ⟨b,rfl⟩:=h;rfl
   · obtain ⟨i,rfl,_⟩:=h;rfl
   · obtain ⟨s,rfl,_⟩:=h;rfl
   · obtain ⟨l,rfl,_⟩:=h;rfl
   · rfl
   · rfl
   · exact h.elim
/-- The reading of cells: plain data,of the type's form. -/
theorem read_ok:∀ (n:Nat) (fuel:Nat) (t:TypeId) (cs:List Value) (d:DataW H) (ps:List MemPlace),supp P n t = true->DataW.trod enc P w 0 spare held fuel t cs = some (d,ps)->(∀ x∈DataW.weights P t d,x≤reachBytes) →
 VDs w cs (dD P n t d)∧okD P n t (dD P n t d):=by
 intro n
 induction n with
 | zero=>intro fuel t cs d ps hs;simp [supp] at hs
 | succ n ih =>
   intro fuel t cs d ps hs h hz
   unfold supp at hs
   split at hs
   · rename_i hu
     obtain ⟨b,rfl,e⟩:=DataW.trod_bool hu h
     cases e
     simp only [dD,okD,hu]
     exact ⟨.one (.bool b),b,rfl⟩
   · rename_i hu
     obtain ⟨s,rfl,e,_⟩:=DataW.trod_string hu h
     cases e
     simp only [dD,okD,hu]
     refine ⟨.one (.str s),s,rfl,?_⟩
     have:=hz s.data.toList.length (by simp [DataW.weights])
     simpa using this
   · rename_i k hu
     obtain ⟨i,rfl,e,hw⟩:=DataW.trod_int hu h
     cases e
     simp only [dD,okD,hu]
     exact ⟨.one (.int k i),i,rfl,hw⟩
   · rename_i e hu
     simp only [Bool.and_eq_true,decide_eq_true_eq] at hs
     obtain ⟨⟨hse,hc⟩,hb⟩:=hs
     rcases DataW.trod_slice hu h with ⟨rfl,hx⟩ | ⟨a,len,cap,elems,rest,m,rfl,rfl,hx,_,hlc,hcm,hlen,hel,_,_⟩
     · cases hx
       simp only [dD,okD,hu]
       exact ⟨.one (.sl _ [] none 0 0 0 0 (fun _=>.nilIface) rfl (Nat.le_refl _) (by simp [maxLen]) (by simp) (.inr rfl) (fun i x hx=>by simp [flat] at hx) (fun i x hx=>by simp [flat] at hx)),[],rfl,by simp,by simp⟩
     · cases hx
       simp only [DataW.weights,hu,List.mem_cons,List.mem_append,List.length_map] at hz
       have hw1:=hz _ (.inl rfl)
       have hw2:=weights_all (P:=P) (e:=e) (ds:=elems.map (·.1)) (fun x hx=>hz x (.inr (.inl hx)))
       have hlen2:elems.length≤reachBytes:=by
        have:elems.length * 1≤(elems.length + rest.length) * P.bytesOf e:=Nat.mul_le_mul (by omega) hb
        omega
       have each:∀ (i:Nat) (y:DataW H × List MemPlace),elems[i]? = some y->∃ ec,w.cells? 0 (a.add (i * P.cellsOf e)) (P.cellsOf e) = some ec∧VDs w ec (dD P n e y.1)∧okD P n e (dD P n e y.1):=by
        intro i y hy
        have hi:i < len:=by rw [<- hlen];exact (List.getElem?_eq_some_iff.1 hy).1
        have h1:=hel i hi
        rw [hy,Option.bind_eq_some_iff] at h1
        obtain ⟨ec,h2,h3⟩:=h1
        exact ⟨ec,h2,ih m e ec y.1 y.2 hse h3 (hw2 y.1 (List.mem_map.2 ⟨y,List.mem_of_getElem? hy,rfl⟩))⟩
       have hcl:∀ (i:Nat) (y:DataW H × List MemPlace),elems[i]? = some y->(mkE P e (dD P n e y.1)).cells = dD P n e y.1∧(dD P n e y.1).length = P.cellsOf e:=by
        intro i y hy
        obtain ⟨ec,h2,h3,h4⟩:=each i y hy
        exact ⟨mkE_cells h4,by rw [h3.1];exact (cells_get h2).1⟩
       have hflat:∀ (l:List Data) (c:Nat),0 < c->(∀ x∈l,x.cells.length = c)->∀ (i:Nat) (x:Data),(flat l)[i]? = some x->∃ y,l[i / c]? = some y∧y.cells[i % c]? = some x:=by
        intro l c hc0
        induction l with
        | nil=>intro _ i x hx;simp [flat] at hx
        | cons y l ihl =>
          intro hall i x hx
          have hy:y.cells.length = c:=hall y (by simp)
          simp only [flat,List.flatMap_cons,List.getElem?_append] at hx
          rw [hy] at hx
          split at hx
          · rename_i hi
            rw [Nat.div_eq_of_lt hi,Nat.mod_eq_of_lt hi]
            exact ⟨y,rfl,hx⟩
          · rename_i hi
            obtain ⟨z,h1,h2⟩:=ihl (fun x hx=>hall x (by simp [hx])) (i - c) x hx
            obtain ⟨q,rfl⟩:∃ q,i = q + c:=⟨i - c,by omega⟩
            rw [Nat.add_div_right _ hc0,Nat.add_mod_right]
            rw [Nat.add_sub_cancel] at h1 h2
            exact ⟨z,by simpa using h1,h2⟩
       have hall:∀ x∈(elems.map fun y=>mkE P e (dD P n e y.1)),x.cells.length = P.cellsOf e:=by
        intro x hx
        obtain ⟨y,hy,rfl⟩:=List.mem_map.1 hx
        obtain ⟨i,hi⟩:=List.getElem?_of_mem hy
        rw [(hcl i y hi).1,(hcl i y hi).2]
       have key:∀ (i:Nat) (x:Data),(flat (elems.map fun y=>mkE P e (dD P n e y.1)))[i]? = some x->∃ v,w.cell? (a.add i) = some v∧VD (fun _=>False) w x v:=by
        intro i x hx
        obtain ⟨y,h1,h2⟩:=hflat _ _ hc hall i x hx
        rw [List.getElem?_map,Option.map_eq_some_iff] at h1
        obtain ⟨z,h3,rfl⟩:=h1
        rw [(hcl _ z h3).1] at h2
        obtain ⟨ec,h4,h5,_⟩:=each _ z h3
        obtain ⟨h6,h7⟩:=cells_get h4
        have hlt:i % P.cellsOf e < P.cellsOf e:=Nat.mod_lt _ hc
        have hv:ec[i % P.cellsOf e]? = some ec[i % P.cellsOf e]:=List.getElem?_eq_getElem (by omega)
        refine ⟨ec[i % P.cellsOf e],?_,h5.2 _ x _ h2 hv⟩
        have h8:=h7 _ hlt
        rw [hv] at h8
        rw [<- h8]
        congr 1
        have hi:=Nat.div_add_mod i (P.cellsOf e)
        rw [Nat.mul_comm] at hi
        generalize i / P.cellsOf e * P.cellsOf e = q at hi
        generalize i % P.cellsOf e = r at hi
        subst hi
        unfold Addr.add
        by_cases hq:q = 0
        · subst hq;simp
        · by_cases hr:r = 0
          · subst hr;simp
          · simp [hq,hr,Nat.add_assoc]
       have hdd:dD P (n + 1) t (DataW.slice (elems.map (·.1)) (rest.map (·.1))) = [.sl (P.cellsOf e) (elems.map fun y=>mkE P e (dD P n e y.1))]:=by
        simp [dD,hu,Function.comp_def]
       rw [hdd]
       refine ⟨.one ?_,?_⟩
       · have spot:∀ (i:Nat) (x:Data),(flat (elems.map fun y=>mkE P e (dD P n e y.1)))[i]? = some x->a.spot = none:=by
          intro i x hx
          have h0:0 < (flat (elems.map fun y=>mkE P e (dD P n e y.1))).length:=by
           have:=(List.getElem?_eq_some_iff.1 hx).1;omega
          obtain ⟨v,hv,_⟩:=key 0 _ (List.getElem?_eq_getElem h0)
          simpa [Addr.add] using (cell_lt hv).2
         refine .sl _ _ (some a) len cap a.block a.off (fun i=>(w.cell? ⟨a.block,a.off + i,none⟩).getD .nilIface) (by simp [hlen]) hlc hcm hall ?_ ?_ ?_
         · by_cases he:elems = []
           · exact .inr (by simp [he])
           · refine .inl ?_
             have h0:0 < elems.length:=List.length_pos_iff.2 he
             obtain ⟨ec,h4,_,_⟩:=each 0 elems[0] (List.getElem?_eq_getElem h0)
             obtain ⟨h6,h7⟩:=cells_get h4
             have h8:=h7 0 hc
             rw [List.getElem?_eq_getElem (by omega)] at h8
             have h9:=cell_lt h8
             simp [Addr.add] at h9
             obtain ⟨ab,ao,az⟩:=a
             simp at h9
             exact ⟨by rw [h9.2],h9.1,fun h=>h⟩
         · intro i x hx
           obtain ⟨v,hv,_⟩:=key i x hx
           have hsp:=spot i x hx
           have:a.add i = ⟨a.block,a.off + i,none⟩:=by
            unfold Addr.add
            split
            · rename_i e0;subst e0;obtain ⟨ab,ao,az⟩:=a;simp at hsp ⊢;exact hsp
            · rfl
           rw [this] at hv
           simp only [hv,Option.getD_some]
         · intro i x hx
           obtain ⟨v,hv,hvd⟩:=key i x hx
           have hsp:=spot i x hx
           have:a.add i = ⟨a.block,a.off + i,none⟩:=by
            unfold Addr.add
            split
            · rename_i e0;subst e0;obtain ⟨ab,ao,az⟩:=a;simp at hsp ⊢;exact hsp
            · rfl
           rw [this] at hv
           simp only [hv,Option.getD_some]
           exact hvd
       · simp only [okD,hu]
         refine ⟨_,rfl,by simpa using hlen2,fun x hx=>?_⟩
         obtain ⟨y,hy,rfl⟩:=List.mem_map.1 hx
         obtain ⟨i,hi⟩:=List.getElem?_of_mem hy
         obtain ⟨ec,_,_,h4⟩:=each i y hi
         exact ⟨_,rfl,h4⟩
   · rename_i fs hu
     obtain ⟨xs,m,rfl,hx,hcl,hxl,hf⟩:=DataW.trod_struct hu h
     cases hx
     simp only [DataW.weights,hu] at hz
     have hw:=weights_each hz
     have hdd:dD P (n + 1) t (DataW.agg (xs.map (·.1))) = dDF (dD P n) fs.toList (xs.map (·.1)):=by simp [dD,hu]
     rw [hdd]
     have hs2:suppF P (supp P n) 0 fs.toList = some (P.cellsOf t):=by simpa using hs
     have go:∀ (l:List Field) (ys:List (DataW H × List MemPlace)) (o:Nat),l.length = ys.length->suppF P (supp P n) o l = some (P.cellsOf t) →
      (∀ (i:Nat) (f:Field),l[i]? = some f->DataW.trod enc P w 0 spare held m f.type ((cs.drop f.offset).take (P.cellsOf f.type)) = ys[i]?) →
      (∀ (i:Nat) (f:Field) (y:DataW H × List MemPlace),l[i]? = some f->ys[i]? = some y->∀ x∈DataW.weights P f.type y.1,x≤reachBytes)->o≤P.cellsOf t∧VDs w (cs.drop o) (dDF (dD P n) l (ys.map (·.1)))∧okF (okD P n) l (dDF (dD P n) l (ys.map (·.1))):=by
      intro l
      induction l with
      | nil =>
        intro ys o hl hs3 _ _
        simp only [suppF,Option.some.injEq] at hs3
        subst hs3
        rw [<- hcl]
        simp only [List.drop_length,dDF]
        exact ⟨Nat.le_refl _,.nil w,rfl⟩
      | cons f l ihl =>
        intro ys o hl hs3 hf3 hw3
        cases ys with
        | nil=>simp at hl
        | cons y ys =>
          simp only [suppF] at hs3
          split at hs3
          · rename_i ho
            obtain ⟨rfl,hsf⟩:=ho
            have h0:=hf3 0 f rfl
            simp only [List.getElem?_cons_zero] at h0
            obtain ⟨h1,h2⟩:=ih m f.type _ y.1 y.2 hsf h0 (hw3 0 f y rfl rfl)
            obtain ⟨h3,h4,h5⟩:=ihl ys (f.offset + P.cellsOf f.type) (by simpa using hl) hs3 (fun i g hg=>by simpa using hf3 (i + 1) g (by simpa using hg)) (fun i g z hg hz'=>hw3 (i + 1) g z (by simpa using hg) (by simpa using hz'))
            refine ⟨by omega,?_,_,_,rfl,h2,h5⟩
            have:cs.drop f.offset = (cs.drop f.offset).take (P.cellsOf f.type)++cs.drop (f.offset + P.cellsOf f.type):=by
             rw [<- List.drop_drop,List.take_append_drop]
            rw [this]
            exact h1.append h4
          · cases hs3
     obtain ⟨_,h1,h2⟩:=go fs.toList xs 0 (by simp [hxl]) hs2 (fun i f hg=>hf i f (by simpa using hg)) (fun i f y hg hy=>hw i f.type y.1 (by simp at hg ⊢;exact ⟨f,hg,rfl⟩) (by simp [hy]))
     refine ⟨by simpa using h1,?_⟩
     simp only [okD,hu]
     exact h2
   · rename_i m e hu
     simp only [Bool.and_eq_true,decide_eq_true_eq] at hs
     obtain ⟨hse,hsz⟩:=hs
     obtain ⟨xs,k,rfl,hx,hcl,hxl,hf⟩:=DataW.trod_array hu h
     cases hx
     simp only [DataW.weights,hu] at hz
     have hw:=weights_all hz
     have hdd:dD P (n + 1) t (DataW.agg (xs.map (·.1))) = (xs.map (·.1)).flatMap (dD P n e):=by simp [dD,hu]
     rw [hdd]
     have go:∀ (j:Nat),j≤m->VDs w (cs.drop ((m - j) * P.cellsOf e)) (((xs.drop (m - j)).map (·.1)).flatMap (dD P n e))∧okA (okD P n e) j (((xs.drop (m - j)).map (·.1)).flatMap (dD P n e)):=by
      intro j
      induction j with
      | zero =>
        intro _
        rw [Nat.sub_zero,<- hsz,<- hcl,<- hxl]
        simp only [List.drop_length,List.map_nil,List.flatMap_nil]
        exact ⟨.nil w,rfl⟩
      | succ j ihj =>
        intro hj
        obtain ⟨h1,h2⟩:=ihj (by omega)
        have hi:m - (j + 1) < m:=by omega
        have hxi:m - (j + 1) < xs.length:=by omega
        have h0:=hf (m - (j + 1)) hi
        rw [List.getElem?_eq_getElem hxi] at h0
        obtain ⟨h3,h4⟩:=ih k e _ xs[m - (j + 1)].1 xs[m - (j + 1)].2 hse h0 (hw _ (List.mem_map.2 ⟨_,List.getElem_mem hxi,rfl⟩))
        have e1:m - (j + 1) + 1 = m - j:=by omega
        rw [List.drop_eq_getElem_cons hxi,e1]
        simp only [List.map_cons,List.flatMap_cons]
        refine ⟨?_,_,_,rfl,h4,h2⟩
        have e2:cs.drop ((m - (j + 1)) * P.cellsOf e) = (cs.drop ((m - (j + 1)) * P.cellsOf e)).take (P.cellsOf e)++cs.drop ((m - j) * P.cellsOf e):=by
         have:(m - j) * P.cellsOf e = (m - (j + 1)) * P.cellsOf e + P.cellsOf e:=by rw [<- e1,Nat.add_mul,Nat.one_mul]
         rw [this,<- List.drop_drop,List.take_append_drop]
        rw [e2]
        exact h3.append h1
     have:=go m (Nat.le_refl _)
     simp only [Nat.sub_self,Nat.zero_mul,List.drop_zero] at this
     refine ⟨this.1,?_⟩
     simp only [okD,hu]
     exact this.2
   · cases hs
theorem read_arg {n:Nat} {base:Nat} {t:TypeId} {v:Value} {d:DataW H} {ps:List MemPlace} (hs:supp P n t = true) (hv:Value.okWide P w .any base t v) (k:DataW.Trod enc P w 0 spare held t v d ps) (hz:(DataW.weights P t d).all (fun x=>decide (x≤reachBytes)) = true) :
 ∃ x,VD (fun _=>False) w x v∧argD P n t x:=by
 obtain ⟨fuel,hf⟩:=k
 obtain ⟨h1,h2⟩:=read_ok n fuel t _ d ps hs hf (fun x hx=>by simpa using List.all_eq_true.1 hz x hx)
 refine ⟨mkE P t (dD P n t d),?_,_,rfl,h2⟩
 generalize dD P n t d = ds at h1 h2
 cases n with
 | zero=>exact h2.elim
 | succ n =>
   have one:∀ x,(∀ cs,v≠.agg cs)->ds = [x]->VD (fun _=>False) w x v:=by
    intro x hna hds
    subst hds
    have:v.cells.toList = [v]:=by
     cases v with
     | agg cs=>exact absurd rfl (hna cs)
     | _=>rfl
    rw [this] at h1
    exact h1.2 0 x v rfl rfl
   unfold Value.okWide at hv
   unfold okD at h2
   unfold mkE
   split at h2
   all_goals rename_i hu;simp only [hu] at hv ⊢
   · obtain ⟨b,rfl⟩:=h2
     exact one _ (fun cs e=>by subst e;simp [Cell.okWide,Cell.ok,hu] at hv) rfl
   · obtain ⟨i,rfl,_⟩:=h2
     exact one _ (fun cs e=>by subst e;simp [Cell.okWide,Cell.ok,hu] at hv) rfl
   · obtain ⟨s,rfl,_⟩:=h2
     exact one _ (fun cs e=>by subst e;simp [Cell.okWide,Cell.ok,hu] at hv) rfl
   · obtain ⟨l,rfl,_⟩:=h2
     exact one _ (fun cs e=>by subst e;simp [Cell.okWide,Cell.ok,hu] at hv) rfl
   · obtain ⟨cs,rfl,_⟩:=hv
     exact .agg _ _ (by simpa [Value.cells] using h1.1) (fun i x u hx hu=>h1.2 i x u hx (by simpa [Value.cells] using hu))
   · obtain ⟨cs,rfl,_⟩:=hv
     exact .agg _ _ (by simpa [Value.cells] using h1.1) (fun i x u hx hu=>h1.2 i x u hx (by simpa [Value.cells] using hu))
   · exact h2.elim
/-- A law by its contract on plain data. -/
theorem calls_of_pc {Γ:Nat->Option (List Data)} {f:FuncId} {xs:List Data} {vs:Array Value} (hg:Glob Γ (fun _=>False) w) (h:PC P Γ f xs (.bool true)) (hl:xs.length = vs.size)
 (hv:∀ (i:Nat) (x:Data) (v:Value),xs[i]? = some x->vs[i]? = some v->VD (fun _=>False) w x v) :
 Calls P f vs w fun e w'=>e = .returned (.bool true)∧Below w.heap.size w w':=by
 refine (h.2 (fun _=>False) w vs hg (fun b hb=>hb.elim) hl hv).mono fun e w' ⟨v,he,hvd,hb⟩=>?_
 cases hvd
 exact ⟨he,hb⟩
theorem vdl {x0:Data} {v0:Value} {xs:List Data} {vs:List Value} (h0:VD (fun _=>False) w x0 v0) (h:∀ (i:Nat) (x:Data) (v:Value),xs[i]? = some x->vs[i]? = some v->VD (fun _=>False) w x v) :
 ∀ (i:Nat) (x:Data) (v:Value),(x0 :: xs)[i]? = some x->(v0 :: vs)[i]? = some v->VD (fun _=>False) w x v:=fun i x v hx hv=>by
 match i with
 | 0=>simp at hx hv;subst hx;subst hv;exact h0
 | i + 1=>exact h i x v (by simpa using hx) (by simpa using hv)
end
end Go.Proofs.YtjkpeebajibgiaaGreat
namespace Go.Proofs.YtjkpeebajibgiaaGreat
open Go.RowKit
set_option linter.unusedVariables false
set_option linter.unusedSimpArgs false
set_option maxRecDepth 100000
theorem std_app (a:Int) (o:List Nat) (u v:List Wr):std a o (u++v) = std a (std a o u) v:=by unfold std;rw [List.foldl_append]
theorem std_cons (a:Int) (o:List Nat) (p:Wr) (v:List Wr):std a o (p :: v) = std a (if p.1 = a then p.2 else o) v:=rfl
theorem std_no {a:Int}:∀ {ws:List Wr} {o:List Nat},(∀ p∈ws,p.1≠a)->std a o ws = o
 | [],_,_=>rfl
 | p :: ws,o,h=>by
   rw [std_cons,if_neg (h p (by simp))]
   exact std_no fun q hq=>h q (by simp [hq])
theorem std_kept {keep:List Bool} {a:Int} {v:List Nat}:∀ (w:List Wr) (n j:Nat) (hj:j < w.length),w[j] = (a,v)->(∀ (i:Nat) (hi:i < w.length),i≠j->w[i].1≠a)->∀ b,std a b (kept keep n w) = if keepAt keep (n + j) then v else b
 | p :: w,n,0,_,he,hd,b=>by
   have hp:p = (a,v):=he
   have hno:∀ q∈kept keep (n + 1) w,q.1≠a:=fun q hq=>by
    obtain ⟨i,hi,rfl⟩:=List.getElem_of_mem (kept_sub keep w (n + 1) q hq)
    exact hd (i + 1) (by simp;omega) (by omega)
   show std a b (if keepAt keep n = true then p :: kept keep (n + 1) w else kept keep (n + 1) w) = if keepAt keep n = true then v else b
   by_cases hk:keepAt keep n = true
   · rw [if_pos hk,if_pos hk,std_cons,hp,if_pos rfl,std_no hno]
   · rw [if_neg hk,if_neg hk,std_no hno]
 | p :: w,n,j + 1,hj,he,hd,b=>by
   have hp:p.1≠a:=hd 0 (by simp) (by omega)
   have ih:=fun c=>std_kept (keep:=keep) w (n + 1) j (by simpa using hj) he (fun i hi hne=>hd (i + 1) (by simp;omega) (by omega)) c
   rw [show n + (j + 1) = n + 1 + j by omega]
   unfold kept
   by_cases hk:keepAt keep n = true
   · rw [if_pos hk,std_cons,if_neg hp];exact ih b
   · rw [if_neg hk];exact ih b
theorem kept_full {keep:List Bool}:∀ (w:List Wr) (n:Nat),(∀ i,i < w.length->keepAt keep (n + i) = true)->kept keep n w = w
 | [],_,_=>rfl
 | p :: w,n,h=>by
   unfold kept
   have h0:keepAt keep n = true:=h 0 (by simp)
   rw [if_pos h0,kept_full w (n + 1) fun i hi=>by rw [show n + 1 + i = n + (i + 1) by omega];exact h (i + 1) (by simp;omega)]
namespace Bk
/-- A disk behind a crash. -/
def crashed (x:Disk) (keep:List Bool):Disk:=⟨flush x.s (Go.Proofs.YtjkpeebajibgiaaGreat.kept keep 0 x.w),[]⟩
theorem crashed_ok {x:Disk} (h:Dok x.s x.w) (keep:List Bool):Dok (crashed x keep).s (crashed x keep).w:=flush_ok h (kept_sub keep x.w 0)
theorem secAt_flat {s:List (List Nat)} (a:Int):secAt ⟨s,[]⟩ a = s.getD a.toNat []:=rfl
theorem flush_at2 {s:List (List Nat)} (hn:s.length = 64) {a:Int} (ha:0≤a∧a < 64) (w:List Wr):(flush s w).getD a.toNat [] = std a (s.getD a.toNat []) w:=by
 have hlt:a.toNat < s.length:=by omega
 have hlf:a.toNat < (flush s w).length:=by rw [flush_length];exact hlt
 rw [List.getD_eq_getElem?_getD,List.getElem?_eq_getElem hlf,flush_at s w a.toNat hlt,List.getD_eq_getElem?_getD,List.getElem?_eq_getElem hlt]
 have e:((a.toNat:Nat):Int) = a:=by omega
 rw [e]
 rfl
theorem secAt_crashed {x:Disk} (h:Dok x.s x.w) (keep:List Bool) {a:Int} (ha:0≤a∧a < 64):secAt (crashed x keep) a = std a (x.s.getD a.toNat []) (Go.Proofs.YtjkpeebajibgiaaGreat.kept keep 0 x.w):=by
 unfold crashed
 rw [secAt_flat,flush_at2 h.n ha]
theorem secAt_flushed {x:Disk} (h:Dok x.s x.w) {a:Int} (ha:0≤a∧a < 64):secAt (flushTo x) a = secAt x a:=by
 unfold flushTo
 rw [secAt_flat,flush_at2 h.n ha]
 rfl
theorem flushed_ok {x:Disk} (h:Dok x.s x.w):Dok (flushTo x).s (flushTo x).w:=flush_ok h fun p hp=>hp
/-- The records of ops that aren't flushed,from the k-th on. -/
def pend (g:Int) (k:Nat):List Op->List Wr
 | []=>[]
 | o :: l=>(34 + (k:Int),recL g k o) :: pend g (k + 1) l
theorem pend_length (g:Int):∀ (l:List Op) (k:Nat),(pend g k l).length = l.length
 | [],_=>rfl
 | _ :: l,k=>by simp [pend,pend_length g l (k + 1)]
theorem pend_at (g:Int):∀ (l:List Op) (k i:Nat) (h:i < l.length),(pend g k l)[i]'(by rw [pend_length];exact h) = (34 + ((k + i:Nat):Int),recL g ((k + i:Nat):Int) l[i])
 | _ :: l,k,0,_=>by simp [pend]
 | _ :: l,k,i + 1,h=>by
   simp only [pend,List.getElem_cons_succ]
   rw [pend_at g l (k + 1) i (by simpa using h)]
   rw [show k + 1 + i = k + (i + 1) by omega]
theorem pend_snoc (g:Int) (o:Op):∀ (l:List Op) (k:Nat),pend g k (l++[o]) = pend g k l++[(34 + ((k + l.length:Nat):Int),recL g ((k + l.length:Nat):Int) o)]
 | [],k=>by simp [pend]
 | p :: l,k=>by
   simp only [List.cons_append,pend,pend_snoc g o l (k + 1),List.length_cons]
   rw [show k + 1 + l.length = k + (l.length + 1) by omega]
/-- A store that has been begun,with so many ops done behind its snapshot,and so many of them synced. -/
structure Inv (t:Sto) (b:Book) (ops:List Op) (k:Nat):Prop where
 gb:GB b
 ch:Chain b ops
 n:ops.length≤30
 kl:k≤ops.length
 gg:1≤t.gen∧t.gen≤1000000000
 d:Dok t.x.s t.x.w
 w:t.x.w = pend t.gen k (ops.drop k)
 head:t.x.s.getD (t.gen % 2).toNat [] = headL t.gen
 other:headOf ⟨t.x.s,[]⟩ ((t.gen + 1) % 2) < t.gen
 snap:∀ i:Nat,i < 16->t.x.s.getD (2 + t.gen % 2 * 16 + (i:Int)).toNat [] = chunk (snapB b) i
 recs:∀ (i:Nat) (h:i < ops.length),i < k->t.x.s.getD (34 + (i:Int)).toNat [] = recL t.gen i ops[i]
 rest:∀ i:Nat,k≤i->i < 30->NoRec t.gen (t.x.s.getD (34 + (i:Int)).toNat [])
 seq:t.seq = ops.length
 bk:t.b = bookAt b ops
 fk:t.f = bookAt b (ops.take k)
section
variable {t:Sto} {b:Book} {ops:List Op} {k:Nat}
theorem Inv.wlen (h:Inv t b ops k):t.x.w.length = ops.length - k:=by rw [h.w,pend_length,List.length_drop]
theorem Inv.wat (h:Inv t b ops k) (i:Nat) (hi:i < t.x.w.length):∃ hk:k + i < ops.length,t.x.w[i] = (34 + ((k + i:Nat):Int),recL t.gen ((k + i:Nat):Int) ops[k + i]):=by
 have hl:=h.wlen
 refine ⟨by omega,?_⟩
 have e:=pend_at t.gen (ops.drop k) k i (by rw [List.length_drop];omega)
 rw [List.getElem_drop] at e
 have hw:=h.w
 simp only [hw]
 exact e
theorem Inv.gbt (h:Inv t b ops k):GB t.b:=by rw [h.bk];exact gb_bookAt h.gb h.ch.ty
theorem Inv.gbf (h:Inv t b ops k):GB t.f:=by rw [h.fk];exact gb_bookAt h.gb fun o ho=>h.ch.ty o (List.mem_of_mem_take ho)
theorem Inv.gs (h:Inv t b ops k):GS t:=⟨h.d,by have:=h.wlen;have:=h.n;omega,by have:=h.gg;omega,by have:=h.seq;have:=h.n;omega,h.gbt,h.gbf⟩
/-- Where no record is under way,a crash changes nothing. -/
theorem Inv.still (h:Inv t b ops k) (keep:List Bool) {a:Int} (ha:0≤a∧a < 64) (h2:a < 34 + (k:Int) ∨ 34 + (ops.length:Int)≤a):secAt (crashed t.x keep) a = t.x.s.getD a.toNat []:=by
 rw [secAt_crashed h.d keep ha]
 refine std_no fun p hp=>?_
 obtain ⟨i,hi,rfl⟩:=List.getElem_of_mem (kept_sub keep t.x.w 0 p hp)
 obtain ⟨hk,e⟩:=h.wat i hi
 rw [e]
 simp only
 omega
/-- Where one is,it stands if it was kept. -/
theorem Inv.came (h:Inv t b ops k) (keep:List Bool) {i:Nat} (hi:k≤i) (hi2:i < ops.length):secAt (crashed t.x keep) (34 + (i:Int)) = if keepAt keep (i - k) then recL t.gen i ops[i] else t.x.s.getD (34 + (i:Int)).toNat []:=by
 have hl:=h.wlen
 have hn:=h.n
 rw [secAt_crashed h.d keep (by omega)]
 obtain ⟨hk,e⟩:=h.wat (i - k) (by omega)
 have e2:k + (i - k) = i:=by omega
 simp only [e2] at e
 have:=std_kept (keep:=keep) t.x.w 0 (i - k) (by omega) e (fun j hj hne=>by
  obtain ⟨hk2,e3⟩:=h.wat j hj
  rw [e3]
  simp only
  omega) (t.x.s.getD (34 + (i:Int)).toNat [])
 rw [Nat.zero_add] at this
 exact this
theorem lead_at {keep:List Bool} {i:Nat} (h:i < leadOf keep):keepAt keep i = true:=by
 have:=leadOf_le keep
 unfold keepAt
 rw [List.getD_eq_getElem?_getD,List.getElem?_eq_getElem (by omega)]
 exact leadOf_yes keep i (by omega) h
theorem lead_end (keep:List Bool):keepAt keep (leadOf keep) = false:=by
 unfold keepAt
 rw [List.getD_eq_getElem?_getD]
 by_cases h:leadOf keep < keep.length
 · rw [List.getElem?_eq_getElem h];exact leadOf_no keep h
 · rw [List.getElem?_eq_none (by omega)];rfl
theorem Inv.recP (h:Inv t b ops k) (i:Nat) (hi:i < ops.length):RecP t.gen i ops[i]∧OpRange ops[i]:=⟨⟨h.gg,by have:=h.n;omega,h.ch.may i hi⟩,op_range (h.ch.ty _ (List.getElem_mem hi))⟩
/-- What a crash leaves: the first ones of the ops,as many as are synced,and are kept without one that isn't. -/
theorem Inv.crash (h:Inv t b ops k) (keep:List Bool):On (crashed t.x keep) t.gen b (ops.take (k + min (leadOf keep) (ops.length - k))):=by
 have hn:=h.n
 have hk:=h.kl
 have hg:=h.gg
 have hlen:(ops.take (k + min (leadOf keep) (ops.length - k))).length = k + min (leadOf keep) (ops.length - k):=by rw [List.length_take];omega
 refine ⟨crashed_ok h.d keep,h.gg,by omega,?_,?_,fun i hi=>?_,fun i hi=>?_,fun hs=>?_,fun i hi=>?_⟩
 · rw [h.still keep (by omega) (by omega)];exact h.head
 · rw [headOf_congr (x:=⟨t.x.s,[]⟩) (by rw [h.still keep (by omega) (by omega)];rfl)];exact h.other
 · rw [h.still keep (by omega) (by omega)];exact h.snap i hi
 · have hi2:i < ops.length:=by omega
   rw [List.getElem_take]
   by_cases q:i < k
   · rw [h.still keep (by omega) (by omega)];exact h.recs i hi2 q
   · rw [h.came keep (by omega) hi2,if_pos (lead_at (by omega))]
 · rw [hlen] at hs ⊢
   by_cases q:leadOf keep < ops.length - k
   · have e:k + min (leadOf keep) (ops.length - k) = k + leadOf keep:=by omega
     rw [e,h.came keep (by omega) (by omega),show k + leadOf keep - k = leadOf keep by omega,lead_end keep]
     simp only [Bool.false_eq_true,if_false]
     exact h.rest _ (by omega) (by omega)
   · have e:k + min (leadOf keep) (ops.length - k) = ops.length:=by omega
     rw [e] at hs ⊢
     rw [h.still keep (by omega) (by omega)]
     exact h.rest _ hk hs
 · by_cases q:i < k
   · have hi2:i < ops.length:=by omega
     rw [h.still keep (by omega) (by omega),h.recs i hi2 q]
     exact noRec_rec (h.recP i hi2).1 (h.recP i hi2).2
   · by_cases q2:i < ops.length
     · rw [h.came keep (by omega) q2]
       split
       · exact noRec_rec (h.recP i q2).1 (h.recP i q2).2
       · exact (h.rest i (by omega) hi).up (by omega)
     · rw [h.still keep (by omega) (by omega)]
       exact (h.rest i (by omega) hi).up (by omega)
/-- What stands on its disk,with all that is under way. -/
theorem Inv.on (h:Inv t b ops k):On t.x t.gen b ops:=by
 have hl:=h.wlen
 have hall:=h.crash (List.replicate (ops.length - k) true)
 have hlead:∀ n,leadOf (List.replicate n true) = n:=fun n=>by
  induction n with
  | zero=>rfl
  | succ n ih=>rw [List.replicate_succ];simp only [leadOf,ih]
 rw [hlead,Nat.min_self,show k + (ops.length - k) = ops.length by have:=h.kl;omega,List.take_length] at hall
 refine hall.congr h.d fun a h0 h1 _=>?_
 rw [secAt_crashed h.d _ ⟨h0,h1⟩,kept_full t.x.w 0 fun i hi=>?_]
 · rfl
 · unfold keepAt
   rw [List.getD_eq_getElem?_getD,Nat.zero_add,List.getElem?_replicate,if_pos (by omega)]
   rfl
theorem Inv.flush (h:Inv t b ops k):On (flushTo t.x) t.gen b ops:=h.on.congr (flushed_ok h.d) fun a h0 h1 _=>secAt_flushed h.d ⟨h0,h1⟩
theorem Inv.do_ (h:Inv t b ops k) {o:Op} (ho:o.Ty) (h1:t.seq < 30) (h2:(applyOp t.b o).2 = 0):Inv (doOf t o).1 b (ops++[o]) k:=by
 have hs:=h.seq
 have hk:=h.kl
 have hr:=h.gs
 have hp:RecP t.gen t.seq o:=⟨h.gg,by omega,may_of_ok h2⟩
 have hf:=hp.fit (op_range ho)
 have e:(doOf t o).1 = ⟨wroteTo t.x (34 + t.seq) (padB 128 (recB t.gen t.seq o)),t.gen,t.seq + 1,(applyOp t.b o).1,t.f⟩:=by
  unfold doOf
  rw [if_neg (by omega),if_neg (by simp [h2])]
 rw [e]
 refine ⟨h.gb,h.ch.snoc (by rw [<- h.bk];exact h2) ho,by rw [List.length_append,List.length_singleton];omega,by rw [List.length_append];omega,h.gg,wroteTo_ok h.d hr.w (by omega) (by omega) (padB_length (by rw [recB_length hf];omega)) (padB_bytes (recB_bytes hf.op.user)),?_,h.head,h.other,h.snap,fun i hi hik=>?_,h.rest,?_,?_,?_⟩
 · show t.x.w++[(34 + t.seq,padB 128 (recB t.gen t.seq o))] = _
   rw [List.drop_append_of_le_length hk,pend_snoc,<- h.w,List.length_drop,hs]
   rw [show k + (ops.length - k) = ops.length by omega]
   rfl
 · rw [List.getElem_append_left (by omega)]
   exact h.recs i (by omega) hik
 · show t.seq + 1 = _
   rw [List.length_append,List.length_singleton];omega
 · show (applyOp t.b o).1 = _
   rw [bookAt_snoc,h.bk]
 · show t.f = _
   rw [List.take_append_of_le_length hk];exact h.fk
theorem Inv.doNo (h:Inv t b ops k) {o:Op} (h1:¬ (t.seq < 30∧(applyOp t.b o).2 = 0)):(doOf t o).1 = t∧(doOf t o).2≠0:=by
 unfold doOf
 by_cases h2:30≤t.seq
 · rw [if_pos h2];exact ⟨rfl,by simp⟩
 · rw [if_neg h2,if_pos (fun e=>h1 ⟨by omega,e⟩)]
   exact ⟨rfl,fun e=>h1 ⟨by omega,e⟩⟩
theorem Inv.doYes (h:Inv t b ops k) {o:Op} (h1:t.seq < 30) (h2:(applyOp t.b o).2 = 0):(doOf t o).2 = 0∧(doOf t o).1.b = (applyOp t.b o).1∧(doOf t o).1.gen = t.gen∧(doOf t o).1.seq = t.seq + 1∧(doOf t o).1.x.w.length = t.x.w.length + 1:=by
 unfold doOf
 rw [if_neg (by omega),if_neg (by simp [h2])]
 simp [wroteTo]
theorem Inv.sync (h:Inv t b ops k):Inv (syncOf t) b ops ops.length:=by
 have hf:=h.flush
 have hd:=flushed_ok h.d
 have hn:=h.n
 have hg:=h.gg
 have e:∀ a:Int,secAt (flushTo t.x) a = (flushTo t.x).s.getD a.toNat []:=fun a=>rfl
 refine ⟨h.gb,h.ch,h.n,Nat.le_refl _,h.gg,hd,?_,?_,hf.other,fun i hi=>?_,fun i hi _=>?_,fun i hi hi2=>?_,h.seq,h.bk,?_⟩
 · rw [List.drop_length];rfl
 · exact hf.head
 · exact hf.snap i hi
 · exact hf.recs i hi
 · show NoRec t.gen ((flushTo t.x).s.getD (34 + (i:Int)).toNat [])
   have hk:=h.kl
   rw [<- e,secAt_flushed h.d (by omega)]
   have:secAt t.x (34 + (i:Int)) = t.x.s.getD (34 + (i:Int)).toNat []:=std_no fun p hp=>by
    obtain ⟨j,hj,rfl⟩:=List.getElem_of_mem hp
    obtain ⟨hk2,e3⟩:=h.wat j hj
    rw [e3]
    simp only
    omega
   rw [this]
   exact h.rest i (by omega) hi2
 · show t.b = _
   rw [List.take_length];exact h.bk
end
end Bk
end Go.Proofs.YtjkpeebajibgiaaGreat
namespace Go.Proofs.YtjkpeebajibgiaaGreat
open Go.RowKit
set_option linter.unusedVariables false
set_option linter.unusedSimpArgs false
set_option maxRecDepth 100000
namespace Bk
/-- The writes of a snapshot's first sectors. -/
def snapW (side:Int) (snap:List Nat) (n:Nat):List Wr:=(List.range n).map fun j:Nat=>(2 + side * 16 + (j:Int),chunk snap j)
theorem snapW_length (side:Int) (snap:List Nat) (n:Nat):(snapW side snap n).length = n:=by simp [snapW]
theorem snapW_at (side:Int) (snap:List Nat) (n i:Nat) (h:i < n):(snapW side snap n)[i]'(by rw [snapW_length];exact h) = (2 + side * 16 + (i:Int),chunk snap i):=by simp [snapW]
theorem snapW_mem {side:Int} {snap:List Nat} {n:Nat} {p:Wr} (h:p∈snapW side snap n):∃ i:Nat,i < n∧p = (2 + side * 16 + (i:Int),chunk snap i):=by
 obtain ⟨i,hi,rfl⟩:=List.mem_map.1 h
 exact ⟨i,List.mem_range.1 hi,rfl⟩
theorem laid_upto (x:Disk) (side:Int) (snap head:List Nat):∀ i,i≤16->laid x side snap head i = ⟨x.s,x.w++snapW side snap i⟩
 | 0,_=>by simp [laid,snapW]
 | i + 1,hi=>by
   show (if i < 16 then wroteTo (laid x side snap head i) (2 + side * 16 + i) (chunk snap i) else _) = _
   rw [if_pos (by omega),laid_upto x side snap head i (by omega)]
   unfold wroteTo snapW
   simp only [List.range_succ,List.map_append,List.map_cons,List.map_nil,List.append_assoc]
theorem laid_17 (x:Disk) (side:Int) (snap head:List Nat):laid x side snap head 17 = ⟨flush x.s (x.w++snapW side snap 16),[]⟩:=by
 show (if 16 < 16 then _ else if 16 = 17 then _ else flushTo (laid x side snap head 16)) = _
 rw [if_neg (by omega),if_neg (by omega),laid_upto x side snap head 16 (by omega)]
 rfl
theorem laid_18 (x:Disk) (side:Int) (snap head:List Nat):laid x side snap head 18 = ⟨flush x.s (x.w++snapW side snap 16),[(side,head)]⟩:=by
 show (if 17 < 16 then _ else if 17 = 17 then wroteTo (laid x side snap head 17) side head else _) = _
 rw [if_neg (by omega),if_pos rfl,laid_17]
 rfl
theorem laid_19 (x:Disk) (side:Int) (snap head:List Nat):laid x side snap head 19 = ⟨flush (flush x.s (x.w++snapW side snap 16)) [(side,head)],[]⟩:=by
 show (if 18 < 16 then _ else if 18 = 17 then _ else flushTo (laid x side snap head 18)) = _
 rw [if_neg (by omega),if_neg (by omega),laid_18]
 rfl
theorem std_snap (side:Int) (snap:List Nat) (j:Nat) (h:j < 16) (b:List Nat):std (2 + side * 16 + (j:Int)) b (snapW side snap 16) = chunk snap j:=by
 have e:=snapW_at side snap 16 j h
 have:=std_kept (keep:=List.replicate 16 true) (snapW side snap 16) 0 j (by rw [snapW_length];exact h) e (fun i hi hne=>by
  rw [snapW_length] at hi
  rw [snapW_at side snap 16 i hi]
  simp only
  omega) b
 rw [kept_full _ 0 fun i hi=>by
  rw [snapW_length] at hi
  unfold keepAt
  rw [List.getD_eq_getElem?_getD,Nat.zero_add,List.getElem?_replicate,if_pos (by omega)]
  rfl] at this
 rw [this,Nat.zero_add]
 unfold keepAt
 rw [List.getD_eq_getElem?_getD,List.getElem?_replicate,if_pos h]
 rfl
theorem std_nosnap {side:Int} {snap:List Nat} {n:Nat} {a:Int} (hn:n≤16) (ha:a < 2 + side * 16 ∨ 18 + side * 16≤a) (b:List Nat):std a b (snapW side snap n) = b :=
 std_no fun p hp=>by
  obtain ⟨i,hi,rfl⟩:=snapW_mem hp
  simp only
  omega
theorem laid19_at {x:Disk} (h:Dok x.s x.w) (side:Int) (snap head:List Nat) {a:Int} (ha:0≤a∧a < 64):secAt (laid x side snap head 19) a = if side = a then head else std a (secAt x a) (snapW side snap 16):=by
 rw [laid_19,secAt_flat,flush_at2 (by rw [flush_length];exact h.n) ha,flush_at2 h.n ha,std_app,std_cons]
 rfl
section
variable {x:Disk} {g:Int} {b c:Book} {ops:List Op}
theorem snapC (hb:GB c) (g:Int):Snap (g % 2) (snapB c) (headL g):=snap_ok hb.r hb.ty g
/-- A snapshot that is laid. -/
theorem laid_inv (hd:Dok x.s x.w) (hw:x.w.length≤100) (hg:0≤g∧g < 1000000000) (hb:GB c) (h0:headOf x (g % 2)≤g) (hold:∀ i:Nat,i < 30->NoRec (g + 1) (secAt x (34 + (i:Int)))) :
 Inv ⟨laid x ((g + 1) % 2) (snapB c) (headL (g + 1)) 19,g + 1,0,c,c⟩ c [] 0:=by
 have hok:=(laid_ok hd hw (snapC hb (g + 1)) 19 (Nat.le_refl _)).1
 have at_:∀ a:Int,(laid x ((g + 1) % 2) (snapB c) (headL (g + 1)) 19).s.getD a.toNat [] = secAt (laid x ((g + 1) % 2) (snapB c) (headL (g + 1)) 19) a:=fun a=>by rw [laid_19];rfl
 refine ⟨hb,Chain.nil c,by simp,by simp,by simp only;omega,hok,?_,?_,?_,fun i hi=>?_,fun i hi=>absurd hi (by simp),fun i _ hi=>?_,rfl,rfl,rfl⟩
 · rw [laid_19];rfl
 · show (laid x ((g + 1) % 2) (snapB c) (headL (g + 1)) 19).s.getD ((g + 1) % 2).toNat [] = _
   rw [at_,laid19_at hd _ _ _ (by omega),if_pos rfl]
 · show headOf ⟨(laid x ((g + 1) % 2) (snapB c) (headL (g + 1)) 19).s,[]⟩ ((g + 1 + 1) % 2) < g + 1
   have e:(g + 1 + 1) % 2 = g % 2:=by omega
   rw [e,headOf_congr (x:=x)]
   · omega
   · rw [secAt_flat,at_,laid19_at hd _ _ _ (by omega),if_neg (by omega),std_nosnap (Nat.le_refl _) (by omega)]
 · show (laid x ((g + 1) % 2) (snapB c) (headL (g + 1)) 19).s.getD (2 + (g + 1) % 2 * 16 + (i:Int)).toNat [] = _
   rw [at_,laid19_at hd _ _ _ (by omega),if_neg (by omega),std_snap _ _ i hi]
 · show NoRec (g + 1) ((laid x ((g + 1) % 2) (snapB c) (headL (g + 1)) 19).s.getD (34 + (i:Int)).toNat [])
   rw [at_,laid19_at hd _ _ _ (by omega),if_neg (by omega),std_nosnap (Nat.le_refl _) (by omega)]
   exact hold i hi
theorem On.lay (h:On x g b ops) (hw:x.w.length≤100) (hg:g < 1000000000) (hb:GB c):Inv ⟨laid x ((g + 1) % 2) (snapB c) (headL (g + 1)) 19,g + 1,0,c,c⟩ c [] 0 :=
 laid_inv h.d hw ⟨by have:=h.gg;omega,hg⟩ hb (by rw [headOf_head h.gg h.head];omega) h.old
/-- What begins anew. -/
theorem On.recover (h:On x g b ops) (hw:x.w.length≤100) (hg:g < 1000000000) (hb:GB b) (hc:Chain b ops) :
 recoverOf x = (⟨laid x ((g + 1) % 2) (snapB (closeOp (bookAt b ops))) (headL (g + 1)) 19,g + 1,0,closeOp (bookAt b ops),closeOp (bookAt b ops)⟩,0):=by
 have hf:=h.found hb hc
 have e:checkOf (shutOf (foundOf x).1) = (⟨laid x ((g + 1) % 2) (snapB (closeOp (bookAt b ops))) (headL (g + 1)) 19,g + 1,0,closeOp (bookAt b ops),closeOp (bookAt b ops)⟩,0):=by
  rw [hf]
  unfold checkOf shutOf
  simp only
  rw [if_neg (by omega)]
  rfl
 unfold recoverOf
 rw [e,hf]
 simp
end
/-- A store that has been begun. -/
def Begun (t:Sto):Prop:=∃ b ops k,Inv t b ops k
theorem Begun.check {t:Sto} (h:Begun t) (hg:t.gen < 1000000000):Inv (checkOf t).1 t.b [] 0∧(checkOf t).2 = 0∧(checkOf t).1 = ⟨laidOf t 19,t.gen + 1,0,t.b,t.b⟩:=by
 obtain ⟨b,ops,k,h⟩:=h
 have e:checkOf t = (⟨laidOf t 19,t.gen + 1,0,t.b,t.b⟩,0):=if_neg (by omega)
 rw [e]
 exact ⟨h.on.lay h.gs.w hg h.gbt,rfl,rfl⟩
theorem headOf_zero (i:Int) (hi:i = 0 ∨ i = 1):headOf ⟨zeroS,[]⟩ i = 0:=by
 have e:secAt ⟨zeroS,[]⟩ i = List.replicate 128 0:=by
  rcases hi with rfl | rfl <;> rfl
 unfold headOf
 rw [e]
 have:headP (List.replicate 128 0) = none:=by kernel_rfl
 rw [this]
 simp [gotE]
theorem zero_sec (i:Nat) (hi:i < 64):secAt ⟨zeroS,[]⟩ (i:Int) = List.replicate 128 0:=by
 have h:zeroS.getD ((i:Int)).toNat [] = List.replicate 128 0:=by
  have hn:zeroS.length = 64:=zero_dok.n
  rw [Int.toNat_natCast,List.getD_eq_getElem?_getD,List.getElem?_eq_getElem (by omega)]
  have h2:zeroS[i]'(by omega) = Go.Proofs.YtjkpeebajibgiaaGreat.noughts:=List.eq_of_mem_replicate (n:=64) (List.getElem_mem _)
  rw [Option.getD_some,h2]
  rfl
 exact h
theorem format_inv:Inv formatOf nilBook [] 0:=by
 have:=laid_inv (x:=⟨zeroS,[]⟩) (g:=0) (c:=nilBook) zero_dok (by simp) (by omega) gb_nil (by rw [headOf_zero _ (by omega)];omega) (fun i hi=>by
  have e:(34 + (i:Int)) = ((34 + i:Nat):Int):=by omega
  rw [e,zero_sec (34 + i) (by omega)]
  exact noRec_zero _)
 exact this
/-- A store behind an act. -/
noncomputable def oneOf (t:Sto) (a:Act6):Sto :=
 if a.kind = 0 then (doOf t a.o).1 else if a.kind = 1 then syncOf t else if a.kind = 2 then (checkOf t).1 else if a.kind = 3 then (if (recoverOf (crashed t.x a.keep)).2 = 0 then (recoverOf (crashed t.x a.keep)).1 else t) else t
noncomputable def runOf (l:List Act6):Nat->Sto
 | 0=>formatOf
 | i + 1=>if h:i < l.length then oneOf (runOf l i) l[i] else runOf l i
theorem crashed_w (x:Disk) (keep:List Bool):(crashed x keep).w = []:=rfl
theorem Begun.crash {t:Sto} (h:Begun t) (keep:List Bool) (hg:t.gen < 1000000000):(recoverOf (crashed t.x keep)).2 = 0∧Begun (recoverOf (crashed t.x keep)).1∧(recoverOf (crashed t.x keep)).1.gen = t.gen + 1:=by
 obtain ⟨b,ops,k,h⟩:=h
 have ho:=h.crash keep
 have hc:=h.ch.take (k + min (leadOf keep) (ops.length - k))
 have hw:(crashed t.x keep).w.length≤100:=by simp [crashed_w]
 rw [ho.recover hw hg h.gb hc]
 exact ⟨rfl,⟨_,_,_,ho.lay hw hg (gb_close (gb_bookAt h.gb hc.ty))⟩,rfl⟩
theorem Begun.one {t:Sto} (h:Begun t) (a:Act6) (ha:a.o.Ty) (hg:t.gen < 1000000000):Begun (oneOf t a)∧(oneOf t a).gen≤t.gen + 1:=by
 have hh:=h
 obtain ⟨b,ops,k,hi⟩:=hh
 unfold oneOf
 by_cases h0:a.kind = 0
 · rw [if_pos h0]
   by_cases h1:t.seq < 30∧(applyOp t.b a.o).2 = 0
   · exact ⟨⟨_,_,_,hi.do_ ha h1.1 h1.2⟩,by rw [(hi.doYes h1.1 h1.2).2.2.1];omega⟩
   · rw [(hi.doNo h1).1];exact ⟨h,by omega⟩
 rw [if_neg h0]
 by_cases h1:a.kind = 1
 · rw [if_pos h1]
   exact ⟨⟨_,_,_,hi.sync⟩,by show t.gen≤_;omega⟩
 rw [if_neg h1]
 by_cases h2:a.kind = 2
 · rw [if_pos h2]
   obtain ⟨q1,q2,q3⟩:=h.check hg
   exact ⟨⟨_,_,_,q1⟩,by rw [q3];simp⟩
 rw [if_neg h2]
 by_cases h3:a.kind = 3
 · rw [if_pos h3]
   obtain ⟨q1,q2,q3⟩:=h.crash a.keep hg
   rw [if_pos q1]
   exact ⟨q2,by omega⟩
 · rw [if_neg h3];exact ⟨h,by omega⟩
theorem run_begun (l:List Act6) (hl:l.length≤1000) (ht:∀ a∈l,a.o.Ty):∀ i,i≤l.length->Begun (runOf l i)∧(runOf l i).gen≤i + 1
 | 0,_=>⟨⟨_,_,_,format_inv⟩,by simp [runOf,formatOf]⟩
 | i + 1,hi=>by
   obtain ⟨h1,h2⟩:=run_begun l hl ht i (by omega)
   have hlt:i < l.length:=by omega
   show Begun (if h:i < l.length then oneOf (runOf l i) l[i] else runOf l i)∧(if h:i < l.length then oneOf (runOf l i) l[i] else runOf l i).gen≤_
   rw [dif_pos hlt]
   obtain ⟨q1,q2⟩:=h1.one l[i] (ht _ (List.getElem_mem hlt)) (by omega)
   exact ⟨q1,by omega⟩
section
variable (Γ:Nat->Option (List Data))
theorem rcrash3_pc {t:Sto} (h:Begun t) (keep:List Bool) (hk:keep.length≤1000):PC Tryz.prog Γ 33 [dk t.x.s t.x.w,.sl 1 (bools keep)] (dk (crashed t.x keep).s (crashed t.x keep).w):=by
 obtain ⟨b,ops,k,h⟩:=h
 exact rcrash_pc Γ t.x.s t.x.w h.d keep hk
theorem do3_pc {t:Sto} (h:Begun t) (o:Op) (ho:o.Ty):PC Tryz.prog Γ 13 [sto t,op o] (.tup [sto (doOf t o).1,.int .i64 (doOf t o).2]):=by
 obtain ⟨b,ops,k,h⟩:=h
 have hs:=h.gs
 exact do2_pc Γ t o hs.ok hs.q.1 (hs.b.fine o) (op_range ho) fun h1 h2=>⟨h.gg,by have:=hs.q;omega,may_of_ok h1⟩
theorem rdo3_pc {t:Sto} (h:Begun t) (o:Op) (ho:o.Ty) (hu:o.user.size≤1000):PC Tryz.prog Γ 14 [sto t,op o] (.tup [sto (doOf t o).1,.int .i64 (doOf t o).2]):=by
 obtain ⟨b,ops,k,h⟩:=h
 have hs:=h.gs
 exact rdo2_pc Γ t o hs.ok hs.q.1 (hs.b.fine o) (op_range ho) (by omega) fun h1 h2=>⟨h.gg,by have:=hs.q;omega,may_of_ok h1⟩
theorem Begun.gs {t:Sto} (h:Begun t):GS t:=by obtain ⟨b,ops,k,h⟩:=h;exact h.gs
theorem one_pc {t:Sto} (h:Begun t) (a:Act6) (ha:a.o.Ty) (hu:a.o.user.size≤1000) (hk:a.keep.length≤1000) (hg:t.gen < 1000000000):PC Tryz.prog Γ 37 [sto t,act6 a] (sto (oneOf t a)):=by
 unfold oneOf
 by_cases h0:a.kind = 0
 · rw [if_pos h0];exact oneDo_pc Γ t _ a h0 _ (rdo3_pc Γ h a.o ha hu)
 rw [if_neg h0]
 by_cases h1:a.kind = 1
 · rw [if_pos h1];exact oneSync_pc Γ t _ a h1 (rsync_pc Γ t h.gs.d)
 rw [if_neg h1]
 by_cases h2:a.kind = 2
 · rw [if_pos h2];exact oneCheck_pc Γ t _ a h2 _ (rcheck2_pc Γ t h.gs.ok)
 rw [if_neg h2]
 by_cases h3:a.kind = 3
 · rw [if_pos h3]
   obtain ⟨q1,q2,q3⟩:=h.crash a.keep hg
   have:=oneCrash_pc Γ t (recoverOf (crashed t.x a.keep)).1 a h3 (crashed t.x a.keep) (recoverOf (crashed t.x a.keep)).2 (rcrash3_pc Γ h a.keep hk) (rrecover3_pc Γ _ (crashed_ok h.gs.d _) (by simp [crashed_w]))
   rw [if_pos q1] at this ⊢
   exact this
 · rw [if_neg h3];exact oneElse_pc Γ t a h0 h1 h2 h3
theorem run3_pc (l:List Act6) (hl:l.length≤1000) (ht:∀ a∈l,a.o.Ty) (hf:∀ a∈l,a.o.user.size≤1000∧a.keep.length≤1000):PC Tryz.prog Γ 12 [.sl 11 (acts6 l)] (sto (runOf l l.length)):=by
 refine run6_pc Γ l (by omega) (runOf l) (rformat3_pc Γ) fun i hi=>?_
 obtain ⟨h1,h2⟩:=run_begun l hl ht i (by omega)
 have hm:=List.getElem_mem hi
 have:=one_pc Γ h1 l[i] (ht _ hm) (hf _ hm).1 (hf _ hm).2 (by omega)
 show PC _ _ _ _ (sto (if h:i < l.length then oneOf (runOf l i) l[i] else runOf l i))
 rw [dif_pos hi]
 exact this
end
end Bk
end Go.Proofs.YtjkpeebajibgiaaGreat
namespace Go.Proofs.YtjkpeebajibgiaaGreat
open Go.RowKit
set_option linter.unusedVariables false
set_option linter.unusedSimpArgs false
set_option maxRecDepth 100000
theorem lift_list {α:Type} {f:α->Data} {p:α->Prop}:∀ {l:List Data},(∀ x∈l,∃ a,p a∧x = f a)->∃ m:List α,l = m.map f∧∀ a∈m,p a
 | [],_=>⟨[],rfl,by simp⟩
 | x :: l,h=>by
   obtain ⟨a,ha,rfl⟩:=h x (by simp)
   obtain ⟨m,rfl,hm⟩:=lift_list (l:=l) fun y hy=>h y (by simp [hy])
   exact ⟨a :: m,rfl,by simpa using ⟨ha,hm⟩⟩
theorem ok_bools {n:Nat} {ds:List Data} (h:okD Tryz.prog (n + 2) 59 ds):∃ k:List Bool,k.length≤140737488351232∧ds = [.sl 1 (bools k)]:=by
 obtain ⟨l,rfl,hl,he⟩:=ok_slice Tryz.underlying59 h
 obtain ⟨k,rfl,_⟩:=lift_list (f:=Data.bool) (p:=fun _=>True) fun x hx=>by
  obtain ⟨b,rfl⟩:=arg_bool Tryz.underlying4 (he x hx)
  exact ⟨b,trivial,rfl⟩
 exact ⟨k,by simpa using hl,by rw [show Tryz.prog.cellsOf 4 = 1 by kernel_rfl];rfl⟩
end Go.Proofs.YtjkpeebajibgiaaGreat
namespace Go.Proofs.YtjkpeebajibgiaaGreat
open Go.RowKit
set_option linter.unusedVariables false
set_option linter.unusedSimpArgs false
set_option maxRecDepth 100000
namespace Bk
section
variable (Γ:Nat->Option (List Data))
set_option maxHeartbeats 2000000 in
theorem psame_pc (s t:Sto) (p q r:Bool) (c1:PC Tryz.prog Γ 55 [dk s.x.s s.x.w,dk t.x.s t.x.w] (.bool p)) (c2:PC Tryz.prog Γ 56 [book s.b,book t.b] (.bool q)) (c3:PC Tryz.prog Γ 56 [book s.f,book t.f] (.bool r)) :
 PC Tryz.prog Γ 25 [sto s,sto t] (.bool (decide (s.gen = t.gen) && (decide (s.seq = t.seq) && (p && (q && r))))):=by
 refine pc_by mixed Tryz.func25 rfl (fun args w=>Tryz.call25 args w) ?_
 unfold sto bookL
 unfold dk book at *
 by_cases h1:s.gen = t.gen
 · rw [decide_eq_true h1,Bool.true_and]
   by_cases h2:s.seq = t.seq
   · rw [decide_eq_true h2,Bool.true_and]
     simp -implicitDefEqProofs (disch:=omega) [go_sem,h1,h2]
     refine .inl (call_data c1 (by simp [go_sem]) ?_)
     cases p with
     | false=>simp -implicitDefEqProofs (disch:=omega) [go_sem,Tryz.f25]
     | true =>
       rw [Bool.true_and]
       simp -implicitDefEqProofs (disch:=omega) [go_sem]
       refine .inl (call_data c2 (by simp [go_sem]) ?_)
       cases q with
       | false=>simp -implicitDefEqProofs (disch:=omega) [go_sem,Tryz.f25]
       | true =>
         rw [Bool.true_and]
         simp -implicitDefEqProofs (disch:=omega) [go_sem]
         refine .inl (call_data c3 (by simp [go_sem]) ?_)
         simp -implicitDefEqProofs (disch:=omega) [go_sem,Tryz.f25]
   · rw [decide_eq_false h2,Bool.false_and]
     simp -implicitDefEqProofs (disch:=omega) [go_sem,h1,h2,Tryz.f25]
 · rw [decide_eq_false h1,Bool.false_and]
   simp -implicitDefEqProofs (disch:=omega) [go_sem,h1,Tryz.f25]
end
end Bk
end Go.Proofs.YtjkpeebajibgiaaGreat
namespace Go.Proofs.YtjkpeebajibgiaaGreat
open Go.RowKit
set_option linter.unusedVariables false
set_option linter.unusedSimpArgs false
set_option maxRecDepth 100000
namespace Bk
def uS:ByteArray:=⟨#[117]⟩
theorem uS_size:uS.size = 1:=rfl
def opS:Op:=⟨4,0,0,0,uS,0,0,0,7⟩
theorem opS_ty:opS.Ty:=by
 refine ⟨?_,?_,?_,?_,?_,?_,?_,?_,?_⟩ <;> first | (unfold R64;decide) | (unfold U64;decide) | decide
theorem opS_apply:applyOp nilBook opS = (⟨0,[],[],[⟨uS,1,7⟩]⟩,0):=by
 have hm:MayP opS:=by simp [MayP,opS,uS_size]
 unfold applyOp
 rw [if_neg (by simpa using hm),if_neg (by decide),if_neg (by decide),if_pos (by decide)]
 unfold failedOp failedAt
 rw [if_neg (by decide)]
 have:failed nilBook opS.user = -1:=failed_no (by simp [nilBook])
 rw [this,if_pos (by decide)]
 rfl
section
variable (Γ:Nat->Option (List Data))
theorem psame_self {t:Sto} (h:GS t):PC Tryz.prog Γ 25 [sto t,sto t] (.bool true):=by
 have:=psame_pc Γ t t true true true (by have:=Go.Proofs.YtjkpeebajibgiaaGreat.same_pc Γ t.x.s t.x.s t.x.w t.x.w h.d h.d;rwa [decide_eq_true ⟨rfl,rfl⟩] at this)
  (by have:=same2_pc Γ t.b t.b h.b.fits h.b.fits h.b.ty h.b.ty;rwa [decide_eq_true rfl] at this) (by have:=same2_pc Γ t.f t.f h.f.fits h.f.fits h.f.ty h.f.ty;rwa [decide_eq_true rfl] at this)
 simpa using this
set_option maxHeartbeats 8000000 in
theorem shown6_pc:PC Tryz.prog Γ 10 [] (.bool true):=by
 refine pc_by mixed Tryz.func10 rfl (fun args w=>Tryz.call10 args w) ?_
 have i0:=format_inv
 have b0:Begun formatOf:=⟨_,_,_,i0⟩
 have hap:(applyOp formatOf.b opS).2 = 0:=by show (applyOp nilBook opS).2 = 0;rw [opS_apply]
 have hb1:(applyOp formatOf.b opS).1 = ⟨0,[],[],[⟨uS,1,7⟩]⟩:=by show (applyOp nilBook opS).1 = _;rw [opS_apply]
 have i1:=i0.do_ opS_ty (by decide) hap
 obtain ⟨e1,e2,e3,e4,e5⟩:=i0.doYes (o:=opS) (by decide) hap
 have c1:=format3_pc Γ
 have c2:=do3_pc Γ b0 opS opS_ty
 rw [e1] at c2
 rw [hb1] at e2
 have bg1:Begun (doOf formatOf opS).1:=⟨_,_,_,i1⟩
 have g1:(doOf formatOf opS).1.gen = 1:=e3
 generalize (doOf formatOf opS).1 = t1 at *
 have s1:=i1.sync
 have bs:Begun (syncOf t1):=⟨_,_,_,s1⟩
 have c3:=rcrash3_pc Γ bg1 [] (by simp)
 have c4:=rcrash3_pc Γ bg1 [true] (by simp)
 have c5:=rcrash3_pc Γ bs [] (by simp)
 have f3:=found3_pc Γ _ (crashed_ok bg1.gs.d [])
 have f4:=found3_pc Γ _ (crashed_ok bg1.gs.d [true])
 have f5:=recover3_pc Γ _ (crashed_ok bs.gs.d []) (by simp [crashed_w])
 have o3:=i1.crash []
 have o4:=i1.crash [true]
 have o5:=s1.crash []
 rw [g1] at o3 o4
 have gs1:(syncOf t1).gen = 1:=g1
 rw [gs1] at o5
 have n3:=o3.found gb_nil (i1.ch.take _)
 have n4:=o4.found gb_nil (i1.ch.take _)
 have n5:=o5.recover (by simp [crashed_w]) (by decide) gb_nil (s1.ch.take _)
 have bk:bookAt nilBook [opS] = ⟨0,[],[],[⟨uS,1,7⟩]⟩:=by show (applyOp nilBook opS).1 = _;rw [opS_apply]
 simp only [List.nil_append,List.length_cons,List.length_nil,leadOf,Nat.zero_add,Nat.sub_zero,Nat.min_self,Nat.sub_self,Nat.zero_min,Nat.add_zero,List.take_zero,List.take_succ_cons,Nat.min_zero] at n3 n4 n5
 rw [bk] at n4 n5
 rw [n3] at f3
 rw [n4] at f4
 rw [n5] at f5
 have c6:=psame_self Γ bg1.gs
 have c7:=steps2_pc Γ t1 bg1.gs.ok (by omega)
 have c8:=sync_pc Γ t1 bg1.gs.d bg1.gs.b.short
 obtain ⟨r3,l3,f3⟩:∃ r:Sto,r.b.locks = []∧PC Tryz.prog Γ 28 [dk (crashed t1.x []).s (crashed t1.x []).w] (.tup [sto r,.int .i64 0]):=⟨_,rfl,f3⟩
 obtain ⟨r4,l4,f4⟩:∃ r:Sto,r.b.locks.length = 1∧PC Tryz.prog Γ 28 [dk (crashed t1.x [true]).s (crashed t1.x [true]).w] (.tup [sto r,.int .i64 0]):=⟨_,rfl,f4⟩
 obtain ⟨r5,l5,q5,f5⟩:∃ r:Sto,r.b.locks.length = 1∧r.gen = 2∧PC Tryz.prog Γ 30 [dk (crashed (syncOf t1).x []).s (crashed (syncOf t1).x []).w] (.tup [sto r,.int .i64 0]):=⟨_,rfl,rfl,f5⟩
 have c8:PC Tryz.prog Γ 18 [sto t1] (sto (syncOf t1)):=c8
 have hd7:=disksL_length (laidOf t1) 20
 generalize disksL (laidOf t1) 20 = D7 at *
 generalize syncOf t1 = t2 at *
 generalize crashed t1.x [] = y3 at *
 generalize crashed t1.x [true] = y4 at *
 generalize crashed t2.x [] = y5 at *
 clear n3 n4 n5 o3 o4 o5 i0 b0 i1 s1 bs hap hb1 bg1
 generalize formatOf = t0 at *
 unfold op opS at c2
 unfold sto bookL dk at *
 simp -implicitDefEqProofs (disch:=omega) [go_sem]
 refine .inl (call_data c1 (by simp [go_sem]) ?_)
 simp -implicitDefEqProofs (disch:=omega) [go_sem]
 refine .inl (call_data c2 (by simp [go_sem,uS]) ?_)
 simp -implicitDefEqProofs (disch:=omega) [go_sem]
 refine .inl (call_frz [] [] (by simp) c3 (fun H' hH'=>frzL_c (.data _) (frzL_c (.emp ..) frzL_n)) ?_)
 simp -implicitDefEqProofs (disch:=omega) [go_sem]
 refine .inl (call_data f3 (by simp [go_sem]) ?_)
 simp -implicitDefEqProofs (disch:=omega) [go_sem]
 refine .inl (call_keep 22 c4 (rw:=true) (cells:=(bools [true]).map D.data) (by simp [Hp.upd,Hp.set,bools]) (fun H' hg=>frzL_c (.data _) (frzL_c (frz_ref (rw:=false) (cells:=(bools [true]).map D.data) hg (.inr rfl) rfl (by simp [bools,Data.cells]) rfl) frzL_n)) ?_)
 simp -implicitDefEqProofs (disch:=omega) [go_sem]
 refine .inl (call_data f4 (by simp [go_sem]) ?_)
 simp -implicitDefEqProofs (disch:=omega) [go_sem]
 refine .inl (call_data c8 (by simp [go_sem]) ?_)
 simp -implicitDefEqProofs (disch:=omega) [go_sem]
 refine .inl (call_frz [] [] (by simp) c5 (fun H' hH'=>frzL_c (.data _) (frzL_c (.emp ..) frzL_n)) ?_)
 simp -implicitDefEqProofs (disch:=omega) [go_sem]
 refine .inl (call_data f5 (by simp [go_sem]) ?_)
 simp -implicitDefEqProofs (disch:=omega) [go_sem]
 refine .inl (call_data c6 (by simp [go_sem]) ?_)
 simp -implicitDefEqProofs (maxSteps:=4000000) (disch:=omega) [go_sem,l3,l4,l5,q5]
 refine .inl (call_data c7 (by simp [go_sem]) ?_)
 simp -implicitDefEqProofs (maxSteps:=4000000) (disch:=omega) [go_sem,hd7,Tryz.f10]
end
end Bk
end Go.Proofs.YtjkpeebajibgiaaGreat
namespace Go.Proofs.YtjkpeebajibgiaaGreat
open Go.RowKit
set_option linter.unusedVariables false
set_option linter.unusedSimpArgs false
set_option maxRecDepth 100000
namespace Bk
theorem arg_act {n:Nat} {x:Data} (a:argD Tryz.prog (n + 5) 73 x):∃ t:Act6,t.o.Ty∧x = act6 t:=by
 obtain ⟨ds,rfl,h⟩:=arg_struct Tryz.underlying73 a
 obtain ⟨d1,r1,rfl,h1,h⟩:=okF_cons h
 obtain ⟨d2,r2,rfl,h2,h⟩:=okF_cons h
 obtain ⟨d3,r3,rfl,h3,h⟩:=okF_cons h
 obtain rfl:=okF_nil h
 obtain ⟨i,_,_,rfl⟩:=ok_i64 Tryz.underlying3 h1
 obtain ⟨o,ho,rfl⟩:=ok_op h2
 obtain ⟨k,_,rfl⟩:=ok_bools h3
 exact ⟨⟨i,o,k⟩,ho,rfl⟩
theorem arg_acts {n:Nat} {x:Data} (a:argD Tryz.prog (n + 6) 22 x):∃ l:List Act6,x = .sl 11 (acts6 l)∧l.length≤140737488351232∧∀ a∈l,a.o.Ty:=by
 obtain ⟨l,rfl,hl,h⟩:=arg_slice Tryz.underlying22 a
 obtain ⟨m,rfl,hm⟩:=lift_list (f:=act6) (p:=fun t:Act6=>t.o.Ty) fun x hx=>arg_act (h x hx)
 exact ⟨m,by rw [show (Tryz.prog).cellsOf 73 = 11 by kernel_rfl];rfl,by simpa using hl,hm⟩
theorem Begun.ran {l:List Act6} (hl:l.length≤1000) (ht:∀ a∈l,a.o.Ty):Begun (runOf l l.length)∧(runOf l l.length).gen≤l.length + 1:=run_begun l hl ht l.length (Nat.le_refl _)
theorem Begun.did {t:Sto} (h:Begun t) {o:Op} (ho:o.Ty):Begun (doOf t o).1:=by
 have hh:=h
 obtain ⟨b,ops,k,hi⟩:=hh
 by_cases h1:t.seq < 30∧(applyOp t.b o).2 = 0
 · exact ⟨_,_,_,hi.do_ ho h1.1 h1.2⟩
 · rw [(hi.doNo h1).1];exact h
theorem Begun.synced {t:Sto} (h:Begun t):Begun (syncOf t):=by
 obtain ⟨b,ops,k,hi⟩:=h
 exact ⟨_,_,_,hi.sync⟩
end Bk
end Go.Proofs.YtjkpeebajibgiaaGreat
namespace Go.Proofs.YtjkpeebajibgiaaGreat
open Go.RowKit
set_option linter.unusedVariables false
set_option linter.unusedSimpArgs false
set_option maxRecDepth 100000
namespace Bk
section
variable (Γ:Nat->Option (List Data))
theorem FewP.few {l:List Act6} {n:Int} (h:FewP l n):(∀ a∈l,a.o.user.size≤1000∧a.keep.length≤1000):=fun a ha=>by
 obtain ⟨i,hi,rfl⟩:=List.getElem_of_mem ha
 have:=h.2 i hi
 omega
set_option maxHeartbeats 8000000 in
theorem gens_pc (l:List Act6) (hl:l.length≤140737488351232) (ht:∀ a∈l,a.o.Ty) (o:Op) (ho:o.Ty):PC Tryz.prog Γ 9 [.sl 11 (acts6 l),op o] (.bool true):=by
 refine pc_by mixed Tryz.func9 rfl (fun args w=>Tryz.call9 args w) ?_
 have c0:=shown6_pc Γ
 obtain ⟨q,hq⟩:=dec_ex (FewP l 40)
 have cf:=few_pc Γ l 40 hl hq
 simp -implicitDefEqProofs (disch:=omega) [go_sem,op]
 refine .inl (call_data c0 (by simp [go_sem]) ?_)
 simp -implicitDefEqProofs (disch:=omega) [go_sem]
 refine .inl (call_data cf (by simp [go_sem]) ?_)
 cases q
 · simp -implicitDefEqProofs (disch:=omega) [go_sem,Tryz.f9]
 by_cases hu:50 < o.user.size
 · simp -implicitDefEqProofs (disch:=omega) [go_sem,Tryz.f9]
 have hF:=hq.1 rfl
 have hl40:=hF.1
 obtain ⟨bg,hg⟩:=Begun.ran (l:=l) (by omega) ht
 have c1:=run3_pc Γ l (by omega) ht hF.few
 generalize runOf l l.length = T at *
 have c2:=check2_pc Γ T bg.gs.ok
 obtain ⟨_,k1,k2⟩:=bg.check (by omega)
 rw [k1] at c2
 have bg2:=bg
 obtain ⟨b,ops,k,hi⟩:=bg2
 have hgg:=hi.gg
 have hn:=hi.n
 have hseq:=hi.seq
 have c3:=recover3_pc Γ T.x hi.d hi.gs.w
 rw [hi.on.recover hi.gs.w (by omega) hi.gb hi.ch] at c3
 obtain ⟨r2,a1,a2,a3,c2⟩:∃ r:Sto,r.gen = T.gen + 1∧r.seq = 0∧r.x.w = []∧PC Tryz.prog Γ 15 [sto T] (.tup [sto r,.int .i64 0]):=⟨_,by rw [k2],by rw [k2],by rw [k2];show (laidOf T 19).w = [];unfold laidOf;rw [laid_19],c2⟩
 obtain ⟨r3,a4,a5,a6,c3⟩:∃ r:Sto,r.gen = T.gen + 1∧r.seq = 0∧r.x.w = []∧PC Tryz.prog Γ 30 [dk T.x.s T.x.w] (.tup [sto r,.int .i64 0]):=⟨_,rfl,rfl,by simp only;rw [laid_19],c3⟩
 have c4:=do3_pc Γ bg o ho
 have c5:=psame_self Γ bg.gs
 have e0:(wrs r2.x.w).length + (wrs r3.x.w).length = 0:=by rw [a3,a6];rfl
 have lw2:r2.x.w.length = 0:=by rw [a3];rfl
 have lw3:r3.x.w.length = 0:=by rw [a6];rfl
 have hwl:=hi.wlen
 by_cases hd:T.seq < 30∧(applyOp T.b o).2 = 0
 · obtain ⟨e1,e2,e3,e4,e5⟩:=hi.doYes (o:=o) hd.1 hd.2
   rw [e1] at c4
   generalize (doOf T o).1 = r4 at *
   clear hi bg
   unfold sto bookL dk op at *
   simp -implicitDefEqProofs (disch:=omega) [go_sem]
   refine .inl (call_data c1 (by simp [go_sem]) ?_)
   simp -implicitDefEqProofs (disch:=omega) [go_sem]
   refine .inl (call_data c2 (by simp [go_sem]) ?_)
   simp -implicitDefEqProofs (disch:=omega) [go_sem]
   refine .inl (call_data c3 (by simp [go_sem]) ?_)
   simp -implicitDefEqProofs (disch:=omega) [go_sem]
   refine .inl (call_data c4 (by simp [go_sem]) ?_)
   simp -implicitDefEqProofs (maxSteps:=4000000) (disch:=omega) [go_sem,a1,a2,a4,a5,lw2,lw3,e3,e4,e5,hd.1,Tryz.f9]
 · obtain ⟨e1,e2⟩:=hi.doNo (o:=o) hd
   rw [e1] at c4
   have e3:T.seq < 30 ∨ (doOf T o).2 = 4:=by
    by_cases h30:30≤T.seq
    · right;unfold doOf;rw [if_pos h30]
    · left;omega
   generalize (doOf T o).2 = r4 at *
   clear hi bg
   unfold sto bookL dk op at *
   simp -implicitDefEqProofs (disch:=omega) [go_sem]
   refine .inl (call_data c1 (by simp [go_sem]) ?_)
   simp -implicitDefEqProofs (disch:=omega) [go_sem]
   refine .inl (call_data c2 (by simp [go_sem]) ?_)
   simp -implicitDefEqProofs (disch:=omega) [go_sem]
   refine .inl (call_data c3 (by simp [go_sem]) ?_)
   simp -implicitDefEqProofs (disch:=omega) [go_sem]
   refine .inl (call_data c4 (by simp [go_sem]) ?_)
   simp -implicitDefEqProofs (maxSteps:=4000000) (disch:=omega) [go_sem,a1,a2,a4,a5,lw2,lw3,e2]
   refine .inl (call_data c5 (by simp [go_sem]) ?_)
   by_cases h30:T.seq < 30
   · simp -implicitDefEqProofs (maxSteps:=4000000) (disch:=omega) [go_sem,h30,Tryz.f9]
   · have e4:r4 = 4:=by omega
     simp -implicitDefEqProofs (maxSteps:=4000000) (disch:=omega) [go_sem,h30,e4,Tryz.f9]
end
end Bk
theorem law_StoreGens (Γ:Nat->Option (List Data)) {x0 x1:Data} (a0:argD Tryz.prog 8 22 x0) (a1:argD Tryz.prog 8 26 x1):PC Tryz.prog Γ 9 [x0,x1] (.bool true):=by
 obtain ⟨l,rfl,hl,ht⟩:=Bk.arg_acts (n:=2) a0
 obtain ⟨o,ho,rfl⟩:=Bk.arg_op (n:=6) a1
 exact Bk.gens_pc Γ l hl ht o ho
end Go.Proofs.YtjkpeebajibgiaaGreat
