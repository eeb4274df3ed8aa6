/- What came in, read as plain data: the arguments of a law, the listed variables. Rows of bytes; what arguments are. Choices that the numbers at hand decide: by omega, in the walk's simp. (Import it where the walk should decide by itself.) Functions that may panic, on plain data; functions that are lent a row of the caller's. A row of the caller's, lent to a call: the call is looked at with this row alone. The closed facts on the types. The document's own comparison of rows. Frames on a line: bytes escaped, plain, fed: the mathematics. Frames on a line: how a byte is escaped. Frames on a line: what is plain, as the program tells it and as the document does. Frames on a line: rows joined, what is sent. Check sequences: the program's and the document's own functions, on plain data. Options: the mathematics. Options: the document's own functions. Options: joined, dropped, put; numbers. Rules: the document's own functions. Rules: the document's own functions that go through rows. -/
import Derived.Test.YtlfhkplbjgcpiaaGreatDoorPk4
import Derived.OpenShut
import Derived.SizedLaws
import Derived.LaidMore
import Derived.KernelRfl
import Derived.Test.YtlfhkplbjgcpiaaGreatDoorChecked
namespace Go.Proofs.YtlfhkplbjgcpiaaGreatDoor
open Go.RowKit
set_option linter.unusedSimpArgs false
set_option linter.unusedVariables false
set_option maxRecDepth 100000
/-- An element of a type,out of its cells. -/
def mkE (P:Program) (t:TypeId) (ds:List Data):Data:=match P.underlying t with
 | some (.struct _) | some (.array _ _)=>.agg ds
 | _=>ds.headD .nilp
/-- Types that are read as plain data. -/
def suppF (P:Program) (s:TypeId->Bool):Nat->List Field->Option Nat
 | o,[]=>some o
 | o,f :: fs=>if f.offset = o∧s f.type = true then suppF P s (o + P.cellsOf f.type) fs else none
def supp (P:Program):Nat->TypeId->Bool
 | 0,_=>false
 | n + 1,t=>match P.underlying t with
   | some .bool | some .string=>true
   | some (.int _)=>true
   | some (.slice e)=>supp P n e && decide (0 < P.cellsOf e) && decide (0 < P.bytesOf e)
   | some (.struct fs)=>suppF P (supp P n) 0 fs.toList == some (P.cellsOf t)
   | some (.array m e)=>supp P n e && decide (P.cellsOf t = m * P.cellsOf e)
   | _=>false
/-- The cells that a reading tells. -/
def dDF {H:Type} (r:TypeId->DataW H->List Data):List Field->List (DataW H)->List Data
 | f :: fs,d :: ds=>r f.type d++dDF r fs ds
 | _,_=>[]
def dD {H:Type} (P:Program):Nat->TypeId->DataW H->List Data
 | 0,_,_=>[]
 | n + 1,t,d=>match P.underlying t with
   | some (.slice e)=>(match d with
     | .slice elems _=>[.sl (P.cellsOf e) (elems.map fun x=>mkE P e (dD P n e x))]
     | _=>[.sl (P.cellsOf e) []])
   | some (.struct fs)=>(match d with
     | .agg parts=>dDF (dD P n) fs.toList parts
     | _=>[])
   | some (.array _ e)=>(match d with
     | .agg parts=>parts.flatMap (dD P n e)
     | _=>[])
   | _=>(match d with
     | .lit (.bool b)=>[.bool b]
     | .lit (.int k i)=>[.int k i]
     | .lit (.string s)=>[.str ⟨s.toArray⟩]
     | _=>[])
/-- The form of a type's cells. -/
def okF (o:TypeId->List Data->Prop):List Field->List Data->Prop
 | [],ds=>ds = []
 | f :: fs,ds=>∃ a b,ds = a++b∧o f.type a∧okF o fs b
def okA (o:List Data->Prop):Nat->List Data->Prop
 | 0,ds=>ds = []
 | n + 1,ds=>∃ a b,ds = a++b∧o a∧okA o n b
def okD (P:Program):Nat->TypeId->List Data->Prop
 | 0,_,_=>False
 | n + 1,t,ds=>match P.underlying t with
   | some .bool=>∃ b,ds = [.bool b]
   | some (.int k)=>∃ i,ds = [.int k i]∧(Lit.int k i).wf = true
   | some .string=>∃ s,ds = [.str s]∧s.size≤reachBytes
   | some (.slice e)=>∃ l,ds = [.sl (P.cellsOf e) l]∧l.length≤reachBytes∧∀ x∈l,∃ es,x = mkE P e es∧okD P n e es
   | some (.struct fs)=>okF (okD P n) fs.toList ds
   | some (.array m e)=>okA (okD P n e) m ds
   | _=>False
/-- Cells,one by one. -/
def VDs (w:World) (cs:List Value) (ds:List Data):Prop:=ds.length = cs.length∧∀ (i:Nat) (x:Data) (v:Value),ds[i]? = some x->cs[i]? = some v->VD (fun _=>False) w x v
theorem VDs.nil (w:World):VDs w [] []:=⟨rfl,fun i x v h=>by simp at h⟩
theorem VDs.one {w:World} {v:Value} {x:Data} (h:VD (fun _=>False) w x v):VDs w [v] [x]:=⟨rfl,fun i y u hy hu=>by
 match i with
 | 0=>simp at hy hu;subst hy;subst hu;exact h
 | i + 1=>simp at hy⟩
theorem VDs.append {w:World} {a b:List Value} {x y:List Data} (h:VDs w a x) (k:VDs w b y):VDs w (a++b) (x++y):=by
 refine ⟨by simp [h.1,k.1],fun i d v hd hv=>?_⟩
 rw [List.getElem?_append] at hd hv
 rw [h.1] at hd
 split at hd
 · rename_i hi;rw [if_pos hi] at hv;exact h.2 i d v hd hv
 · rename_i hi;rw [if_neg hi] at hv;exact k.2 _ d v hd hv
section
variable {H:Type} {enc:TypeId × Value->H} {P:Program} {w:World} {held:Bool} {spare:Nat->Bool}
theorem weights_each {ts:List TypeId} {ds:List (DataW H)} (hz:∀ x∈DataW.weightsEach P ts ds,x≤reachBytes):∀ (i:Nat) t d,ts[i]? = some t->ds[i]? = some d->∀ x∈DataW.weights P t d,x≤reachBytes:=by
 induction ts generalizing ds with
 | nil=>intro i t d h;simp at h
 | cons t ts ih =>
   cases ds with
   | nil=>intro i t d _ h;simp at h
   | cons d ds =>
     simp only [DataW.weightsEach,List.mem_append] at hz
     intro i t' d' ht hd x hx
     match i with
     | 0=>simp at ht hd;subst ht;subst hd;exact hz x (.inl hx)
     | i + 1=>exact ih (fun y hy=>hz y (.inr hy)) i t' d' (by simpa using ht) (by simpa using hd) x hx
theorem weights_all {e:TypeId} {ds:List (DataW H)} (hz:∀ x∈DataW.weightsAll P e ds,x≤reachBytes):∀ d∈ds,∀ x∈DataW.weights P e d,x≤reachBytes:=by
 induction ds with
 | nil=>intro d h;simp at h
 | cons d ds ih =>
   simp only [DataW.weightsAll,List.mem_append] at hz
   intro d' hd x hx
   rcases List.mem_cons.1 hd with rfl | hd
   · exact hz x (.inl hx)
   · exact ih (fun y hy=>hz y (.inr hy)) d' hd x hx
/-- The cells of a memory row. -/
theorem cells_get {b0:Nat} {a:Addr} {n:Nat} {cs:List Value} (h:w.cells? b0 a n = some cs):cs.length = n∧∀ i,i < n->w.cell? (a.add i) = cs[i]?:=by
 unfold World.cells? at h
 split at h
 · exact ⟨by simpa using mapM_some_length h,fun i hi=>mapM_some_get h i i (by simp [hi])⟩
 · cases h
theorem cell_lt {a:Addr} {v:Value} (h:w.cell? a = some v):a.block < w.heap.size∧a.spot = none:=by
 unfold World.cell? at h
 split at h
 · rename_i hb
   exact ⟨(Array.getElem?_eq_some_iff.1 hb).1,by cases hs:a.spot with
    | none=>rfl
    | some s=>rw [hs] at h;simp at h⟩
 · cases h
theorem mkE_cells {n:Nat} {t:TypeId} {es:List Data} (h:okD P n t es):(mkE P t es).cells = es:=by
 cases n with
 | zero=>exact h.elim
 | succ n =>
   unfold okD at h
   unfold mkE
   split at h
   all_goals rename_i hu;simp only [hu]
   · obtain ⟨b,rfl⟩:=h;rfl
   · obtain ⟨i,rfl,_⟩:=h;rfl
   · obtain ⟨s,rfl,_⟩:=h;rfl
   · obtain ⟨l,rfl,_⟩:=h;rfl
   · rfl
   · rfl
   · exact h.elim
/-- The reading of cells: plain data,of the type's form. -/
theorem read_ok:∀ (n:Nat) (fuel:Nat) (t:TypeId) (cs:List Value) (d:DataW H) (ps:List MemPlace),supp P n t = true->DataW.trod enc P w 0 spare held fuel t cs = some (d,ps)->(∀ x∈DataW.weights P t d,x≤reachBytes) →
 VDs w cs (dD P n t d)∧okD P n t (dD P n t d):=by
 intro n
 induction n with
 | zero=>intro fuel t cs d ps hs;simp [supp] at hs
 | succ n ih =>
   intro fuel t cs d ps hs h hz
   unfold supp at hs
   split at hs
   · rename_i hu
     obtain ⟨b,rfl,e⟩:=DataW.trod_bool hu h
     cases e
     simp only [dD,okD,hu]
     exact ⟨.one (.bool b),b,rfl⟩
   · rename_i hu
     obtain ⟨s,rfl,e,_⟩:=DataW.trod_string hu h
     cases e
     simp only [dD,okD,hu]
     refine ⟨.one (.str s),s,rfl,?_⟩
     have:=hz s.data.toList.length (by simp [DataW.weights])
     simpa using this
   · rename_i k hu
     obtain ⟨i,rfl,e,hw⟩:=DataW.trod_int hu h
     cases e
     simp only [dD,okD,hu]
     exact ⟨.one (.int k i),i,rfl,hw⟩
   · rename_i e hu
     simp only [Bool.and_eq_true,decide_eq_true_eq] at hs
     obtain ⟨⟨hse,hc⟩,hb⟩:=hs
     rcases DataW.trod_slice hu h with ⟨rfl,hx⟩ | ⟨a,len,cap,elems,rest,m,rfl,rfl,hx,_,hlc,hcm,hlen,hel,_,_⟩
     · cases hx
       simp only [dD,okD,hu]
       exact ⟨.one (.sl _ [] none 0 0 0 0 (fun _=>.nilIface) rfl (Nat.le_refl _) (by simp [maxLen]) (by simp) (.inr rfl) (fun i x hx=>by simp [flat] at hx) (fun i x hx=>by simp [flat] at hx)),[],rfl,by simp,by simp⟩
     · cases hx
       simp only [DataW.weights,hu,List.mem_cons,List.mem_append,List.length_map] at hz
       have hw1:=hz _ (.inl rfl)
       have hw2:=weights_all (P:=P) (e:=e) (ds:=elems.map (·.1)) (fun x hx=>hz x (.inr (.inl hx)))
       have hlen2:elems.length≤reachBytes:=by
        have:elems.length * 1≤(elems.length + rest.length) * P.bytesOf e:=Nat.mul_le_mul (by omega) hb
        omega
       have each:∀ (i:Nat) (y:DataW H × List MemPlace),elems[i]? = some y->∃ ec,w.cells? 0 (a.add (i * P.cellsOf e)) (P.cellsOf e) = some ec∧VDs w ec (dD P n e y.1)∧okD P n e (dD P n e y.1):=by
        intro i y hy
        have hi:i < len:=by rw [<- hlen];exact (List.getElem?_eq_some_iff.1 hy).1
        have h1:=hel i hi
        rw [hy,Option.bind_eq_some_iff] at h1
        obtain ⟨ec,h2,h3⟩:=h1
        exact ⟨ec,h2,ih m e ec y.1 y.2 hse h3 (hw2 y.1 (List.mem_map.2 ⟨y,List.mem_of_getElem? hy,rfl⟩))⟩
       have hcl:∀ (i:Nat) (y:DataW H × List MemPlace),elems[i]? = some y->(mkE P e (dD P n e y.1)).cells = dD P n e y.1∧(dD P n e y.1).length = P.cellsOf e:=by
        intro i y hy
        obtain ⟨ec,h2,h3,h4⟩:=each i y hy
        exact ⟨mkE_cells h4,by rw [h3.1];exact (cells_get h2).1⟩
       have hflat:∀ (l:List Data) (c:Nat),0 < c->(∀ x∈l,x.cells.length = c)->∀ (i:Nat) (x:Data),(flat l)[i]? = some x->∃ y,l[i / c]? = some y∧y.cells[i % c]? = some x:=by
        intro l c hc0
        induction l with
        | nil=>intro _ i x hx;simp [flat] at hx
        | cons y l ihl =>
          intro hall i x hx
          have hy:y.cells.length = c:=hall y (by simp)
          simp only [flat,List.flatMap_cons,List.getElem?_append] at hx
          rw [hy] at hx
          split at hx
          · rename_i hi
            rw [Nat.div_eq_of_lt hi,Nat.mod_eq_of_lt hi]
            exact ⟨y,rfl,hx⟩
          · rename_i hi
            obtain ⟨z,h1,h2⟩:=ihl (fun x hx=>hall x (by simp [hx])) (i - c) x hx
            obtain ⟨q,rfl⟩:∃ q,i = q + c:=⟨i - c,by omega⟩
            rw [Nat.add_div_right _ hc0,Nat.add_mod_right]
            rw [Nat.add_sub_cancel] at h1 h2
            exact ⟨z,by simpa using h1,h2⟩
       have hall:∀ x∈(elems.map fun y=>mkE P e (dD P n e y.1)),x.cells.length = P.cellsOf e:=by
        intro x hx
        obtain ⟨y,hy,rfl⟩:=List.mem_map.1 hx
        obtain ⟨i,hi⟩:=List.getElem?_of_mem hy
        rw [(hcl i y hi).1,(hcl i y hi).2]
       have key:∀ (i:Nat) (x:Data),(flat (elems.map fun y=>mkE P e (dD P n e y.1)))[i]? = some x->∃ v,w.cell? (a.add i) = some v∧VD (fun _=>False) w x v:=by
        intro i x hx
        obtain ⟨y,h1,h2⟩:=hflat _ _ hc hall i x hx
        rw [List.getElem?_map,Option.map_eq_some_iff] at h1
        obtain ⟨z,h3,rfl⟩:=h1
        rw [(hcl _ z h3).1] at h2
        obtain ⟨ec,h4,h5,_⟩:=each _ z h3
        obtain ⟨h6,h7⟩:=cells_get h4
        have hlt:i % P.cellsOf e < P.cellsOf e:=Nat.mod_lt _ hc
        have hv:ec[i % P.cellsOf e]? = some ec[i % P.cellsOf e]:=List.getElem?_eq_getElem (by omega)
        refine ⟨ec[i % P.cellsOf e],?_,h5.2 _ x _ h2 hv⟩
        have h8:=h7 _ hlt
        rw [hv] at h8
        rw [<- h8]
        congr 1
        have hi:=Nat.div_add_mod i (P.cellsOf e)
        rw [Nat.mul_comm] at hi
        generalize i / P.cellsOf e * P.cellsOf e = q at hi
        generalize i % P.cellsOf e = r at hi
        subst hi
        unfold Addr.add
        by_cases hq:q = 0
        · subst hq;simp
        · by_cases hr:r = 0
          · subst hr;simp
          · simp [hq,hr,Nat.add_assoc]
       have hdd:dD P (n + 1) t (DataW.slice (elems.map (·.1)) (rest.map (·.1))) = [.sl (P.cellsOf e) (elems.map fun y=>mkE P e (dD P n e y.1))]:=by
        simp [dD,hu,Function.comp_def]
       rw [hdd]
       refine ⟨.one ?_,?_⟩
       · have spot:∀ (i:Nat) (x:Data),(flat (elems.map fun y=>mkE P e (dD P n e y.1)))[i]? = some x->a.spot = none:=by
          intro i x hx
          have h0:0 < (flat (elems.map fun y=>mkE P e (dD P n e y.1))).length:=by
           have:=(List.getElem?_eq_some_iff.1 hx).1;omega
          obtain ⟨v,hv,_⟩:=key 0 _ (List.getElem?_eq_getElem h0)
          simpa [Addr.add] using (cell_lt hv).2
         refine .sl _ _ (some a) len cap a.block a.off (fun i=>(w.cell? ⟨a.block,a.off + i,none⟩).getD .nilIface) (by simp [hlen]) hlc hcm hall ?_ ?_ ?_
         · by_cases he:elems = []
           · exact .inr (by simp [he])
           · refine .inl ?_
             have h0:0 < elems.length:=List.length_pos_iff.2 he
             obtain ⟨ec,h4,_,_⟩:=each 0 elems[0] (List.getElem?_eq_getElem h0)
             obtain ⟨h6,h7⟩:=cells_get h4
             have h8:=h7 0 hc
             rw [List.getElem?_eq_getElem (by omega)] at h8
             have h9:=cell_lt h8
             simp [Addr.add] at h9
             obtain ⟨ab,ao,az⟩:=a
             simp at h9
             exact ⟨by rw [h9.2],h9.1,fun h=>h⟩
         · intro i x hx
           obtain ⟨v,hv,_⟩:=key i x hx
           have hsp:=spot i x hx
           have:a.add i = ⟨a.block,a.off + i,none⟩:=by
            unfold Addr.add
            split
            · rename_i e0;subst e0;obtain ⟨ab,ao,az⟩:=a;simp at hsp ⊢;exact hsp
            · rfl
           rw [this] at hv
           simp only [hv,Option.getD_some]
         · intro i x hx
           obtain ⟨v,hv,hvd⟩:=key i x hx
           have hsp:=spot i x hx
           have:a.add i = ⟨a.block,a.off + i,none⟩:=by
            unfold Addr.add
            split
            · rename_i e0;subst e0;obtain ⟨ab,ao,az⟩:=a;simp at hsp ⊢;exact hsp
            · rfl
           rw [this] at hv
           simp only [hv,Option.getD_some]
           exact hvd
       · simp only [okD,hu]
         refine ⟨_,rfl,by simpa using hlen2,fun x hx=>?_⟩
         obtain ⟨y,hy,rfl⟩:=List.mem_map.1 hx
         obtain ⟨i,hi⟩:=List.getElem?_of_mem hy
         obtain ⟨ec,_,_,h4⟩:=each i y hi
         exact ⟨_,rfl,h4⟩
   · rename_i fs hu
     obtain ⟨xs,m,rfl,hx,hcl,hxl,hf⟩:=DataW.trod_struct hu h
     cases hx
     simp only [DataW.weights,hu] at hz
     have hw:=weights_each hz
     have hdd:dD P (n + 1) t (DataW.agg (xs.map (·.1))) = dDF (dD P n) fs.toList (xs.map (·.1)):=by simp [dD,hu]
     rw [hdd]
     have hs2:suppF P (supp P n) 0 fs.toList = some (P.cellsOf t):=by simpa using hs
     have go:∀ (l:List Field) (ys:List (DataW H × List MemPlace)) (o:Nat),l.length = ys.length->suppF P (supp P n) o l = some (P.cellsOf t) →
      (∀ (i:Nat) (f:Field),l[i]? = some f->DataW.trod enc P w 0 spare held m f.type ((cs.drop f.offset).take (P.cellsOf f.type)) = ys[i]?) →
      (∀ (i:Nat) (f:Field) (y:DataW H × List MemPlace),l[i]? = some f->ys[i]? = some y->∀ x∈DataW.weights P f.type y.1,x≤reachBytes)->o≤P.cellsOf t∧VDs w (cs.drop o) (dDF (dD P n) l (ys.map (·.1)))∧okF (okD P n) l (dDF (dD P n) l (ys.map (·.1))):=by
      intro l
      induction l with
      | nil =>
        intro ys o hl hs3 _ _
        simp only [suppF,Option.some.injEq] at hs3
        subst hs3
        rw [<- hcl]
        simp only [List.drop_length,dDF]
        exact ⟨Nat.le_refl _,.nil w,rfl⟩
      | cons f l ihl =>
        intro ys o hl hs3 hf3 hw3
        cases ys with
        | nil=>simp at hl
        | cons y ys =>
          simp only [suppF] at hs3
          split at hs3
          · rename_i ho
            obtain ⟨rfl,hsf⟩:=ho
            have h0:=hf3 0 f rfl
            simp only [List.getElem?_cons_zero] at h0
            obtain ⟨h1,h2⟩:=ih m f.type _ y.1 y.2 hsf h0 (hw3 0 f y rfl rfl)
            obtain ⟨h3,h4,h5⟩:=ihl ys (f.offset + P.cellsOf f.type) (by simpa using hl) hs3 (fun i g hg=>by simpa using hf3 (i + 1) g (by simpa using hg)) (fun i g z hg hz'=>hw3 (i + 1) g z (by simpa using hg) (by simpa using hz'))
            refine ⟨by omega,?_,_,_,rfl,h2,h5⟩
            have:cs.drop f.offset = (cs.drop f.offset).take (P.cellsOf f.type)++cs.drop (f.offset + P.cellsOf f.type):=by
             rw [<- List.drop_drop,List.take_append_drop]
            rw [this]
            exact h1.append h4
          · cases hs3
     obtain ⟨_,h1,h2⟩:=go fs.toList xs 0 (by simp [hxl]) hs2 (fun i f hg=>hf i f (by simpa using hg)) (fun i f y hg hy=>hw i f.type y.1 (by simp at hg ⊢;exact ⟨f,hg,rfl⟩) (by simp [hy]))
     refine ⟨by simpa using h1,?_⟩
     simp only [okD,hu]
     exact h2
   · rename_i m e hu
     simp only [Bool.and_eq_true,decide_eq_true_eq] at hs
     obtain ⟨hse,hsz⟩:=hs
     obtain ⟨xs,k,rfl,hx,hcl,hxl,hf⟩:=DataW.trod_array hu h
     cases hx
     simp only [DataW.weights,hu] at hz
     have hw:=weights_all hz
     have hdd:dD P (n + 1) t (DataW.agg (xs.map (·.1))) = (xs.map (·.1)).flatMap (dD P n e):=by simp [dD,hu]
     rw [hdd]
     have go:∀ (j:Nat),j≤m->VDs w (cs.drop ((m - j) * P.cellsOf e)) (((xs.drop (m - j)).map (·.1)).flatMap (dD P n e))∧okA (okD P n e) j (((xs.drop (m - j)).map (·.1)).flatMap (dD P n e)):=by
      intro j
      induction j with
      | zero =>
        intro _
        rw [Nat.sub_zero,<- hsz,<- hcl,<- hxl]
        simp only [List.drop_length,List.map_nil,List.flatMap_nil]
        exact ⟨.nil w,rfl⟩
      | succ j ihj =>
        intro hj
        obtain ⟨h1,h2⟩:=ihj (by omega)
        have hi:m - (j + 1) < m:=by omega
        have hxi:m - (j + 1) < xs.length:=by omega
        have h0:=hf (m - (j + 1)) hi
        rw [List.getElem?_eq_getElem hxi] at h0
        obtain ⟨h3,h4⟩:=ih k e _ xs[m - (j + 1)].1 xs[m - (j + 1)].2 hse h0 (hw _ (List.mem_map.2 ⟨_,List.getElem_mem hxi,rfl⟩))
        have e1:m - (j + 1) + 1 = m - j:=by omega
        rw [List.drop_eq_getElem_cons hxi,e1]
        simp only [List.map_cons,List.flatMap_cons]
        refine ⟨?_,_,_,rfl,h4,h2⟩
        have e2:cs.drop ((m - (j + 1)) * P.cellsOf e) = (cs.drop ((m - (j + 1)) * P.cellsOf e)).take (P.cellsOf e)++cs.drop ((m - j) * P.cellsOf e):=by
         have:(m - j) * P.cellsOf e = (m - (j + 1)) * P.cellsOf e + P.cellsOf e:=by rw [<- e1,Nat.add_mul,Nat.one_mul]
         rw [this,<- List.drop_drop,List.take_append_drop]
        rw [e2]
        exact h3.append h1
     have:=go m (Nat.le_refl _)
     simp only [Nat.sub_self,Nat.zero_mul,List.drop_zero] at this
     refine ⟨this.1,?_⟩
     simp only [okD,hu]
     exact this.2
   · cases hs
/-- An argument. -/
def argD (P:Program) (n:Nat) (t:TypeId) (x:Data):Prop:=∃ ds,x = mkE P t ds∧okD P n t ds
theorem read_arg {n:Nat} {base:Nat} {t:TypeId} {v:Value} {d:DataW H} {ps:List MemPlace} (hs:supp P n t = true) (hv:Value.okWide P w .any base t v) (k:DataW.Trod enc P w 0 spare held t v d ps) (hz:(DataW.weights P t d).all (fun x=>decide (x≤reachBytes)) = true) :
 ∃ x,VD (fun _=>False) w x v∧argD P n t x:=by
 obtain ⟨fuel,hf⟩:=k
 obtain ⟨h1,h2⟩:=read_ok n fuel t _ d ps hs hf (fun x hx=>by simpa using List.all_eq_true.1 hz x hx)
 refine ⟨mkE P t (dD P n t d),?_,_,rfl,h2⟩
 generalize dD P n t d = ds at h1 h2
 cases n with
 | zero=>exact h2.elim
 | succ n =>
   have one:∀ x,(∀ cs,v≠.agg cs)->ds = [x]->VD (fun _=>False) w x v:=by
    intro x hna hds
    subst hds
    have:v.cells.toList = [v]:=by
     cases v with
     | agg cs=>exact absurd rfl (hna cs)
     | _=>rfl
    rw [this] at h1
    exact h1.2 0 x v rfl rfl
   unfold Value.okWide at hv
   unfold okD at h2
   unfold mkE
   split at h2
   all_goals rename_i hu;simp only [hu] at hv ⊢
   · obtain ⟨b,rfl⟩:=h2
     exact one _ (fun cs e=>by subst e;simp [Cell.okWide,Cell.ok,hu] at hv) rfl
   · obtain ⟨i,rfl,_⟩:=h2
     exact one _ (fun cs e=>by subst e;simp [Cell.okWide,Cell.ok,hu] at hv) rfl
   · obtain ⟨s,rfl,_⟩:=h2
     exact one _ (fun cs e=>by subst e;simp [Cell.okWide,Cell.ok,hu] at hv) rfl
   · obtain ⟨l,rfl,_⟩:=h2
     exact one _ (fun cs e=>by subst e;simp [Cell.okWide,Cell.ok,hu] at hv) rfl
   · obtain ⟨cs,rfl,_⟩:=hv
     exact .agg _ _ (by simpa [Value.cells] using h1.1) (fun i x u hx hu=>h1.2 i x u hx (by simpa [Value.cells] using hu))
   · obtain ⟨cs,rfl,_⟩:=hv
     exact .agg _ _ (by simpa [Value.cells] using h1.1) (fun i x u hx hu=>h1.2 i x u hx (by simpa [Value.cells] using hu))
   · exact h2.elim
/-- A law by its contract on plain data. -/
theorem calls_of_pc {Γ:Nat->Option (List Data)} {f:FuncId} {xs:List Data} {vs:Array Value} (hg:Glob Γ (fun _=>False) w) (h:PC P Γ f xs (.bool true)) (hl:xs.length = vs.size)
 (hv:∀ (i:Nat) (x:Data) (v:Value),xs[i]? = some x->vs[i]? = some v->VD (fun _=>False) w x v) :
 Calls P f vs w fun e w'=>e = .returned (.bool true)∧Below w.heap.size w w':=by
 refine (h.2 (fun _=>False) w vs hg (fun b hb=>hb.elim) hl hv).mono fun e w' ⟨v,he,hvd,hb⟩=>?_
 cases hvd
 exact ⟨he,hb⟩
theorem vdl {x0:Data} {v0:Value} {xs:List Data} {vs:List Value} (h0:VD (fun _=>False) w x0 v0) (h:∀ (i:Nat) (x:Data) (v:Value),xs[i]? = some x->vs[i]? = some v->VD (fun _=>False) w x v) :
 ∀ (i:Nat) (x:Data) (v:Value),(x0 :: xs)[i]? = some x->(v0 :: vs)[i]? = some v->VD (fun _=>False) w x v:=fun i x v hx hv=>by
 match i with
 | 0=>simp at hx hv;subst hx;subst hv;exact h0
 | i + 1=>exact h i x v (by simpa using hx) (by simpa using hv)
/-- A listed variable. -/
theorem glob_of {n:Nat} {nm:String} {g:Nat} {t:TypeId} {cs:Array Value} {fuel:Nat} {d:DataW H} {ps:List MemPlace} (hs:supp P n t = true) (hg:P.globalNamed nm = some g) (hv:w.var? P nm = some cs)
 (hd:DataW.trod enc P w 0 spare held fuel t cs.toList = some (d,ps)) (hz:(DataW.weights P t d).all (fun x=>decide (x≤reachBytes)) = true) (hne:dD P n t d≠[]) :
 VV (fun _=>False) w (fun _=>.res) (.cptr (dD P n t d)) (.pointer (some ⟨g,0,none⟩)):=by
 obtain ⟨h1,h2⟩:=read_ok n fuel t _ d ps hs hd (fun x hx=>by simpa using List.all_eq_true.1 hz x hx)
 have hc:∀ (i:Nat) (x:Data),(dD P n t d)[i]? = some x->∃ v,w.cell? ⟨g,0 + i,none⟩ = some v∧VD (fun _=>False) w x v:=by
  intro i x hx
  have hi:i < cs.size:=by
   have:=(List.getElem?_eq_some_iff.1 hx).1
   rw [h1.1] at this;simpa using this
  have hcell:=World.var?_cell hg hv i
  rw [Array.getElem?_eq_getElem hi] at hcell
  refine ⟨cs[i],by simpa using hcell,h1.2 i x _ hx (by simp [hi])⟩
 have h0:0 < (dD P n t d).length:=List.length_pos_iff.2 hne
 obtain ⟨v,hv0,_⟩:=hc 0 _ (List.getElem?_eq_getElem h0)
 refine .cptr _ g 0 (fun i=>(w.cell? ⟨g,0 + i,none⟩).getD .nilIface) (cell_lt hv0).1 (fun h=>h) (fun i x hx=>?_) (fun i x hx=>?_)
 · obtain ⟨v,hv,_⟩:=hc i x hx
   simp only [hv,Option.getD_some]
 · obtain ⟨v,hv,hvd⟩:=hc i x hx
   simp only [hv,Option.getD_some]
   exact hvd
end
def u8 (n:Nat):Data:=.int .u8 n
/-- A row of bytes. -/
def bys (l:List Nat):List Data:=l.map u8
@[go_sem] theorem flat_bys (l:List Nat):flat (bys l) = bys l:=by
 induction l with
 | nil=>rfl
 | cons x l ih=>simp [bys,flat,u8,Data.cells] at ih ⊢;simpa [u8] using ih
@[go_sem] theorem bys_nil:bys [] = []:=rfl
@[go_sem] theorem bys_length (l:List Nat):(bys l).length = l.length:=by simp [bys]
theorem bys_cell' (l:List Nat):∀ x∈bys l,x.cell = true:=fun x hx=>by
 obtain ⟨n,_,rfl⟩:=List.mem_map.1 hx
 rfl
@[go_sem] theorem bys_cell (l:List Nat):(∀ x∈bys l,x.cell = true) ↔ True:=iff_true_intro (bys_cell' l)
theorem bys_cells (l:List Nat):∀ x∈bys l,x.cells.length = 1:=fun x hx=>by
 obtain ⟨n,_,rfl⟩:=List.mem_map.1 hx
 rfl
@[go_sem] theorem bys_take (l:List Nat) (n:Nat):(bys l).take n = bys (l.take n):=by simp [bys,List.map_take]
@[go_sem] theorem bys_drop (l:List Nat) (n:Nat):(bys l).drop n = bys (l.drop n):=by simp [bys,List.map_drop]
@[go_sem] theorem bys_get (l:List Nat) (i:Nat):(bys l)[i]? = (l[i]?).map u8:=by simp [bys]
@[go_sem] theorem bysd_append (a b:List Nat):(bys a).map D.data++(bys b).map D.data = (bys (a++b)).map D.data:=by simp [bys]
@[go_sem] theorem bysd_rep (n:Nat):List.replicate n (D.data (.int .u8 0)) = (bys (List.replicate n 0)).map D.data:=by simp [bys,u8]
@[go_sem] theorem data_u8 (n:Nat):D.data (u8 n) = .data (.int .u8 n):=rfl
@[go_sem] theorem u8_cell (n:Nat):(u8 n).cell = true:=rfl
@[go_sem] theorem u8_cells (n:Nat):(u8 n).cells = [u8 n]:=rfl
theorem frz_bys {ok:Bool} {H:Nat->Blk} {g n:Nat} {l:List Nat} {rw:Bool} (hg:H g = .blk rw ((bys l).map D.data)) (hrw:ok = true ∨ rw = false) (hn:l.length = n):Frz ok H (.ref g 0 n 1) (.sl 1 (bys l)) :=
 frz_ref hg hrw (by rw [bys_length,hn]) (bys_cells l) (by rw [flat_bys])
theorem over_mid {A old new rest:List D} (h:old.length = new.length):over (A++(old++rest)) A.length new = A++(new++rest):=by
 have gen:(A++(old++rest)).take A.length++new++(A++(old++rest)).drop (A.length + new.length) = A++(new++rest):=by
  rw [List.take_left,<- h,<- List.drop_drop,List.drop_left,List.drop_left,List.append_assoc]
 match new,h with
 | [],h=>exact gen
 | [d],h =>
   match old,h with
   | [o],_=>simp [over]
 | a :: b :: new,h=>exact gen
def plainD:D->Bool
 | .data _ | .emp _=>true
 | _=>false
theorem renCells_plain {n:Nat} {ρ:Nat->Option Nat} {H:Nat->Blk} {cs ds:List D} (e:cs = ds) (h:cs.all plainD = true):RenCells n ρ H cs ds:=by
 subst e
 refine ⟨Nat.le_refl _,fun i c d hc hd=>?_⟩
 rw [hc] at hd;cases hd
 have:=List.all_eq_true.1 h c (List.mem_of_getElem? hc)
 cases c with
 | data x=>exact .data x
 | emp es=>exact .emp es es
 | _=>cases this
theorem frz_aggL {ok:Bool} {H:Nat->Blk} {cs:List D} {xs:List Data} (h:FrzL ok H cs xs):Frz ok H (.agg cs) (.agg xs):=.agg cs xs h.1 h.2
/-- A row of the call's own,handed to a callee that keeps it. -/
theorem call_keep {P:Program} {Γ:Nat->Option (List Data)} {f:FuncId} {ds:List D} {H:Nat->Blk} {K:D->List Nat->List (Nat × Blk)->Prop} (g:Nat) {rw:Bool} {cells:List D} {xs:List Data} {r:Data} (h:PC P Γ f xs r) (hg:H g = .blk rw cells)
 (hx:∀ H':Nat->Blk,H' g = .blk false cells->FrzL false H' ds xs) (k:K (.data r) [g] [(g,.blk false cells)]):callK P Γ f ds H K:=by
 refine call_frz [g] [g] (fun q hq=>⟨rw,cells,by simp at hq;subst hq;exact hg⟩) h (fun H' hH'=>?_) ?_
 · exact hx _ (by simp [Hp.upd,Hp.set,hg,fz])
 · simp only [List.map_cons,List.map_nil,hg,fz]
   exact k
/-- Bytes as a string. -/
def toStr (l:List Nat):ByteArray:=⟨(l.map UInt8.ofNat).toArray⟩
theorem bys_u8 {l:List Nat} (h:∀ x∈l,x < 256):bys l = (l.map UInt8.ofNat).map (fun b=>Data.int .u8 (b.toNat:Int)):=by
 unfold bys u8
 rw [List.map_map]
 refine List.map_congr_left fun x hx=>?_
 have:=h x hx
 simp only [Function.comp,UInt8.toNat_ofNat']
 congr 1
 omega
theorem toStr_inj {l m:List Nat} (hl:∀ x∈l,x < 256) (hm:∀ x∈m,x < 256):toStr l = toStr m ↔ l = m:=by
 constructor
 · intro e
   have e2:l.map UInt8.ofNat = m.map UInt8.ofNat:=by simpa [toStr] using e
   have e3:=congrArg (List.map fun b:UInt8=>b.toNat) e2
   rw [List.map_map,List.map_map] at e3
   have k:∀ q:List Nat,(∀ x∈q,x < 256)->q.map ((fun b:UInt8=>b.toNat) ∘ UInt8.ofNat) = q:=fun q hq=>by
    have:q.map ((fun b:UInt8=>b.toNat) ∘ UInt8.ofNat) = q.map id:=List.map_congr_left fun x hx=>by
     have:=hq x hx
     simp only [Function.comp,UInt8.toNat_ofNat',id]
     omega
    rw [this,List.map_id]
   rwa [k l hl,k m hm] at e3
 · rintro rfl;rfl
theorem conv_bys {P:Program} {s d e:TypeId} {l:List Nat} {K:D->Prop} (hb:∀ x∈l,x < 256) (ht:strT P d = true) (hs:sliceT P s = some e) (he:intT P e = some .u8) (k:K (.data (.str (toStr l)))):convK P s d (.data (.sl 1 (bys l))) K :=
 ⟨rfl,ht,by simp only [hs];exact he,_,bys_u8 hb,k⟩
theorem wf_nat {k:IntKind} {i:Int} (h:(Lit.int k i).wf = true):k.min≤i∧i≤k.max:=by simpa [Lit.wf] using h
section
variable {P:Program} {n:Nat} {t e:TypeId} {x:Data}
theorem arg_int {k:IntKind} (hu:P.underlying t = some (.int k)) (a:argD P (n + 1) t x):∃ i:Int,k.min≤i∧i≤k.max∧x = .int k i:=by
 obtain ⟨ds,rfl,h⟩:=a
 simp only [okD,hu] at h
 obtain ⟨i,rfl,hw⟩:=h
 have:=wf_nat hw
 exact ⟨i,this.1,this.2,by simp [mkE,hu]⟩
theorem arg_i64 (hu:P.underlying t = some (.int .i64)) (a:argD P (n + 1) t x):∃ i:Int,-9223372036854775808≤i∧i≤9223372036854775807∧x = .int .i64 i:=by
 obtain ⟨i,h1,h2,rfl⟩:=arg_int hu a
 simp [IntKind.min,IntKind.max,IntKind.signed,IntKind.bits] at h1 h2
 exact ⟨i,h1,h2,rfl⟩
theorem arg_nat {k:IntKind} (hk:k.signed = false) (hu:P.underlying t = some (.int k)) (a:argD P (n + 1) t x):∃ i:Nat,i < 2 ^ k.bits∧x = .int k i:=by
 obtain ⟨i,h1,h2,rfl⟩:=arg_int hu a
 simp [IntKind.min,IntKind.max,hk] at h1 h2
 obtain ⟨j,rfl⟩:=Int.eq_ofNat_of_zero_le h1
 have:((2 ^ k.bits:Nat):Int) = 2 ^ k.bits:=by simp
 exact ⟨j,by omega,rfl⟩
theorem nums_of {k:IntKind} (hk:k.signed = false) (hu:P.underlying e = some (.int k)):∀ l:List Data,(∀ x∈l,∃ es,x = mkE P e es∧okD P (n + 1) e es)->∃ m:List Nat,l = m.map (fun i:Nat=>Data.int k i)∧∀ b∈m,b < 2 ^ k.bits
 | [],_=>⟨[],rfl,by simp⟩
 | y :: l,h=>by
   obtain ⟨m,rfl,hm⟩:=nums_of hk hu l fun x hx=>h x (by simp [hx])
   obtain ⟨i,hi,rfl⟩:=arg_nat hk hu (h y (by simp))
   exact ⟨i :: m,rfl,by simpa using ⟨hi,hm⟩⟩
theorem arg_bytes (hu:P.underlying t = some (.slice e)) (he:P.underlying e = some (.int .u8)) (hc:P.cellsOf e = 1) (a:argD P (n + 2) t x):∃ l:List Nat,(∀ b∈l,b < 256)∧l.length≤140737488351232∧x = .sl 1 (bys l):=by
 obtain ⟨ds,rfl,h⟩:=a
 simp only [okD,hu,hc] at h
 obtain ⟨l,rfl,hl,hx⟩:=h
 obtain ⟨m,rfl,hm⟩:=nums_of (n:=n) (k:=.u8) rfl he l hx
 exact ⟨m,hm,by simpa [reachBytes] using hl,by simp [mkE,hu,bys];intro a _;rfl⟩
theorem arg_struct {fs:Array Field} (hu:P.underlying t = some (.struct fs)) (a:argD P (n + 1) t x):∃ ds,x = .agg ds∧okF (okD P n) fs.toList ds:=by
 obtain ⟨ds,rfl,h⟩:=a
 simp only [okD,hu] at h
 exact ⟨ds,by simp [mkE,hu],h⟩
theorem okF_cons {o:TypeId->List Data->Prop} {f:Field} {fs:List Field} {ds:List Data} (h:okF o (f :: fs) ds):∃ a b,ds = a++b∧o f.type a∧okF o fs b:=h
theorem okF_nil {o:TypeId->List Data->Prop} {ds:List Data} (h:okF o [] ds):ds = []:=h
theorem ok_bytes {ds:List Data} (hu:P.underlying t = some (.slice e)) (he:P.underlying e = some (.int .u8)) (hc:P.cellsOf e = 1) (h:okD P (n + 2) t ds):∃ l:List Nat,(∀ b∈l,b < 256)∧l.length≤140737488351232∧ds = [.sl 1 (bys l)]:=by
 unfold okD at h
 simp only [hu,hc] at h
 obtain ⟨l,rfl,hl,hx⟩:=h
 obtain ⟨m,rfl,hm⟩:=nums_of (n:=n) (k:=.u8) rfl he l hx
 exact ⟨m,hm,by simpa [reachBytes] using hl,by simp [bys];intro a _;rfl⟩
theorem ok_int {k:IntKind} {ds:List Data} (hu:P.underlying t = some (.int k)) (h:okD P (n + 1) t ds):∃ i:Int,k.min≤i∧i≤k.max∧ds = [.int k i]:=by
 unfold okD at h
 simp only [hu] at h
 obtain ⟨i,rfl,hw⟩:=h
 have:=wf_nat hw
 exact ⟨i,this.1,this.2,rfl⟩
theorem ok_i64 {ds:List Data} (hu:P.underlying t = some (.int .i64)) (h:okD P (n + 1) t ds):∃ i:Int,-9223372036854775808≤i∧i≤9223372036854775807∧ds = [.int .i64 i]:=by
 obtain ⟨i,h1,h2,rfl⟩:=ok_int hu h
 simp [IntKind.min,IntKind.max,IntKind.signed,IntKind.bits] at h1 h2
 exact ⟨i,h1,h2,rfl⟩
/-- A slice,element by element. -/
theorem ok_slice {ds:List Data} (hu:P.underlying t = some (.slice e)) (h:okD P (n + 1) t ds):∃ l,ds = [.sl (P.cellsOf e) l]∧l.length≤140737488351232∧∀ x∈l,argD P n e x:=by
 unfold okD at h
 simp only [hu] at h
 obtain ⟨l,h1,h2,h3⟩:=h
 exact ⟨l,h1,by simpa [reachBytes] using h2,h3⟩
end
@[go_sem] theorem dec_yes {p:Prop} [Decidable p] (h:p):decide p = true:=decide_eq_true h
@[go_sem] theorem dec_no {p:Prop} [Decidable p] (h:¬ p):decide p = false:=decide_eq_false h
section
variable (P:Program) (Γ:Nat->Option (List Data))
/- Regions of more than 64 operations: their list is put together of two. -/
@[go_sem] theorem opsW_app (ops:Array Oper) (o:Oper) (l r:List Oper) (s:St) (K:St->Prop):opsW P Γ ops (List.append (o :: l) r) s K = opsW P Γ ops (o :: List.append l r) s K:=rfl
@[go_sem] theorem opsW_app_nil (ops:Array Oper) (r:List Oper) (s:St) (K:St->Prop):opsW P Γ ops (List.append [] r) s K = opsW P Γ ops r s K:=rfl
@[go_sem] theorem drawW_app (ops:Array Oper) (o:Oper) (l r:List Oper) (s:St) (tr:List Tr) (K:St->List Tr->Prop):drawW P Γ ops (List.append (o :: l) r) s tr K = drawW P Γ ops (o :: List.append l r) s tr K:=rfl
@[go_sem] theorem drawW_app_nil (ops:Array Oper) (r:List Oper) (s:St) (tr:List Tr) (K:St->List Tr->Prop):drawW P Γ ops (List.append [] r) s tr K = drawW P Γ ops r s tr K:=rfl
end
/-- What a panic brings. -/
def pan (x:Value):List PanicEntry:=[{ v:=x,recovered:=false }]
/-- A value that hangs on no memory. -/
def litV:Data->Option Value
 | .bool b=>some (.bool b)
 | .int k n=>some (.int k n)
 | .str s=>some (.string s)
 | .ifc t d=>(litV d).map (.iface t)
 | _=>none
/-- A call on the caller's own numbered rows: it hands back,or it panics. -/
def DX (P:Program) (Γ:Nat->Option (List Data)) (f:FuncId) (ds:List D) (H:Nat->Blk) (nx:Nat) (K:D->(Nat->Blk)->Nat->Prop) (X:Value->(Nat->Blk)->Nat->Prop):Prop :=
 CallOk P f∧∀ (L0:Nat->Prop) (w0:W0) (m:Nat->MB) (w:World) (vs:Array Value),WR Γ L0 w0 m H w->(∀ g,nx≤g->m g = .res)->(∀ g,nx≤g->H g = .dead)->ds.length = vs.size->(∀ (i:Nat) (d:D) (v:Value),ds[i]? = some d->vs[i]? = some v->VV (Live L0 m H) w m d v) →
  Calls P f vs w fun e w'=>∃ H' nx' m',WR Γ L0 w0 m' H' w'∧Grow (Live L0 m H) w (Live L0 m' H') w'∧(∀ g,g < nx->m' g = m g)∧(∀ g,nx'≤g->m' g = .res)∧nx≤nx' ∧
   ((∃ v d,e = .returned v∧VV (Live L0 m' H') w' m' d v∧K d H' nx') ∨ ∃ x,e = .panicked (pan x)∧X x H' nx')
theorem dx_of_dc {P:Program} {Γ:Nat->Option (List Data)} {f:FuncId} {ds:List D} {H:Nat->Blk} {nx:Nat} {K:D->(Nat->Blk)->Nat->Prop} {X:Value->(Nat->Blk)->Nat->Prop} (h:DC P Γ f ds H nx K):DX P Γ f ds H nx K X :=
 ⟨h.1,fun L0 w0 m w vs a b c d e=>(h.2 L0 w0 m w vs a b c d e).mono fun e w' ⟨v,d,H',nx',m',k1,k2,k3,k4,k5,k6,k7,k8⟩=>⟨H',nx',m',k2,k4,k5,k6,k7,.inl ⟨v,d,k1,k3,k8⟩⟩⟩
theorem DX.mono {P:Program} {Γ:Nat->Option (List Data)} {f:FuncId} {ds:List D} {H:Nat->Blk} {nx:Nat} {K K':D->(Nat->Blk)->Nat->Prop} {X X':Value->(Nat->Blk)->Nat->Prop} (h:DX P Γ f ds H nx K X) (hk:∀ d H' nx',K d H' nx'->K' d H' nx') (hx:∀ v H' nx',X v H' nx'->X' v H' nx'):DX P Γ f ds H nx K' X' :=
 ⟨h.1,fun L0 w0 m w vs a b c d e=>(h.2 L0 w0 m w vs a b c d e).mono fun e w' ⟨H',nx',m',k1,k2,k3,k4,k5,k6⟩=>⟨H',nx',m',k1,k2,k3,k4,k5,k6.imp (fun ⟨v,d,a,b,c⟩=>⟨v,d,a,b,hk _ _ _ c⟩) (fun ⟨x,a,b⟩=>⟨x,a,hx _ _ _ b⟩)⟩⟩
theorem dc_of_dx {P:Program} {Γ:Nat->Option (List Data)} {f:FuncId} {ds:List D} {H:Nat->Blk} {nx:Nat} {K:D->(Nat->Blk)->Nat->Prop} (h:DX P Γ f ds H nx K fun _ _ _=>False):DC P Γ f ds H nx K :=
 ⟨h.1,fun L0 w0 m w vs a b c d e=>(h.2 L0 w0 m w vs a b c d e).mono fun e w' ⟨H',nx',m',k1,k2,k3,k4,k5,k6⟩=>by
  rcases k6 with ⟨v,d,q1,q2,q3⟩ | ⟨_,_,q⟩
  · exact ⟨v,d,H',nx',m',q1,k1,q2,k2,k3,k4,k5,q3⟩
  · exact q.elim⟩
def dxK (P:Program) (Γ:Nat->Option (List Data)) (o:Oper) (e:Nat->D) (H:Nat->Blk) (nx:Nat) (K:D->(Nat->Blk)->Nat->Prop) (X:Value->(Nat->Blk)->Nat->Prop):Prop:=match o.op with
 | .call c=>(match c.callee with
   | .value x=>(match fnD (evalD Γ e x) with
     | some (f,pre,caps)=>DX P Γ f (pre++(c.args.toList.map (evalD Γ e)++caps)) H nx K X
     | none=>False)
   | _=>False)
 | _=>False
def isPan (o:Oper):Bool:=match o.op with
 | .panic _=>true
 | _=>false
def panD (Γ:Nat->Option (List Data)) (o:Oper) (e:Nat->D):D:=match o.op with
 | .panic x=>evalD Γ e x
 | _=>.junk
def panK (x:D) (X:Value->Prop):Prop:=match x with
 | .data (.ifc t d)=>∃ v,litV d = some v∧X (.iface t v)
 | _=>False
section
variable (P:Program) (Γ:Nat->Option (List Data))
def opsX (ops:Array Oper):List Oper->St->(Exit->St->Prop)->Prop
 | [],s,Q=>Q .normal s
 | o :: rest,s,Q=>dstOk o s.nt = true∧(match wantedD ops s.env o with
   | some b=>ifW b (ifW (isPan o) (panK (panD Γ o s.env) fun v=>Q (.panic (pan v)) s) (ifW (isCall o)
      ((opK P Γ o s.env s.hp s.nx fun d _ u=>opsX ops rest (stepSt s o d u) Q) ∨ (dcK P Γ o s.env s.hp s.nx fun d H' nx'=>opsX ops rest ⟨Env.dst s.env o.dst d,H',nx',s.lo,s.nt⟩ Q) ∨
        dxK P Γ o s.env s.hp s.nx (fun d H' nx'=>opsX ops rest ⟨Env.dst s.env o.dst d,H',nx',s.lo,s.nt⟩ Q) fun v H' nx'=>Q (.panic (pan v)) ⟨s.env,H',nx',s.lo,s.nt⟩)
      (opK P Γ o s.env s.hp s.nx fun d _ u=>opsX ops rest (stepSt s o d u) Q))) (opsX ops rest (stepSt s o undefD []) Q)
   | none=>False)
def wpX:Code->(Exit->St->Prop)->St->Prop
 | .skip,Q,s=>Q .normal s
 | .region _ ops draw,Q,s=>ifW draw (drawW P Γ ops ops.toList s [] (fun s' tr=>drawOk2 ops tr s.nx s'.nx = true∧Q .normal s')) (opsX P Γ ops ops.toList s Q)
 | .seq x y,Q,s=>wpX x (thenW (wpX y Q) Q) s
 | .cond c x y,Q,s=>(match evalD Γ s.env c with
   | .data (.bool b)=>ifW b (wpX x Q s) (wpX y Q s)
   | _=>False)
 | .block id b,Q,s=>wpX b (blockW id Q) s
 | .loop b,Q,s=>LoopW (wpX b) Q s
 | .exit id,Q,s=>Q (.exit id) s
 | .ret,Q,s=>Q .ret s
 | .label _,Q,s=>Q .normal s
 | _,_,_=>False
def retXQ (fn:Func) (K:D->(Nat->Blk)->Nat->Prop) (X:Value->(Nat->Blk)->Nat->Prop):Exit->St->Prop
 | .normal,s | .ret,s=>resK P fn.results.toList s fun ds=>∃ d,tupDD ds = some d∧K d s.hp s.nx
 | .panic ch,s=>∃ v,ch = pan v∧X v s.hp s.nx
 | _,_=>False
end
/-- What is live elsewhere,where row g is lent. -/
def lentL (L0:Nat->Prop) (m:Nat->MB) (H:Nat->Blk) (g:Nat):Nat->Prop:=fun b=>Live L0 m H b∧∀ sz,m g≠.at b sz
def lentM (m m':Nat->MB) (t k:Nat):Nat->MB:=fun q=>if q = t then m' k else m q
def lentH (H:Nat->Blk) (g t:Nat) (c:List Data):Nat->Blk:=fun q=>if q = t then .blk true (c.map D.data) else if q = g then .dead else H q
section
variable {Γ:Nat->Option (List Data)} {L0:Nat->Prop} {w0:W0} {m:Nat->MB} {H:Nat->Blk} {w:World}
theorem lend (h:WR Γ L0 w0 m H w) {g:Nat} {cells:List Data} (hg:H g = .blk true (cells.map D.data)) :
 WR Γ (lentL L0 m H g) ⟨w,0,Nat.zero_le _⟩ (fun i=>if i = 0 then m g else .res) (hpL [(0,.blk true (cells.map D.data))]) w ∧
 ∀ b,Live (lentL L0 m H g) (fun i=>if i = 0 then m g else .res) (hpL [(0,.blk true (cells.map D.data))]) b ↔ Live L0 m H b:=by
 have hp0:hpL [(0,.blk true (cells.map D.data))] 0 = .blk true (cells.map D.data):=rfl
 have hpn:∀ i,i≠0->hpL [(0,.blk true (cells.map D.data))] i = .dead:=fun i hi=>by simp [hpL,hi]
 have hlive:∀ b,Live (lentL L0 m H g) (fun i=>if i = 0 then m g else .res) (hpL [(0,.blk true (cells.map D.data))]) b ↔ Live L0 m H b:=by
  intro b
  constructor
  · rintro (hb | ⟨q,sz,hq,hm⟩)
    · exact hb.1
    · by_cases e:q = 0
      · subst e;exact .inr ⟨g,sz,by rw [hg];rfl,by simpa using hm⟩
      · rw [hpn q e] at hq;cases hq
  · intro hb
    by_cases e:∃ sz,m g = .at b sz
    · obtain ⟨sz,e⟩:=e
      exact .inr ⟨0,sz,by rw [hp0];rfl,by simpa using e⟩
    · exact .inl ⟨hb,fun sz k=>e ⟨sz,k⟩⟩
 refine ⟨⟨⟨?_,?_,?_,?_⟩,⟨rfl,rfl,rfl,Nat.le_refl _,fun k hk=>absurd hk (Nat.not_lt_zero k)⟩,fun b hb=>⟨h.live_lt hb.1,rfl⟩,h.glob.mono (Grow.less w fun b hb=>(hlive b).1 hb)⟩,hlive⟩
 · intro q rw cs hq
   by_cases e:q = 0
   · subst e
     rw [hp0] at hq;cases hq
     rcases h.heap.blk g true _ hg with ⟨k1,k2⟩ | ⟨b,sz,vs,ty,k1,k2,k3,k4,k5,k6,k7⟩
     · exact .inl ⟨by simpa using k1,k2⟩
     · refine .inr ⟨b,sz,vs,ty,by simpa using k1,⟨Nat.zero_le _,fun hl=>hl.2 sz k1⟩,(fun e=>by cases e),k4,k5,k6,fun i d hd=>?_⟩
       obtain ⟨v,hv,h1c,hvv⟩:=k7 i d hd
       refine ⟨v,hv,h1c,?_⟩
       rw [List.getElem?_map,Option.map_eq_some_iff] at hd
       obtain ⟨x,_,rfl⟩:=hd
       exact .data _ _ (hvv.data_inv.mono (Grow.less w fun b hb=>(hlive b).1 hb))
   · rw [hpn q e] at hq;cases hq
 · intro q q' cs rw' cs' b sz sz' hq hq' _ _
   by_cases e:q = 0
   · by_cases e':q' = 0
     · rw [e,e']
     · rw [hpn q' e'] at hq';cases hq'
   · rw [hpn q e] at hq;cases hq
 · intro q o hq
   by_cases e:q = 0
   · subst e;rw [hp0] at hq;cases hq
   · rw [hpn q e] at hq;cases hq
 · intro q q' o o' b sz sz' hq _ _ _
   by_cases e:q = 0
   · subst e;rw [hp0] at hq;cases hq
   · rw [hpn q e] at hq;cases hq
theorem lent_back (h:WR Γ L0 w0 m H w) {g:Nat} {cells:List Data} (hg:H g = .blk true (cells.map D.data)) {m':Nat->MB} {H':Nat->Blk} {w':World}
 (k1:WR Γ (lentL L0 m H g) ⟨w,0,Nat.zero_le _⟩ m' H' w') (k2:Grow (Live L0 m H) w (Live (lentL L0 m H g) m' H') w') (hm0:m' 0 = m g) {k t:Nat} {c:List Data} (hk:H' k = .blk true (c.map D.data)) (ht:(t = g∧k = 0) ∨ (t≠g∧m t = .res)) :
 WR Γ L0 w0 (lentM m m' t k) (lentH H g t c) w'∧Grow (Live L0 m H) w (Live L0 (lentM m m' t k) (lentH H g t c)) w'∧(∀ b,Live L0 (lentM m m' t k) (lentH H g t c) b->Live (lentL L0 m H g) m' H' b)∧∀ q,m q≠.res->lentM m m' t k q = m q:=by
 have hown:∀ b sz,m g = .at b sz->Own L0 w0.base b:=fun b sz hm=>by
  rcases h.heap.blk g true _ hg with ⟨j1,_⟩ | ⟨b',sz',vs,ty,j1,j2,_⟩
  · rw [j1] at hm;cases hm
  · rw [j1] at hm;cases hm;exact j2
 have hgl:∀ b sz,m g = .at b sz->Live L0 m H b:=fun b sz hm=>.inr ⟨g,sz,by rw [hg];rfl,hm⟩
 have hM:∀ q,m q≠.res->lentM m m' t k q = m q:=fun q hq=>by
  unfold lentM
  by_cases e:q = t
  · rw [if_pos e]
    rcases ht with ⟨e1,e2⟩ | ⟨_,e2⟩
    · rw [e2,hm0,e,e1]
    · rw [e] at hq;exact absurd e2 hq
  · exact if_neg e
 have hMt:lentM m m' t k t = m' k:=if_pos rfl
 have hMn:∀ q,q≠t->lentM m m' t k q = m q:=fun q e=>if_neg e
 have hHt:lentH H g t c t = .blk true (c.map D.data):=if_pos rfl
 have hHn:∀ q,q≠t->q≠g->lentH H g t c q = H q:=fun q e e2=>by unfold lentH;rw [if_neg e,if_neg e2]
 have hHg:∀ q,q≠t->q = g->lentH H g t c q = .dead:=fun q e e2=>by unfold lentH;rw [if_neg e,if_pos e2]
 have other:∀ q b sz,q≠g->H q≠.dead->m q = .at b sz->∀ s,m g≠.at b s:=fun q b sz e hq hm s hs=>e (h.inj (by rw [hg];rfl) hq hs hm).symm
 have sub:∀ b,Live L0 (lentM m m' t k) (lentH H g t c) b->Live (lentL L0 m H g) m' H' b:=by
  rintro b (hb | ⟨q,sz,hq,hm⟩)
  · exact .inl ⟨.inl hb,fun sz e=>(hown b sz e).2 hb⟩
  · by_cases e:q = t
    · subst e;rw [hMt] at hm;exact .inr ⟨k,sz,by rw [hk];rfl,hm⟩
    · by_cases e2:q = g
      · rw [hHg q e e2] at hq;cases hq
      · rw [hHn q e e2] at hq;rw [hMn q e] at hm
        exact .inl ⟨.inr ⟨q,sz,hq,hm⟩,other q b sz e2 (fun e3=>by rw [e3] at hq;cases hq) hm⟩
 have newb:∀ b sz,m' k = .at b sz->b < w.heap.size->∃ s,m g = .at b s:=fun b sz hm hb=>Classical.byContradiction fun hno=>by
  have hl:Live L0 m H b:=Classical.byContradiction fun hl=>(k2.keep b hb hl).2 (.inr ⟨k,sz,by rw [hk];rfl,hm⟩)
  rcases k1.heap.blk k true _ hk with ⟨j1,_⟩ | ⟨b',sz',vs,ty,j1,j2,_⟩
  · rw [j1] at hm;cases hm
  · rw [j1] at hm;cases hm
    exact j2.2 ⟨hl,fun s e=>hno ⟨s,e⟩⟩
 have oldl:∀ b,b < w.heap.size->Live L0 (lentM m m' t k) (lentH H g t c) b->Live L0 m H b:=by
  rintro b hb (hl | ⟨q,sz,hq,hm⟩)
  · exact .inl hl
  · by_cases e:q = t
    · subst e;rw [hMt] at hm
      obtain ⟨s,hs⟩:=newb b sz hm hb
      exact hgl b s hs
    · by_cases e2:q = g
      · rw [hHg q e e2] at hq;cases hq
      · rw [hHn q e e2] at hq;rw [hMn q e] at hm
        exact .inr ⟨q,sz,hq,hm⟩
 have grow:Grow (Live L0 m H) w (Live L0 (lentM m m' t k) (lentH H g t c)) w':=⟨k2.size,fun b hb hL=>⟨(k2.keep b hb hL).1,fun hl=>hL (oldl b hb hl)⟩⟩
 have vd:∀ {x:Data} {v:Value},VD (Live (lentL L0 m H g) m' H') w' x v->VD (Live L0 (lentM m m' t k) (lentH H g t c)) w' x v:=fun hx=>hx.mono (Grow.less w' sub)
 have still:∀ b,b < w.heap.size->(∀ s,m g≠.at b s)->w'.heap[b]? = w.heap[b]?:=fun b hb hn=>by
  by_cases hl:Live L0 m H b
  · exact (k1.l0 b ⟨hl,hn⟩).2
  · exact (k2.keep b hb hl).1
 have tdead:t≠g->H t = .dead:=fun e=>by
  rcases ht with ⟨e1,_⟩ | ⟨_,e2⟩
  · exact absurd e1 e
  · exact h.none e2
 have oback:∀ q o,lentH H g t c q = .obj o->q≠t∧q≠g∧H q = .obj o:=fun q o hq=>by
  have e:q≠t:=fun e=>by rw [e,hHt] at hq;cases hq
  have e2:q≠g:=fun e2=>by rw [hHg q e e2] at hq;cases hq
  exact ⟨e,e2,by rw [<- hHn q e e2];exact hq⟩
 refine ⟨⟨⟨?_,?_,?_,?_⟩,?_,?_,h.glob.mono grow⟩,grow,sub,hM⟩
 · intro q rw cs hq
   by_cases e:q = t
   · subst e
     rw [hHt] at hq;cases hq
     rcases k1.heap.blk k true _ hk with ⟨j1,j2⟩ | ⟨b,sz,vs,ty,j1,j2,j3,j4,j5,j6,j7⟩
     · exact .inl ⟨by rw [hMt];exact j1,j2⟩
     · refine .inr ⟨b,sz,vs,ty,by rw [hMt];exact j1,?_,(fun e=>by cases e),j4,j5,j6,fun i d hd=>?_⟩
       · by_cases hb:b < w.heap.size
         · obtain ⟨s,hs⟩:=newb b sz j1 hb
           exact hown b s hs
         · exact ⟨Nat.le_trans h.base (Nat.le_of_not_lt hb),fun hl=>hb (h.l0 b hl).1⟩
       · obtain ⟨v,hv,h1c,hvv⟩:=j7 i d hd
         refine ⟨v,hv,h1c,?_⟩
         rw [List.getElem?_map,Option.map_eq_some_iff] at hd
         obtain ⟨x,_,rfl⟩:=hd
         exact .data _ _ (vd hvv.data_inv)
   · by_cases e2:q = g
     · rw [hHg q e e2] at hq;cases hq
     · rw [hHn q e e2] at hq
       rcases h.heap.blk q rw cs hq with ⟨j1,j2⟩ | ⟨b,sz,vs,ty,j1,j2,j3,j4,j5,j6,j7⟩
       · exact .inl ⟨by rw [hMn q e];exact j1,j2⟩
       · have hb:=h.lt hq j1
         refine .inr ⟨b,sz,vs,ty,by rw [hMn q e];exact j1,j2,fun hrw hl=>j3 hrw (oldl b hb hl),?_,j5,j6,fun i d hd=>?_⟩
         · rw [still b hb (other q b sz e2 (fun e3=>by rw [e3] at hq;cases hq) j1)];exact j4
         · obtain ⟨v,hv,h1c,hvv⟩:=j7 i d hd
           exact ⟨v,hv,h1c,hvv.mono grow hM⟩
 · intro q q' cs rw' cs' b sz sz' hq hq' hm1 hm2
   have tno:∀ p,p≠t->p≠g->H p≠.dead->∀ s s',m' k = .at b s->m p = .at b s'->False:=fun p e e2 hp s s' h1 h2=>by
    have hb:b < w.heap.size:=by
     cases hpe:H p with
     | dead=>exact absurd hpe hp
     | blk rw c2=>exact h.lt hpe h2
     | obj o=>exact h.ltO hpe h2
    obtain ⟨s2,hs⟩:=newb b s h1 hb
    exact other p b s' e2 hp h2 s2 hs
   by_cases e:q = t
   · by_cases e':q' = t
     · rw [e,e']
     · exfalso
       by_cases e2:q' = g
       · rw [hHg q' e' e2] at hq';cases hq'
       · rw [hHn q' e' e2] at hq';rw [hMn q' e'] at hm2;rw [e,hMt] at hm1
         exact tno q' e' e2 (fun e3=>by rw [e3] at hq';cases hq') sz sz' hm1 hm2
   · by_cases e2:q = g
     · rw [hHg q e e2] at hq;cases hq
     · rw [hHn q e e2] at hq;rw [hMn q e] at hm1
       by_cases e':q' = t
       · exfalso
         rw [e',hMt] at hm2
         exact tno q e e2 (fun e3=>by rw [e3] at hq;cases hq) sz' sz hm2 hm1
       · by_cases e3:q' = g
         · rw [hHg q' e' e3] at hq';cases hq'
         · rw [hHn q' e' e3] at hq';rw [hMn q' e'] at hm2
           exact h.heap.inj q q' cs rw' cs' b sz sz' hq hq' hm1 hm2
 · intro q o hq
   obtain ⟨e,e2,hq⟩:=oback q o hq
   obtain ⟨b,v,j1,j2,j3,j4⟩:=h.heap.obj q o hq
   exact ⟨b,v,by rw [hMn q e];exact j1,j2,by rw [still b (h.ltO hq j1) (other q b 0 e2 (fun e3=>by rw [e3] at hq;cases hq) j1)];exact j3,j4.mono grow hM⟩
 · intro q q' o o' b sz sz' hq hq' hm1 hm2
   obtain ⟨e,_,hq⟩:=oback q o hq
   obtain ⟨e',_,hq'⟩:=oback q' o' hq'
   rw [hMn q e] at hm1;rw [hMn q' e'] at hm2
   exact h.heap.injO q q' o o' b sz sz' hq hq' hm1 hm2
 · refine h.below.trans ⟨k1.below.os,k1.below.tape,k1.below.output,k2.size,fun b hb=>still b (Nat.lt_of_lt_of_le hb h.base) fun s hs=>?_⟩
   have:=(hown b s hs).1
   omega
 · intro b hb
   refine ⟨Nat.lt_of_lt_of_le (h.l0 b hb).1 k2.size,?_⟩
   rw [still b (h.l0 b hb).1 fun s hs=>(hown b s hs).2 hb]
   exact (h.l0 b hb).2
end
section
variable {P:Program} {Γ:Nat->Option (List Data)}
theorem lent_args {L0:Nat->Prop} {m:Nat->MB} {H:Nat->Blk} {w:World} {d0 d1:D} {xs:List D} {vs:Array Value} {L:Nat->Prop} {m1:Nat->MB} (hL:∀ b,L b->Live L0 m H b)
 (h0:∀ v,VV (Live L0 m H) w m d0 v->VV L w m1 d1 v) (hx:∀ x∈xs,(∃ y,x = .data y) ∨ ∃ c,x = .cptr c)
 (hv:∀ (i:Nat) (d:D) (v:Value),(d0 :: xs)[i]? = some d->vs[i]? = some v->VV (Live L0 m H) w m d v) (i:Nat) (d:D) (v:Value) (hd:(d1 :: xs)[i]? = some d) (hvi:vs[i]? = some v):VV L w m1 d v:=by
 cases i with
 | zero =>
   simp only [List.getElem?_cons_zero,Option.some.injEq] at hd
   subst hd
   exact h0 v (hv 0 d0 v rfl hvi)
 | succ i =>
   have hd2:=hd
   rw [List.getElem?_cons_succ] at hd2
   have hvv:=hv (i + 1) d v (by rw [List.getElem?_cons_succ];exact hd2) hvi
   have hg:Grow (Live L0 m H) w L w:=Grow.less w hL
   rcases hx d (List.mem_of_getElem? hd2) with ⟨y,rfl⟩ | ⟨c,rfl⟩
   · exact .data _ _ (hvv.data_inv.mono hg)
   · cases hvv with
     | cptr _ b off us hb hl hc hu=>exact .cptr c b off us hb (fun h=>hl (hL _ h)) hc fun i x hx=>(hu i x hx).mono hg
/-- What leads to the row that is lent,as the caller has it,and as the call does. -/
inductive Lent (g:Nat):D->D->Prop where
 | ptr (off:Nat):Lent g (.ptr g off) (.ptr 0 off)
 | ref (off len es:Nat):Lent g (.ref g off len es) (.ref 0 off len es)
/-- A call that is lent a row of the caller's;it hands back plain data,or panics. -/
theorem dx_lent {d0 d1:D} {f:FuncId} {xs:List D} {cells:List Data} {K0:Data->List Data->Prop} {X0:Value->List Data->Prop}
 (hc:DX P Γ f (d0 :: xs) (hpL [(0,.blk true (cells.map D.data))]) 1 (fun d H' _=>∃ r c,d = .data r∧H' 0 = .blk true (c.map D.data)∧K0 r c) fun v H' _=>∃ c,H' 0 = .blk true (c.map D.data)∧X0 v c)
 {H:Nat->Blk} {nx g:Nat} {K:D->(Nat->Blk)->Nat->Prop} {X:Value->(Nat->Blk)->Nat->Prop} (hg:H g = .blk true (cells.map D.data)) (hd:Lent g d1 d0) (hxs:∀ x∈xs,(∃ y,x = .data y) ∨ ∃ c,x = .cptr c)
 (hk:∀ r c,K0 r c->K (.data r) (Hp.upd H [(g,.blk true (c.map D.data))]) nx) (hx:∀ v c,X0 v c->X v (Hp.upd H [(g,.blk true (c.map D.data))]) nx):DX P Γ f (d1 :: xs) H nx K X:=by
 refine ⟨hc.1,fun L0 w0 m w vs hwr hres hdead hl hv=>?_⟩
 obtain ⟨h1,hlive⟩:=lend hwr hg
 refine (hc.2 _ _ _ w vs h1 (fun q hq=>if_neg (by omega)) (fun q hq=>by simp [hpL,show q≠0 by omega]) (by simpa using hl) (lent_args (fun b hb=>(hlive b).1 hb) (fun v hvv=>?_) hxs hv)).mono fun e w' ⟨H',nx',m',k1,k2,k3,k4,k5,k6⟩=>?_
 · cases hd with
   | ptr off =>
     cases hvv with
     | ptr _ _ b sz hm=>exact .ptr 0 off b sz (by simpa using hm)
   | ref off len es =>
     cases hvv with
     | ref _ _ _ _ b sz cap o hm j2 j3 j4 j5=>exact .ref 0 off len es b sz cap o (by simpa using hm) j2 j3 j4 j5
     | ref0 _ _ a hm=>exact .ref0 0 es a (by simpa using hm)
 have hm0:m' 0 = m g:=(k3 0 (by omega)).trans (if_pos rfl)
 have k2':Grow (Live L0 m H) w (Live (lentL L0 m H g) m' H') w':=⟨k2.size,fun b hb hL=>k2.keep b hb fun h=>hL ((hlive b).1 h)⟩
 have same:∀ c:List Data,lentH H g g c = Hp.upd H [(g,.blk true (c.map D.data))]:=fun c=>by
  funext q
  unfold lentH Hp.upd
  by_cases e:q = g
  · subst e;simp [Hp.upd,Hp.set]
  · simp [Hp.upd,Hp.set,e,Ne.symm e]
 have back:∀ c:List Data,H' 0 = .blk true (c.map D.data)->WR Γ L0 w0 m (Hp.upd H [(g,.blk true (c.map D.data))]) w'∧Grow (Live L0 m H) w (Live L0 m (Hp.upd H [(g,.blk true (c.map D.data))])) w'∧∀ b,Live L0 m (Hp.upd H [(g,.blk true (c.map D.data))]) b->Live (lentL L0 m H g) m' H' b:=fun c h0=>by
  have hM:lentM m m' g 0 = m:=by
   funext q
   unfold lentM
   by_cases e:q = g
   · rw [if_pos e,hm0,e]
   · exact if_neg e
  obtain ⟨a,b,c2,_⟩:=lent_back hwr hg k1 k2' hm0 (k:=0) (t:=g) (c:=c) h0 (.inl ⟨rfl,rfl⟩)
  rw [hM,same c] at a b c2
  exact ⟨a,b,c2⟩
 rcases k6 with ⟨v,d,he,hvv,r,c,rfl,h0,hK⟩ | ⟨x,he,c,h0,hX⟩
 · obtain ⟨a,b,s⟩:=back c h0
   exact ⟨_,nx,m,a,b,fun _ _=>rfl,hres,Nat.le_refl _,.inl ⟨v,.data r,he,.data _ _ (hvv.data_inv.mono (Grow.less w' s)),hk r c hK⟩⟩
 · obtain ⟨a,b,s⟩:=back c h0
   exact ⟨_,nx,m,a,b,fun _ _=>rfl,hres,Nat.le_refl _,.inr ⟨x,he,hx x c hX⟩⟩
end
end Go.Proofs.YtlfhkplbjgcpiaaGreatDoor
namespace Go.Proofs.YtlfhkplbjgcpiaaGreatDoor
@[go_sem] theorem ty_zv1:zvT Tryz.prog 1 = some (.data .nilf):=by kernel_rfl
@[go_sem] theorem ty_sz3:szT Tryz.prog 3 = some 1:=by kernel_rfl
@[go_sem] theorem ty_by3:byT Tryz.prog 3 = some 8:=by kernel_rfl
@[go_sem] theorem ty_ag3:aggT Tryz.prog 3 = some false:=by kernel_rfl
@[go_sem] theorem ty_ze3:zeT Tryz.prog 3 = some [.data (.int .i64 0)]:=by kernel_rfl
@[go_sem] theorem ty_zl3:zlT Tryz.prog 3 = some 1:=by kernel_rfl
@[go_sem] theorem ty_in3:intT Tryz.prog 3 = some .i64:=by kernel_rfl
@[go_sem] theorem ty_ki3  (n:Int):keyT Tryz.prog 3 (.int .i64 n) = true:=by kernel_rfl
@[go_sem] theorem ty_zv3:zvT Tryz.prog 3 = some (.data (.int .i64 0)):=by kernel_rfl
@[go_sem] theorem ty_sz4:szT Tryz.prog 4 = some 1:=by kernel_rfl
@[go_sem] theorem ty_ag4:aggT Tryz.prog 4 = some false:=by kernel_rfl
@[go_sem] theorem ty_bo4:boolT Tryz.prog 4 = true:=by kernel_rfl
@[go_sem] theorem ty_sz5:szT Tryz.prog 5 = some 1:=by kernel_rfl
@[go_sem] theorem ty_by5:byT Tryz.prog 5 = some 1:=by kernel_rfl
@[go_sem] theorem ty_ag5:aggT Tryz.prog 5 = some false:=by kernel_rfl
@[go_sem] theorem ty_ze5:zeT Tryz.prog 5 = some [.data (.int .u8 0)]:=by kernel_rfl
@[go_sem] theorem ty_zl5:zlT Tryz.prog 5 = some 1:=by kernel_rfl
@[go_sem] theorem ty_in5:intT Tryz.prog 5 = some .u8:=by kernel_rfl
@[go_sem] theorem ty_ki5  (n:Int):keyT Tryz.prog 5 (.int .u8 n) = true:=by kernel_rfl
@[go_sem] theorem ty_sz9:szT Tryz.prog 9 = some 1:=by kernel_rfl
@[go_sem] theorem ty_by9:byT Tryz.prog 9 = some 16:=by kernel_rfl
@[go_sem] theorem ty_ag9:aggT Tryz.prog 9 = some false:=by kernel_rfl
@[go_sem] theorem ty_ze9:zeT Tryz.prog 9 = some [.data (.str ByteArray.empty)]:=by kernel_rfl
@[go_sem] theorem ty_st9:strT Tryz.prog 9 = true:=by kernel_rfl
@[go_sem] theorem ty_ki21  (n:Int):keyT Tryz.prog 21 (.int .i32 n) = true:=by kernel_rfl
@[go_sem] theorem ty_sz23:szT Tryz.prog 23 = some 4:=by kernel_rfl
@[go_sem] theorem ty_ag23:aggT Tryz.prog 23 = some true:=by kernel_rfl
@[go_sem] theorem ty_ze23:zeT Tryz.prog 23 = some [.data (.int .i64 0),.data (.int .i64 0),.data (.int .i64 0),.data (.int .u8 0)]:=by kernel_rfl
@[go_sem] theorem ty_fl23_0:fldT Tryz.prog 23 0 = some (0,3):=by kernel_rfl
@[go_sem] theorem ty_fl23_1:fldT Tryz.prog 23 1 = some (1,3):=by kernel_rfl
@[go_sem] theorem ty_fl23_2:fldT Tryz.prog 23 2 = some (2,3):=by kernel_rfl
@[go_sem] theorem ty_fl23_3:fldT Tryz.prog 23 3 = some (3,5):=by kernel_rfl
@[go_sem] theorem ty_sz24:szT Tryz.prog 24 = some 1:=by kernel_rfl
@[go_sem] theorem ty_ag24:aggT Tryz.prog 24 = some false:=by kernel_rfl
@[go_sem] theorem ty_in24:intT Tryz.prog 24 = some .u32:=by kernel_rfl
@[go_sem] theorem ty_sz26:szT Tryz.prog 26 = some 5:=by kernel_rfl
@[go_sem] theorem ty_ag26:aggT Tryz.prog 26 = some true:=by kernel_rfl
@[go_sem] theorem ty_ze26:zeT Tryz.prog 26 = some [.data (.bool false),.data (.int .u32 0),.data (.int .u32 0),.data (.int .u32 0),.data (.int .u32 0)]:=by kernel_rfl
@[go_sem] theorem ty_ar26:arrT Tryz.prog 26 = none:=by kernel_rfl
@[go_sem] theorem ty_fl26_0:fldT Tryz.prog 26 0 = some (0,4):=by kernel_rfl
@[go_sem] theorem ty_fl26_1:fldT Tryz.prog 26 1 = some (1,24):=by kernel_rfl
@[go_sem] theorem ty_fl26_2:fldT Tryz.prog 26 2 = some (2,24):=by kernel_rfl
@[go_sem] theorem ty_fl26_3:fldT Tryz.prog 26 3 = some (3,24):=by kernel_rfl
@[go_sem] theorem ty_fl26_4:fldT Tryz.prog 26 4 = some (4,24):=by kernel_rfl
@[go_sem] theorem ty_pl26:plT Tryz.prog 26 = some [(0,1),(1,1),(2,1),(3,1),(4,1)]:=by kernel_rfl
@[go_sem] theorem ty_sz27:szT Tryz.prog 27 = some 1:=by kernel_rfl
@[go_sem] theorem ty_ag27:aggT Tryz.prog 27 = some false:=by kernel_rfl
@[go_sem] theorem ty_ze27:zeT Tryz.prog 27 = some [.emp 0]:=by kernel_rfl
@[go_sem] theorem ty_sl27:sliceT Tryz.prog 27 = some 66:=by kernel_rfl
@[go_sem] theorem ty_in27:intT Tryz.prog 27 = none:=by kernel_rfl
@[go_sem] theorem ty_st27:strT Tryz.prog 27 = false:=by kernel_rfl
@[go_sem] theorem ty_sz29:szT Tryz.prog 29 = some 12:=by kernel_rfl
@[go_sem] theorem ty_ag29:aggT Tryz.prog 29 = some true:=by kernel_rfl
@[go_sem] theorem ty_ze29:zeT Tryz.prog 29 = some [.data (.int .i64 0),.data (.int .i64 0),.data (.int .i64 0),.data (.int .u8 0),.data (.bool false),.data (.int .u32 0),.data (.int .u32 0),.data (.int .u32 0),.data (.int .u32 0),.emp 0,.data (.int .i64 0),.emp 0]:=by kernel_rfl
@[go_sem] theorem ty_ar29:arrT Tryz.prog 29 = none:=by kernel_rfl
@[go_sem] theorem ty_fl29_0:fldT Tryz.prog 29 0 = some (0,23):=by kernel_rfl
@[go_sem] theorem ty_fl29_1:fldT Tryz.prog 29 1 = some (4,26):=by kernel_rfl
@[go_sem] theorem ty_fl29_2:fldT Tryz.prog 29 2 = some (9,27):=by kernel_rfl
@[go_sem] theorem ty_fl29_3:fldT Tryz.prog 29 3 = some (10,3):=by kernel_rfl
@[go_sem] theorem ty_fl29_4:fldT Tryz.prog 29 4 = some (11,27):=by kernel_rfl
@[go_sem] theorem ty_pl29:plT Tryz.prog 29 = some [(0,4),(4,5),(9,1),(10,1),(11,1)]:=by kernel_rfl
@[go_sem] theorem ty_sz30:szT Tryz.prog 30 = some 1:=by kernel_rfl
@[go_sem] theorem ty_ag30:aggT Tryz.prog 30 = some false:=by kernel_rfl
@[go_sem] theorem ty_ze30:zeT Tryz.prog 30 = some [.emp 0]:=by kernel_rfl
@[go_sem] theorem ty_sl30:sliceT Tryz.prog 30 = some 5:=by kernel_rfl
@[go_sem] theorem ty_in30:intT Tryz.prog 30 = none:=by kernel_rfl
@[go_sem] theorem ty_st30:strT Tryz.prog 30 = false:=by kernel_rfl
@[go_sem] theorem ty_sz32:szT Tryz.prog 32 = some 3:=by kernel_rfl
@[go_sem] theorem ty_by32:byT Tryz.prog 32 = some 32:=by kernel_rfl
@[go_sem] theorem ty_ag32:aggT Tryz.prog 32 = some true:=by kernel_rfl
@[go_sem] theorem ty_ze32:zeT Tryz.prog 32 = some [.data (.int .u8 0),.data (.int .u8 0),.emp 0]:=by kernel_rfl
@[go_sem] theorem ty_zl32:zlT Tryz.prog 32 = some 3:=by kernel_rfl
@[go_sem] theorem ty_ar32:arrT Tryz.prog 32 = none:=by kernel_rfl
@[go_sem] theorem ty_fl32_0:fldT Tryz.prog 32 0 = some (0,5):=by kernel_rfl
@[go_sem] theorem ty_fl32_1:fldT Tryz.prog 32 1 = some (1,5):=by kernel_rfl
@[go_sem] theorem ty_fl32_2:fldT Tryz.prog 32 2 = some (2,30):=by kernel_rfl
@[go_sem] theorem ty_pl32:plT Tryz.prog 32 = some [(0,1),(1,1),(2,1)]:=by kernel_rfl
@[go_sem] theorem ty_sz35:szT Tryz.prog 35 = some 1:=by kernel_rfl
@[go_sem] theorem ty_ag35:aggT Tryz.prog 35 = some false:=by kernel_rfl
@[go_sem] theorem ty_sl35:sliceT Tryz.prog 35 = some 32:=by kernel_rfl
@[go_sem] theorem ty_in35:intT Tryz.prog 35 = none:=by kernel_rfl
@[go_sem] theorem ty_st35:strT Tryz.prog 35 = false:=by kernel_rfl
@[go_sem] theorem ty_sz36:szT Tryz.prog 36 = some 1:=by kernel_rfl
@[go_sem] theorem ty_ag36:aggT Tryz.prog 36 = some false:=by kernel_rfl
@[go_sem] theorem ty_sl36:sliceT Tryz.prog 36 = some 3:=by kernel_rfl
@[go_sem] theorem ty_in36:intT Tryz.prog 36 = none:=by kernel_rfl
@[go_sem] theorem ty_st36:strT Tryz.prog 36 = false:=by kernel_rfl
@[go_sem] theorem ty_sz43:szT Tryz.prog 43 = some 15:=by kernel_rfl
@[go_sem] theorem ty_ag43:aggT Tryz.prog 43 = some true:=by kernel_rfl
@[go_sem] theorem ty_ze43:zeT Tryz.prog 43 = some [.data (.int .i64 0),.data (.int .i64 0),.data (.int .i64 0),.data (.int .u8 0),.data (.bool false),.data (.int .u32 0),.data (.int .u32 0),.data (.int .u32 0),.data (.int .u32 0),.emp 0,.data (.int .i64 0),.emp 0,.emp 0,.emp 0,.emp 0]:=by kernel_rfl
@[go_sem] theorem ty_ar43:arrT Tryz.prog 43 = none:=by kernel_rfl
@[go_sem] theorem ty_fl43_0:fldT Tryz.prog 43 0 = some (0,29):=by kernel_rfl
@[go_sem] theorem ty_fl43_1:fldT Tryz.prog 43 1 = some (12,35):=by kernel_rfl
@[go_sem] theorem ty_fl43_2:fldT Tryz.prog 43 2 = some (13,36):=by kernel_rfl
@[go_sem] theorem ty_fl43_3:fldT Tryz.prog 43 3 = some (14,36):=by kernel_rfl
@[go_sem] theorem ty_pl43:plT Tryz.prog 43 = some [(0,12),(12,1),(13,1),(14,1)]:=by kernel_rfl
@[go_sem] theorem ty_sz66:szT Tryz.prog 66 = some 2:=by kernel_rfl
@[go_sem] theorem ty_by66:byT Tryz.prog 66 = some 32:=by kernel_rfl
@[go_sem] theorem ty_ag66:aggT Tryz.prog 66 = some true:=by kernel_rfl
@[go_sem] theorem ty_ze66:zeT Tryz.prog 66 = some [.data (.int .u8 0),.emp 0]:=by kernel_rfl
@[go_sem] theorem ty_zl66:zlT Tryz.prog 66 = some 2:=by kernel_rfl
@[go_sem] theorem ty_ar66:arrT Tryz.prog 66 = none:=by kernel_rfl
@[go_sem] theorem ty_fl66_0:fldT Tryz.prog 66 0 = some (0,5):=by kernel_rfl
@[go_sem] theorem ty_fl66_1:fldT Tryz.prog 66 1 = some (1,30):=by kernel_rfl
@[go_sem] theorem ty_pl66:plT Tryz.prog 66 = some [(0,1),(1,1)]:=by kernel_rfl
@[go_sem] theorem ty_ze71:zeT Tryz.prog 71 = some [.data (.int .i64 0),.data (.int .i64 0),.data (.int .i64 0),.data (.int .u8 0),.data (.bool false),.data (.int .u32 0),.data (.int .u32 0),.data (.int .u32 0),.data (.int .u32 0),.emp 0,.data (.int .i64 0),.emp 0,.data (.int .u8 0),.data (.int .u8 0),.data (.int .u8 0),.emp 0,.emp 0,.emp 0]:=by kernel_rfl
@[go_sem] theorem ty_ar71:arrT Tryz.prog 71 = none:=by kernel_rfl
@[go_sem] theorem ty_fl71_0:fldT Tryz.prog 71 0 = some (0,29):=by kernel_rfl
@[go_sem] theorem ty_fl71_1:fldT Tryz.prog 71 1 = some (12,5):=by kernel_rfl
@[go_sem] theorem ty_fl71_2:fldT Tryz.prog 71 2 = some (13,32):=by kernel_rfl
@[go_sem] theorem ty_fl71_3:fldT Tryz.prog 71 3 = some (16,35):=by kernel_rfl
@[go_sem] theorem ty_fl71_4:fldT Tryz.prog 71 4 = some (17,36):=by kernel_rfl
@[go_sem] theorem ty_pl71:plT Tryz.prog 71 = some [(0,12),(12,1),(13,3),(16,1),(17,1)]:=by kernel_rfl
@[go_sem] theorem ty_sz86:szT Tryz.prog 86 = some 1:=by kernel_rfl
@[go_sem] theorem ty_ag86:aggT Tryz.prog 86 = some false:=by kernel_rfl
@[go_sem] theorem ty_ze86:zeT Tryz.prog 86 = some [.data (.int .i64 0)]:=by kernel_rfl
@[go_sem] theorem ty_sz90:szT Tryz.prog 90 = some 1:=by kernel_rfl
@[go_sem] theorem ty_ag90:aggT Tryz.prog 90 = some false:=by kernel_rfl
@[go_sem] theorem ty_in97:intT Tryz.prog 97 = some .u16:=by kernel_rfl
@[go_sem] theorem ty_ki97  (n:Int):keyT Tryz.prog 97 (.int .u16 n) = true:=by kernel_rfl
@[go_sem] theorem ty_zv99:zvT Tryz.prog 99 = some (.data .nilf):=by kernel_rfl
@[go_sem] theorem ty_mp101:mapT Tryz.prog 101 = some (5,99):=by kernel_rfl
@[go_sem] theorem ty_ze124:zeT Tryz.prog 124 = some [.data (.int .i64 0),.data (.int .i64 0),.data (.int .i64 0),.data (.int .u8 0),.emp 0]:=by kernel_rfl
@[go_sem] theorem ty_ar124:arrT Tryz.prog 124 = none:=by kernel_rfl
@[go_sem] theorem ty_fl124_0:fldT Tryz.prog 124 0 = some (0,23):=by kernel_rfl
@[go_sem] theorem ty_fl124_1:fldT Tryz.prog 124 1 = some (4,36):=by kernel_rfl
@[go_sem] theorem ty_pl124:plT Tryz.prog 124 = some [(0,4),(4,1)]:=by kernel_rfl
@[go_sem] theorem ty_sz126:szT Tryz.prog 126 = some 2:=by kernel_rfl
@[go_sem] theorem ty_ze126:zeT Tryz.prog 126 = some [.data (.int .u8 0),.data (.int .u8 0)]:=by kernel_rfl
@[go_sem] theorem ty_ar126:arrT Tryz.prog 126 = some (2,5):=by kernel_rfl
@[go_sem] theorem ty_zv126:zvT Tryz.prog 126 = some (.data (.agg [(.int .u8 0),(.int .u8 0)])):=by kernel_rfl
@[go_sem] theorem ty_mp128:mapT Tryz.prog 128 = some (97,126):=by kernel_rfl
@[go_sem] theorem ty_sl136:sliceT Tryz.prog 136 = some 9:=by kernel_rfl
@[go_sem] theorem ty_mp141:mapT Tryz.prog 141 = some (3,1):=by kernel_rfl
@[go_sem] theorem ty_ar156:arrT Tryz.prog 156 = some (256,5):=by kernel_rfl
@[go_sem] theorem ty_ze159:zeT Tryz.prog 159 = some [.data (.str ByteArray.empty),.data (.str ByteArray.empty),.data (.str ByteArray.empty),.data (.str ByteArray.empty),.data (.str ByteArray.empty),.data (.str ByteArray.empty),.data (.str ByteArray.empty),.data (.str ByteArray.empty),.data (.str ByteArray.empty),.data (.str ByteArray.empty),.data (.str ByteArray.empty),.data (.str ByteArray.empty),.data (.str ByteArray.empty),.data (.str ByteArray.empty),.data (.str ByteArray.empty),.data (.str ByteArray.empty)]:=by kernel_rfl
@[go_sem] theorem ty_ar159:arrT Tryz.prog 159 = some (16,9):=by kernel_rfl
@[go_sem] theorem ty_mp160:mapT Tryz.prog 160 = some (21,3):=by kernel_rfl
@[go_sem] theorem ty_sl162:sliceT Tryz.prog 162 = some 30:=by kernel_rfl
@[go_sem] theorem ty_sz167:szT Tryz.prog 167 = some 1:=by kernel_rfl
@[go_sem] theorem ty_ag167:aggT Tryz.prog 167 = some false:=by kernel_rfl
@[go_sem] theorem ty_mp167:mapT Tryz.prog 167 = some (5,3):=by kernel_rfl
@[go_sem] theorem ty_sz168:szT Tryz.prog 168 = some 1:=by kernel_rfl
@[go_sem] theorem ty_ag168:aggT Tryz.prog 168 = some false:=by kernel_rfl
@[go_sem] theorem ty_sz170:szT Tryz.prog 170 = some 3:=by kernel_rfl
@[go_sem] theorem ty_ag170:aggT Tryz.prog 170 = some true:=by kernel_rfl
@[go_sem] theorem ty_ze170:zeT Tryz.prog 170 = some [.data .nilm,.data .nilf,.data .nilf]:=by kernel_rfl
@[go_sem] theorem ty_ar170:arrT Tryz.prog 170 = none:=by kernel_rfl
@[go_sem] theorem ty_fl170_0:fldT Tryz.prog 170 0 = some (0,167):=by kernel_rfl
@[go_sem] theorem ty_fl170_1:fldT Tryz.prog 170 1 = some (1,168):=by kernel_rfl
@[go_sem] theorem ty_fl170_2:fldT Tryz.prog 170 2 = some (2,90):=by kernel_rfl
@[go_sem] theorem ty_pl170:plT Tryz.prog 170 = some [(0,1),(1,1),(2,1)]:=by kernel_rfl
@[go_sem] theorem ty_ar183:arrT Tryz.prog 183 = some (256,4):=by kernel_rfl
@[go_sem] theorem ty_sz194:szT Tryz.prog 194 = some 1:=by kernel_rfl
@[go_sem] theorem ty_ag194:aggT Tryz.prog 194 = some false:=by kernel_rfl
@[go_sem] theorem ty_ze194:zeT Tryz.prog 194 = some [.data .nilf]:=by kernel_rfl
theorem mixed:Tryz.prog.follows .mixedOrders = true:=by kernel_rfl
end Go.Proofs.YtlfhkplbjgcpiaaGreatDoor
namespace Go.Proofs.YtlfhkplbjgcpiaaGreatDoor
open Go.RowKit
set_option linter.unusedSimpArgs false
set_option linter.unusedVariables false
set_option maxRecDepth 100000
set_option maxRecDepth 100000 in
theorem row_pc (Γ:Nat->Option (List Data)) (a b:List Nat) (ha:a.length≤100000000000) (hb:b.length≤100000000000):PC Tryz.prog Γ 20 [.sl 1 (bys a),.sl 1 (bys b)] (.bool (decide (a = b))):=by
 refine pc_by mixed Tryz.func20 rfl (fun args w=>Tryz.call20 args w) ?_
 simp -implicitDefEqProofs (disch:=omega) [go_sem,Tryz.f20]
 refine ifW_ndec (fun h=>?_) (fun h=>?_)
 · have hne:a≠b:=fun e=>h (by rw [e])
   simp -implicitDefEqProofs (disch:=omega) [go_sem,Tryz.f20,hne]
 · have hl:a.length = b.length:=by omega
   simp -implicitDefEqProofs (disch:=omega) [go_sem]
   refine loop_of (σ:={ i:Nat // i≤a.length∧∀ j,j < i->a[j]? = b[j]? }) (fun i=>⟨envL [(0,.data (.sl 1 (bys a))),(1,.data (.sl 1 (bys b))),(5,.data (.int .i64 i.1))],hpL [],0,0,26⟩) (fun i=>a.length - i.1) ⟨0,by omega,by omega⟩ ?_ ?_
   · apply weak_lists <;> simp -implicitDefEqProofs [go_sem]
   · rintro ⟨i,hi,heq⟩
     simp -implicitDefEqProofs (disch:=omega) [go_sem]
     refine ifW_dec (fun h=>?_) (fun h=>?_)
     · have hia:i < a.length:=by omega
       simp -implicitDefEqProofs (disch:=omega) [go_sem]
       refine side (by kernel_rfl) ?_
       simp -implicitDefEqProofs (disch:=omega) [go_sem]
       refine ifW_ndec (fun h2=>?_) (fun h2=>?_)
       · have hne:a≠b:=fun e=>h2 (by subst e;rfl)
         simp -implicitDefEqProofs (disch:=omega) [go_sem,Tryz.f20,hne]
       · simp -implicitDefEqProofs (disch:=omega) [go_sem]
         refine next_of ⟨i + 1,by omega,fun j hj=>?_⟩ ?_ (by simp only;omega)
         · by_cases e:j = i
           · subst e
             rw [List.getElem?_eq_getElem hia,List.getElem?_eq_getElem (by omega)]
             congr 1
             omega
           · exact heq j (by omega)
         apply weak_lists <;> simp -implicitDefEqProofs [go_sem]
     · have hab:a = b:=List.ext_getElem? fun j=>by
        by_cases hj:j < a.length
        · exact heq j (by omega)
        · rw [List.getElem?_eq_none (by omega),List.getElem?_eq_none (by omega)]
       simp -implicitDefEqProofs (disch:=omega) [go_sem,Tryz.f20,hab]
namespace Sf
/-- A byte that is escaped. -/
def escd (accm c:Nat):Prop:=c = 126 ∨ c = 125 ∨ (c < 32∧accm / 2 ^ c % 2 = 1)
instance (accm c:Nat):Decidable (escd accm c):=by unfold escd;infer_instance
def esc1 (accm c:Nat):List Nat:=if escd accm c then [125,c ^^^ 32] else [c]
def escB (accm:Nat) (b:List Nat):List Nat:=b.flatMap (esc1 accm)
/-- What is plain,of bytes of which the first is turned by t. -/
def plT:Nat->List Nat->Option (List Nat)
 | t,[]=>if t = 0 then some [] else none
 | t,c :: l=>if c = 126 then none else if c = 125∧t = 0 then plT 32 l else (plT 0 l).map ((c ^^^ t) :: ·)
def plain (b:List Nat):Option (List Nat):=plT 0 b
end Sf
namespace Sf
end Sf
namespace Sf
end Sf
theorem frz_rows {ok:Bool} {H:Nat->Blk} {g len es:Nat} {rw:Bool} {cells:List D} {l:List Data} (hg:H g = .blk rw cells) (hrw:ok = true ∨ rw = false) (hl:l.length = len) (hes:∀ x∈l,x.cells.length = es) (h:FrzL ok H cells (flat l)):Frz ok H (.ref g 0 len es) (.sl es l):=by
 obtain ⟨h1,h2⟩:=h
 have hfl:(flat l).length = l.length * es:=flat_length hes
 refine .ref g 0 len es rw cells l (fun i=>cells.getD i .junk) hg hrw hl hes (by rw [<- hl];omega) (fun i x hx=>?_) (fun i x hx=>?_)
 · have hi:=(List.getElem?_eq_some_iff.1 hx).1
   have hi2:i < cells.length:=by omega
   simp [List.getD_eq_getElem?_getD,hi2]
 · have hi:=(List.getElem?_eq_some_iff.1 hx).1
   have hi2:i < cells.length:=by omega
   refine h2 i _ x ?_ hx
   simp [List.getD_eq_getElem?_getD,hi2]
theorem over_bys {p f:List Nat} {k:Nat} (h:f.length≤k):over ((bys (p++List.replicate k 0)).map D.data) p.length ((bys f).map D.data) = (bys (p++f++List.replicate (k - f.length) 0)).map D.data:=by
 have e:List.replicate k 0 = List.replicate f.length 0++List.replicate (k - f.length) 0:=by rw [List.replicate_append_replicate];congr 1;omega
 rw [e]
 have h1:∀ a b:List Nat,(bys (a++b)).map D.data = (bys a).map D.data++(bys b).map D.data:=fun a b=>(bysd_append a b).symm
 rw [h1,h1,List.append_assoc,h1,h1]
 have:=over_mid (A:=(bys p).map D.data) (old:=(bys (List.replicate f.length 0)).map D.data) (new:=(bys f).map D.data) (rest:=(bys (List.replicate (k - f.length) 0)).map D.data) (by simp [bys])
 rw [show ((bys p).map D.data).length = p.length by simp [bys]] at this
 exact this
namespace Sf
section
variable (Γ:Nat->Option (List Data))
def rws (l:List (List Nat)):List Data:=l.map fun b=>.sl 1 (bys b)
@[go_sem] theorem rws_length (l:List (List Nat)):(rws l).length = l.length:=by simp [rws]
@[go_sem] theorem rws_get (l:List (List Nat)) (i:Nat):(rws l)[i]? = (l[i]?).map fun b=>.sl 1 (bys b):=by simp [rws]
theorem rws_cells (l:List (List Nat)):∀ x∈rws l,x.cells.length = 1:=fun x hx=>by
 obtain ⟨p,_,rfl⟩:=List.mem_map.1 hx
 rfl
theorem flat_rws (l:List (List Nat)):flat (rws l) = rws l:=by
 induction l with
 | nil=>rfl
 | cons b l ih =>
   show (Data.sl 1 (bys b)).cells++flat (rws l) = _
   rw [ih];rfl
theorem join_take (l:List (List Nat)) (i:Nat) (h:i < l.length):(l.take (i + 1)).flatten = (l.take i).flatten++l[i]:=by
 rw [List.take_add_one,List.getElem?_eq_getElem h,Option.toList_some,List.flatten_append]
 simp
theorem join_le (l:List (List Nat)) (i:Nat):(l.take i).flatten.length≤l.flatten.length:=by
 have:l.flatten = (l.take i).flatten++(l.drop i).flatten:=by rw [<- List.flatten_append,List.take_append_drop]
 rw [this,List.length_append];omega
theorem plain_bys (l:List Nat):((bys l).map D.data).all plainD = true:=by simp [bys,plainD]
set_option maxHeartbeats 4000000 in
theorem concat_pc (l:List (List Nat)) (h0:0 < l.flatten.length) (hn:l.flatten.length≤1000000000) (hl:l.length≤1000000):PC Tryz.prog Γ 114 [.sl 1 (rws l)] (.sl 1 (bys l.flatten)):=by
 refine pc_by mixed Tryz.func114 rfl (fun args w=>Tryz.call114 args w) ?_
 have hpos:0 < l.length:=by
  rcases Nat.eq_zero_or_pos l.length with e | e
  · rw [List.eq_nil_of_length_eq_zero e] at h0;simp at h0
  · exact e
 simp -implicitDefEqProofs (disch:=omega) [-List.length_flatten,go_sem]
 refine loop_ren (σ:={ i:Nat // i≤l.length }) (fun i=>⟨envL [(0,.data (.sl 1 (rws l))),(3,.data (.int .i64 (l.take i.1).flatten.length)),(9,.data (.sl 1 (rws l))),(10,.data (.int .i64 l.length)),(11,.data (.int .i64 i.1))],hpL [],0,0,36⟩) (fun i=>l.length - i.1) ⟨0,by omega⟩ [] (rhoL []) ?_ ?_
 · apply ren_lists <;> simp -implicitDefEqProofs [-List.length_flatten,go_sem]
 rintro ⟨i,hi⟩
 by_cases h:i < l.length
 · have hj:=join_take l i h
   have hle:=join_le l (i + 1)
   rw [hj,List.length_append] at hle
   simp -implicitDefEqProofs (disch:=omega) [-List.length_flatten,go_sem]
   refine next_ren ⟨i + 1,by omega⟩ (by simp only;omega) [] (rhoL []) ?_
   apply ren_lists <;> simp -implicitDefEqProofs [-List.length_flatten,go_sem,hj]
 · have:i = l.length:=by omega
   subst this
   have ht:l.take l.length = l:=List.take_length
   generalize hT:l.flatten.length = T at *
   simp -implicitDefEqProofs (disch:=omega) [-List.length_flatten,go_sem,ht,hT]
   refine .inr (dc_by mixed Tryz.func143 rfl (fun args w=>Tryz.call143 args w) ?_)
   simp -implicitDefEqProofs (disch:=omega) [-List.length_flatten,go_sem,Tryz.f143]
   refine loop_ren (σ:={ i:Nat // i≤l.length }) (fun i=>⟨envL [(6,if i.1 < l.length then .cut 0 0 (l.take i.1).flatten.length T 1 else .ref 0 0 T 1),(25,.data (.sl 1 (rws l))),(26,.data (.int .i64 l.length)),(27,.data (.int .i64 i.1))],hpL [(0,.blk true ((bys ((l.take i.1).flatten++List.replicate (T - (l.take i.1).flatten.length) 0)).map .data))],1,0,36⟩) (fun i=>l.length - i.1) ⟨0,by omega⟩ [] (rhoL [(0,some 20)]) ?_ ?_
   · apply ren_lists <;> simp -implicitDefEqProofs [-List.length_flatten,go_sem,hpos]
   rintro ⟨i,hi⟩
   by_cases h:i < l.length
   · have hj:=join_take l i h
     have hle:=join_le l (i + 1)
     rw [hj,List.length_append,hT] at hle
     have hov:=over_bys (p:=(l.take i).flatten) (f:=l[i]) (k:=T - (l.take i).flatten.length) (by omega)
     have hjl:(l.take (i + 1)).flatten.length = (l.take i).flatten.length + l[i].length:=by rw [hj,List.length_append]
     have hsub:T - (l.take (i + 1)).flatten.length = T - (l.take i).flatten.length - l[i].length:=by omega
     simp -implicitDefEqProofs (disch:=omega) [-List.length_flatten,go_sem,h]
     refine next_ren ⟨i + 1,by omega⟩ (by simp only;omega) [] (rhoL [(0,some 0)]) ?_
     by_cases h2:i + 1 < l.length
     · apply ren_lists <;> simp -implicitDefEqProofs [-List.length_flatten,go_sem,h2,hj,hsub]
       rw [hov]
       exact renCells_plain (by congr 2;rw [List.append_assoc];congr 3;omega) (plain_bys _)
     · apply ren_lists <;> simp -implicitDefEqProofs [-List.length_flatten,go_sem,h2,hj,hsub]
       · have:=hjl
         rw [List.take_of_length_le (by omega),hT] at this
         exact this
       · rw [hov]
         exact renCells_plain (by congr 2;rw [List.append_assoc];congr 3;omega) (plain_bys _)
   · have:i = l.length:=by omega
     subst this
     simp -implicitDefEqProofs (disch:=omega) [-List.length_flatten,go_sem,ht,hT,Tryz.f114]
     exact ⟨_,⟨_,rfl,frz_bys (rw:=true) (by simp [go_sem]) (.inl rfl) hT⟩,rfl⟩
end
end Sf
namespace Fc
end Fc
namespace Op9
structure Ot where
 t:Nat
 d:List Nat
deriving DecidableEq
structure Ot.Ty (o:Ot):Prop where
 t:o.t < 256
 d:∀ x∈o.d,x < 256
def ot (o:Ot):Data:=.agg [.int .u8 o.t,.sl 1 (bys o.d)]
def ots (l:List Ot):List Data:=l.map ot
@[go_sem] theorem ots_length (l:List Ot):(ots l).length = l.length:=by simp [ots]
@[go_sem] theorem ots_get (l:List Ot) (i:Nat):(ots l)[i]? = (l[i]?).map ot:=by simp [ots]
theorem ots_cells (l:List Ot):∀ x∈ots l,x.cells.length = 2:=fun x hx=>by obtain ⟨p,_,rfl⟩:=List.mem_map.1 hx;rfl
theorem ots_snoc (l:List Ot) (o:Ot):(flat (ots (l++[o]))).map D.data = (flat (ots l)).map D.data++[.data (.int .u8 o.t),.data (.sl 1 (bys o.d))]:=by
 simp [ots,flat,ot,Data.cells]
def noO:Ot:=⟨0,[]⟩
def otB (o:Ot):List Nat:=o.t :: (2 + o.d.length) :: o.d
def otsB (l:List Ot):List Nat:=l.flatMap otB
theorem otsB_append (a b:List Ot):otsB (a++b) = otsB a++otsB b:=by simp [otsB]
theorem otsB_take (l:List Ot) (i:Nat) (h:i < l.length):otsB (l.take (i + 1)) = otsB (l.take i)++otB l[i]:=by
 rw [List.take_add_one,List.getElem?_eq_getElem h,Option.toList_some,otsB_append]
 simp [otsB]
/-- Options that may be. -/
def OkO (l:List Ot):Prop:=(∀ o∈l,o.d.length≤253)∧(otsB l).length≤1496
instance (l:List Ot):Decidable (OkO l):=by unfold OkO;infer_instance
def optB (l:List Ot):List Nat:=if OkO l then otsB l else []
def optE (l:List Ot):Int:=if OkO l then 0 else 1
def readO:Nat->List Nat->Option (List Ot)
 | _,[]=>some []
 | 0,_ :: _=>none
 | _ + 1,[_]=>none
 | k + 1,t :: n :: r=>if 2≤n∧n≤r.length + 2 then (readO k (r.drop (n - 2))).map (⟨t,r.take (n - 2)⟩ :: ·) else none
def readL (b:List Nat):Option (List Ot):=readO b.length b
def gotO (b:List Nat):List Ot:=(readL b).getD []
def errO (b:List Nat):Int:=if (readL b).isSome then 0 else 2
theorem readO_two (k t n:Nat) (r:List Nat):readO (k + 1) (t :: n :: r) = if 2≤n∧n≤r.length + 2 then (readO k (r.drop (n - 2))).map (⟨t,r.take (n - 2)⟩ :: ·) else none:=rfl
theorem readO_nil (k:Nat):readO k [] = some []:=by cases k <;> rfl
theorem readO_one {k:Nat} {x:Nat}:readO k [x] = none:=by cases k <;> rfl
theorem readO_fuel:∀ (j k:Nat) (b:List Nat),b.length≤j->b.length≤k->readO j b = readO k b
 | j,k,[],_,_=>by rw [readO_nil,readO_nil]
 | j,k,[x],_,_=>by rw [readO_one,readO_one]
 | j + 1,k + 1,t :: n :: r,hj,hk=>by
   simp only [List.length_cons] at hj hk
   rw [readO_two,readO_two,readO_fuel j k (r.drop (n - 2)) (by rw [List.length_drop];omega) (by rw [List.length_drop];omega)]
 | 0,_,t :: n :: r,hj,_=>by simp at hj
 | _ + 1,0,t :: n :: r,_,hk=>by simp at hk
/-- What is told as bytes is told back,whatever row of bytes of options stands behind. -/
theorem readO_app:∀ (l:List Ot) (r:List Nat) (k:Nat),(otsB l++r).length≤k->readO k (otsB l++r) = (readO k r).map (l++·)
 | [],r,k,_=>by cases h:readO k r <;> simp [otsB,h]
 | o :: l,r,k,hk=>by
   have e:otsB (o :: l)++r = o.t :: (2 + o.d.length) :: (o.d++(otsB l++r)):=by simp [otsB,otB]
   rw [e] at hk ⊢
   simp only [List.length_cons,List.length_append] at hk
   obtain ⟨j,rfl⟩:∃ j,k = j + 1:=⟨k - 1,by omega⟩
   have ih:=readO_app l r j (by rw [List.length_append];omega)
   rw [readO_two,if_pos ⟨by omega,by rw [List.length_append];omega⟩,show 2 + o.d.length - 2 = o.d.length by omega,List.drop_left,List.take_left,ih]
   rw [readO_fuel j (j + 1) r (by omega) (by omega)]
   cases readO (j + 1) r <;> simp
theorem readL_back (l:List Ot):readL (otsB l) = some l:=by
 have:=readO_app l [] (otsB l).length (by simp)
 rw [List.append_nil,readO_nil] at this
 unfold readL
 rw [this];simp
/-- What is read has these bytes. -/
theorem readO_forth:∀ (k:Nat) (b:List Nat) (l:List Ot),(∀ x∈b,x < 256)->readO k b = some l->b = otsB l∧(∀ o∈l,o.Ty∧o.d.length≤253)
 | k,[],l,_,h=>by
   rw [readO_nil] at h
   cases h
   exact ⟨rfl,fun o ho=>by cases ho⟩
 | k,[x],l,_,h=>by rw [readO_one] at h;cases h
 | 0,t :: n :: r,l,_,h=>by cases h
 | k + 1,t :: n :: r,l,hb,h=>by
   rw [readO_two] at h
   split at h
   · rename_i hn
     obtain ⟨m,hm,rfl⟩:=Option.map_eq_some_iff.1 h
     have hn1:=hb n (by simp)
     obtain ⟨h1,h2⟩:=readO_forth k (r.drop (n - 2)) m (fun x hx=>hb x (by simp [List.mem_of_mem_drop hx])) hm
     have hl:(r.take (n - 2)).length = n - 2:=by rw [List.length_take];omega
     refine ⟨?_,fun o ho=>?_⟩
     · have e:otsB (⟨t,r.take (n - 2)⟩ :: m) = t :: (2 + (r.take (n - 2)).length) :: (r.take (n - 2)++otsB m):=by simp [otsB,otB]
       rw [e,hl,<- h1,List.take_append_drop,show 2 + (n - 2) = n by omega]
     · rcases List.mem_cons.1 ho with rfl | ho
       · exact ⟨⟨hb _ (by simp),fun x hx=>hb x (by simp [List.mem_of_mem_take hx])⟩,by rw [hl];omega⟩
       · exact h2 o ho
   · cases h
theorem readL_forth {b:List Nat} {l:List Ot} (hb:∀ x∈b,x < 256) (h:readL b = some l):b = otsB l∧(∀ o∈l,o.Ty∧o.d.length≤253):=readO_forth _ b l hb h
theorem otB_len (o:Ot):(otB o).length = 2 + o.d.length:=by simp [otB];omega
theorem otsB_le (l:List Ot) (h:∀ o∈l,o.d.length≤253):(otsB l).length≤255 * l.length:=by
 induction l with
 | nil=>simp [otsB]
 | cons o l ih =>
   have:=ih fun x hx=>h x (by simp [hx])
   have h1:=h o (by simp)
   have h2:=otB_len o
   have e:otsB (o :: l) = otB o++otsB l:=rfl
   rw [e,List.length_append,List.length_cons]
   omega
theorem otsB_take_le (l:List Ot) (i:Nat):(otsB (l.take i)).length≤(otsB l).length:=by
 have e:otsB l = otsB (l.take i)++otsB (l.drop i):=by rw [<- otsB_append,List.take_append_drop]
 rw [e,List.length_append];omega
theorem otsB_lt {l:List Ot} (h:∀ o∈l,o.Ty∧o.d.length≤253):∀ x∈otsB l,x < 256:=by
 intro x hx
 obtain ⟨o,ho,hx⟩:=List.mem_flatMap.1 hx
 obtain ⟨ht,hd⟩:=h o ho
 unfold otB at hx
 simp only [List.mem_cons] at hx
 rcases hx with rfl | rfl | hx
 · exact ht.t
 · omega
 · exact ht.d x hx
theorem otsB_get (l:List Ot):l.length≤(otsB l).length:=by
 induction l with
 | nil=>simp
 | cons o l ih =>
   have e:otsB (o :: l) = otB o++otsB l:=rfl
   have:=otB_len o
   rw [e,List.length_append,List.length_cons];omega
/-- Found,put,dropped. -/
def findO (l:List Ot) (t:Nat):Option Ot:=l.find? fun o=>o.t = t
def putG (o:Ot):Bool->List Ot->List Ot
 | lg,[]=>if lg then [] else [o]
 | lg,x :: l=>if lg = false∧x.t = o.t then o :: putG o true l else x :: putG o lg l
def putO (l:List Ot) (o:Ot):List Ot:=putG o false l
def dropO (l:List Ot) (t:Nat):List Ot:=l.filter fun o=>o.t≠t
def FewO (l:List Ot):Prop:=l.length≤30∧∀ o∈l,o.d.length≤253
instance (l:List Ot):Decidable (FewO l):=by unfold FewO;infer_instance
/-- Numbers. -/
def numF (l:List Nat):Nat:=l.foldl (fun n x=>n * 256 + x) 0
def numO (b:List Nat):Nat:=numF (b.drop (b.length - 4))
def fourO (n:Nat):List Nat:=[n / 16777216,n / 65536 % 256,n / 256 % 256,n % 256]
theorem numF_snoc (l:List Nat) (x:Nat):numF (l++[x]) = numF l * 256 + x:=by simp [numF,List.foldl_append]
theorem numF_lt:∀ (n:Nat) (l:List Nat),l.length = n->(∀ x∈l,x < 256)->numF l < 256 ^ n:=by
 intro n
 induction n with
 | zero=>intro l hl _;rw [List.eq_nil_of_length_eq_zero hl];decide
 | succ n ih =>
   intro l hl hb
   have hne:l≠[]:=fun e=>by rw [e] at hl;simp at hl
   have e:=List.dropLast_concat_getLast hne
   have h1:=ih l.dropLast (by rw [List.length_dropLast];omega) fun x hx=>hb x (List.dropLast_subset _ hx)
   have h2:=hb _ (List.getLast_mem hne)
   rw [<- e,numF_snoc,Nat.pow_succ]
   omega
theorem four_num {n:Nat} (h:n < 4294967296):numO (fourO n) = n:=by
 show numF [n / 16777216,n / 65536 % 256,n / 256 % 256,n % 256] = n
 simp only [numF,List.foldl_cons,List.foldl_nil]
 omega
end Op9
namespace Op9
section
variable (Γ:Nat->Option (List Data))
theorem rone_pc (a b:Ot) (ha:a.d.length≤1000000000) (hb:b.d.length≤1000000000):PC Tryz.prog Γ 50 [ot a,ot b] (.bool (decide (a = b))):=by
 refine pc_by mixed Tryz.func50 rfl (fun args w=>Tryz.call50 args w) ?_
 have c1:=row_pc Γ a.d b.d (by omega) (by omega)
 have e:decide (a = b) = (decide (a.d = b.d) && decide (a.t = b.t)):=by
  obtain ⟨p,i⟩:=a;obtain ⟨q,j⟩:=b
  simp only [Ot.mk.injEq,Bool.decide_and,Bool.and_comm]
 rw [e]
 simp -implicitDefEqProofs (disch:=omega) [go_sem,ot]
 refine .inl (call_data c1 (by simp [go_sem]) ?_)
 by_cases hi:a.d = b.d
 · by_cases hp:a.t = b.t
   · simp -implicitDefEqProofs (disch:=omega) [go_sem,hi,hp,Tryz.f50]
   · have hp2:¬ ((a.t:Int) = b.t):=by omega
     simp -implicitDefEqProofs (disch:=omega) [go_sem,hi,hp,hp2,Tryz.f50]
 · simp -implicitDefEqProofs (disch:=omega) [go_sem,hi,Tryz.f50]
theorem rosame_pc (a b:List Ot) (ha:a.length≤1000000000) (hb:b.length≤1000000000) (hla:∀ x∈a,x.d.length≤1000000000) (hlb:∀ x∈b,x.d.length≤1000000000):PC Tryz.prog Γ 22 [.sl 2 (ots a),.sl 2 (ots b)] (.bool (decide (a = b))):=by
 refine pc_by mixed Tryz.func22 rfl (fun args w=>Tryz.call22 args w) ?_
 by_cases hn:a.length = b.length
 rotate_left
 · rw [decide_eq_false fun e=>hn (by rw [e])]
   simp -implicitDefEqProofs (disch:=omega) [go_sem,hn,Tryz.f22]
 simp -implicitDefEqProofs (disch:=omega) [go_sem,hn]
 refine loop_ren (σ:={ i:Nat // i≤b.length∧a.take i = b.take i }) (fun i=>⟨envL [(0,.data (.sl 2 (ots a))),(1,.data (.sl 2 (ots b))),(5,.data (.int .i64 i.1))],hpL [],0,0,29⟩) (fun i=>b.length - i.1) ⟨0,by omega,rfl⟩ [] (rhoL []) ?_ ?_
 · apply ren_lists <;> simp -implicitDefEqProofs [go_sem]
 rintro ⟨i,hi,hall⟩
 by_cases h:i < b.length
 · have h2:i < a.length:=by omega
   have c1:=rone_pc Γ a[i] b[i] (hla _ (List.getElem_mem h2)) (hlb _ (List.getElem_mem h))
   unfold ot at c1
   by_cases he:a[i] = b[i]
   · rw [decide_eq_true he] at c1
     simp -implicitDefEqProofs (disch:=omega) [go_sem,ot]
     refine .inl (call_data c1 (by simp [go_sem]) ?_)
     simp -implicitDefEqProofs (disch:=omega) [go_sem]
     refine side (by kernel_rfl) ?_
     simp -implicitDefEqProofs (disch:=omega) [go_sem]
     refine next_ren ⟨i + 1,by omega,by rw [List.take_add_one,List.take_add_one,hall,List.getElem?_eq_getElem h,List.getElem?_eq_getElem h2,he]⟩ (by simp only;omega) [] (rhoL []) ?_
     apply ren_lists <;> simp -implicitDefEqProofs [go_sem]
   · rw [decide_eq_false he] at c1
     rw [decide_eq_false fun e=>he (by simp [e])]
     simp -implicitDefEqProofs (disch:=omega) [go_sem,ot]
     refine .inl (call_data c1 (by simp [go_sem]) ?_)
     simp -implicitDefEqProofs (disch:=omega) [go_sem]
     refine side (by kernel_rfl) ?_
     simp -implicitDefEqProofs (disch:=omega) [go_sem,Tryz.f22]
 · have:i = b.length:=by omega
   subst this
   rw [List.take_length,List.take_of_length_le (by omega)] at hall
   rw [decide_eq_true hall]
   simp -implicitDefEqProofs (disch:=omega) [go_sem,hn,Tryz.f22]
theorem rfew_pc (l:List Ot) (hl:l.length≤140737488351232) (hd:∀ o∈l,o.d.length≤140737488351232) {q:Bool} (hq:q = true ↔ FewO l):PC Tryz.prog Γ 32 [.sl 2 (ots l)] (.bool q):=by
 refine pc_by mixed Tryz.func32 rfl (fun args w=>Tryz.call32 args w) ?_
 have no:¬ FewO l->q = false:=fun h=>by
  cases q
  · rfl
  · exact absurd (hq.1 rfl) h
 simp -implicitDefEqProofs (disch:=omega) [go_sem]
 refine loop_ren (σ:={ i:Nat // i≤l.length∧i≤30∧∀ (j:Nat) (h:j < l.length),j < i->l[j].d.length≤253 }) (fun i=>⟨envL [(0,.data (.sl 2 (ots l))),(3,.data (.int .i64 i.1))],hpL [],0,0,21⟩) (fun i=>l.length - i.1) ⟨0,by omega,by omega,fun j _ h=>absurd h (Nat.not_lt_zero _)⟩ [] (rhoL []) ?_ ?_
 · apply ren_lists <;> simp -implicitDefEqProofs [go_sem]
 rintro ⟨i,hi,h30,hall⟩
 by_cases hlt:i < l.length
 · by_cases c1:i < 30
   · have hdi:=hd l[i] (List.getElem_mem hlt)
     by_cases c2:l[i].d.length≤253
     · simp -implicitDefEqProofs (disch:=omega) [go_sem,ot]
       refine next_ren ⟨i + 1,by omega,by omega,fun j h hj=>?_⟩ (by simp only;omega) [] (rhoL []) ?_
       · by_cases e:j = i
         · subst e;exact c2
         · exact hall j h (by omega)
       apply ren_lists <;> simp -implicitDefEqProofs [go_sem]
     · rw [no fun h=>c2 (h.2 _ (List.getElem_mem hlt))]
       simp -implicitDefEqProofs (disch:=omega) [go_sem,ot,Tryz.f32]
   · rw [no fun h=>by have:=h.1;omega]
     simp -implicitDefEqProofs (disch:=omega) [go_sem,Tryz.f32]
 · have yes:q = true:=hq.2 ⟨by omega,fun o ho=>by
    obtain ⟨j,hj,rfl⟩:=List.getElem_of_mem ho
    exact hall j hj (by omega)⟩
   rw [yes]
   simp -implicitDefEqProofs (disch:=omega) [go_sem,Tryz.f32]
theorem rfour_pc (n:Nat) (hn:n < 4294967296):PC Tryz.prog Γ 48 [.int .u32 n] (.sl 1 (bys (fourO n))):=by
 refine pc_by mixed Tryz.func48 rfl (fun args w=>Tryz.call48 args w) ?_
 simp -implicitDefEqProofs (disch:=omega) [go_sem,Tryz.f48]
 refine ⟨_,⟨_,rfl,frz_bys (rw:=true) (l:=fourO n) ?_ (.inl rfl) (by simp [fourO])⟩,rfl⟩
 simp [go_sem,bys,u8,fourO]
 omega
theorem rnumber_pc (b:List Nat) (hb:b.length≤1000000000) (hl:∀ x∈b,x < 256):PC Tryz.prog Γ 28 [.sl 1 (bys b)] (.int .u32 (numO b)):=by
 refine pc_by mixed Tryz.func28 rfl (fun args w=>Tryz.call28 args w) ?_
 unfold numO
 have hs:∀ k,k≤4->k≤(b.drop (b.length - 4)).length->numF ((b.drop (b.length - 4)).take k) < 256 ^ k:=fun k h1 h2=>numF_lt k _ (by rw [List.length_take];omega) fun x hx=>hl x (List.mem_of_mem_drop (List.mem_of_mem_take hx))
 have hlen:(b.drop (b.length - 4)).length = b.length - (b.length - 4):=List.length_drop
 have hget:∀ k (h:k < (b.drop (b.length - 4)).length),∃ h2:b.length - 4 + k < b.length,(b.drop (b.length - 4))[k] = b[b.length - 4 + k]:=fun k h=>⟨by omega,List.getElem_drop⟩
 generalize hS:b.length - 4 = S at *
 generalize b.drop S = c at *
 have hcl:c.length≤4:=by omega
 have hm:(if (0:Int) < (b.length:Int) - 4 then (b.length:Int) - 4 else 0) = (S:Int):=by split <;> omega
 simp -implicitDefEqProofs (disch:=omega) [go_sem]
 refine loop_ren (σ:={ i:Nat // i≤c.length }) (fun i=>⟨envL [(0,.data (.sl 1 (bys b))),(3,.data (.int .u32 (numF (c.take i.1)))),(4,.data (.int .i64 ((S + i.1:Nat):Int)))],hpL [],0,0,24⟩) (fun i=>c.length - i.1) ⟨0,by omega⟩ [] (rhoL []) ?_ ?_
 · apply ren_lists <;> simp -implicitDefEqProofs [go_sem,numF]
   split <;> omega
 rintro ⟨i,hi⟩
 by_cases h:i < c.length
 · obtain ⟨h2,e⟩:=hget i h
   have h3:=hl _ (List.getElem_mem h2)
   have h4:=hs i (by omega) (by omega)
   have h5:(256:Nat) ^ i≤256 ^ 3:=Nat.pow_le_pow_right (by decide) (by omega)
   have h6:numF (c.take (i + 1)) = numF (c.take i) * 256 + b[S + i]:=by rw [List.take_add_one,List.getElem?_eq_getElem h,Option.toList_some,numF_snoc,e]
   have h7:(256:Nat) ^ 3 = 16777216:=by decide
   simp -implicitDefEqProofs (disch:=omega) [go_sem]
   refine next_ren ⟨i + 1,by omega⟩ (by simp only;omega) [] (rhoL []) ?_
   apply ren_lists <;> simp -implicitDefEqProofs [go_sem]
   rw [h6]
   have e8:((S:Int) + i).toNat = S + i:=by omega
   simp only [e8]
   constructor <;> omega
 · have:i = c.length:=by omega
   subst this
   simp -implicitDefEqProofs (disch:=omega) [go_sem,List.take_length,Tryz.f28]
def foundO:Option Ot->Data
 | some o=>.tup [ot o,.bool true]
 | none=>.tup [ot noO,.bool false]
theorem findO_take (l:List Ot) (t i:Nat) (h:∀ (j:Nat) (hj:j < l.length),j < i->l[j].t≠t) (hi:i < l.length) (ht:l[i].t = t):findO l t = some l[i]:=by
 unfold findO
 rw [List.find?_eq_some_iff_getElem]
 exact ⟨by simpa using ht,i,hi,rfl,fun j hj=>by simpa using h j (by omega) hj⟩
theorem findO_none (l:List Ot) (t:Nat) (h:∀ (j:Nat) (hj:j < l.length),l[j].t≠t):findO l t = none:=by
 unfold findO
 rw [List.find?_eq_none]
 intro x hx
 obtain ⟨j,hj,rfl⟩:=List.getElem_of_mem hx
 simpa using h j hj
theorem rfind_pc (l:List Ot) (t:Nat) (hl:l.length≤1000000000):PC Tryz.prog Γ 75 [.sl 2 (ots l),.int .u8 t] (foundO (findO l t)):=by
 refine pc_by mixed Tryz.func75 rfl (fun args w=>Tryz.call75 args w) ?_
 simp -implicitDefEqProofs (disch:=omega) [go_sem]
 refine loop_ren (σ:={ i:Nat // i≤l.length∧∀ (j:Nat) (hj:j < l.length),j < i->l[j].t≠t }) (fun i=>⟨envL [(0,.data (.sl 2 (ots l))),(1,.data (.int .u8 t)),(4,.ptr 0 0),(6,.data (.int .i64 i.1))],hpL [(0,.blk true [.data (.int .u8 0),.emp 0])],1,0,25⟩) (fun i=>l.length - i.1) ⟨0,by omega,fun j _ h=>absurd h (Nat.not_lt_zero _)⟩ [] (rhoL [(0,some 0)]) ?_ ?_
 · apply ren_lists <;> simp -implicitDefEqProofs [go_sem]
 rintro ⟨i,hi,hall⟩
 by_cases h:i < l.length
 · by_cases ht:l[i].t = t
   · rw [findO_take l t i hall h ht]
     have ht2:(l[i].t:Int) = t:=by omega
     simp -implicitDefEqProofs (disch:=omega) [go_sem,ot,foundO,ht2,ht,Tryz.f75]
   · have ht2:¬ ((l[i].t:Int) = t):=by omega
     simp -implicitDefEqProofs (disch:=omega) [go_sem,ot,ht2]
     refine next_ren ⟨i + 1,by omega,fun j hj hji=>by
      by_cases e:j = i
      · subst e;exact ht
      · exact hall j hj (by omega)⟩ (by simp only;omega) [] (rhoL [(0,some 0)]) ?_
     apply ren_lists <;> simp -implicitDefEqProofs [go_sem]
 · rw [findO_none l t fun j hj=>hall j hj (by omega)]
   simp -implicitDefEqProofs (disch:=omega) [go_sem,ot,foundO,Tryz.f75]
   exact ⟨_,⟨_,rfl,frz_aggL (frzL_c (.data _) (frzL_c (.emp 0 1) frzL_n))⟩,rfl⟩
theorem drop_step (l:List Ot) (t i:Nat) (h:i < l.length):dropO (l.take (i + 1)) t = dropO (l.take i) t++(if l[i].t = t then [] else [l[i]]):=by
 unfold dropO
 rw [List.take_add_one,List.getElem?_eq_getElem h,Option.toList_some,List.filter_append]
 congr 1
 by_cases e:l[i].t = t <;> simp [e]
theorem rdrop_pc (l:List Ot) (t:Nat) (hl:l.length≤1000000000):PC Tryz.prog Γ 25 [.sl 2 (ots l),.int .u8 t] (.sl 2 (ots (dropO l t))):=by
 refine pc_by mixed Tryz.func25 rfl (fun args w=>Tryz.call25 args w) ?_
 simp -implicitDefEqProofs (disch:=omega) [go_sem]
 refine loop_ren (σ:={ i:Nat // i≤l.length }) (fun i=>⟨envL [(0,.data (.sl 2 (ots l))),(1,.data (.int .u8 t)),(5,.ref 0 0 (dropO (l.take i.1) t).length 2),(6,.data (.int .i64 i.1))],hpL [(0,.blk true ((flat (ots (dropO (l.take i.1) t))).map D.data))],1,0,28⟩) (fun i=>l.length - i.1) ⟨0,by omega⟩ [] (rhoL [(0,none)]) ?_ ?_
 · apply ren_lists <;> simp -implicitDefEqProofs [go_sem]
   · rfl
   · rfl
 rintro ⟨i,hi⟩
 have hle:(dropO (l.take i) t).length≤1000000000:=by
  have:=List.length_filter_le (fun o:Ot=>decide (o.t≠t)) (l.take i)
  rw [List.length_take] at this
  show (List.filter _ _).length≤_
  omega
 have hfl:(flat (ots (dropO (l.take i) t))).length = (dropO (l.take i) t).length * 2:=by rw [flat_length (ots_cells _),ots_length]
 by_cases h:i < l.length
 · have hst:=drop_step l t i h
   by_cases ht:l[i].t = t
   · have ht2:(l[i].t:Int) = t:=by omega
     rw [if_pos ht,List.append_nil] at hst
     simp -implicitDefEqProofs (disch:=omega) [go_sem,ot,ht2,ht]
     refine next_ren ⟨i + 1,by omega⟩ (by simp only;omega) [] (rhoL [(0,some 0)]) ?_
     simp only [hst]
     apply ren_lists <;> simp -implicitDefEqProofs [go_sem]
   · have ht2:¬ ((l[i].t:Int) = t):=by omega
     rw [if_neg ht] at hst
     simp -implicitDefEqProofs (disch:=omega) [go_sem,ot,ht2,hfl]
     refine next_ren ⟨i + 1,by omega⟩ (by simp only;omega) [] (rhoL [(0,some 18)]) ?_
     simp only [hst]
     apply ren_lists <;> simp -implicitDefEqProofs [go_sem]
     exact renCells_plain (by rw [ots_snoc]) (by simp [plainD])
 · have:i = l.length:=by omega
   subst this
   simp -implicitDefEqProofs (disch:=omega) [go_sem,List.take_length,Tryz.f25]
   exact ⟨_,⟨_,rfl,frz_ref (rw:=true) (by simp [go_sem]) (.inl rfl) (ots_length _) (ots_cells _) rfl⟩,rfl⟩
set_option maxHeartbeats 1000000 in
theorem robytes_pc (l:List Ot) (hl:l.length≤1000000) (hd:∀ o∈l,o.d.length≤140737488351232):PC Tryz.prog Γ 34 [.sl 2 (ots l)] (.tup [.sl 1 (bys (optB l)),.int .i64 (optE l)]):=by
 refine pc_by mixed Tryz.func34 rfl (fun args w=>Tryz.call34 args w) ?_
 unfold optB optE
 simp -implicitDefEqProofs (disch:=omega) [go_sem]
 refine loop_ren (σ:={ i:Nat // i≤l.length∧∀ (j:Nat) (h:j < l.length),j < i->l[j].d.length≤253 }) (fun i=>⟨envL [(0,.data (.sl 2 (ots l))),(4,.ref 0 0 (otsB (l.take i.1)).length 1),(5,.data (.int .i64 i.1))],hpL [(0,.blk true ((bys (otsB (l.take i.1))).map .data))],1,0,46⟩) (fun i=>l.length - i.1) ⟨0,by omega,fun j _ h=>absurd h (Nat.not_lt_zero _)⟩ [] (rhoL [(0,none)]) ?_ ?_
 · apply ren_lists <;> simp -implicitDefEqProofs [go_sem]
   · rfl
   · rfl
 rintro ⟨i,hi,hall⟩
 have hle:(otsB (l.take i)).length≤255 * i:=by
  have:=otsB_le (l.take i) fun o ho=>by
   obtain ⟨j,hj,rfl⟩:=List.getElem_of_mem ho
   rw [List.length_take] at hj
   rw [List.getElem_take]
   exact hall j (by omega) (by omega)
  rw [List.length_take] at this
  omega
 by_cases h:i < l.length
 · have hdi:=hd l[i] (List.getElem_mem h)
   by_cases c2:l[i].d.length≤253
   · have hst:=otsB_take l i h
     have hn:((2:Int) + l[i].d.length) % 256 = ((2 + l[i].d.length:Nat):Int):=by omega
     simp -implicitDefEqProofs (disch:=omega) [go_sem,ot]
     refine side (by kernel_rfl) ?_
     simp -implicitDefEqProofs (disch:=omega) [go_sem,ot]
     refine next_ren ⟨i + 1,by omega,fun j hj hji=>by
      by_cases e:j = i
      · subst e;exact c2
      · exact hall j hj (by omega)⟩ (by simp only;omega) [] (rhoL [(0,some 35)]) ?_
     simp only [hst]
     apply ren_lists <;> simp -implicitDefEqProofs [go_sem]
     · rw [otB_len];omega
     · exact renCells_plain (by simp [otB,bys,u8];omega) (by simp [plainD,bys])
   · rw [if_neg fun k=>c2 (k.1 _ (List.getElem_mem h)),if_neg fun k=>c2 (k.1 _ (List.getElem_mem h))]
     simp -implicitDefEqProofs (disch:=omega) [go_sem,ot,Tryz.f34]
     exact ⟨_,⟨_,rfl,.emp _ _⟩,rfl⟩
 · have:i = l.length:=by omega
   subst this
   rw [List.take_length] at hle
   by_cases c:(otsB l).length≤1496
   · have ok:OkO l:=⟨fun o ho=>by
      obtain ⟨j,hj,rfl⟩:=List.getElem_of_mem ho
      exact hall j hj hj,c⟩
     rw [if_pos ok,if_pos ok]
     simp -implicitDefEqProofs (disch:=omega) [go_sem,List.take_length,Tryz.f34]
     exact ⟨_,⟨_,rfl,frz_bys (rw:=true) (by simp [go_sem]) (.inl rfl) rfl⟩,rfl⟩
   · rw [if_neg fun k=>c k.2,if_neg fun k=>c k.2]
     simp -implicitDefEqProofs (disch:=omega) [go_sem,List.take_length,Tryz.f34]
     exact ⟨_,⟨_,rfl,.emp _ _⟩,rfl⟩
/-- Where the reader stands. -/
structure Rst (b:List Nat) where
 at_:Nat
 acc:List Ot
 h:at_≤b.length
 n:acc.length≤at_
 e:readL b = (readO (b.length - at_) (b.drop at_)).map (acc++·)
theorem read_step {b:List Nat} {a:Nat} {acc:List Ot} (e:readL b = (readO (b.length - a) (b.drop a)).map (acc++·)) (h1:a + 1 < b.length) (h2:2≤b[a + 1]) (h3:a + b[a + 1]≤b.length) :
 readL b = (readO (b.length - (a + b[a + 1])) (b.drop (a + b[a + 1]))).map ((acc++[⟨b[a],(b.take (a + b[a + 1])).drop (a + 2)⟩])++·):=by
 have hd:b.drop a = b[a] :: b[a + 1] :: b.drop (a + 2):=by
  rw [List.drop_eq_getElem_cons (by omega),List.drop_eq_getElem_cons h1]
 obtain ⟨k,hk⟩:∃ k,b.length - a = k + 1:=⟨b.length - a - 1,by omega⟩
 rw [e,hd,hk,readO_two,if_pos ⟨h2,by rw [List.length_drop];omega⟩,List.drop_drop,show a + 2 + (b[a + 1] - 2) = a + b[a + 1] by omega]
 rw [readO_fuel k (b.length - (a + b[a + 1])) (b.drop (a + b[a + 1])) (by rw [List.length_drop];omega) (by rw [List.length_drop];omega)]
 rw [List.drop_take,show a + b[a + 1] - (a + 2) = b[a + 1] - 2 by omega]
 cases readO (b.length - (a + b[a + 1])) (b.drop (a + b[a + 1])) <;> simp
theorem read_bad {b:List Nat} {a:Nat} {acc:List Ot} (e:readL b = (readO (b.length - a) (b.drop a)).map (acc++·)) (h:a < b.length) (h2:a + 1 = b.length ∨ ∃ h1:a + 1 < b.length,b[a + 1] < 2 ∨ b.length < a + b[a + 1]):readL b = none:=by
 rcases h2 with h2 | ⟨h1,h2⟩
 · have hd:b.drop a = [b[a]]:=by rw [List.drop_eq_getElem_cons h,List.drop_eq_nil_of_le (by omega)]
   rw [e,hd,readO_one];rfl
 · have hd:b.drop a = b[a] :: b[a + 1] :: b.drop (a + 2):=by
    rw [List.drop_eq_getElem_cons (by omega),List.drop_eq_getElem_cons h1]
   obtain ⟨k,hk⟩:∃ k,b.length - a = k + 1:=⟨b.length - a - 1,by omega⟩
   rw [e,hd,hk,readO_two,if_neg (by rw [List.length_drop];omega)];rfl
set_option maxHeartbeats 1000000 in
theorem roread_pc (b:List Nat) (hb:b.length≤1000000000) (hl:∀ x∈b,x < 256):PC Tryz.prog Γ 21 [.sl 1 (bys b)] (.tup [.sl 2 (ots (gotO b)),.int .i64 (errO b)]):=by
 refine pc_by mixed Tryz.func21 rfl (fun args w=>Tryz.call21 args w) ?_
 have bad:readL b = none->gotO b = []∧errO b = 2:=fun h=>by unfold gotO errO;rw [h];exact ⟨rfl,rfl⟩
 simp -implicitDefEqProofs (disch:=omega) [go_sem]
 refine loop_ren (σ:=Rst b) (fun i=>⟨envL [(0,.data (.sl 1 (bys b))),(4,.ref 0 0 i.acc.length 2),(5,.data (.int .i64 i.at_))],hpL [(0,.blk true ((flat (ots i.acc)).map .data))],1,0,51⟩) (fun i=>b.length - i.at_) ⟨0,[],by omega,by simp,by simp [readL]⟩ [] (rhoL [(0,none)]) ?_ ?_
 · apply ren_lists <;> simp -implicitDefEqProofs [go_sem]
   rfl
 rintro ⟨a,acc,h,hn,e⟩
 have hfl:(flat (ots acc)).length = acc.length * 2:=by rw [flat_length (ots_cells _),ots_length]
 by_cases hlt:a < b.length
 · by_cases h1:a + 1 = b.length
   · obtain ⟨e1,e2⟩:=bad (read_bad e hlt (.inl h1))
     rw [e1,e2]
     simp -implicitDefEqProofs (disch:=omega) [go_sem,Tryz.f21]
     exact ⟨_,⟨_,rfl,.emp _ _⟩,rfl⟩
   have h2:a + 1 < b.length:=by omega
   have hbn:=hl _ (List.getElem_mem h2)
   have ei:((a:Int) + 1).toNat = a + 1:=by omega
   by_cases h3:b[a + 1] < 2
   · obtain ⟨e1,e2⟩:=bad (read_bad e hlt (.inr ⟨h2,.inl h3⟩))
     rw [e1,e2]
     simp -implicitDefEqProofs (disch:=omega) [go_sem,ei,Tryz.f21]
     exact ⟨_,⟨_,rfl,.emp _ _⟩,rfl⟩
   by_cases h4:b.length < a + b[a + 1]
   · obtain ⟨e1,e2⟩:=bad (read_bad e hlt (.inr ⟨h2,.inr h4⟩))
     rw [e1,e2]
     simp -implicitDefEqProofs (disch:=omega) [go_sem,ei,Tryz.f21]
     exact ⟨_,⟨_,rfl,.emp _ _⟩,rfl⟩
   have ei2:((a:Int) + 2).toNat = a + 2:=by omega
   have ei3:((a:Int) + b[a + 1]).toNat = a + b[a + 1]:=by omega
   have st:=read_step e h2 (by omega) (by omega)
   simp -implicitDefEqProofs (disch:=omega) [go_sem,ei,hfl]
   refine side (by kernel_rfl) ?_
   simp -implicitDefEqProofs (disch:=omega) [go_sem,ei,hfl]
   refine next_ren (Rst.mk (a + b[a + 1]) (acc++[⟨b[a],(b.take (a + b[a + 1])).drop (a + 2)⟩]) (by omega) (by rw [List.length_append];simp;omega) st) (by show b.length - (a + b[a + 1]) < b.length - a;omega) [] (rhoL [(0,some 41)]) ?_
   apply ren_lists <;> simp -implicitDefEqProofs [go_sem]
   exact renCells_plain (by rw [ots_snoc,ei2,ei3]) (by simp [plainD])
 · have ea:a = b.length:=by omega
   subst ea
   have e3:readL b = some acc:=by rw [e,List.drop_length,readO_nil];simp
   have e1:gotO b = acc:=by unfold gotO;rw [e3];rfl
   have e2:errO b = 0:=by unfold errO;rw [e3];rfl
   rw [e1,e2]
   simp -implicitDefEqProofs (disch:=omega) [go_sem,Tryz.f21]
   exact ⟨_,⟨_,rfl,frz_ref (rw:=true) (by simp [go_sem]) (.inl rfl) (ots_length _) (ots_cells _) rfl⟩,rfl⟩
theorem putG_len (o:Ot):∀ (l:List Ot) (lg:Bool),(putG o lg l).length≤l.length + 1
 | [],lg=>by cases lg <;> simp [putG]
 | x :: l,lg=>by
   unfold putG
   split
   · have:=putG_len o l true;simp only [List.length_cons];omega
   · have:=putG_len o l lg;simp only [List.length_cons];omega
/-- Where what is put stands. -/
structure Pst (l:List Ot) (o:Ot) where
 i:Nat
 lg:Bool
 acc:List Ot
 h:i≤l.length
 n:acc.length = i
 e:putO l o = acc++putG o lg (l.drop i)
set_option maxHeartbeats 1000000 in
theorem roput_pc (l:List Ot) (o:Ot) (hl:l.length≤1000000000):PC Tryz.prog Γ 105 [.sl 2 (ots l),ot o] (.sl 2 (ots (putO l o))):=by
 refine pc_by mixed Tryz.func105 rfl (fun args w=>Tryz.call105 args w) ?_
 unfold ot
 simp -implicitDefEqProofs (disch:=omega) [go_sem]
 refine loop_ren (σ:=Pst l o) (fun s=>⟨envL [(0,.data (.sl 2 (ots l))),(3,.ptr 1 0),(5,.ref 0 0 s.acc.length 2),(6,.data (.bool s.lg)),(7,.data (.int .i64 s.i))],hpL [(0,.blk true ((flat (ots s.acc)).map .data)),(1,.blk true [.data (.int .u8 o.t),.data (.sl 1 (bys o.d))])],2,0,44⟩) (fun s=>l.length - s.i) ⟨0,false,[],by omega,rfl,by simp [putO]⟩ [] (rhoL [(0,none),(1,some 0)]) ?_ ?_
 · apply ren_lists <;> simp -implicitDefEqProofs [go_sem]
   · rfl
 rintro ⟨i,lg,acc,h,hn,e⟩
 have hfl:(flat (ots acc)).length = acc.length * 2:=by rw [flat_length (ots_cells _),ots_length]
 by_cases hlt:i < l.length
 · have hd:l.drop i = l[i] :: l.drop (i + 1):=List.drop_eq_getElem_cons hlt
   rw [hd] at e
   by_cases hc:lg = false∧l[i].t = o.t
   · have hp:putG o lg (l[i] :: l.drop (i + 1)) = o :: putG o true (l.drop (i + 1)):=if_pos hc
     have ht2:(l[i].t:Int) = o.t:=by omega
     have e2:putO l o = (acc++[o])++putG o true (l.drop (i + 1)):=by rw [e,hp];simp
     obtain ⟨rfl,ht⟩:=hc
     simp -implicitDefEqProofs (disch:=omega) [go_sem,ot,ht2]
     refine side (by kernel_rfl) ?_
     simp -implicitDefEqProofs (disch:=omega) [go_sem,ot,hfl]
     refine next_ren (Pst.mk (l:=l) (o:=o) (i + 1) true (acc++[o]) (by omega) (by simp [hn]) e2) (by show l.length - (i + 1) < l.length - i;omega) [] (rhoL [(0,some 21),(1,some 1)]) ?_
     apply ren_lists <;> simp -implicitDefEqProofs [go_sem]
     exact renCells_plain (by rw [ots_snoc]) (by simp [plainD])
   · have hp:putG o lg (l[i] :: l.drop (i + 1)) = l[i] :: putG o lg (l.drop (i + 1)):=if_neg hc
     have e2:putO l o = (acc++[l[i]])++putG o lg (l.drop (i + 1)):=by rw [e,hp];simp
     cases lg
     · have ht2:¬ ((l[i].t:Int) = o.t):=fun k=>hc ⟨rfl,by omega⟩
       simp -implicitDefEqProofs (disch:=omega) [go_sem,ot,ht2]
       refine side (by kernel_rfl) ?_
       simp -implicitDefEqProofs (disch:=omega) [go_sem,ot,hfl]
       refine next_ren (Pst.mk (l:=l) (o:=o) (i + 1) false (acc++[l[i]]) (by omega) (by simp [hn]) e2) (by show l.length - (i + 1) < l.length - i;omega) [] (rhoL [(0,some 24),(1,some 1)]) ?_
       apply ren_lists <;> simp -implicitDefEqProofs [go_sem]
       exact renCells_plain (by rw [ots_snoc]) (by simp [plainD])
     · simp -implicitDefEqProofs (disch:=omega) [go_sem,ot]
       refine side (by kernel_rfl) ?_
       simp -implicitDefEqProofs (disch:=omega) [go_sem,ot,hfl]
       refine next_ren (Pst.mk (l:=l) (o:=o) (i + 1) true (acc++[l[i]]) (by omega) (by simp [hn]) e2) (by show l.length - (i + 1) < l.length - i;omega) [] (rhoL [(0,some 24),(1,some 1)]) ?_
       apply ren_lists <;> simp -implicitDefEqProofs [go_sem]
       exact renCells_plain (by rw [ots_snoc]) (by simp [plainD])
 · have ei:i = l.length:=by omega
   subst ei
   rw [List.drop_length] at e
   cases lg
   · have e3:putO l o = acc++[o]:=e
     rw [e3]
     simp -implicitDefEqProofs (disch:=omega) [go_sem,hfl,Tryz.f105]
     exact ⟨_,⟨_,rfl,frz_ref (rw:=true) (by simp [go_sem]) (.inl rfl) (by rw [ots_length,List.length_append];rfl) (ots_cells _) (ots_snoc acc o).symm⟩,rfl⟩
   · have e3:putO l o = acc:=by rw [e];simp [putG]
     rw [e3]
     simp -implicitDefEqProofs (disch:=omega) [go_sem,Tryz.f105]
     exact ⟨_,⟨_,rfl,frz_ref (rw:=true) (by simp [go_sem]) (.inl rfl) (ots_length _) (ots_cells _) rfl⟩,rfl⟩
end
end Op9
namespace Op9
theorem drop_sub {l:List Ot} {t:Nat}:∀ x∈dropO l t,x∈l:=fun x hx=>(List.mem_filter.1 hx).1
theorem drop_len (l:List Ot) (t:Nat):(dropO l t).length≤l.length:=List.length_filter_le _ _
theorem four_lt {n:Nat} (h:n < 4294967296):∀ x∈fourO n,x < 256:=by
 intro x hx
 simp only [fourO,List.mem_cons,List.not_mem_nil,or_false] at hx
 omega
end Op9
namespace Ru
open Op9
structure Rule where
 ip:Bool
 magic:Nat
 other:Nat
 addr:Nat
 ours:Nat
deriving DecidableEq
structure Rule.Ty (r:Rule):Prop where
 magic:r.magic < 4294967296
 other:r.other < 4294967296
 addr:r.addr < 4294967296
 ours:r.ours < 4294967296
def rul (r:Rule):Data:=.agg [.bool r.ip,.int .u32 r.magic,.int .u32 r.other,.int .u32 r.addr,.int .u32 r.ours]
def knownR (ip:Bool) (o:Ot):Bool:=match ip with
 | true=>decide (o.t = 3) && decide (o.d.length = 4)
 | false=>if o.t = 1 then decide (o.d.length = 2) else if o.t = 2 ∨ o.t = 5 then decide (o.d.length = 4) else if o.t = 7 ∨ o.t = 8 then decide (o.d.length = 0) else false
def shouldR (r:Rule) (o:Ot):Ot × Bool:=match r.ip with
 | true=>(⟨3,fourO r.addr⟩,decide (numO o.d≠r.addr))
 | false=>if o.t = 1∧numO o.d < 64 then (⟨1,[0,64]⟩,true) else if o.t = 5∧(numO o.d = 0 ∨ numO o.d = r.magic) then (⟨5,fourO r.other⟩,true) else (o,false)
def askR (r:Rule):List Ot:=match r.ip with
 | true=>[⟨3,fourO r.ours⟩]
 | false=>[⟨3,[194,35,5]⟩,⟨5,fourO r.magic⟩]
def addrR (l:List Ot):Option Nat:=(l.find? fun o=>decide (o.t = 3∧o.d.length = 4)).map fun o=>numO o.d
def oddR (ip:Bool) (l:List Ot):List Ot:=l.filter fun o=>!knownR ip o
def asR (r:Rule) (l:List Ot):List Ot:=l.filter fun o=>knownR r.ip o && (shouldR r o).2
def toR (r:Rule) (l:List Ot):List Ot:=(asR r l).map fun o=>(shouldR r o).1
def toA (r:Rule) (l:List Ot):List Ot:=toR r l++if r.ip = true∧addrR l = none then [⟨3,fourO r.addr⟩] else []
def answerR (r:Rule) (l:List Ot) (n:Int):Nat × List Ot :=
 if oddR r.ip l≠[] then (4,oddR r.ip l) else if 3≤n∧asR r l≠[] then (4,asR r l) else if n < 3∧toA r l≠[] then (3,toA r l) else (2,l)
def dropAll (ours l:List Ot):List Ot:=l.foldl (fun a o=>dropO a o.t) ours
def turnR (r:Rule) (ours:List Ot) (c:Nat) (l:List Ot):List Ot × Bool :=
 if ((findO l 3).isSome = true∧r.ip = false) ∨ (c≠3∧c≠4) then (ours,false) else if c = 4 then (dropAll ours l,true)
 else if r.ip = true ∨ (findO l 5).isSome = false ∨ (findO ours 5).isSome = false then (ours,true) else (putO ours ⟨5,fourO r.other⟩,true)
theorem filter_take {p:Ot->Bool} (l:List Ot) (i:Nat) (h:i < l.length):(l.take (i + 1)).filter p = (l.take i).filter p++if p l[i] = true then [l[i]] else []:=by
 rw [List.take_add_one,List.getElem?_eq_getElem h,Option.toList_some,List.filter_append]
 congr 1
 cases hp:p l[i] <;> simp [hp]
theorem find_take {p:Ot->Bool} (l:List Ot) (i:Nat) (h:∀ (j:Nat) (hj:j < l.length),j < i->p l[j] = false) (hi:i < l.length) (ht:p l[i] = true):l.find? p = some l[i]:=by
 rw [List.find?_eq_some_iff_getElem]
 exact ⟨ht,i,hi,rfl,fun j hj=>by simpa using h j (by omega) hj⟩
theorem find_no {p:Ot->Bool} (l:List Ot) (h:∀ (j:Nat) (hj:j < l.length),p l[j] = false):l.find? p = none:=by
 rw [List.find?_eq_none]
 intro x hx
 obtain ⟨j,hj,rfl⟩:=List.getElem_of_mem hx
 simpa using h j hj
section
variable (Γ:Nat->Option (List Data))
theorem rknown_pc (ip:Bool) (o:Ot):PC Tryz.prog Γ 102 [.bool ip,ot o] (.bool (knownR ip o)):=by
 refine pc_by mixed Tryz.func102 rfl (fun args w=>Tryz.call102 args w) ?_
 unfold ot knownR
 cases ip
 · by_cases h1:o.t = 1
   · have e1:(o.t:Int) = 1:=by omega
     by_cases h2:o.d.length = 2
     · simp -implicitDefEqProofs (disch:=omega) [go_sem,e1,h1,h2,Tryz.f102]
     · simp -implicitDefEqProofs (disch:=omega) [go_sem,e1,h1,h2,Tryz.f102]
   have e1:¬ (o.t:Int) = 1:=by omega
   by_cases h2:o.t = 2
   · have e2:(o.t:Int) = 2:=by omega
     by_cases h4:o.d.length = 4
     · simp -implicitDefEqProofs (disch:=omega) [go_sem,e2,h2,h4,Tryz.f102]
     · simp -implicitDefEqProofs (disch:=omega) [go_sem,e2,h2,h4,Tryz.f102]
   have e2:¬ (o.t:Int) = 2:=by omega
   by_cases h5:o.t = 5
   · have e5:(o.t:Int) = 5:=by omega
     by_cases h4:o.d.length = 4
     · simp -implicitDefEqProofs (disch:=omega) [go_sem,e5,h5,h4,Tryz.f102]
     · simp -implicitDefEqProofs (disch:=omega) [go_sem,e5,h5,h4,Tryz.f102]
   have e5:¬ (o.t:Int) = 5:=by omega
   by_cases h7:o.t = 7
   · have e7:(o.t:Int) = 7:=by omega
     by_cases h4:o.d.length = 0
     · simp -implicitDefEqProofs (disch:=omega) [go_sem,e7,h7,h4,Tryz.f102]
     · simp -implicitDefEqProofs (disch:=omega) [go_sem,e7,h7,h4,Tryz.f102]
   have e7:¬ (o.t:Int) = 7:=by omega
   by_cases h8:o.t = 8
   · have e8:(o.t:Int) = 8:=by omega
     by_cases h4:o.d.length = 0
     · simp -implicitDefEqProofs (disch:=omega) [go_sem,e8,h8,h4,Tryz.f102]
     · simp -implicitDefEqProofs (disch:=omega) [go_sem,e8,h8,h4,Tryz.f102]
   have e8:¬ (o.t:Int) = 8:=by omega
   simp -implicitDefEqProofs (disch:=omega) [go_sem,e1,e2,e5,e7,e8,h1,h2,h5,h7,h8,Tryz.f102]
 · by_cases h3:o.t = 3
   · have e3:(o.t:Int) = 3:=by omega
     by_cases h4:o.d.length = 4
     · simp -implicitDefEqProofs (disch:=omega) [go_sem,e3,h3,h4,Tryz.f102]
     · simp -implicitDefEqProofs (disch:=omega) [go_sem,e3,h3,h4,Tryz.f102]
   · have e3:¬ (o.t:Int) = 3:=by omega
     simp -implicitDefEqProofs (disch:=omega) [go_sem,e3,h3,Tryz.f102]
theorem rshould_pc (r:Rule) (o:Ot) (hr:r.Ty) (hl:∀ x∈o.d,x < 256) (hn:o.d.length≤1000000000):PC Tryz.prog Γ 103 [rul r,ot o] (.tup [ot (shouldR r o).1,.bool (shouldR r o).2]):=by
 refine pc_by mixed Tryz.func103 rfl (fun args w=>Tryz.call103 args w) ?_
 have c1:=rnumber_pc Γ o.d hn hl
 have c2:=rfour_pc Γ r.addr hr.addr
 have c3:=rfour_pc Γ r.other hr.other
 unfold shouldR
 obtain ⟨ip,magic,other,addr,ours⟩:=r
 simp only at c2 c3 ⊢
 generalize numO o.d = n at *
 simp -implicitDefEqProofs (disch:=omega) [go_sem,ot,rul]
 refine .inl (call_data c1 (by simp [go_sem]) ?_)
 cases ip
 · by_cases h1:o.t = 1∧n < 64
   · rw [if_pos h1]
     obtain ⟨h1,h2⟩:=h1
     have e1:(o.t:Int) = 1:=by omega
     simp -implicitDefEqProofs (disch:=omega) [go_sem,e1,ot,Tryz.f103]
     exact ⟨_,⟨_,rfl,frz_aggL (frzL_c (.data _) (frzL_c (frz_bys (rw:=true) (l:=[0,64]) (by simp [Hp.set,bys,u8]) (.inl rfl) rfl) frzL_n))⟩,rfl⟩
   rw [if_neg h1]
   by_cases h5:o.t = 5
   · have e5:(o.t:Int) = 5:=by omega
     by_cases h6:n = 0 ∨ n = magic
     · rw [if_pos ⟨h5,h6⟩]
       by_cases h7:n = 0
       · have e7:(n:Int) = 0:=by omega
         simp -implicitDefEqProofs (disch:=omega) [go_sem,e5,e7]
         refine .inl (call_data c3 (by simp [go_sem]) ?_)
         simp -implicitDefEqProofs (disch:=omega) [go_sem,ot,Tryz.f103]
       · have e7:¬ (n:Int) = 0:=by omega
         have e8:(n:Int) = magic:=by omega
         simp -implicitDefEqProofs (disch:=omega) [go_sem,e5,e7,e8]
         refine .inl (call_data c3 (by simp [go_sem]) ?_)
         simp -implicitDefEqProofs (disch:=omega) [go_sem,ot,Tryz.f103]
     · rw [if_neg fun h=>h6 h.2]
       have e7:¬ (n:Int) = 0:=by omega
       have e8:¬ (n:Int) = magic:=by omega
       simp -implicitDefEqProofs (disch:=omega) [go_sem,e5,e7,e8,ot,Tryz.f103]
   · rw [if_neg fun h=>h5 h.1]
     have e5:¬ (o.t:Int) = 5:=by omega
     by_cases h2:o.t = 1
     · have e1:(o.t:Int) = 1:=by omega
       have e2:¬ (n:Int) < 64:=by omega
       simp -implicitDefEqProofs (disch:=omega) [go_sem,e1,e2,ot,Tryz.f103]
     · have e1:¬ (o.t:Int) = 1:=by omega
       simp -implicitDefEqProofs (disch:=omega) [go_sem,e1,e5,ot,Tryz.f103]
 · have e:decide (n≠addr) = !decide ((n:Int) = addr):=by
    by_cases h:n = addr
    · simp [h]
    · have h2:¬ (n:Int) = addr:=by omega
      simp [h,h2]
   rw [e]
   simp -implicitDefEqProofs (disch:=omega) [go_sem]
   refine .inl (call_data c2 (by simp [go_sem]) ?_)
   simp -implicitDefEqProofs (disch:=omega) [go_sem]
   refine side (by kernel_rfl) ?_
   simp -implicitDefEqProofs (disch:=omega) [go_sem,ot,Tryz.f103]
theorem rask_pc (r:Rule) (hr:r.Ty):PC Tryz.prog Γ 71 [rul r] (.sl 2 (ots (askR r))):=by
 refine pc_by mixed Tryz.func71 rfl (fun args w=>Tryz.call71 args w) ?_
 have c2:=rfour_pc Γ r.ours hr.ours
 have c3:=rfour_pc Γ r.magic hr.magic
 unfold askR
 obtain ⟨ip,magic,other,addr,ours⟩:=r
 simp only at c2 c3 ⊢
 cases ip
 · simp -implicitDefEqProofs (disch:=omega) [go_sem,rul]
   refine .inl (call_data c3 (by simp [go_sem]) ?_)
   simp -implicitDefEqProofs (disch:=omega) [go_sem,Tryz.f71]
   refine ⟨_,⟨_,rfl,frz_rows (rw:=true) (by simp [Hp.set];rfl) (.inl rfl) rfl (ots_cells _) ?_⟩,rfl⟩
   exact frzL_c (.data _) (frzL_c (frz_bys (rw:=true) (l:=[194,35,5]) (by simp [Hp.set,bys,u8]) (.inl rfl) rfl) (frzL_c (.data _) (frzL_c (.data _) frzL_n)))
 · simp -implicitDefEqProofs (disch:=omega) [go_sem,rul]
   refine .inl (call_data c2 (by simp [go_sem]) ?_)
   simp -implicitDefEqProofs (disch:=omega) [go_sem,Tryz.f71]
   exact ⟨_,⟨_,rfl,frz_ref (rw:=true) (by simp [Hp.set];rfl) (.inl rfl) rfl (ots_cells _) rfl⟩,rfl⟩
end
end Ru
namespace Ru
open Op9
theorem numO_lt {b:List Nat} (h:∀ x∈b,x < 256):numO b < 4294967296:=by
 unfold numO
 have h1:=numF_lt (b.drop (b.length - 4)).length (b.drop (b.length - 4)) rfl fun x hx=>h x (List.mem_of_mem_drop hx)
 have h2:(b.drop (b.length - 4)).length≤4:=by rw [List.length_drop];omega
 have h3:(256:Nat) ^ (b.drop (b.length - 4)).length≤256 ^ 4:=Nat.pow_le_pow_right (by decide) h2
 have h4:(256:Nat) ^ 4 = 4294967296:=by decide
 omega
section
variable (Γ:Nat->Option (List Data))
def natO (o:Option Nat):Data:=.tup [.int .u32 (o.getD 0:Nat),.bool o.isSome]
/-- Options as they come: bytes,not too long. -/
def Fine (l:List Ot):Prop:=l.length≤1000000∧∀ o∈l,(∀ x∈o.d,x < 256)∧o.d.length≤1000000000
theorem raddress_pc (l:List Ot) (hl:Fine l):PC Tryz.prog Γ 104 [.sl 2 (ots l)] (natO (addrR l)):=by
 refine pc_by mixed Tryz.func104 rfl (fun args w=>Tryz.call104 args w) ?_
 obtain ⟨hn,hl⟩:=hl
 simp -implicitDefEqProofs (disch:=omega) [go_sem]
 refine loop_ren (σ:={ i:Nat // i≤l.length∧∀ (j:Nat) (hj:j < l.length),j < i->decide (l[j].t = 3∧l[j].d.length = 4) = false }) (fun i=>⟨envL [(0,.data (.sl 2 (ots l))),(4,.data (.int .i64 i.1))],hpL [],0,0,32⟩) (fun i=>l.length - i.1) ⟨0,by omega,fun j _ h=>absurd h (Nat.not_lt_zero _)⟩ [] (rhoL []) ?_ ?_
 · apply ren_lists <;> simp -implicitDefEqProofs [go_sem]
 rintro ⟨i,hi,hall⟩
 by_cases h:i < l.length
 · obtain ⟨hb,hbn⟩:=hl _ (List.getElem_mem h)
   have c1:=rnumber_pc Γ l[i].d hbn hb
   by_cases ht:l[i].t = 3∧l[i].d.length = 4
   · rw [show addrR l = some (numO l[i].d) by unfold addrR;rw [find_take l i hall h (decide_eq_true ht)];rfl]
     obtain ⟨ht,hd⟩:=ht
     have ht2:(l[i].t:Int) = 3:=by omega
     simp -implicitDefEqProofs (disch:=omega) [go_sem,ot,ht2,hd]
     refine .inl (call_data c1 (by simp [go_sem]) ?_)
     simp -implicitDefEqProofs (disch:=omega) [go_sem,natO,Tryz.f104]
   · have nx:∀ (j:Nat) (hj:j < l.length),j < i + 1->decide (l[j].t = 3∧l[j].d.length = 4) = false:=fun j hj hji=>by
      by_cases e:j = i
      · subst e;exact decide_eq_false ht
      · exact hall j hj (by omega)
     by_cases h3:l[i].t = 3
     · have ht2:(l[i].t:Int) = 3:=by omega
       have hd:¬ l[i].d.length = 4:=fun e=>ht ⟨h3,e⟩
       simp -implicitDefEqProofs (disch:=omega) [go_sem,ot,ht2,hd]
       refine next_ren ⟨i + 1,by omega,nx⟩ (by simp only;omega) [] (rhoL []) ?_
       apply ren_lists <;> simp -implicitDefEqProofs [go_sem]
     · have ht2:¬ (l[i].t:Int) = 3:=by omega
       simp -implicitDefEqProofs (disch:=omega) [go_sem,ot,ht2]
       refine next_ren ⟨i + 1,by omega,nx⟩ (by simp only;omega) [] (rhoL []) ?_
       apply ren_lists <;> simp -implicitDefEqProofs [go_sem]
 · rw [show addrR l = none by unfold addrR;rw [find_no l fun j hj=>hall j hj (by omega)];rfl]
   simp -implicitDefEqProofs (disch:=omega) [go_sem,natO,Tryz.f104]
theorem drop_fine {l:List Ot} (hl:Fine l) (t:Nat):Fine (dropO l t):=⟨Nat.le_trans (drop_len l t) hl.1,fun o ho=>hl.2 o (drop_sub o ho)⟩
theorem dropAll_take (ours l:List Ot) (i:Nat) (h:i < l.length):dropAll ours (l.take (i + 1)) = dropO (dropAll ours (l.take i)) l[i].t:=by
 unfold dropAll
 rw [List.take_add_one,List.getElem?_eq_getElem h,Option.toList_some,List.foldl_append]
 rfl
theorem dropAll_fine {ours:List Ot} (ho:Fine ours):∀ l:List Ot,Fine (dropAll ours l):=by
 intro l
 unfold dropAll
 induction l generalizing ours with
 | nil=>exact ho
 | cons o l ih=>exact ih (drop_fine ho o.t)
set_option maxHeartbeats 1000000 in
theorem rturn_pc (r:Rule) (ours:List Ot) (c:Nat) (l:List Ot) (hr:r.Ty) (ho:Fine ours) (hl:Fine l):PC Tryz.prog Γ 74 [rul r,.sl 2 (ots ours),.int .u8 c,.sl 2 (ots l)] (.tup [.sl 2 (ots (turnR r ours c l).1),.bool (turnR r ours c l).2]):=by
 refine pc_by mixed Tryz.func74 rfl (fun args w=>Tryz.call74 args w) ?_
 have hn:=hl.1
 have hon:=ho.1
 have c1:=rfind_pc Γ l 3 (by omega)
 have c2:=rfind_pc Γ l 5 (by omega)
 have c3:=rfind_pc Γ ours 5 (by omega)
 have c4:=rfour_pc Γ r.other hr.other
 have c5:=roput_pc Γ ours ⟨5,fourO r.other⟩ (by omega)
 have fnd:∀ o:Option Ot,∃ x:Ot,foundO o = .tup [ot x,.bool o.isSome]:=fun o=>by cases o with | none=>exact ⟨noO,rfl⟩ | some o=>exact ⟨o,rfl⟩
 obtain ⟨x1,e1⟩:=fnd (findO l 3)
 obtain ⟨x2,e2⟩:=fnd (findO l 5)
 obtain ⟨x3,e3⟩:=fnd (findO ours 5)
 rw [e1] at c1;rw [e2] at c2;rw [e3] at c3
 unfold turnR
 obtain ⟨ip,magic,other,addr,our⟩:=r
 simp only at c4 c5 ⊢
 generalize (findO l 3).isSome = b1 at *
 generalize (findO l 5).isSome = b2 at *
 generalize (findO ours 5).isSome = b3 at *
 unfold ot at c1 c2 c3 c5
 simp -implicitDefEqProofs (disch:=omega) [go_sem,rul]
 refine .inl (call_data c1 (by simp [go_sem]) ?_)
 by_cases h1:b1 = true∧ip = false
 · rw [if_pos (.inl h1)]
   obtain ⟨rfl,rfl⟩:=h1
   simp -implicitDefEqProofs (disch:=omega) [go_sem,Tryz.f74]
 have hb:(b1 && !ip) = false:=by cases b1 <;> cases ip <;> simp_all
 by_cases h3:c = 3
 · have h3i:(c:Int) = 3:=by omega
   rw [if_neg (by rintro (h | h);exact h1 h;exact h.1 h3),if_neg (by omega)]
   by_cases h5:ip = true ∨ b2 = false ∨ b3 = false
   · rw [if_pos h5]
     cases b1 <;> cases ip <;> simp at h1 <;> simp -implicitDefEqProofs (disch:=omega) [go_sem,h3i]
     all_goals
      refine .inl (call_data c2 (by simp [go_sem]) ?_)
      simp -implicitDefEqProofs (disch:=omega) [go_sem]
      refine .inl (call_data c3 (by simp [go_sem]) ?_)
     · cases b2 <;> cases b3 <;> simp at h5 <;> simp -implicitDefEqProofs (disch:=omega) [go_sem,Tryz.f74]
     · simp -implicitDefEqProofs (disch:=omega) [go_sem,Tryz.f74]
     · simp -implicitDefEqProofs (disch:=omega) [go_sem,Tryz.f74]
   · rw [if_neg h5]
     cases ip <;> cases b2 <;> cases b3 <;> simp at h5
     cases b1 <;> simp at h1
     simp -implicitDefEqProofs (disch:=omega) [go_sem,h3i]
     refine .inl (call_data c2 (by simp [go_sem]) ?_)
     simp -implicitDefEqProofs (disch:=omega) [go_sem]
     refine .inl (call_data c3 (by simp [go_sem]) ?_)
     simp -implicitDefEqProofs (disch:=omega) [go_sem]
     refine .inl (call_data c4 (by simp [go_sem]) ?_)
     simp -implicitDefEqProofs (disch:=omega) [go_sem]
     refine .inl (call_data c5 (by simp [go_sem]) ?_)
     simp -implicitDefEqProofs (disch:=omega) [go_sem,Tryz.f74]
 have h3i:¬ (c:Int) = 3:=by omega
 by_cases h4:c = 4
 rotate_left
 · have h4i:¬ (c:Int) = 4:=by omega
   rw [if_pos (.inr ⟨h3,h4⟩)]
   cases b1 <;> cases ip <;> simp at h1 <;> simp -implicitDefEqProofs (disch:=omega) [go_sem,h3i,h4i,Tryz.f74]
 have h4i:(c:Int) = 4:=by omega
 rw [if_neg (by rintro (h | h);exact h1 h;exact h.2 h4),if_pos h4]
 cases b1 <;> cases ip <;> simp at h1 <;> simp -implicitDefEqProofs (disch:=omega) [go_sem,h3i,h4i]
 all_goals
  refine loop_ren (σ:={ i:Nat // i≤l.length }) (fun i=>⟨envL [(3,.data (.sl 2 (ots l))),(12,.data (.sl 2 (ots (dropAll ours (l.take i.1))))),(13,.data (.int .i64 i.1))],hpL [],0,0,82⟩) (fun i=>l.length - i.1) ⟨0,by omega⟩ [] (rhoL []) ?_ ?_
  · apply ren_lists <;> simp -implicitDefEqProofs [go_sem,dropAll]
  rintro ⟨i,hi⟩
  by_cases h:i < l.length
  · have c6:=rdrop_pc Γ (dropAll ours (l.take i)) l[i].t (by have:=(dropAll_fine ho (l.take i)).1;omega)
    rw [<- dropAll_take ours l i h] at c6
    simp -implicitDefEqProofs (disch:=omega) [go_sem,ot]
    refine .inl (call_data c6 (by simp [go_sem]) ?_)
    simp -implicitDefEqProofs (disch:=omega) [go_sem]
    refine next_ren ⟨i + 1,by omega⟩ (by simp only;omega) [] (rhoL []) ?_
    apply ren_lists <;> simp -implicitDefEqProofs [go_sem]
  · have:i = l.length:=by omega
    subst this
    simp -implicitDefEqProofs (disch:=omega) [go_sem,List.take_length,Tryz.f74]
theorem odd_take (ip:Bool) (l:List Ot) (i:Nat) (h:i < l.length):oddR ip (l.take (i + 1)) = oddR ip (l.take i)++if knownR ip l[i] = false then [l[i]] else []:=by
 unfold oddR
 rw [filter_take l i h]
 cases knownR ip l[i] <;> rfl
theorem as_take (r:Rule) (l:List Ot) (i:Nat) (h:i < l.length):asR r (l.take (i + 1)) = asR r (l.take i)++if knownR r.ip l[i] = true∧(shouldR r l[i]).2 = true then [l[i]] else []:=by
 unfold asR
 rw [filter_take l i h]
 cases knownR r.ip l[i] <;> cases (shouldR r l[i]).2 <;> rfl
theorem to_take (r:Rule) (l:List Ot) (i:Nat) (h:i < l.length):toR r (l.take (i + 1)) = toR r (l.take i)++if knownR r.ip l[i] = true∧(shouldR r l[i]).2 = true then [(shouldR r l[i]).1] else []:=by
 unfold toR
 rw [as_take r l i h,List.map_append]
 split <;> rfl
theorem odd_len (ip:Bool) (l:List Ot):(oddR ip l).length≤l.length:=List.length_filter_le _ _
theorem as_len (r:Rule) (l:List Ot):(asR r l).length≤l.length:=List.length_filter_le _ _
theorem to_len (r:Rule) (l:List Ot):(toR r l).length≤l.length:=by unfold toR;rw [List.length_map];exact as_len r l
theorem flat_ots (l:List Ot):(flat (ots l)).length = l.length * 2:=by rw [flat_length (ots_cells _),ots_length]
set_option maxHeartbeats 4000000 in
theorem ranswer_pc (r:Rule) (l:List Ot) (n:Int) (hr:r.Ty) (hl:Fine l):PC Tryz.prog Γ 73 [rul r,.sl 2 (ots l),.int .i64 n] (.tup [.int .u8 (answerR r l n).1,.sl 2 (ots (answerR r l n).2)]):=by
 refine pc_by mixed Tryz.func73 rfl (fun args w=>Tryz.call73 args w) ?_
 have hn:=hl.1
 have c3:=raddress_pc Γ l hl
 have c4:=rfour_pc Γ r.addr hr.addr
 unfold rul
 simp -implicitDefEqProofs (disch:=omega) [go_sem]
 refine loop_ren (σ:={ i:Nat // i≤l.length }) (fun i=>⟨envL [(1,.data (.sl 2 (ots l))),(2,.data (.int .i64 n)),(3,.ptr 3 0),(8,.ref 0 0 (oddR r.ip (l.take i.1)).length 2),(9,.ref 1 0 (asR r (l.take i.1)).length 2),(10,.ref 2 0 (toR r (l.take i.1)).length 2),(11,.data (.int .i64 i.1))],
  hpL [(0,.blk true ((flat (ots (oddR r.ip (l.take i.1)))).map .data)),(1,.blk true ((flat (ots (asR r (l.take i.1)))).map .data)),(2,.blk true ((flat (ots (toR r (l.take i.1)))).map .data)),(3,.blk true [.data (.bool r.ip),.data (.int .u32 r.magic),.data (.int .u32 r.other),.data (.int .u32 r.addr),.data (.int .u32 r.ours)])],4,0,99⟩) (fun i=>l.length - i.1) ⟨0,by omega⟩ [] (rhoL [(0,none),(1,none),(2,none),(3,some 0)]) ?_ ?_
 · apply ren_lists <;> simp -implicitDefEqProofs [go_sem,oddR,asR,toR,ots,flat]
 rintro ⟨i,hi⟩
 have lo:=odd_len r.ip (l.take i)
 have la:=as_len r (l.take i)
 have lt:=to_len r (l.take i)
 have ltk:(l.take i).length≤l.length:=by rw [List.length_take];omega
 by_cases h:i < l.length
 · obtain ⟨hb,hbn⟩:=hl.2 _ (List.getElem_mem h)
   have c1:=rknown_pc Γ r.ip l[i]
   have c2:=rshould_pc Γ r l[i] hr hb hbn
   have so:=odd_take r.ip l i h
   have sa:=as_take r l i h
   have st:=to_take r l i h
   unfold ot at c1 c2
   unfold rul at c2
   simp -implicitDefEqProofs (disch:=omega) [go_sem,ot]
   refine .inl (call_data c1 (by simp [go_sem]) ?_)
   simp -implicitDefEqProofs (disch:=omega) [go_sem,ot]
   refine side (by kernel_rfl) ?_
   cases hk:knownR r.ip l[i]
   · rw [hk,if_pos rfl] at so
     rw [hk,if_neg (by simp),List.append_nil] at sa
     rw [hk,if_neg (by simp),List.append_nil] at st
     simp -implicitDefEqProofs (disch:=omega) [go_sem,ot,flat_ots]
     refine next_ren ⟨i + 1,by omega⟩ (by simp only;omega) [] (rhoL [(0,some 24),(1,some 1),(2,some 2),(3,some 3)]) ?_
     simp only [so,sa,st]
     apply ren_lists <;> simp -implicitDefEqProofs [go_sem]
     exact renCells_plain (by rw [ots_snoc]) (by simp [plainD])
   · rw [hk,if_neg (by simp),List.append_nil] at so
     simp -implicitDefEqProofs (disch:=omega) [go_sem,ot]
     refine .inl (call_data c2 (by simp [go_sem]) ?_)
     simp -implicitDefEqProofs (disch:=omega) [go_sem,ot]
     refine side (by kernel_rfl) ?_
     cases hs:(shouldR r l[i]).2
     · rw [hs,if_neg (by simp),List.append_nil] at sa st
       simp -implicitDefEqProofs (disch:=omega) [go_sem,ot]
       refine next_ren ⟨i + 1,by omega⟩ (by simp only;omega) [] (rhoL [(0,some 0),(1,some 1),(2,some 2),(3,some 3)]) ?_
       simp only [so,sa,st]
       apply ren_lists <;> simp -implicitDefEqProofs [go_sem]
     · rw [hk,hs,if_pos ⟨rfl,rfl⟩] at sa st
       simp -implicitDefEqProofs (disch:=omega) [go_sem,ot,flat_ots]
       refine next_ren ⟨i + 1,by omega⟩ (by simp only;omega) [] (rhoL [(0,some 0),(1,some 37),(2,some 42),(3,some 3)]) ?_
       simp only [so,sa,st]
       apply ren_lists <;> simp -implicitDefEqProofs [go_sem]
       exact ⟨renCells_plain (by rw [ots_snoc]) (by simp [plainD]),renCells_plain (by rw [ots_snoc]) (by simp [plainD])⟩
 · have:i = l.length:=by omega
   subst this
   have htk:l.take l.length = l:=List.take_length
   simp only [htk] at lo la lt
   have len0:∀ m:List Ot,m≠[]->0 < m.length:=fun m h=>List.length_pos_iff.2 h
   have len1:∀ m:List Ot,¬ m≠[]->m.length = 0:=fun m h=>by simp only [ne_eq,Decidable.not_not] at h;rw [h];rfl
   unfold answerR
   by_cases h1:oddR r.ip l≠[]
   · rw [if_pos h1]
     have:=len0 _ h1
     simp -implicitDefEqProofs (disch:=omega) [go_sem,htk,Tryz.f73]
     exact ⟨_,⟨_,_,rfl,rfl,_,rfl,frz_ref (rw:=true) (by simp [Hp.set,hpL,htk]) (.inl rfl) (ots_length _) (ots_cells _) rfl⟩,rfl⟩
   rw [if_neg h1]
   have h1n:=len1 _ h1
   by_cases h2:3≤n∧asR r l≠[]
   · rw [if_pos h2]
     obtain ⟨h2,h3⟩:=h2
     have:=len0 _ h3
     simp -implicitDefEqProofs (disch:=omega) [go_sem,htk,h1n,Tryz.f73]
     exact ⟨_,⟨_,_,rfl,rfl,_,rfl,frz_ref (rw:=true) (by simp [Hp.set,hpL,htk]) (.inl rfl) (ots_length _) (ots_cells _) rfl⟩,rfl⟩
   rw [if_neg h2]
   have hcond:n < 3 ∨ (3≤n∧(asR r l).length = 0):=by
    by_cases e:n < 3
    · exact .inl e
    · exact .inr ⟨by omega,len1 _ fun k=>h2 ⟨by omega,k⟩⟩
   have c3:=c3
   unfold natO at c3
   by_cases ha:r.ip = true∧addrR l = none
   · have hta:toA r l = toR r l++[⟨3,fourO r.addr⟩]:=by unfold toA;rw [if_pos ha]
     have hne:toA r l≠[]:=by rw [hta];simp
     have htl:(toA r l).length = (toR r l).length + 1:=by rw [hta];simp
     obtain ⟨ha1,ha2⟩:=ha
     rw [ha2] at c3
     rw [ha1] at h1n
     rcases hcond with e | ⟨e1,e2⟩
     · rw [if_pos ⟨e,hne⟩]
       have e3:¬ 3≤n:=by omega
       simp -implicitDefEqProofs (disch:=omega) [go_sem,htk,h1n,ha1]
       refine .inl (call_data c3 (by simp [go_sem]) ?_)
       simp -implicitDefEqProofs (disch:=omega) [go_sem,htk,ha1]
       refine .inl (call_data c4 (by simp [go_sem]) ?_)
       simp -implicitDefEqProofs (disch:=omega) [go_sem,htk,flat_ots,Tryz.f73]
       refine ⟨_,⟨_,_,rfl,rfl,_,rfl,frz_ref (rw:=true) (l:=ots (toA r l)) (cells:=(flat (ots (toA r l))).map D.data) (by simp [Hp.set,hta,ots_snoc]) (.inl rfl) (by rw [ots_length,htl]) (ots_cells _) rfl⟩,rfl⟩
     · rw [if_neg fun k=>by omega]
       simp -implicitDefEqProofs (disch:=omega) [go_sem,htk,h1n,e2,ha1]
       refine .inl (call_data c3 (by simp [go_sem]) ?_)
       simp -implicitDefEqProofs (disch:=omega) [go_sem,htk,ha1]
       refine .inl (call_data c4 (by simp [go_sem]) ?_)
       simp -implicitDefEqProofs (disch:=omega) [go_sem,htk,flat_ots,Tryz.f73]
   · have hta:toA r l = toR r l:=by unfold toA;rw [if_neg ha,List.append_nil]
     have hb:r.ip = false ∨ (r.ip = true∧(addrR l).isSome = true):=by
      cases hip:r.ip
      · exact .inl rfl
      · refine .inr ⟨rfl,?_⟩
        cases hz:addrR l with
        | none=>exact absurd ⟨hip,hz⟩ ha
        | some x=>rfl
     rw [hta]
     generalize (addrR l).isSome = z at *
     by_cases h4:n < 3∧toR r l≠[]
     · rw [if_pos h4]
       obtain ⟨h4,h5⟩:=h4
       have:=len0 _ h5
       rcases hb with hip | ⟨hip,rfl⟩
       all_goals
        rw [hip] at h1n
        simp -implicitDefEqProofs (disch:=omega) [go_sem,htk,h1n,hip]
        refine .inl (call_data c3 (by simp [go_sem]) ?_)
        simp -implicitDefEqProofs (disch:=omega) [go_sem,htk,hip,Tryz.f73]
        exact ⟨_,⟨_,_,rfl,rfl,_,rfl,frz_ref (rw:=true) (by simp [Hp.set,hpL,htk]) (.inl rfl) (ots_length _) (ots_cells _) rfl⟩,rfl⟩
     · rw [if_neg h4]
       have hd:(3≤n∧(asR r l).length = 0) ∨ (n < 3∧(toR r l).length = 0):=by
        rcases hcond with e | e
        · exact .inr ⟨e,len1 _ fun k=>h4 ⟨e,k⟩⟩
        · exact .inl e
       rcases hd with ⟨e1,e2⟩ | ⟨e1,e2⟩
       · rcases hb with hip | ⟨hip,rfl⟩
         all_goals
          rw [hip] at h1n
          simp -implicitDefEqProofs (disch:=omega) [go_sem,htk,h1n,hip,e2]
          refine .inl (call_data c3 (by simp [go_sem]) ?_)
          simp -implicitDefEqProofs (disch:=omega) [go_sem,htk,hip,Tryz.f73]
       · rcases hb with hip | ⟨hip,rfl⟩
         all_goals
          rw [hip] at h1n
          simp -implicitDefEqProofs (disch:=omega) [go_sem,htk,h1n,hip]
          refine .inl (call_data c3 (by simp [go_sem]) ?_)
          simp -implicitDefEqProofs (disch:=omega) [go_sem,htk,hip,e2,Tryz.f73]
end
end Ru
end Go.Proofs.YtlfhkplbjgcpiaaGreatDoor
