/- Plain data in the place of memory: values without addresses, the rows and variables of a call's own by number, and how these stand to the model's values and blocks. What an operation comes to on plain data. The relation through new blocks and through writes. Each operation keeps the relation: part one. Each operation keeps the relation: part two: looks, writes, new variables, addresses. Each operation keeps the relation: part three: places in rows, parts, slices, lengths, conversions. Each operation keeps the relation: part four: rows that are made, filled, appended to. Each operation keeps the relation: part five: append. -/
import Derived.WalkKit
import Derived.Below
import Derived.Laws.CopyOwn
import Derived.Deep.Draws
import Derived.Lib.Hide
import Derived.Laws.Tables
import Derived.Laws.Append
namespace Go.Proofs.Ytndnlfgchmjbjaa
open Go.RowKit
set_option linter.unusedSimpArgs false
set_option linter.unusedVariables false
set_option maxRecDepth 100000
inductive Data where
 | bool (b:Bool)
 | int (k:IntKind) (n:Int)
 | str (s:ByteArray)
 | agg (cs:List Data)
 | sl (es:Nat) (l:List Data)
 | tup (vs:List Data)
 | fn (f:FuncId) (caps:List Data)
 | bn (f:FuncId) (r:Data)
 | nilf
 | ifc (t:TypeId) (d:Data)
 | nili
 | nilp
 | nilm
 | pc (cells:List Data)
 | mp (ks xs:List Data)
 deriving Inhabited
def Data.cells:Data->List Data
 | .agg cs=>cs
 | d=>[d]
def flat (l:List Data):List Data:=l.flatMap Data.cells
def Data.cell:Data->Bool
 | .agg _ | .tup _=>false
 | _=>true
inductive MB where
 | res
 | nil
 | at (b sz:Nat)
inductive D where
 | data (x:Data)
 | emp (es:Nat)
 | ref (g off len es:Nat)
 | cut (g off len cp es:Nat)
 | mref (g:Nat)
 | iref (g:Nat)
 | ptr (g off:Nat)
 | cptr (cells:List Data)
 | agg (cs:List D)
 | fn (f:FuncId) (caps:List D)
 | bnd (f:FuncId) (r:D)
 | tp (cs:List D)
 | yld (l:Nat)
 | ful (es:Nat) (l:List Data)
 | junk
 deriving Inhabited
def D.cells:D->List D
 | .data x=>x.cells.map .data
 | .agg cs=>cs
 | d=>[d]
def D.cell:D->Bool
 | .data x=>x.cell
 | .agg _ | .tp _ | .junk=>false
 | _=>true
def allData:List D->Option (List Data)
 | []=>some []
 | .data x::l=>(allData l).map (x :: ·)
 | _::_=>none
def mkAgg (cs:List D):D:=match allData cs with
 | some xs=>.data (.agg xs)
 | none=>.agg cs
inductive Ob where
 | mp (ks:List Data) (xs:List D)
 | it (ks xs:List Data) (left:List Nat) (cur:Option Nat)
 | si (s:ByteArray) (pos:Nat)
inductive Blk where
 | dead
 | blk (rw:Bool) (cells:List D)
 | obj (o:Ob)
 deriving Inhabited
section
variable (L:Nat->Prop) (w:World)
inductive VD:Data->Value->Prop where
 | bool (b:Bool):VD (.bool b) (.bool b)
 | int (k:IntKind) (n:Int):VD (.int k n) (.int k n)
 | str (s:ByteArray):VD (.str s) (.string s)
 | agg (cs:List Data) (vs:Array Value) (hl:cs.length=vs.size) (h:∀ (i:Nat) (x:Data) (v:Value),cs[i]?=some x->vs[i]?=some v->VD x v):VD (.agg cs) (.agg vs)
 | sl (es:Nat) (l:List Data) (a:Option Addr) (n cap b off:Nat) (vs:Nat->Value) (hn:n=l.length) (hle:n<=cap) (hm:cap<=maxLen) (hes:∀ x∈l,x.cells.length=es)
    (ha:(a=some ⟨b,off,none⟩/\b<w.heap.size/\¬ L b) \/ l=[]) (hc:∀ (i:Nat) (x:Data),(flat l)[i]?=some x->w.cell? ⟨b,off+i,none⟩=some (vs i))
    (hv:∀ (i:Nat) (x:Data),(flat l)[i]?=some x->VD x (vs i)):VD (.sl es l) (.slice a n cap)
 | tup (cs:List Data) (vs:Array Value) (hl:cs.length=vs.size) (h:∀ (i:Nat) (x:Data) (v:Value),cs[i]?=some x->vs[i]?=some v->VD x v):VD (.tup cs) (.tuple vs)
 | fn (f:FuncId) (caps:List Data) (vs:Array Value) (hl:caps.length=vs.size) (h:∀ (i:Nat) (x:Data) (v:Value),caps[i]?=some x->vs[i]?=some v->VD x v):VD (.fn f caps) (.func (.func f) #[] vs)
 | bn (f:FuncId) (r:Data) (v:Value) (h:VD r v):VD (.bn f r) (.func (.func f) #[v] #[])
 | nilf:VD .nilf .nilFunc
 | ifc (t:TypeId) (d:Data) (v:Value) (h:VD d v):VD (.ifc t d) (.iface t v)
 | nili:VD .nili .nilIface
 | nilp:VD .nilp (.pointer none)
 | nilm:VD .nilm (.map none)
 | pc (cells:List Data) (b off:Nat) (vs:Nat->Value) (hb:b<w.heap.size) (hL:¬ L b) (hc:∀ (i:Nat) (x:Data),cells[i]?=some x->w.cell? ⟨b,off+i,none⟩=some (vs i))
    (hv:∀ (i:Nat) (x:Data),cells[i]?=some x->VD x (vs i)):VD (.pc cells) (.pointer (some ⟨b,off,none⟩))
 | mp (ks xs:List Data) (b:Nat) (es:Array MapEntry) (clock:Nat) (hb:b<w.heap.size) (hL:¬ L b) (hh:w.heap[b]?=some (.map es clock)) (hk:ks.length=es.size) (hx:xs.length=es.size)
    (hkv:∀ (i:Nat) (x:Data) (e:MapEntry),ks[i]?=some x->es[i]?=some e->VD x e.key) (hxv:∀ (i:Nat) (x:Data) (e:MapEntry),xs[i]?=some x->es[i]?=some e->VD x e.val)
    (hborn:∀ (i:Nat) (e:MapEntry),es[i]?=some e->e.born=i) (hclock:clock=es.size):VD (.mp ks xs) (.map (some b))
inductive VV (m:Nat->MB):D->Value->Prop where
 | data (x:Data) (v:Value) (h:VD L w x v):VV m (.data x) v
 | emp (es:Nat) (a:Option Addr):VV m (.emp es) (.slice a 0 0)
 | ref (g off len es b sz cap o:Nat) (hm:m g = .at b sz) (ho:o=off \/ cap=0) (hs:off+cap*es<=sz) (hl:len<=cap) (hc:cap<=maxLen):VV m (.ref g off len es) (.slice (some ⟨b,o,none⟩) len cap)
 | ref0 (g es:Nat) (a:Option Addr) (hm:m g = .nil):VV m (.ref g 0 0 es) (.slice a 0 0)
 | cut (g off len cp es b sz cap o:Nat) (hm:m g = .at b sz) (ho:o=off \/ cap=0) (hs:off+cap*es<=sz) (hl:len<=cp) (hp:cp<=cap) (hc:cap<=maxLen):VV m (.cut g off len cp es) (.slice (some ⟨b,o,none⟩) len cap)
 | mref (g b:Nat) (hm:m g = .at b 0):VV m (.mref g) (.map (some b))
 | iref (g b:Nat) (hm:m g = .at b 0):VV m (.iref g) (.pointer (some ⟨b,0,none⟩))
 | ptr (g off b sz:Nat) (hm:m g = .at b sz):VV m (.ptr g off) (.pointer (some ⟨b,off,none⟩))
 | cptr (cells:List Data) (b off:Nat) (vs:Nat->Value) (hb:b<w.heap.size) (hL:¬ L b) (hc:∀ (i:Nat) (x:Data),cells[i]?=some x->w.cell? ⟨b,off+i,none⟩=some (vs i))
    (hv:∀ (i:Nat) (x:Data),cells[i]?=some x->VD L w x (vs i)):VV m (.cptr cells) (.pointer (some ⟨b,off,none⟩))
 | agg (cs:List D) (vs:Array Value) (hl:cs.length=vs.size) (h:∀ (i:Nat) (x:D) (v:Value),cs[i]?=some x->vs[i]?=some v->VV m x v):VV m (.agg cs) (.agg vs)
 | fn (f:FuncId) (caps:List D) (vs:Array Value) (hl:caps.length=vs.size) (h:∀ (i:Nat) (x:D) (v:Value),caps[i]?=some x->vs[i]?=some v->VV m x v):VV m (.fn f caps) (.func (.func f) #[] vs)
 | bnd (f:FuncId) (r:D) (v:Value) (h:VV m r v):VV m (.bnd f r) (.func (.func f) #[v] #[])
 | tp (cs:List D) (vs:Array Value) (hl:cs.length=vs.size) (h:∀ (i:Nat) (x:D) (v:Value),cs[i]?=some x->vs[i]?=some v->VV m x v):VV m (.tp cs) (.tuple vs)
 | yld (l:Nat):VV m (.yld l) (.func (.yield l) #[] #[])
 | ful (es:Nat) (l:List Data) (a:Option Addr) (n:Nat) (h:VD L w (.sl es l) (.slice a n n)):VV m (.ful es l) (.slice a n n)
 | junk (v:Value):VV m .junk v
end
structure Grow (L:Nat->Prop) (w:World) (L':Nat->Prop) (w':World):Prop where
 size:w.heap.size<=w'.heap.size
 keep:∀ b,b<w.heap.size->¬ L b->w'.heap[b]?=w.heap[b]?/\¬ L' b
theorem Grow.refl (L:Nat->Prop) (w:World):Grow L w L w:=⟨Nat.le_refl _,fun _ _ h=>⟨rfl,h⟩⟩
theorem Grow.trans {L L' L'':Nat->Prop} {w w' w'':World} (h:Grow L w L' w') (k:Grow L' w' L'' w''):Grow L w L'' w'' :=
 ⟨Nat.le_trans h.size k.size,fun b hb hL=>by
  obtain⟨h1,h2⟩:=h.keep b hb hL;obtain⟨h3,h4⟩:=k.keep b (Nat.lt_of_lt_of_le hb h.size) h2;exact⟨h3.trans h1,h4⟩⟩
theorem Grow.cell {L L':Nat->Prop} {w w':World} (h:Grow L w L' w') {b:Nat} (hb:b<w.heap.size) (hL:¬ L b) (o:Nat):w'.cell? ⟨b,o,none⟩=w.cell? ⟨b,o,none⟩ :=
 World.cell?_of_block (w:=w) (a:=⟨b,o,none⟩) (h.keep b hb hL).1
theorem Grow.less {L L':Nat->Prop} (w:World) (h:∀ b,L' b->L b):Grow L w L' w:=⟨Nat.le_refl _,fun _ _ hL=>⟨rfl,fun k=>hL (h _ k)⟩⟩
theorem VD.mono {L L':Nat->Prop} {w w':World} (hg:Grow L w L' w') {x:Data} {v:Value} (h:VD L w x v):VD L' w' x v:=by
 induction h with
 | bool b=>exact .bool b
 | int k n=>exact .int k n
 | str s=>exact .str s
 | agg cs vs hl _ ih=>exact .agg cs vs hl ih
 | sl es l a n cap b off vs hn hle hm hes ha hc _ ih =>
   rcases ha with⟨h1,h2,h3⟩|h0
   . refine .sl es l a n cap b off vs hn hle hm hes (.inl ⟨h1,Nat.lt_of_lt_of_le h2 hg.size,(hg.keep b h2 h3).2⟩) (fun i x hx=>?_) ih;rw[hg.cell h2 h3];exact hc i x hx
   . subst h0;exact .sl es [] a n cap b off vs hn hle hm hes (.inr rfl) (fun i x hx=>by simp[flat] at hx) (fun i x hx=>by simp[flat] at hx)
 | tup cs vs hl _ ih=>exact .tup cs vs hl ih
 | fn f caps vs hl _ ih=>exact .fn f caps vs hl ih
 | bn f r v _ ih=>exact .bn f r v ih
 | nilf=>exact .nilf
 | ifc t d v _ ih=>exact .ifc t d v ih
 | nili=>exact .nili
 | nilp=>exact .nilp
 | nilm=>exact .nilm
 | pc cells b off vs hb hL hc _ ih=>exact .pc cells b off vs (Nat.lt_of_lt_of_le hb hg.size) (hg.keep b hb hL).2 (fun i x hx=>by rw[hg.cell hb hL];exact hc i x hx) ih
 | mp ks xs b es clock hb hL hh hk hx _ _ hborn hclock ih1 ih2=>exact .mp ks xs b es clock (Nat.lt_of_lt_of_le hb hg.size) (hg.keep b hb hL).2 ((hg.keep b hb hL).1.trans hh) hk hx ih1 ih2 hborn hclock
def toD:Data->D
 | .pc cells=>.cptr cells
 | x=>.data x
theorem toD_ok {L:Nat->Prop} {w:World} {m:Nat->MB} {x:Data} {v:Value} (h:VD L w x v):VV L w m (toD x) v:=by
 cases h with
 | pc cells b off vs hb hL hc hv=>exact .cptr cells b off vs hb hL hc hv
 | bool b=>exact .data _ _ (.bool b)
 | int k n=>exact .data _ _ (.int k n)
 | str s=>exact .data _ _ (.str s)
 | agg cs vs hl h=>exact .data _ _ (.agg cs vs hl h)
 | sl es l a n cap b off vs hn hle hm hes ha hc hv=>exact .data _ _ (.sl es l a n cap b off vs hn hle hm hes ha hc hv)
 | tup cs vs hl h=>exact .data _ _ (.tup cs vs hl h)
 | fn f caps vs hl h=>exact .data _ _ (.fn f caps vs hl h)
 | mp ks xs b es clock hb hL hh hk hx h1 h2 hborn hclock=>exact .data _ _ (.mp ks xs b es clock hb hL hh hk hx h1 h2 hborn hclock)
 | bn f r v h=>exact .data _ _ (.bn f r v h)
 | nilf=>exact .data _ _ .nilf
 | ifc t d v h=>exact .data _ _ (.ifc t d v h)
 | nili=>exact .data _ _ .nili
 | nilp=>exact .data _ _ .nilp
 | nilm=>exact .data _ _ .nilm
inductive Scoped (k:Nat):D->Prop where
 | data (x:Data):Scoped k (.data x)
 | emp (es:Nat):Scoped k (.emp es)
 | ref (g off len es:Nat) (h:g<k):Scoped k (.ref g off len es)
 | ptr (g off:Nat) (h:g<k):Scoped k (.ptr g off)
 | cut (g off len cp es:Nat) (h:g<k):Scoped k (.cut g off len cp es)
 | mref (g:Nat) (h:g<k):Scoped k (.mref g)
 | iref (g:Nat) (h:g<k):Scoped k (.iref g)
 | cptr (cells:List Data):Scoped k (.cptr cells)
 | agg (cs:List D) (h:∀ (i:Nat) (x:D),cs[i]?=some x->Scoped k x):Scoped k (.agg cs)
 | fn (f:FuncId) (caps:List D) (h:∀ (i:Nat) (x:D),caps[i]?=some x->Scoped k x):Scoped k (.fn f caps)
 | bnd (f:FuncId) (r:D) (h:Scoped k r):Scoped k (.bnd f r)
 | tp (cs:List D) (h:∀ (i:Nat) (x:D),cs[i]?=some x->Scoped k x):Scoped k (.tp cs)
 | yld (l:Nat):Scoped k (.yld l)
 | ful (es:Nat) (l:List Data):Scoped k (.ful es l)
 | junk:Scoped k .junk
theorem VV.mono {L L':Nat->Prop} {w w':World} (hg:Grow L w L' w') {m m':Nat->MB} (hm:∀ g,m g≠.res->m' g=m g) {x:D} {v:Value} (h:VV L w m x v):VV L' w' m' x v:=by
 induction h with
 | data x v h=>exact .data x v (h.mono hg)
 | emp es a=>exact .emp es a
 | ref g off len es b sz cap o h1 h2 h3 h4 h5=>exact .ref g off len es b sz cap o (by rw[hm g (by rw[h1];intro e;cases e)];exact h1) h2 h3 h4 h5
 | ref0 g es a h1=>exact .ref0 g es a (by rw[hm g (by rw[h1];intro e;cases e)];exact h1)
 | ptr g off b sz h1=>exact .ptr g off b sz (by rw[hm g (by rw[h1];intro e;cases e)];exact h1)
 | cut g off len cp es b sz cap o h1 h2 h3 h4 h5 h6=>exact .cut g off len cp es b sz cap o (by rw[hm g (by rw[h1];intro e;cases e)];exact h1) h2 h3 h4 h5 h6
 | mref g b h1=>exact .mref g b (by rw[hm g (by rw[h1];intro e;cases e)];exact h1)
 | iref g b h1=>exact .iref g b (by rw[hm g (by rw[h1];intro e;cases e)];exact h1)
 | cptr cells b off vs hb hL hc hv=>exact .cptr cells b off vs (Nat.lt_of_lt_of_le hb hg.size) (hg.keep b hb hL).2 (fun i x hx=>by rw[hg.cell hb hL];exact hc i x hx) (fun i x hx=>(hv i x hx).mono hg)
 | agg cs vs hl _ ih=>exact .agg cs vs hl ih
 | fn f caps vs hl _ ih=>exact .fn f caps vs hl ih
 | bnd f r v _ ih=>exact .bnd f r v ih
 | tp cs vs hl _ ih=>exact .tp cs vs hl ih
 | yld l=>exact .yld l
 | ful es l a n h=>exact .ful es l a n (h.mono hg)
 | junk v=>exact .junk v
theorem VV.mono_below {L L':Nat->Prop} {w w':World} (hg:Grow L w L' w') {m m':Nat->MB} {k:Nat} (hm:∀ g,g<k->m' g=m g) {x:D} {v:Value} (h:VV L w m x v) (hs:Scoped k x):VV L' w' m' x v:=by
 induction h with
 | data x v h=>exact .data x v (h.mono hg)
 | emp es a=>exact .emp es a
 | ref g off len es b sz cap o h1 h2 h3 h4 h5=>cases hs with|ref _ _ _ _ hk=>exact .ref g off len es b sz cap o (by rw[hm g hk];exact h1) h2 h3 h4 h5
 | ref0 g es a h1=>cases hs with|ref _ _ _ _ hk=>exact .ref0 g es a (by rw[hm g hk];exact h1)
 | ptr g off b sz h1=>cases hs with|ptr _ _ hk=>exact .ptr g off b sz (by rw[hm g hk];exact h1)
 | cut g off len cp es b sz cap o h1 h2 h3 h4 h5 h6=>cases hs with|cut _ _ _ _ _ hk=>exact .cut g off len cp es b sz cap o (by rw[hm g hk];exact h1) h2 h3 h4 h5 h6
 | mref g b h1=>cases hs with|mref _ hk=>exact .mref g b (by rw[hm g hk];exact h1)
 | iref g b h1=>cases hs with|iref _ hk=>exact .iref g b (by rw[hm g hk];exact h1)
 | cptr cells b off vs hb hL hc hv=>exact .cptr cells b off vs (Nat.lt_of_lt_of_le hb hg.size) (hg.keep b hb hL).2 (fun i x hx=>by rw[hg.cell hb hL];exact hc i x hx) (fun i x hx=>(hv i x hx).mono hg)
 | agg cs vs hl _ ih=>cases hs with|agg _ h=>exact .agg cs vs hl fun i x v hx hv=>ih i x v hx hv (h i x hx)
 | fn f caps vs hl _ ih=>cases hs with|fn _ _ h=>exact .fn f caps vs hl fun i x v hx hv=>ih i x v hx hv (h i x hx)
 | bnd f r v _ ih=>cases hs with|bnd _ _ h=>exact .bnd f r v (ih h)
 | tp cs vs hl _ ih=>cases hs with|tp _ h=>exact .tp cs vs hl fun i x v hx hv=>ih i x v hx hv (h i x hx)
 | yld l=>exact .yld l
 | ful es l a n h=>exact .ful es l a n (h.mono hg)
 | junk v=>exact .junk v
theorem VV.scopd {L:Nat->Prop} {w:World} {m:Nat->MB} {k:Nat} (hm:∀ g,k<=g->m g = .res) {x:D} {v:Value} (h:VV L w m x v):Scoped k x:=by
 induction h with
 | data x v h=>exact .data x
 | emp es a=>exact .emp es
 | ref g off len es b sz cap o h1 h2 h3 h4 h5=>exact .ref _ _ _ _ (Nat.lt_of_not_le fun hk=>by rw[hm g hk] at h1;cases h1)
 | ref0 g es a h1=>exact .ref _ _ _ _ (Nat.lt_of_not_le fun hk=>by rw[hm g hk] at h1;cases h1)
 | ptr g off b sz h1=>exact .ptr _ _ (Nat.lt_of_not_le fun hk=>by rw[hm g hk] at h1;cases h1)
 | cut g off len cp es b sz cap o h1 h2 h3 h4 h5 h6=>exact .cut _ _ _ _ _ (Nat.lt_of_not_le fun hk=>by rw[hm g hk] at h1;cases h1)
 | mref g b h1=>exact .mref _ (Nat.lt_of_not_le fun hk=>by rw[hm g hk] at h1;cases h1)
 | iref g b h1=>exact .iref _ (Nat.lt_of_not_le fun hk=>by rw[hm g hk] at h1;cases h1)
 | cptr cells b off vs hb hL hc hv=>exact .cptr cells
 | agg cs vs hl _ ih =>
   exact .agg cs fun i x hx=>by
    have hi:i<vs.size:=by rw[<- hl];exact (List.getElem?_eq_some_iff.1 hx).1
    exact ih i x vs[i] hx (Array.getElem?_eq_getElem hi)
 | fn f caps vs hl _ ih =>
   exact .fn f caps fun i x hx=>by
    have hi:i<vs.size:=by rw[<- hl];exact (List.getElem?_eq_some_iff.1 hx).1
    exact ih i x vs[i] hx (Array.getElem?_eq_getElem hi)
 | bnd f r v _ ih=>exact .bnd f r ih
 | tp cs vs hl _ ih =>
   exact .tp cs fun i x hx=>by
    have hi:i<vs.size:=by rw[<- hl];exact (List.getElem?_eq_some_iff.1 hx).1
    exact ih i x vs[i] hx (Array.getElem?_eq_getElem hi)
 | yld l=>exact .yld l
 | ful es l a n h=>exact .ful es l
 | junk v=>exact .junk
structure St where
 env:Nat->D
 hp:Nat->Blk
 nx:Nat
 lo:Nat
 nt:Nat
def Blk.rw:Blk->Bool
 | .blk rw _=>rw
 | .obj _=>true
 | .dead=>false
def Live (L0:Nat->Prop) (m:Nat->MB) (H:Nat->Blk):Nat->Prop:=fun b=>L0 b \/ ∃ g sz,(H g).rw=true/\m g = .at b sz
theorem Blk.rw_inv {b:Blk} (h:b.rw=true):(∃ cells,b = .blk true cells) \/ ∃ o,b = .obj o:=by
 cases b with
 | dead=>cases h
 | blk rw cells=>cases h;exact .inl ⟨_,rfl⟩
 | obj o=>exact .inr ⟨_,rfl⟩
def Glob (Γ:Nat->Option (List Data)) (L:Nat->Prop) (w:World):Prop :=
 ∀ g cells,Γ g=some cells->VV L w (fun _=>.res) (.cptr cells) (.pointer (some ⟨g,0,none⟩))
theorem Glob.mono {Γ:Nat->Option (List Data)} {L L':Nat->Prop} {w w':World} (hg:Grow L w L' w') (h:Glob Γ L w):Glob Γ L' w' :=
 fun g cells hc=>(h g cells hc).mono hg (fun _ _=>rfl)
def BlkAt (L:Nat->Prop) (w:World) (m:Nat->MB) (own:Nat->Prop) (g:Nat) (rw:Bool) (cells:List D):Prop :=
 (m g = .nil/\cells=[]) \/ ∃ b sz vs ty,m g = .at b sz/\own b/\(rw=false->¬ L b)/\w.heap[b]?=some (.cells vs ty (0,0))/\vs.size=sz/\cells.length<=sz /\
   ∀ (i:Nat) (d:D),cells[i]?=some d->∃ v,vs[i]?=some v/\v.oneCell'=true/\VV L w m d v
inductive ObIs (L:Nat->Prop) (w:World) (m:Nat->MB):Ob->Obj->Prop where
 | mp (ks:List Data) (xs:List D) (es:Array MapEntry) (clock:Nat) (hk:ks.length=es.size) (hx:xs.length=es.size)
    (hkv:∀ (i:Nat) (x:Data) (e:MapEntry),ks[i]?=some x->es[i]?=some e->VD L w x e.key) (hxv:∀ (i:Nat) (x:D) (e:MapEntry),xs[i]?=some x->es[i]?=some e->VV L w m x e.val)
    (hborn:∀ (i:Nat) (e:MapEntry),es[i]?=some e->e.born=i) (hclock:clock=es.size):ObIs L w m (.mp ks xs) (.map es clock)
 | it (ks xs:List Data) (left:List Nat) (cur:Option Nat) (b:Nat) (seen:Array Nat) (hv:VD L w (.mp ks xs) (.map (some b)))
    (hleft:∀ i,i∈left ↔ i<ks.length/\i ∉ seen) (hcur:∀ i,cur=some i->seen.back?=some i/\i<ks.length):ObIs L w m (.it ks xs left cur) (.mapIter (some b) ks.length seen ks.length)
 | si (s:ByteArray) (pos:Nat):ObIs L w m (.si s pos) (.stringIter s pos)
theorem ObIs.mono {L L':Nat->Prop} {w w':World} (hg:Grow L w L' w') {m m':Nat->MB} (hm:∀ g,m g≠.res->m' g=m g) {o:Ob} {v:Obj} (h:ObIs L w m o v):ObIs L' w' m' o v:=by
 cases h with
 | mp ks xs es clock hk hx h1 h2 h3 h4=>exact .mp ks xs es clock hk hx (fun i x e a b=>(h1 i x e a b).mono hg) (fun i x e a b=>(h2 i x e a b).mono hg hm) h3 h4
 | it ks xs left cur b seen hv h1 h2=>exact .it ks xs left cur b seen (hv.mono hg) h1 h2
 | si s pos=>exact .si s pos
theorem ObIs.not_cells {L:Nat->Prop} {w:World} {m:Nat->MB} {o:Ob} {vs:Array Value} {ty:TypeId} {fz:Nat×Nat} (h:ObIs L w m o (.cells vs ty fz)):False:=by cases h
def Ob.scopd (k:Nat):Ob->Prop
 | .mp _ xs=>∀ d∈xs,Scoped k d
 | .it _ _ _ _=>True
 | .si _ _=>True
theorem ObIs.mono_below {L L':Nat->Prop} {w w':World} (hg:Grow L w L' w') {m m':Nat->MB} {k:Nat} (hm:∀ g,g<k->m' g=m g) {o:Ob} {v:Obj} (h:ObIs L w m o v) (hs:o.scopd k):ObIs L' w' m' o v:=by
 cases h with
 | mp ks xs es clock hk hx h1 h2 h3 h4=>exact .mp ks xs es clock hk hx (fun i x e a b=>(h1 i x e a b).mono hg) (fun i x e a b=>(h2 i x e a b).mono_below hg hm (hs x (List.mem_of_getElem? a))) h3 h4
 | it ks xs left cur b seen hv h1 h2=>exact .it ks xs left cur b seen (hv.mono hg) h1 h2
 | si s pos=>exact .si s pos
theorem ObIs.scopd {L:Nat->Prop} {w:World} {m:Nat->MB} {k:Nat} (hm:∀ g,k<=g->m g = .res) {o:Ob} {v:Obj} (h:ObIs L w m o v):o.scopd k:=by
 cases h with
 | mp ks xs es clock hk hx h1 h2 h3 h4 =>
   intro d hd;obtain⟨i,hi⟩:=List.getElem?_of_mem hd;have hlt:i<es.size:=by rw[<- hx];exact (List.getElem?_eq_some_iff.1 hi).1
   exact (h2 i d es[i] hi (Array.getElem?_eq_getElem hlt)).scopd hm
 | it=>trivial
 | si=>trivial
structure W0 where
 w:World
 base:Nat
 le:base<=w.heap.size
def W0.of (w:World):W0:=⟨w,w.heap.size,Nat.le_refl _⟩
def Own (L0:Nat->Prop) (base b:Nat):Prop:=base<=b/\¬ L0 b
def ObjAt (L:Nat->Prop) (w:World) (m:Nat->MB) (own:Nat->Prop) (g:Nat) (o:Ob):Prop:=∃ b v,m g = .at b 0/\own b/\w.heap[b]?=some v/\ObIs L w m o v
structure HR (L0:Nat->Prop) (base:Nat) (m:Nat->MB) (H:Nat->Blk) (w:World):Prop where
 blk:∀ g rw cells,H g = .blk rw cells->BlkAt (Live L0 m H) w m (Own L0 base) g rw cells
 inj:∀ g g' cells rw' cells' b sz sz',H g = .blk true cells->H g' = .blk rw' cells'->m g = .at b sz->m g' = .at b sz'->g=g'
 obj:∀ g o,H g = .obj o->ObjAt (Live L0 m H) w m (Own L0 base) g o
 injO:∀ g g' o o' b sz sz',H g = .obj o->H g' = .obj o'->m g = .at b sz->m g' = .at b sz'->g=g'
structure Rel (Γ:Nat->Option (List Data)) (L0:Nat->Prop) (w0:W0) (m:Nat->MB) (s:St) (a:Act) (w:World):Prop where
 defers:a.defers=[]
 vals:∀ t,VV (Live L0 m s.hp) w m (s.env t) (a.tmps.getD t undef)
 heap:HR L0 w0.base m s.hp w
 res:∀ g,s.nx<=g->m g = .res
 dead:∀ g,s.nx<=g->s.hp g = .dead
 below:Below w0.base w0.w w
 l0:∀ b,L0 b->b<w.heap.size/\w.heap[b]?=w0.w.heap[b]?
 glob:Glob Γ (Live L0 m s.hp) w
 lo:s.lo<=s.nx
 slots:a.tmps.size=s.nt
theorem Rel.size {Γ:Nat->Option (List Data)} {L0:Nat->Prop} {w0:W0} {m:Nat->MB} {s:St} {a:Act} {w:World} (h:Rel Γ L0 w0 m s a w):w0.base<=w.heap.size:=Nat.le_trans w0.le h.below.size
def Env.set (e:Nat->D) (t:Nat) (d:D):Nat->D:=fun j=>if j=t then d else e j
def Env.dst (e:Nat->D) (t:Option Nat) (d:D):Nat->D:=match t with
 | some t=>Env.set e t d
 | none=>e
def Hp.set (H:Nat->Blk) (g:Nat) (b:Blk):Nat->Blk:=fun j=>if j=g then b else H j
def Hp.upd (H:Nat->Blk):List (Nat×Blk)->Nat->Blk
 | []=>H
 | (g,b)::l=>Hp.upd (Hp.set H g b) l
def cD:Value->D
 | .bool b=>.data (.bool b)
 | .int k n=>.data (.int k n)
 | .string s=>.data (.str s)
 | .slice none 0 0=>.emp 0
 | .pointer none=>.data .nilp
 | .map none=>.data .nilm
 | .nilIface=>.data .nili
 | .nilFunc=>.data .nilf
 | _=>.junk
section
variable (P:Program)
def szT (t:TypeId):Option Nat:=(P.info? t).map (·.size)
def byT (t:TypeId):Option Nat:=(P.info? t).map (·.bytes)
def zeT (t:TypeId):Option (List D):=(P.info? t).bind fun i=>i.zero.map fun v=>v.cells.toList.map cD
def zlT (t:TypeId):Option Nat:=(P.info? t).bind fun i=>i.zero.map fun v=>v.cells.size
def aggT (t:TypeId):Option Bool:=match P.underlying t with
 | some (.struct _)|some (.array _ _)=>some true
 | some _=>some false
 | none=>none
def sliceT (t:TypeId):Option TypeId:=match P.underlying t with
 | some (.slice e)=>some e
 | _=>none
def arrT (t:TypeId):Option (Nat×TypeId):=match P.underlying t with
 | some (.array n e)=>some (n,e)
 | _=>none
def intT (t:TypeId):Option IntKind:=match P.underlying t with
 | some (.int k)=>some k
 | _=>none
def boolT (t:TypeId):Bool:=match P.underlying t with
 | some .bool=>true
 | _=>false
def strT (t:TypeId):Bool:=match P.underlying t with
 | some .string=>true
 | _=>false
def bytT (t:TypeId):Bool:=match P.underlying t with
 | some (.slice e)=>(match P.underlying e with
   | some (.int .u8)=>true
   | _=>false)
 | _=>false
def concT (t:TypeId):Bool:=P.concrete t
def MethOk (name:String) (t:TypeId) (f:FuncId):Prop :=
 ∀ (x:Value) (args:Array Value) (w:World),(invoke (.fn (.method name) #[]) (#[.iface t x]++args)).run P w = .ok (.enter f (#[x]++args)) w
def fldT (t:TypeId) (f:Nat):Option (Nat×TypeId):=match P.underlying t with
 | some (.struct fs)=>(fs[f]?).map fun x=>(x.offset,x.type)
 | _=>none
variable (Γ:Nat->Option (List Data))
def evalD (e:Nat->D):Operand->D
 | .tmp t=>e t
 | .const v=>cD v
 | .global g=>match Γ g with
   | some cells=>.cptr cells
   | none=>.junk
 | .func f=>.data (.fn f [])
def fnD:D->Option (FuncId×List D×List D)
 | .data (.fn f caps)=>some (f,[],caps.map toD)
 | .data (.bn f r)=>some (f,[toD r],[])
 | .fn f caps=>some (f,[],caps)
 | .bnd f r=>some (f,[r],[])
 | _=>none
def EqR (t:TypeId) (x y:Data) (b:Bool):Prop :=
 ∀ (L:Nat->Prop) (w:World) (ox oy:Operand) (vx vy:Value),VD L w x vx->VD L w y vy->(∀ op:BinOp,(eqGuard op t ox oy vx vy).run P w = .ok () w)/\(Op.equal t vx vy).run P w = .ok b w
def CallOk (f:FuncId):Prop:=∀ (args:Array Value) (w:World),(callFunc f args).run P w = .ok (.enter f args) w
def PC (f:FuncId) (xs:List Data) (r:Data):Prop:=CallOk P f /\
 ∀ (L:Nat->Prop) (w:World) (vs:Array Value),Glob Γ L w->(∀ b,L b->b<w.heap.size)->xs.length=vs.size->(∀ (i:Nat) (x:Data) (v:Value),xs[i]?=some x->vs[i]?=some v->VD L w x v) →
  Calls P f vs w fun e w'=>∃ v,e = .returned v/\VD L w' r v/\Below w.heap.size w w'
inductive Frz (ok:Bool) (H:Nat->Blk):D->Data->Prop where
 | data (x:Data):Frz ok H (.data x) x
 | emp (es es':Nat):Frz ok H (.emp es) (.sl es' [])
 | ref (g off len es:Nat) (rw:Bool) (cells:List D) (l:List Data) (ds:Nat->D) (hg:H g = .blk rw cells) (hrw:ok=true \/ rw=false) (hl:l.length=len) (hes:∀ x∈l,x.cells.length=es) (hfit:off+len*es<=cells.length)
    (hc:∀ (i:Nat) (x:Data),(flat l)[i]?=some x->cells[off+i]?=some (ds i)) (hv:∀ (i:Nat) (x:Data),(flat l)[i]?=some x->Frz ok H (ds i) x):Frz ok H (.ref g off len es) (.sl es l)
 | cut (g off len cp es:Nat) (rw:Bool) (cells:List D) (l:List Data) (ds:Nat->D) (hg:H g = .blk rw cells) (hrw:ok=true \/ rw=false) (hl:l.length=len) (hes:∀ x∈l,x.cells.length=es) (hfit:off+len*es<=cells.length)
    (hc:∀ (i:Nat) (x:Data),(flat l)[i]?=some x->cells[off+i]?=some (ds i)) (hv:∀ (i:Nat) (x:Data),(flat l)[i]?=some x->Frz ok H (ds i) x):Frz ok H (.cut g off len cp es) (.sl es l)
 | agg (cs:List D) (xs:List Data) (hl:cs.length=xs.length) (h:∀ (i:Nat) (d:D) (x:Data),cs[i]?=some d->xs[i]?=some x->Frz ok H d x):Frz ok H (.agg cs) (.agg xs)
 | fn (f:FuncId) (cs:List D) (xs:List Data) (hl:cs.length=xs.length) (h:∀ (i:Nat) (d:D) (x:Data),cs[i]?=some d->xs[i]?=some x->Frz ok H d x):Frz ok H (.fn f cs) (.fn f xs)
 | bnd (f:FuncId) (c:D) (x:Data) (h:Frz ok H c x):Frz ok H (.bnd f c) (.bn f x)
 | mref (g:Nat) (ks xs:List Data) (ds:List D) (hok:ok=true) (hg:H g = .obj (.mp ks ds)) (hl:ds.length=xs.length) (h:∀ (i:Nat) (d:D) (x:Data),ds[i]?=some d->xs[i]?=some x->Frz ok H d x):Frz ok H (.mref g) (.mp ks xs)
 | cptr (cells:List Data):Frz ok H (.cptr cells) (.pc cells)
 | ful (es:Nat) (l:List Data):Frz ok H (.ful es l) (.sl es l)
 | ptr (g off:Nat) (rw:Bool) (cells:List D) (l:List Data) (ds:Nat->D) (hg:H g = .blk rw cells) (hrw:ok=true \/ rw=false)
    (hc:∀ (i:Nat) (x:Data),l[i]?=some x->cells[off+i]?=some (ds i)) (hv:∀ (i:Nat) (x:Data),l[i]?=some x->Frz ok H (ds i) x):Frz ok H (.ptr g off) (.pc l)
def FrzL (ok:Bool) (H:Nat->Blk) (ds:List D) (xs:List Data):Prop:=ds.length=xs.length/\∀ (i:Nat) (d:D) (x:Data),ds[i]?=some d->xs[i]?=some x->Frz ok H d x
inductive Bare:Data->Prop where
 | bool (b:Bool):Bare (.bool b)
 | int (k:IntKind) (n:Int):Bare (.int k n)
 | str (s:ByteArray):Bare (.str s)
 | agg (cs:List Data) (h:∀ x∈cs,Bare x):Bare (.agg cs)
 | tup (cs:List Data) (h:∀ x∈cs,Bare x):Bare (.tup cs)
 | nilf:Bare .nilf
 | nili:Bare .nili
 | nilp:Bare .nilp
 | nilm:Bare .nilm
def fz:Blk->Blk
 | .blk _ cells=>.blk false cells
 | .obj o=>.obj o
 | .dead=>.dead
def callK (f:FuncId) (ds:List D) (H:Nat->Blk) (K:D->List Nat->List (Nat×Blk)->Prop):Prop :=
 ∃ (F:List Nat) (xs:List Data) (r:Data) (rd:List Nat),(∀ g∈F,∃ rw cells,H g = .blk rw cells)/\PC P Γ f xs r /\
  ((F=[]/\Bare r/\∀ H',(∀ g∈rd,H' g=H g)->FrzL true H' ds xs) \/ ∀ H',(∀ g∈rd,H' g=H g)->FrzL false (Hp.upd H' (F.map fun g=>(g,fz (H g)))) ds xs) /\
  K (.data r) rd (F.map fun g=>(g,fz (H g)))
def boolD (b:Bool):D:=.data (.bool b)
def intD (k:IntKind) (n:Int):D:=.data (.int k n)
def cmpI (op:BinOp) (a b:Int):Option Bool:=match op with
 | .eql=>some (decide (a=b))
 | .neq=>some (!decide (a=b))
 | .lss=>some (decide (a<b))
 | .leq=>some (decide (a<=b))
 | .gtr=>some (decide (b<a))
 | .geq=>some (decide (b<=a))
 | _=>none
def eqK (t:TypeId) (x y:Data) (K:Bool->Prop):Prop:=∃ b,EqR P t x y b/\K b
def binK (op:BinOp) (t:TypeId) (x y:D) (K:D->Prop):Prop:=match x,y with
 | .data (.int k a),.data (.int k' b)=>(match op with
   | .add=>k=k'/\K (intD k (k.wrap (a+b)))
   | .sub=>k=k'/\K (intD k (k.wrap (a-b)))
   | .mul=>k=k'/\K (intD k (k.wrap (a*b)))
   | .quo=>k=k'/\b≠0/\K (intD k (k.wrap (a.tdiv b)))
   | .rem=>k=k'/\b≠0/\K (intD k (a.tmod b))
   | .and=>k=k'/\K (intD k (k.wrap (BitVec.ofInt k.bits a &&& BitVec.ofInt k.bits b).toNat))
   | .or=>k=k'/\K (intD k (k.wrap (BitVec.ofInt k.bits a ||| BitVec.ofInt k.bits b).toNat))
   | .xor=>k=k'/\K (intD k (k.wrap (BitVec.ofInt k.bits a ^^^ BitVec.ofInt k.bits b).toNat))
   | .andNot=>k=k'/\K (intD k (k.wrap (BitVec.ofInt k.bits a &&& ~~~(BitVec.ofInt k.bits b)).toNat))
   | .shl=>0<=b/\K (intD k (k.wrap (a*2 ^ (min b.toNat k.bits))))
   | .shr=>0<=b/\K (intD k (a.fdiv (2 ^ (min b.toNat k.bits))))
   | op=>k=k'/\(match cmpI op a b with
     | some c=>K (boolD c)
     | none=>False))
 | .data (.str a),.data (.str b)=>(match op with
   | .add=>a.size+b.size<=4611686018427387904/\K (.data (.str (a++b)))
   | .eql=>K (boolD (decide (a=b)))
   | .neq=>K (boolD (!decide (a=b)))
   | .lss=>K (boolD (Op.bytesLess a.toList b.toList))
   | .leq=>K (boolD (Op.bytesLess a.toList b.toList || decide (a=b)))
   | .gtr=>K (boolD (!(Op.bytesLess a.toList b.toList || decide (a=b))))
   | .geq=>K (boolD (!Op.bytesLess a.toList b.toList))
   | _=>False)
 | .data (.bool a),.data (.bool b)=>boolT P t=true/\(match op with
   | .eql=>K (boolD (a == b))
   | .neq=>K (boolD (!(a == b)))
   | _=>False)
 | .data x,.data y=>(match op with
   | .eql=>eqK P t x y fun b=>K (boolD b)
   | .neq=>eqK P t x y fun b=>K (boolD (!b))
   | _=>False)
 | _,_=>False
def unK (op:UnOp) (x:D) (K:D->Prop):Prop:=match op,x with
 | .neg,.data (.int k n)=>K (intD k (k.wrap (0-n)))
 | .xor,.data (.int k n)=>K (intD k (k.wrap (BitVec.ofInt k.bits (if k.signed then -1 else k.max) ^^^ BitVec.ofInt k.bits n).toNat))
 | .not,.data (.bool b)=>K (boolD (!b))
 | _,_=>False
def loadK (t:TypeId) (x:D) (H:Nat->Blk) (K:D->List Nat->Prop):Prop:=match x with
 | .ptr g off=>(match H g with
   | .blk _ cells=>(match aggT P t,szT P t with
     | some true,some n=>off+n<=cells.length/\K (mkAgg ((cells.drop off).take n)) [g]
     | some false,_=>∃ d,cells[off]?=some d/\K d [g]
     | _,_=>False)
   | _=>False)
 | .cptr cells=>(match aggT P t,szT P t with
    | some true,some n=>n<=cells.length/\K (.data (.agg (cells.take n))) []
    | some false,_=>∃ d,cells[0]?=some d/\K (.data d) []
    | _,_=>False)
 | _=>False
def over (cells:List D) (off:Nat):List D->List D
 | [d]=>cells.set off d
 | vs=>cells.take off++vs++cells.drop (off+vs.length)
def storeK (t:TypeId) (x v:D) (H:Nat->Blk) (K:List (Nat×Blk)->Prop):Prop:=match x with
 | .ptr g off=>(match H g with
   | .blk true cells=>szT P t=some v.cells.length/\v.cells.all D.cell=true/\off+v.cells.length<=cells.length/\K [(g,.blk true (over cells off v.cells))]
   | _=>False)
 | _=>False
def fillD (place:Nat->Option (Nat×Nat)) (cells:List D):List (Nat×D)->Option (List D)
 | []=>some cells
 | (i,d)::rest=>match place i with
   | none=>none
   | some (off,size)=>if d.cells.length=size/\off+size<=cells.length/\d.cells.all D.cell=true then fillD place (over cells off d.cells) rest else none
def plT (t:TypeId):Option (List (Nat×Nat)):=match P.underlying t with
 | some (.struct fs)=>fs.toList.mapM fun f=>(P.info? f.type).map fun i=>(f.offset,i.size)
 | _=>none
def buildK (t:TypeId) (parts:List (Nat×D)) (K:D->Prop):Prop:=match zeT P t with
 | some z=>(match arrT P t with
   | some (_,e)=>(match szT P e with
     | some n=>(match fillD (fun i=>some (i*n,n)) z parts with
       | some cells=>K (mkAgg cells)
       | none=>False)
     | none=>False)
   | none=>(match plT P t with
     | some places=>(match fillD (fun i=>places[i]?) z parts with
       | some cells=>K (mkAgg cells)
       | none=>False)
     | none=>False))
 | none=>False
def srcK (x:D) (es:Nat) (H:Nat->Blk) (K:Nat->List D->List Nat->Prop):Prop:=match x with
 | .emp _=>K 0 [] []
 | .data (.sl es' l)=>es'=es/\K l.length ((flat l).map .data) []
 | .ref g off len es'=>es'=es/\(match H g with
   | .blk _ cells=>off+len*es<=cells.length/\K len ((cells.drop off).take (len*es)) [g]
   | _=>False)
 | .cut g off len cp es'=>es'=es/\(match H g with
   | .blk _ cells=>off+len*es<=cells.length/\K len ((cells.drop off).take (len*es)) [g]
   | _=>False)
 | .data (.str s)=>es=1/\K s.size (s.toList.map fun b=>intD .u8 b.toNat) []
 | _=>False
def zerosK (e:TypeId) (n:Nat) (K:List D->Prop):Prop:=match zeT P e with
 | some z=>z.all D.cell=true/\szT P e=some z.length/\0<z.length/\K (List.replicate n z).flatten
 | none=>False
def ovr (cells:List D) (k:Nat) (cs:List D):List D:=cells.take k++(cs++cells.drop (k+cs.length))
def appendK (st xt:TypeId) (x y:D) (H:Nat->Blk) (fr:Nat) (K:D->List Nat->List (Nat×Blk)->Prop):Prop :=
 match sliceT P st with
 | some e=>(match szT P e,byT P e with
   | some es,some by_=>0<es/\zlT P e=some es /\
     (match x with
     | .emp _=>(if (intT P xt).isSome then (match y with
        | .data (.int _ n)=>0<n/\n*by_<=140737488355328/\n<=140737488355328/\zerosK P e n.toNat fun z=>K (.cut fr 0 n.toNat n.toNat es) [] [(fr,.blk true z)]
        | _=>False)
       else ((sliceT P xt).isSome || strT P xt)=true/\srcK y es H fun n cs rd=>cs.all D.cell=true/\n*by_<=140737488355328/\n<=140737488355328/\K (.ref fr 0 n es) rd [(fr,.blk true cs)])
     | .ref g 0 len es'=>es'=es/\(match H g with
       | .blk true cells=>cells.length=len*es/\(if (intT P xt).isSome then (match y with
          | .data (.int _ n)=>0<=n/\(len+n)*by_<=140737488355328/\len+n<=140737488355328/\zerosK P e n.toNat fun z=>K (.ref fr 0 (len+n.toNat) es) [g] [(g,.dead),(fr,.blk true (cells++z))]
          | _=>False)
         else ((sliceT P xt).isSome || strT P xt)=true/\srcK y es H fun n cs rd=>cs.all D.cell=true/\(len+n)*by_<=140737488355328/\len+n<=140737488355328/\K (.ref fr 0 (len+n) es) (g::rd) [(g,.dead),(fr,.blk true (cells++cs))])
       | _=>False)
     | .cut g off len cp es'=>es'=es/\(match H g with
       | .blk true cells=>(intT P xt).isSome=false/\((sliceT P xt).isSome || strT P xt)=true/\(match decide (off+cp*es<=cells.length) with
         | true=>srcK y es H fun n cs rd=>cs.all D.cell=true/\len+n<=cp/\K (.cut g off (len+n) cp es) (g::rd) [(g,.blk true (over cells (off+len*es) cs))]
         | false=>off=0/\len*es<=cells.length/\srcK y es H fun n cs rd=>cs.all D.cell=true/\len+n<=cp/\K (.cut g 0 (len+n) cp es) (g::rd) [(g,.blk true (ovr cells (len*es) cs))])
       | _=>False)
     | .ful es' l=>es'=es/\((flat l).map D.data).all D.cell=true/\(intT P xt).isSome=false/\((sliceT P xt).isSome || strT P xt)=true/\srcK y es H fun n cs rd=>cs.all D.cell=true/\0<n/\(l.length+n)*by_<=140737488355328/\l.length+n<=140737488355328/\K (.ref fr 0 (l.length+n) es) rd [(fr,.blk true ((flat l).map D.data++cs))]
     | _=>False)
   | _,_=>False)
 | none=>False
def clearK (t:TypeId) (x:D) (H:Nat->Blk) (K:D->List Nat->List (Nat×Blk)->Prop):Prop :=
 match sliceT P t with
 | some e=>(match x with
   | .emp _=>K (.data (.tup [])) [] []
   | .ref g off len es=>(match H g with
     | .blk true cells=>szT P e=some es/\off+len*es<=cells.length/\zerosK P e len fun z=>K (.data (.tup [])) [g] [(g,.blk true (over cells off z))]
     | _=>False)
   | .cut g off len _ es=>(match H g with
     | .blk true cells=>szT P e=some es/\off+len*es<=cells.length/\zerosK P e len fun z=>K (.data (.tup [])) [g] [(g,.blk true (over cells off z))]
     | _=>False)
   | _=>False)
 | none=>False
def copyK (st:TypeId) (x y:D) (H:Nat->Blk) (K:D->List Nat->List (Nat×Blk)->Prop):Prop :=
 match sliceT P st with
 | some e=>(match szT P e with
   | some es=>(match x with
     | .ref g off len es'=>es'=es/\(match H g with
       | .blk true cells=>off+len*es<=cells.length/\srcK y es H fun n cs rd=>cs.all D.cell=true/\K (intD .i64 (min n len:Nat)) (g::rd) [(g,.blk true (over cells off (cs.take (min n len*es))))]
       | _=>False)
     | _=>False)
   | none=>False)
 | none=>False
def lenK (t:TypeId) (x:D) (K:D->Prop):Prop:=match x with
 | .data (.str s)=>strT P t=true/\K (intD .i64 s.size)
 | .data (.sl _ l)=>(sliceT P t).isSome=true/\K (intD .i64 l.length)
 | .ref _ _ len _=>(sliceT P t).isSome=true/\K (intD .i64 len)
 | .cut _ _ len _ _=>(sliceT P t).isSome=true/\K (intD .i64 len)
 | .emp _=>(sliceT P t).isSome=true/\K (intD .i64 0)
 | .ful _ l=>(sliceT P t).isSome=true/\K (intD .i64 l.length)
 | _=>match arrT P t with
   | some (n,_)=>K (intD .i64 n)
   | none=>False
def capK (t:TypeId) (x:D) (K:D->Prop):Prop:=match x with
 | .emp _=>(sliceT P t).isSome=true/\K (intD .i64 0)
 | _=>False
def natD:D->Option Int
 | .data (.int _ n)=>some n
 | _=>none
def boundsK (len:Nat) (lo hi:Option D) (K:Nat->Nat->Prop):Prop :=
 match (match lo with|none=>some 0|some d=>natD d),(match hi with|none=>some (len:Int)|some d=>natD d) with
 | some l,some h=>0<=l/\l<=h/\h<=len/\K l.toNat h.toNat
 | _,_=>False
def boundsC (len cp:Nat) (lo hi mx:Option D) (K:Nat->Nat->Nat->Prop):Prop :=
 match (match lo with|none=>some 0|some d=>natD d),(match hi,mx with|none,none=>some (len:Int)|none,some _=>none|some d,_=>natD d),(match mx with|none=>some (cp:Int)|some d=>natD d) with
 | some l,some h,some m=>0<=l/\l<=h/\h<=m/\m<=cp/\K l.toNat h.toNat m.toNat
 | _,_,_=>False
def cutK (t:TypeId) (g off len cp es:Nat) (lo hi mx:Option D) (K:D->Prop):Prop:=match sliceT P t with
 | some e=>szT P e=some es/\boundsC len cp lo hi mx fun a b c=>K (.cut g (off+a*es) (b-a) (c-a) es)
 | none=>False
def sliceK (t:TypeId) (x:D) (lo hi mx:Option D) (K:D->Prop):Prop :=
 match mx with
 | some m=>(match x with
   | .data (.sl es l)=>(match sliceT P t with
     | some e=>szT P e=some es/\boundsC l.length l.length lo hi (some m) fun a b c=>b=c/\K (.ful es ((l.take b).drop a))
     | none=>False)
   | _=>False)
 | none=>match x with
   | .data (.str s)=>strT P t=true/\boundsK s.size lo hi fun l h=>K (.data (.str (s.extract l h)))
   | .data (.sl es l)=>(match sliceT P t with
     | some e=>szT P e=some es/\boundsK l.length lo hi fun a b=>K (.data (.sl es ((l.take b).drop a)))
     | none=>False)
   | .ref g off len es=>(match sliceT P t with
     | some e=>szT P e=some es/\boundsK len lo hi fun a b=>K (.ref g (off+a*es) (b-a) es)
     | none=>False)
   | .emp es=>(match sliceT P t with
     | some e=>szT P e=some es/\boundsK 0 lo hi fun a b=>K (.emp es)
     | none=>False)
   | _=>False
def sliceArrK (t:TypeId) (x:D) (lo hi mx:Option D) (H:Nat->Blk) (K:D->List Nat->Prop):Prop :=
 match mx with
 | some _=>False
 | none=>match x,arrT P t with
   | .ptr g off,some (n,e)=>(match szT P e,H g with
     | some es,.blk _ cells=>n<=9223372036854775807/\off+n*es<=cells.length/\boundsK n lo hi fun a b=>K (.ref g (off+a*es) (b-a) es) [g]
     | _,_=>False)
   | .cptr cells,some (n,e)=>szT P e=some 1/\n<=9223372036854775807/\n<=cells.length/\(∀ x∈cells.take n,x.cell=true)/\boundsK n lo hi fun a b=>K (.data (.sl 1 (((cells.take n).take b).drop a))) []
   | _,_=>False
def arrPtrK (t:TypeId) (x:D) (K:D->Prop):Prop:=match arrT P t,x with
 | some (n,_),.data (.sl _ l)=>0<n/\n<=l.length/\K (.cptr (flat l))
 | some (n,_),.ref g off len _=>0<n/\n<=len/\K (.ptr g off)
 | _,_=>False
def indexAddrK (t:TypeId) (x ix:D) (K:D->Prop):Prop:=match ix with
 | .data (.int _ i)=>(match x with
   | .data (.sl es l)=>(match sliceT P t with
     | some e=>szT P e=some es/\0<=i/\∃ y,l[i.toNat]?=some y/\K (.cptr y.cells)
     | none=>False)
   | .ref g off len es=>(match sliceT P t with
     | some e=>szT P e=some es/\0<=i/\i<len/\K (.ptr g (off+i.toNat*es))
     | none=>False)
   | .ptr g off=>(match arrT P t with
     | some (n,e)=>0<=i/\i<n/\(match szT P e with
       | some es=>K (.ptr g (off+i.toNat*es))
       | none=>False)
     | none=>False)
   | .cptr cells=>(match arrT P t with
     | some (n,e)=>0<=i/\i<n/\(match szT P e with
       | some es=>K (.cptr (cells.drop (i.toNat*es)))
       | none=>False)
     | none=>False)
   | _=>False)
 | _=>False
def fieldAddrK (t:TypeId) (x:D) (f:Nat) (K:D->Prop):Prop:=match fldT P t f with
 | some (o,ft)=>(match szT P ft with
   | some (_+1)=>(match x with
     | .ptr g off=>K (.ptr g (off+o))
     | .cptr cells=>K (.cptr (cells.drop o))
     | _=>False)
   | _=>False)
 | none=>False
def partK (t:TypeId) (cs:List D) (off:Nat) (K:D->Prop):Prop :=
 match aggT P t,szT P t with
 | some true,some n=>off+n<=cs.length/\K (mkAgg ((cs.drop off).take n))
 | some false,_=>∃ d,cs[off]?=some d/\K d
 | _,_=>False
def aggD:D->Option (List D)
 | .data (.agg cs)=>some (cs.map .data)
 | .agg cs=>some cs
 | _=>none
def fieldK (t:TypeId) (x:D) (f:Nat) (K:D->Prop):Prop:=match fldT P t f,aggD x with
 | some (o,ft),some cs=>partK P ft cs o K
 | _,_=>False
def indexK (t:TypeId) (x ix:D) (K:D->Prop):Prop:=match ix with
 | .data (.int _ i)=>(match x with
   | .data (.str s)=>strT P t=true/\0<=i/\∃ b,s[i.toNat]?=some b/\K (intD .u8 b.toNat)
   | x=>match arrT P t,aggD x with
     | some (n,e),some cs=>0<=i/\i<n/\(match szT P e with
       | some es=>partK P e cs (i.toNat*es) K
       | none=>False)
     | _,_=>False)
 | _=>False
def convK (src dst:TypeId) (x:D) (K:D->Prop):Prop:=match x with
 | .data (.int _ n)=>(match intT P dst with
   | some k=>K (intD k (k.wrap n))
   | none=>False)
 | .data (.str s)=>strT P dst=true/\K (.data (.str s))
 | .data (.sl es l)=>es=1/\strT P dst=true/\(match sliceT P src with|some e=>intT P e=some .u8|none=>False)/\∃ bs:List UInt8,l=bs.map (fun b=>Data.int .u8 (b.toNat:Int))/\K (.data (.str ⟨bs.toArray⟩))
 | _=>False
def markK (src dst:TypeId) (g off len es:Nat) (H:Nat->Blk) (K:D->List (Nat×Blk)->Prop):Prop :=
 src=dst/\off=0/\es=1/\0<len/\(match sliceT P dst with
  | some e=>intT P e=some .u8/\(match H g with
    | .blk true cells=>(match allData cells with
      | some l=>l.length=len/\l.all Data.cell=true/\K (.data (.sl 1 l)) [(g,.dead)]
      | none=>False)
    | _=>False)
  | none=>False)
def minmaxK (big:Bool) (ds:List D) (K:D->Prop):Prop:=match ds with
 | [.data (.int k a),.data (.int k' b)]=>k=k'/\K (intD k (if big then (if b > a then b else a) else (if b<a then b else a)))
 | _=>False
def coe (t:TypeId):D->D
 | .emp n=>(match sliceT P t with
   | some e=>(match szT P e with
     | some n=>.emp n
     | none=>.emp n)
   | none=>.emp n)
 | d=>d
def extractK (x:D) (i:Nat) (K:D->Prop):Prop:=match x with
 | .data (.tup vs)=>∃ v,vs[i]?=some v/\K (.data v)
 | .tp cs=>∃ d,cs[i]?=some d/\K d
 | _=>False
def mapT (t:TypeId):Option (TypeId×TypeId):=match P.underlying t with
 | some (.map k e)=>some (k,e)
 | _=>none
def bolL:List Data->Option (List Bool)
 | []=>some []
 | .bool b::l=>(bolL l).map (b :: ·)
 | _=>none
def bools:Nat->List (List Bool)
 | 0=>[[]]
 | n+1=>(bools n).flatMap fun l=>[false::l,true::l]
def wideB (t:TypeId) (n:Nat):Bool:=P.keyTypeAt 9 t && P.tiled 9 t && (bools n).all fun bs=>(keyOf P t (.agg (bs.map Value.bool).toArray)).isSome
def keyT (t:TypeId) (x:Data):Bool:=match P.underlying t,x with
 | some (.int k),.int k' _=>decide (k'=k)
 | some .string,.str _=>true
 | some .bool,.bool _=>true
 | some (.array _ _),.agg cs=>(bolL cs).isSome && wideB P t cs.length
 | _,_=>false
def bolEq:List Data->List Data->Option Bool
 | [],[]=>some true
 | .bool a::l,.bool b::m=>(bolEq l m).map fun r=>a == b && r
 | _,_=>none
def keyEq:Data->Data->Option Bool
 | .int k a,.int k' b=>if k=k' then some (a == b) else none
 | .str a,.str b=>some (a == b)
 | .bool a,.bool b=>some (a == b)
 | .agg a,.agg b=>bolEq a b
 | _,_=>none
def findD (key:Data):List Data->Nat->Option (Option Nat)
 | [],_=>some none
 | k::ks,i=>match keyEq key k with
   | some true=>some (some i)
   | some false=>findD key ks (i+1)
   | none=>none
def zvD:Value->D
 | .agg vs=>mkAgg (vs.toList.map cD)
 | v=>cD v
def zvT (t:TypeId):Option D:=(P.info? t).bind fun i=>i.zero.map zvD
def zvK (t:TypeId) (K:D->Prop):Prop:=match zvT P t with
 | some d=>K d
 | none=>False
def pairD (d:D) (b:Bool):D:=match d with
 | .data x=>.data (.tup [x,.bool b])
 | d=>.tp [d,.data (.bool b)]
def lookK (et:TypeId) (ks:List Data) (xs:List D) (key:Data) (ok:Bool) (K:D->Prop):Prop:=match findD key ks 0 with
 | some (some i)=>(match xs[i]? with
   | some d=>K (if ok then pairD d true else d)
   | none=>False)
 | some none=>zvK P et fun d=>K (if ok then pairD d false else d)
 | none=>False
def lookupK (t:TypeId) (x key:D) (ok:Bool) (H:Nat->Blk) (K:D->List Nat->Prop):Prop:=match mapT P t,key with
 | some (kt,et),.data k=>keyT P kt k=true/\(match x with
   | .data (.mp ks xs)=>lookK P et ks (xs.map .data) k ok fun d=>K d []
   | .mref g=>(match H g with
     | .obj (.mp ks xs)=>lookK P et ks xs k ok fun d=>K d [g]
     | _=>False)
   | _=>False)
 | _,_=>False
def insertK (t:TypeId) (x key v:D) (H:Nat->Blk) (K:List Nat->List (Nat×Blk)->Prop):Prop:=match mapT P t,key,x with
 | some (kt,_),.data k,.mref g=>keyT P kt k=true/\(match H g with
   | .obj (.mp ks xs)=>(match findD k ks 0 with
     | some (some i)=>K [g] [(g,.obj (.mp ks (xs.set i v)))]
     | some none=>K [g] [(g,.obj (.mp (ks++[k]) (xs++[v])))]
     | none=>False)
   | _=>False)
 | _,_,_=>False
def snextK (x:D) (H:Nat->Blk) (K:D->List Nat->List (Nat×Blk)->Prop):Prop:=match x with
 | .iref g=>(match H g with
   | .obj (.si s pos)=>if pos<s.size then K (.data (.tup [.bool true,.int .i64 pos,.int .i32 (Utf8.decode s pos).1])) [g] [(g,.obj (.si s (pos+(Utf8.decode s pos).2)))] else K (.data (.tup [.bool false])) [g] []
   | _=>False)
 | _=>False
def entryK (x:D) (H:Nat->Blk) (K:D->List Nat->Prop):Prop:=match x with
 | .iref g=>(match H g with
   | .obj (.it ks xs _ (some i))=>∃ k v,ks[i]?=some k/\xs[i]?=some v/\K (.data (.tup [k,v])) [g]
   | _=>False)
 | _=>False
def sureD:D->Bool
 | .ptr _ _ | .cptr _ | .data (.pc _)=>true
 | _=>false
def ptrD:D->D
 | .data (.pc c)=>.cptr c
 | d=>d
def opK (o:Oper) (e:Nat->D) (H:Nat->Blk) (fr:Nat) (K:D->List Nat->List (Nat×Blk)->Prop):Prop :=
 let ρ:=evalD Γ e
 match o.op with
 | .move x | .assign x=>K (coe P o.type (ρ x)) [] []
 | .pick c a b=>(match ρ c with
   | .data (.bool true)=>K (ρ a) [] []
   | .data (.bool false)=>K (ρ b) [] []
   | _=>False)
 | .alloc t=>(match zeT P t with
   | some z=>z.all D.cell=true/\K (.ptr fr 0) [] [(fr,.blk true z)]
   | none=>False)
 | .box t x=>(ρ x).cells.all D.cell=true/\K (.ptr fr 0) [] [(fr,.blk true (ρ x).cells)]
 | .build t parts=>buildK P t (parts.toList.map fun x=>(x.1,ρ x.2)) fun d=>K d [] []
 | .buildSlice t len parts=>(match sliceT P t with
   | some e=>(match szT P e with
     | some es=>len*es<=16777216/\(if len=0 then parts.size=0/\K (.emp es) [] [] else zerosK P e len fun z =>
       match fillD (fun i=>some (i*es,es)) z (parts.toList.map fun x=>(x.1,ρ x.2)) with
       | some cells=>cells.all D.cell=true/\K (.ref fr 0 len es) [] [(fr,.blk true cells)]
       | none=>False)
     | none=>False)
   | none=>False)
 | .load t a=>loadK P t (ρ a) H fun d rd=>K d rd []
 | .store t a x=>storeK P t (ρ a) (coe P t (ρ x)) H fun u=>K .junk [] u
 | .binOp op t x y _=>binK P op t (ρ x) (ρ y) fun d=>K d [] []
 | .unOp op _ x=>unK op (ρ x) fun d=>K d [] []
 | .convert src dst x=>(match ρ x with
   | .ref g off len es=>markK P src dst g off len es H fun d u=>K d [g] u
   | .data (.str s)=>(if bytT P dst=true then (P.underlying src).isSome=true/\s.size<=140737488355328/\K (.data (.sl 1 (s.toList.map fun b=>.int .u8 b.toNat))) [] []
     else (P.underlying src).isSome=true/\convK P src dst (.data (.str s)) fun d=>K d [] [])
   | y=>(P.underlying src).isSome=true/\convK P src dst y fun d=>K d [] [])
 | .makeInterface t x=>(match ρ x with
   | .data d=>concT P t=true/\K (.data (.ifc t d)) [] []
   | _=>False)
 | .typeAssert x _ t ok=>(match ρ x with
   | .data (.ifc t' d)=>concT P t=true/\(if t'=t then (if ok=true then K (.data (.tup [d,.bool true])) [] [] else K (.data d) [] [])
     else ok=true/\zvK P t fun z=>match z with
      | .data z=>K (.data (.tup [z,.bool false])) [] []
      | _=>False)
   | _=>False)
 | .makeSlice t l c=>(match sliceT P t with
   | some e=>(match szT P e,byT P e,ρ l,ρ c with
     | some es,some by_,.data (.int _ n),.data (.int _ m)=>0<=n/\n<=m/\m*by_<=140737488355328/\m<=9223372036854775807/\zerosK P e n.toNat fun z=>K (.ref fr 0 n.toNat es) [] [(fr,.blk true z)]
     | _,_,_,_=>False)
   | none=>False)
 | .slice t x lo hi mx=>(match ρ x with
   | .ptr _ _ | .cptr _=>sliceArrK P t (ρ x) (lo.map ρ) (hi.map ρ) (mx.map ρ) H fun d rd=>K d rd []
   | .cut g off len cp es=>cutK P t g off len cp es (lo.map ρ) (hi.map ρ) (mx.map ρ) fun d=>K d [] []
   | _=>sliceK P t (ρ x) (lo.map ρ) (hi.map ρ) (mx.map ρ) fun d=>K d [] [])
 | .fieldAddr t x f=>fieldAddrK P t (ρ x) f fun d=>K d [] []
 | .sliceToArrayPointer t x=>arrPtrK P t (ρ x) fun d=>K d [] []
 | .field t x f=>fieldK P t (ρ x) f fun d=>K d [] []
 | .indexAddr t x ix=>indexAddrK P t (ρ x) (ρ ix) fun d=>K d [] []
 | .index t x ix=>indexK P t (ρ x) (ρ ix) fun d=>K d [] []
 | .extract x i=>extractK (ρ x) i fun d=>K d [] []
 | .nilCheck x=>sureD (ρ x)=true/\K (ptrD (ρ x)) [] []
 | .makeMap _ none=>K (.mref fr) [] [(fr,.obj (.mp [] []))]
 | .insert t m k x | .mapUpdate t m k x=>insertK P t (ρ m) (ρ k) (coe P (match mapT P t with|some x=>x.2|none=>t) (ρ x)) H fun rd u=>K .junk rd u
 | .lookup t x i ok=>lookupK P t (ρ x) (ρ i) ok H fun d rd=>K d rd []
 | .range t x=>(match mapT P t,ρ x with
   | some _,.data (.mp ks xs)=>K (.iref fr) [] [(fr,.obj (.it ks xs (List.range ks.length) none))]
   | none,.data (.str s)=>strT P t=true/\K (.iref fr) [] [(fr,.obj (.si s 0))]
   | _,_=>False)
 | .next x true=>snextK (ρ x) H K
 | .entry x=>entryK (ρ x) H fun d rd=>K d rd []
 | .makeFunc fn first caps=>(match fn,first.toList with
   | .func f,[]=>K (.fn f (caps.toList.map ρ)) [] []
   | .func f,[r]=>caps.size=0/\K (.bnd f (ρ r)) [] []
   | _,_=>False)
 | .call c=>(match c.callee with
   | .value x=>(match fnD (ρ x) with
     | some (f,pre,caps)=>callK P Γ f (pre++(c.args.toList.map ρ++caps)) H K
     | none=>False)
   | .invoke r name=>(match ρ r with
     | .data (.ifc t d)=>∃ f,MethOk P name t f/\callK P Γ f (toD d::c.args.toList.map ρ) H K
     | _=>False)
   | .builtin .len=>(match c.argTypes[0]?,c.args.toList with
     | some t,[x]=>lenK P t (ρ x) fun d=>K d [] []
     | _,_=>False)
   | .builtin .append=>(match c.argTypes[0]?,c.argTypes[1]?,c.args.toList with
     | some st,some xt,[x,y]=>appendK P st xt (ρ x) (ρ y) H fr K
     | _,_,_=>False)
   | .builtin .copy=>(match c.argTypes[0]?,c.args.toList with
     | some st,[x,y]=>copyK P st (ρ x) (ρ y) H K
     | _,_=>False)
   | .builtin .clear=>(match c.argTypes[0]?,c.args.toList with
     | some t,[x]=>clearK P t (ρ x) H K
     | _,_=>False)
   | .builtin .min=>minmaxK false (c.args.toList.map ρ) fun d=>K d [] []
   | .builtin .max=>minmaxK true (c.args.toList.map ρ) fun d=>K d [] []
   | .builtin .cap=>(match c.argTypes[0]?,c.args.toList with
     | some t,[x]=>capK P t (ρ x) fun d=>K d [] []
     | _,_=>False)
   | _=>False)
 | _=>False
end
structure WR (Γ:Nat->Option (List Data)) (L0:Nat->Prop) (w0:W0) (m:Nat->MB) (H:Nat->Blk) (w:World):Prop where
 heap:HR L0 w0.base m H w
 below:Below w0.base w0.w w
 l0:∀ b,L0 b->b<w.heap.size/\w.heap[b]?=w0.w.heap[b]?
 glob:Glob Γ (Live L0 m H) w
section
variable {Γ:Nat->Option (List Data)} {L0:Nat->Prop} {w0:W0} {m:Nat->MB} {H:Nat->Blk} {w:World}
theorem Rel.wr {s:St} {a:Act} (h:Rel Γ L0 w0 m s a w):WR Γ L0 w0 m s.hp w:=⟨h.heap,h.below,h.l0,h.glob⟩
def After (Γ:Nat->Option (List Data)) (L0:Nat->Prop) (w0:W0) (fr:Nat) (H:Nat->Blk) (m:Nat->MB) (w:World) (d:D) (u:List (Nat×Blk)) (v:Value) (w':World):Prop :=
 ∃ m',WR Γ L0 w0 m' (Hp.upd H u) w'/\VV (Live L0 m' (Hp.upd H u)) w' m' d v/\Grow (Live L0 m H) w (Live L0 m' (Hp.upd H u)) w'/\∀ g,g≠fr->m' g=m g
theorem After.pure (h:WR Γ L0 w0 m H w) {fr:Nat} {d:D} {v:Value} (hv:VV (Live L0 m H) w m d v):After Γ L0 w0 fr H m w d [] v w :=
 ⟨m,h,hv,Grow.refl _ _,fun _ _=>rfl⟩
theorem WR.base (h:WR Γ L0 w0 m H w):w0.base<=w.heap.size:=Nat.le_trans w0.le h.below.size
theorem WR.lt (h:WR Γ L0 w0 m H w) {g:Nat} {rw:Bool} {cells:List D} {b sz:Nat} (hg:H g = .blk rw cells) (hm:m g = .at b sz):b<w.heap.size:=by
 rcases h.heap.blk g rw cells hg with⟨h1,_⟩|⟨b',sz',vs,ty,h1,_,_,h2,_⟩
 . rw[h1] at hm;cases hm
 . rw[h1] at hm;cases hm;rcases Nat.lt_or_ge b w.heap.size with h3|h3
   . exact h3
   . rw[Array.getElem?_eq_none h3] at h2;cases h2
theorem WR.ltO (h:WR Γ L0 w0 m H w) {g:Nat} {o:Ob} {b sz:Nat} (hg:H g = .obj o) (hm:m g = .at b sz):b<w.heap.size:=by
 obtain⟨b',v,h1,_,h3,_⟩:=h.heap.obj g o hg;rw[h1] at hm;cases hm;exact (Array.getElem?_eq_some_iff.1 h3).1
theorem WR.live_lt (h:WR Γ L0 w0 m H w) {b:Nat} (hb:Live L0 m H b):b<w.heap.size:=by
 rcases hb with hb|⟨g,sz,hg,hm⟩
 . exact (h.l0 b hb).1
 . rcases Blk.rw_inv hg with⟨cells,e⟩|⟨o,e⟩
   . exact h.lt e hm
   . exact h.ltO e hm
theorem WR.apart (h:WR Γ L0 w0 m H w) {g g':Nat} {rw:Bool} {cells:List D} {o:Ob} {b sz sz':Nat} (hg:H g = .blk rw cells) (hg':H g' = .obj o) (hm:m g = .at b sz) (hm':m g' = .at b sz'):False:=by
 rcases h.heap.blk g rw cells hg with⟨h1,_⟩|⟨b1,sz1,vs,ty,h1,_,_,h2,_⟩
 . rw[h1] at hm;cases hm
 . rw[h1] at hm;cases hm;obtain⟨b2,v,k1,_,k3,k4⟩:=h.heap.obj g' o hg';rw[k1] at hm';cases hm';rw[h2] at k3;cases k3;exact k4.not_cells
theorem WR.inj (h:WR Γ L0 w0 m H w) {g g':Nat} {b sz sz':Nat} (hg:(H g).rw=true) (hg':H g'≠.dead) (hm:m g = .at b sz) (hm':m g' = .at b sz'):g=g':=by
 rcases Blk.rw_inv hg with⟨cells,e⟩|⟨o,e⟩
 . cases e':H g' with
   | dead=>exact absurd e' hg'
   | blk rw cells'=>exact h.heap.inj g g' cells rw cells' b sz sz' e e' hm hm'
   | obj o=>exact (h.apart e e' hm hm').elim
 . cases e':H g' with
   | dead=>exact absurd e' hg'
   | blk rw cells'=>exact (h.apart e' e hm' hm).elim
   | obj o'=>exact h.heap.injO g g' o o' b sz sz' e e' hm hm'
theorem heap_push (w:World) (o:Obj) (k:Nat) (h:k<w.heap.size):(w.alloc o).heap[k]?=w.heap[k]?:=Below.heap_alloc w o k h
theorem heap_push_new (w:World) (o:Obj):(w.alloc o).heap[w.heap.size]?=some o:=by
 show (w.heap.push o)[w.heap.size]?=_;simp
theorem WR.newB (h:WR Γ L0 w0 m H w) {fr:Nat} (hfr:m fr = .res) {w1:World} (hw1:w1.heap=w.heap/\w1.os=w.os/\w1.tape=w.tape/\w1.output=w.output) {ob:Obj} {sz:Nat}
 {H':Nat->Blk} (hold:∀ g,g≠fr->H' g=H g \/ H' g = .dead)
 (hblk:∀ rw cells,H' fr = .blk rw cells->rw=true/\∃ vs ty,ob = .cells vs ty (0,0)/\vs.size=sz/\cells.length<=sz/\∀ (i:Nat) (d:D),cells[i]?=some d->∃ v,vs[i]?=some v/\v.oneCell'=true/\VV (Live L0 m H) w m d v)
 (hobj:∀ o,H' fr = .obj o->sz=0/\ObIs (Live L0 m H) w m o ob) :
 let m':=fun g=>if g=fr then MB.at w.heap.size sz else m g
 WR Γ L0 w0 m' H' (w1.alloc ob)/\Grow (Live L0 m H) w (Live L0 m' H') (w1.alloc ob)/\(∀ g,g≠fr->m' g=m g)/\m' fr = .at w.heap.size sz:=by
 intro m';obtain⟨h1,h2,h3,h4⟩:=hw1;have hs:w1.heap.size=w.heap.size:=by rw[h1]
 have hm':∀ g,g≠fr->m' g=m g:=fun g hg=>if_neg hg;have hmr:∀ g,m g≠.res->m' g=m g:=fun g hg=>hm' g (fun e=>hg (by rw[e];exact hfr));have hmf:m' fr = .at w.heap.size sz:=if_pos rfl;have back:∀ g,g≠fr->H' g≠.dead->H' g=H g:=fun g e hg=>(hold g e).resolve_right hg;have hgrow:Grow (Live L0 m H) w (Live L0 m' H') (w1.alloc ob):=by
  refine⟨by simp[hs],fun b hb hL=>⟨by rw[heap_push _ _ _ (by omega),h1],?_⟩⟩;rintro (k|⟨g,sz',hg,hm⟩)
  . exact hL (.inl k)
  . by_cases e:g=fr
    . subst e;rw[hmf] at hm;cases hm;omega
    . have:=back g e (fun q=>by rw[q] at hg;cases hg);rw[this] at hg;rw[hm' g e] at hm;exact hL (.inr ⟨g,sz',hg,hm⟩)
 refine⟨⟨⟨?_,?_,?_,?_⟩,?_,(fun b hb=>⟨Nat.lt_of_lt_of_le (h.l0 b hb).1 hgrow.size,by rw[heap_push _ _ _ (by have:=(h.l0 b hb).1;omega),h1];exact (h.l0 b hb).2⟩),h.glob.mono hgrow⟩,hgrow,hm',hmf⟩
 . intro g rw cs hg;by_cases e:g=fr
   . subst e;obtain⟨hrw,vs,ty,e1,e2,e3,e4⟩:=hblk rw cs hg;subst hrw;refine .inr ⟨w.heap.size,sz,vs,ty,hmf,⟨h.base,fun hl=>Nat.lt_irrefl _ (h.l0 _ hl).1⟩,(fun e=>by cases e),?_,e2,e3,fun i d hd=>?_⟩
     . rw[<- hs,e1];exact heap_push_new _ _
     . obtain⟨v,hv,h1c,hvv⟩:=e4 i d hd;exact⟨v,hv,h1c,hvv.mono hgrow hmr⟩
   . rw[back g e (by rw[hg];intro q;cases q)] at hg;rcases h.heap.blk g rw cs hg with⟨k1,k2⟩|⟨b,sz,vs',ty',k1,k2,k3,k4,k5,k6,k7⟩
     . exact .inl ⟨by rw[hm' g e];exact k1,k2⟩
     . have hb:=h.lt hg k1;refine .inr ⟨b,sz,vs',ty',by rw[hm' g e];exact k1,k2,fun hrw=>(hgrow.keep b hb (k3 hrw)).2,by rw[heap_push _ _ _ (by omega),h1];exact k4,k5,k6,fun i d hd=>?_⟩;obtain⟨v,hv,h1c,hvv⟩:=k7 i d hd;exact⟨v,hv,h1c,hvv.mono hgrow hmr⟩
 . intro g g' cs rw' cs' b sz sz' hg hg' hm1 hm2;by_cases e:g=fr
   . by_cases e':g'=fr
     . rw[e,e']
     . rw[e,hmf] at hm1;cases hm1;rw[back g' e' (by rw[hg'];intro q;cases q)] at hg';rw[hm' g' e'] at hm2;have:=h.lt hg' hm2;omega
   . rw[back g e (by rw[hg];intro q;cases q)] at hg;rw[hm' g e] at hm1;by_cases e':g'=fr
     . rw[e',hmf] at hm2;cases hm2;have:=h.lt hg hm1;omega
     . rw[back g' e' (by rw[hg'];intro q;cases q)] at hg';rw[hm' g' e'] at hm2;exact h.heap.inj g g' cs rw' cs' b sz sz' hg hg' hm1 hm2
 . intro g o hg;by_cases e:g=fr
   . subst e;obtain⟨e1,e2⟩:=hobj o hg;subst e1;exact⟨w.heap.size,ob,hmf,⟨h.base,fun hl=>Nat.lt_irrefl _ (h.l0 _ hl).1⟩,by rw[<- hs];exact heap_push_new _ _,e2.mono hgrow hmr⟩
   . rw[back g e (by rw[hg];intro q;cases q)] at hg;obtain⟨b,v,k1,k2,k3,k4⟩:=h.heap.obj g o hg;have hb:=h.ltO hg k1;exact⟨b,v,by rw[hm' g e];exact k1,k2,by rw[heap_push _ _ _ (by omega),h1];exact k3,k4.mono hgrow hmr⟩
 . intro g g' o o' b sz sz' hg hg' hm1 hm2;by_cases e:g=fr
   . by_cases e':g'=fr
     . rw[e,e']
     . rw[e,hmf] at hm1;cases hm1;rw[back g' e' (by rw[hg'];intro q;cases q)] at hg';rw[hm' g' e'] at hm2;have:=h.ltO hg' hm2;omega
   . rw[back g e (by rw[hg];intro q;cases q)] at hg;rw[hm' g e] at hm1;by_cases e':g'=fr
     . rw[e',hmf] at hm2;cases hm2;have:=h.ltO hg hm1;omega
     . rw[back g' e' (by rw[hg'];intro q;cases q)] at hg';rw[hm' g' e'] at hm2;exact h.heap.injO g g' o o' b sz sz' hg hg' hm1 hm2
 . have hb:=h.below;refine⟨h2.trans hb.os,h3.trans hb.tape,h4.trans hb.output,by simp[hs];exact Nat.le_trans hb.size (Nat.le_succ _),fun k hk=>?_⟩;have:=hb.size;have:=w0.le;rw[heap_push _ _ _ (by omega),h1];exact hb.block k hk
theorem WR.new (h:WR Γ L0 w0 m H w) {fr:Nat} (hfr:m fr = .res) {w1:World} (hw1:w1.heap=w.heap/\w1.os=w.os/\w1.tape=w.tape/\w1.output=w.output) {vs:Array Value} {ty:TypeId} {fz:Nat×Nat}
 {H':Nat->Blk} {cells:List D} (hnew:H' fr = .blk true cells) (hold:∀ g,g≠fr->H' g=H g \/ H' g = .dead) (hfz:fz=(0,0))
 (hlen:cells.length<=vs.size) (hcell:∀ (i:Nat) (d:D),cells[i]?=some d->∃ v,vs[i]?=some v/\v.oneCell'=true/\VV (Live L0 m H) w m d v) :
 let m':=fun g=>if g=fr then MB.at w.heap.size vs.size else m g
 WR Γ L0 w0 m' H' (w1.alloc (.cells vs ty fz))/\Grow (Live L0 m H) w (Live L0 m' H') (w1.alloc (.cells vs ty fz))/\(∀ g,g≠fr->m' g=m g)/\m' fr = .at w.heap.size vs.size:=by
 subst hfz;exact h.newB hfr hw1 hold (fun rw cs hg=>by rw[hnew] at hg;cases hg;exact⟨rfl,vs,ty,rfl,rfl,hlen,hcell⟩) (fun o hg=>by rw[hnew] at hg;cases hg)
theorem WR.write (h:WR Γ L0 w0 m H w) {g t:Nat} {cells cells':List D} {b sz:Nat} {vs vs':Array Value} {ty:TypeId} (hg:H g = .blk true cells) (hm:m g = .at b sz) (hb:w.heap[b]?=some (.cells vs ty (0,0)))
 (ht:t=g \/ m t = .res) {H':Nat->Blk} (hnew:H' t = .blk true cells') (hgone:t≠g->H' g = .dead) (hold:∀ k,k≠t->k≠g->H' k=H k)
 (hsz:vs'.size=sz) (hlen:cells'.length<=sz) (hcell:∀ (i:Nat) (d:D),cells'[i]?=some d->∃ v,vs'[i]?=some v/\v.oneCell'=true/\VV (Live L0 m H) w m d v) :
 let m':=fun k=>if k=t then MB.at b sz else m k
 WR Γ L0 w0 m' H' (w.setRow b vs')/\Grow (Live L0 m H) w (Live L0 m' H') (w.setRow b vs')/\(∀ k,k≠t->m' k=m k)/\(∀ k,m k≠.res->m' k=m k)/\m' t = .at b sz:=by
 intro m';have hm':∀ k,k≠t->m' k=m k:=fun k hk=>if_neg hk;have hmt:m' t = .at b sz:=if_pos rfl;have hmr:∀ k,m k≠.res->m' k=m k:=fun k hk=>by
  by_cases e:k=t
  . rcases ht with ht|ht
    . rw[e,hmt,ht,hm]
    . rw[e] at hk;exact absurd ht hk
  . exact hm' k e
 have hlive:Live L0 m H b:=.inr ⟨g,sz,by rw[hg];rfl,hm⟩;have hother:∀ k,k≠b->(w.setRow b vs').heap[k]?=w.heap[k]?:=fun k hk=>setRow_other w b k vs' hk;have hsub:∀ k,Live L0 m' H' k->Live L0 m H k:=by
  rintro k (hk|⟨q,sz',hq,hmq⟩)
  . exact .inl hk
  . by_cases e:q=t
    . subst e;rw[hmt] at hmq;cases hmq;exact hlive
    . by_cases e2:q=g
      . subst e2;rw[hgone (fun e3=>e e3.symm)] at hq;cases hq
      . rw[hold q e e2] at hq;rw[hm' q e] at hmq;exact .inr ⟨q,sz',hq,hmq⟩
 have hgrow:Grow (Live L0 m H) w (Live L0 m' H') (w.setRow b vs') :=
  ⟨by simp,fun k hk hL=>⟨hother k (fun e=>hL (by rw[e];exact hlive)),fun hl=>hL (hsub k hl)⟩⟩
 have hat:∀ q rw cs sz',H q = .blk rw cs->m q = .at b sz'->q=g:=fun q rw cs sz' hq hmq=>(h.heap.inj g q cells rw cs b sz sz' hg hq hm hmq).symm;have hbase:Own L0 w0.base b:=by
  rcases h.heap.blk g true cells hg with⟨k1,_⟩|⟨b',sz',vs2,ty2,k1,k2,_⟩
  . rw[k1] at hm;cases hm
  . rw[k1] at hm;cases hm;exact k2
 have oback:∀ q o,H' q = .obj o->q≠t/\q≠g/\H q = .obj o:=by
  intro q o hq;have e1:q≠t:=fun e=>by rw[e,hnew] at hq;cases hq
  have e2:q≠g:=fun e=>by
   subst e;rw[hgone (fun e=>e1 e.symm)] at hq;cases hq
  exact⟨e1,e2,by rw[<- hold q e1 e2];exact hq⟩
 refine⟨⟨⟨?_,?_,fun q o hq=>?_,fun q q' o o' b1 s1 s2 hq hq' hm1 hm2=>?_⟩,?_,(fun k hk=>⟨Nat.lt_of_lt_of_le (h.l0 k hk).1 hgrow.size,(hother k (fun e=>hbase.2 (e ▸ hk))).trans (h.l0 k hk).2⟩),h.glob.mono hgrow⟩,hgrow,hm',hmr,hmt⟩;rotate_left 2
 . obtain⟨e1,e2,hq⟩:=oback q o hq;obtain⟨b2,v,k1,k2,k3,k4⟩:=h.heap.obj q o hq;have hne:b2≠b:=fun e=>(h.apart hg hq hm (by rw[k1,e])).elim;exact⟨b2,v,by rw[hm' q e1];exact k1,k2,by rw[hother b2 hne];exact k3,k4.mono hgrow hmr⟩
 . obtain⟨e1,_,hq⟩:=oback q o hq;obtain⟨e2,_,hq'⟩:=oback q' o' hq';rw[hm' q e1] at hm1;rw[hm' q' e2] at hm2;exact h.heap.injO q q' o o' b1 s1 s2 hq hq' hm1 hm2
 rotate_left 1
 . intro q rw cs hq;by_cases e:q=t
   . subst e;rw[hnew] at hq;cases hq;refine .inr ⟨b,sz,vs',ty,hmt,hbase,(fun e=>by cases e),setRow_heap w b vs vs' ty (0,0) hb,hsz,hlen,fun i d hd=>?_⟩;obtain⟨v,hv,h1c,hvv⟩:=hcell i d hd;exact⟨v,hv,h1c,hvv.mono hgrow hmr⟩
   . by_cases e2:q=g
     . subst e2;rw[hgone (fun e3=>e e3.symm)] at hq;cases hq
     . rw[hold q e e2] at hq;rcases h.heap.blk q rw cs hq with⟨k1,k2⟩|⟨b2,sz2,vs2,ty2,k1,k2,k3,k4,k5,k6,k7⟩
       . exact .inl ⟨by rw[hm' q e];exact k1,k2⟩
       . have hne:b2≠b:=fun e3=>e2 (hat q rw cs sz2 hq (by rw[k1,e3]));refine .inr ⟨b2,sz2,vs2,ty2,by rw[hm' q e];exact k1,k2,fun hrw hl=>k3 hrw (hsub _ hl),by rw[hother b2 hne];exact k4,k5,k6,fun i d hd=>?_⟩;obtain⟨v,hv,h1c,hvv⟩:=k7 i d hd;exact⟨v,hv,h1c,hvv.mono hgrow hmr⟩
 . intro q q' cs rw' cs' b1 sz1 sz2 hq hq' hm1 hm2;have back:∀ q rw cs sz1,H' q = .blk rw cs->m' q = .at b1 sz1->∃ p rwp csp szp,H p = .blk rwp csp/\m p = .at b1 szp/\(rw=true->rwp=true)/\(q=t/\p=g \/ q≠t/\p=q):=by
    intro q rw cs sz1 hq hm1;by_cases e:q=t
    . subst e;rw[hmt] at hm1;cases hm1;exact⟨g,true,cells,_,hg,hm,fun _=>rfl,.inl ⟨rfl,rfl⟩⟩
    . by_cases e2:q=g
      . subst e2;rw[hgone (fun e3=>e e3.symm)] at hq;cases hq
      . rw[hold q e e2] at hq;rw[hm' q e] at hm1;exact⟨q,rw,cs,sz1,hq,hm1,id,.inr ⟨e,rfl⟩⟩
   obtain⟨p,rwp,csp,szp,hp1,hp2,hp3,hp4⟩:=back q true cs sz1 hq hm1;obtain⟨p',rwp',csp',szp',hp1',hp2',hp3',hp4'⟩:=back q' rw' cs' sz2 hq' hm2;have hpt:=hp3 rfl;subst hpt;have he:=h.heap.inj p p' csp rwp' csp' b1 szp szp' hp1 hp1' hp2 hp2';rcases hp4 with⟨e1,e2⟩|⟨e1,e2⟩<;>rcases hp4' with⟨e3,e4⟩|⟨e3,e4⟩
   . rw[e1,e3]
   . exfalso;have hq'g:q'=g:=by rw[<- e4,<- he,e2]
     rw[hq'g,hgone (fun e5=>e3 (by rw[hq'g,e5]))] at hq';cases hq'
   . exfalso;have hqg:q=g:=by rw[<- e2,he,e4]
     rw[hqg,hgone (fun e5=>e1 (by rw[hqg,e5]))] at hq;cases hq
   . rw[<- e2,<- e4,he]
 . exact below_setRow h.below hbase.1 vs'
theorem WR.kill (h:WR Γ L0 w0 m H w) {g:Nat} {cells:List D} {b sz:Nat} (hg:H g = .blk true cells) (hm:m g = .at b sz) {w1:World} (hs:w1.heap.size=w.heap.size) (ho:∀ k,k≠b->w1.heap[k]?=w.heap[k]?) (hb:w1.os=w.os/\w1.tape=w.tape/\w1.output=w.output)
 {H':Nat->Blk} (hgone:H' g = .dead) (hold:∀ k,k≠g->H' k=H k) :
 WR Γ L0 w0 m H' w1/\Grow (Live L0 m H) w (Live L0 m H') w1/\¬ Live L0 m H' b:=by
 have hlive:Live L0 m H b:=.inr ⟨g,sz,by rw[hg];rfl,hm⟩;have hsub:∀ k,Live L0 m H' k->Live L0 m H k:=by
  rintro k (hk|⟨q,sz',hq,hmq⟩)
  . exact .inl hk
  . by_cases e2:q=g
    . subst e2;rw[hgone] at hq;cases hq
    . rw[hold q e2] at hq;exact .inr ⟨q,sz',hq,hmq⟩
 have hgrow:Grow (Live L0 m H) w (Live L0 m H') w1 :=
  ⟨by omega,fun k hk hL=>⟨ho k (fun e=>hL (by rw[e];exact hlive)),fun hl=>hL (hsub k hl)⟩⟩
 have hat:∀ q rw cs sz',H q = .blk rw cs->m q = .at b sz'->q=g:=fun q rw cs sz' hq hmq=>(h.heap.inj g q cells rw cs b sz sz' hg hq hm hmq).symm;have hbase:Own L0 w0.base b:=by
  rcases h.heap.blk g true cells hg with⟨k1,_⟩|⟨b',sz',vs2,ty2,k1,k2,_⟩
  . rw[k1] at hm;cases hm
  . rw[k1] at hm;cases hm;exact k2
 have oback:∀ q o,H' q = .obj o->q≠g/\H q = .obj o:=by
  intro q o hq;have e2:q≠g:=fun e=>by rw[e,hgone] at hq;cases hq
  exact⟨e2,by rw[<- hold q e2];exact hq⟩
 refine⟨⟨⟨?_,?_,fun q o hq=>?_,fun q q' o o' b1 s1 s2 hq hq' hm1 hm2=>?_⟩,?_,(fun k hk=>⟨Nat.lt_of_lt_of_le (h.l0 k hk).1 hgrow.size,(ho k (fun e=>hbase.2 (e ▸ hk))).trans (h.l0 k hk).2⟩),h.glob.mono hgrow⟩,hgrow,?_⟩;rotate_left 2
 . obtain⟨e2,hq⟩:=oback q o hq;obtain⟨b2,v,k1,k2,k3,k4⟩:=h.heap.obj q o hq;have hne:b2≠b:=fun e=>(h.apart hg hq hm (by rw[k1,e])).elim;exact⟨b2,v,k1,k2,by rw[ho b2 hne];exact k3,k4.mono hgrow (fun _ _=>rfl)⟩
 . obtain⟨_,hq⟩:=oback q o hq;obtain⟨_,hq'⟩:=oback q' o' hq';exact h.heap.injO q q' o o' b1 s1 s2 hq hq' hm1 hm2
 rotate_left 2
 . intro q rw cs hq;by_cases e2:q=g
   . subst e2;rw[hgone] at hq;cases hq
   . rw[hold q e2] at hq;rcases h.heap.blk q rw cs hq with⟨k1,k2⟩|⟨b2,sz2,vs2,ty2,k1,k2,k3,k4,k5,k6,k7⟩
     . exact .inl ⟨k1,k2⟩
     . have hne:b2≠b:=fun e3=>e2 (hat q rw cs sz2 hq (by rw[k1,e3]));refine .inr ⟨b2,sz2,vs2,ty2,k1,k2,fun hrw hl=>k3 hrw (hsub _ hl),by rw[ho b2 hne];exact k4,k5,k6,fun i d hd=>?_⟩;obtain⟨v,hv,h1c,hvv⟩:=k7 i d hd;exact⟨v,hv,h1c,hvv.mono hgrow (fun _ _=>rfl)⟩
 . intro q q' cs rw' cs' b1 sz1 sz2 hq hq' hm1 hm2;by_cases e:q=g
   . subst e;rw[hgone] at hq;cases hq
   . by_cases e':q'=g
     . subst e';rw[hgone] at hq';cases hq'
     . rw[hold q e] at hq;rw[hold q' e'] at hq';exact h.heap.inj q q' cs rw' cs' b1 sz1 sz2 hq hq' hm1 hm2
 . have hb1:=hbase.1;exact h.below.trans ⟨hb.1,hb.2.1,hb.2.2,by omega,fun k hk=>ho k (by omega)⟩
 . rintro (hl|⟨q,sz',hq,hmq⟩)
   . exact hbase.2 hl
   . by_cases e2:q=g
     . subst e2;rw[hgone] at hq;cases hq
     . rw[hold q e2] at hq;exact e2 (h.inj (by rw[hg];rfl) (fun q2=>by rw[q2] at hq;cases hq) hm hmq).symm
theorem WR.drew (h:WR Γ L0 w0 m H w):WR Γ L0 w0 m H w.drew :=
 have hg:Grow (Live L0 m H) w (Live L0 m H) w.drew:=⟨Nat.le_refl _,fun b _ hL=>⟨rfl,hL⟩⟩
 ⟨⟨fun g rw cs hgc=>by
  rcases h.heap.blk g rw cs hgc with k|⟨b,sz,vs,ty,k1,k2,k3,k4,k5,k6,k7⟩
  . exact .inl k
  . exact .inr ⟨b,sz,vs,ty,k1,k2,k3,k4,k5,k6,fun i d hd=>by obtain⟨v,hv,h1c,hvv⟩:=k7 i d hd;exact⟨v,hv,h1c,hvv.mono hg (fun _ _=>rfl)⟩⟩,h.heap.inj,fun g o hgo=>by
  obtain⟨b,v,k1,k2,k3,k4⟩:=h.heap.obj g o hgo;exact⟨b,v,k1,k2,k3,k4.mono hg (fun _ _=>rfl)⟩,h.heap.injO⟩,h.below.drew,h.l0,h.glob.mono hg⟩
theorem WR.called (h:WR Γ L0 w0 m H w) {w':World} (hb:Below w.heap.size w w') {H':Nat->Blk} (hold:∀ g,H' g=H g \/ ∃ rw cells,H g = .blk rw cells/\H' g = .blk false cells) :
 WR Γ L0 w0 m H' w'/\Grow (Live L0 m H) w (Live L0 m H') w':=by
 have hsub:∀ k,Live L0 m H' k->Live L0 m H k:=by
  rintro k (hk|⟨q,sz',hq,hmq⟩)
  . exact .inl hk
  . rcases hold q with e|⟨rw,cells,_,e⟩
    . rw[e] at hq;exact .inr ⟨q,sz',hq,hmq⟩
    . rw[e] at hq;cases hq
 have hgrow:Grow (Live L0 m H) w (Live L0 m H') w':=⟨hb.size,fun k hk hL=>⟨hb.block k hk,fun hl=>hL (hsub k hl)⟩⟩;have src:∀ g rw cs,H' g = .blk rw cs->∃ rw0,H g = .blk rw0 cs/\(rw=true->rw0=true):=by
  intro g rw cs hg;rcases hold g with e|⟨rw0,cells,e1,e⟩
  . rw[e] at hg;exact⟨rw,hg,id⟩
  . rw[e] at hg;cases hg;exact⟨rw0,e1,fun e=>by cases e⟩
 have oback:∀ q o,H' q = .obj o->H q = .obj o:=by
  intro q o hq;rcases hold q with e|⟨rw,cells,_,e⟩
  . rw[<- e];exact hq
  . rw[e] at hq;cases hq
 refine⟨⟨⟨?_,?_,fun q o hq=>?_,fun q q' o o' b1 s1 s2 hq hq' hm1 hm2=>h.heap.injO q q' o o' b1 s1 s2 (oback q o hq) (oback q' o' hq') hm1 hm2⟩,?_,(fun k hk=>⟨Nat.lt_of_lt_of_le (h.l0 k hk).1 hgrow.size,(hb.block k (h.l0 k hk).1).trans (h.l0 k hk).2⟩),h.glob.mono hgrow⟩,hgrow⟩;rotate_left 2
 . obtain⟨b2,v,k1,k2,k3,k4⟩:=h.heap.obj q o (oback q o hq);exact⟨b2,v,k1,k2,by rw[hb.block b2 (h.ltO (oback q o hq) k1)];exact k3,k4.mono hgrow (fun _ _=>rfl)⟩
 rotate_left 1
 . intro g rw cs hg;obtain⟨rw0,hg0,hrw⟩:=src g rw cs hg;rcases h.heap.blk g rw0 cs hg0 with k|⟨b,sz,vs,ty,k1,k2,k3,k4,k5,k6,k7⟩
   . exact .inl k
   . have hlt:=h.lt hg0 k1;refine .inr ⟨b,sz,vs,ty,k1,k2,fun e hl=>?_,by rw[hb.block b hlt];exact k4,k5,k6,fun i d hd=>?_⟩
     . -- a row that is written no more is live under no other number
       rcases hl with hl|⟨q,szq,hq,hmq⟩
       . exact absurd hl k2.2
       . have hq0:(H q).rw=true:=by
          rcases hold q with e|⟨rw,cells,_,e⟩
          . rw[<- e];exact hq
          . rw[e] at hq;cases hq
         have hqg:=h.inj hq0 (fun q2=>by rw[q2] at hg0;cases hg0) hmq k1;subst hqg;rw[hg,e] at hq;cases hq
     . obtain⟨v,hv,h1c,hvv⟩:=k7 i d hd;exact⟨v,hv,h1c,hvv.mono hgrow (fun _ _=>rfl)⟩
 . intro g g' cs rw' cs' b sz sz' hg hg' hm1 hm2;obtain⟨rw0,hg0,hrw⟩:=src g true cs hg;obtain⟨rw0',hg0',hrw'⟩:=src g' rw' cs' hg';have:=hrw rfl;subst this;exact h.heap.inj g g' cs rw0' cs' b sz sz' hg0 hg0' hm1 hm2
 . exact h.below.trans (hb.mono h.base)
end
section
variable {L:Nat->Prop} {w:World} {m:Nat->MB}
theorem VD.one {x:Data} {v:Value} (h:VD L w x v) (hc:x.cell=true):v.oneCell'=true:=by
 cases h<;>simp_all[Data.cell,Value.oneCell']
theorem VV.one {d:D} {v:Value} (h:VV L w m d v) (hc:d.cell=true):v.oneCell'=true:=by
 cases h with
 | data x v h=>exact h.one hc
 | agg=>simp[D.cell] at hc
 | junk=>simp[D.cell] at hc
 | tp=>simp[D.cell] at hc
 | _=>rfl
theorem cells_one {v:Value} (h:v.oneCell'=true):v.cells = #[v]:=by cases v<;>first|rfl|cases h
theorem VV.cells {d:D} {v:Value} (h:VV L w m d v) (hc:d.cells.all D.cell=true) :
 d.cells.length=v.cells.size/\∀ (i:Nat) (x:D) (y:Value),d.cells[i]?=some x->v.cells[i]?=some y->VV L w m x y/\y.oneCell'=true:=by
 have single:∀ {d:D} {v:Value},VV L w m d v->d.cells=[d]->d.cell=true->d.cells.length=v.cells.size/\∀ (i:Nat) (x:D) (y:Value),d.cells[i]?=some x->v.cells[i]?=some y->VV L w m x y/\y.oneCell'=true:=by
  intro d v h he hd;have h1:=h.one hd;rw[he,cells_one h1];refine⟨rfl,fun i x y hx hy=>?_⟩
  match i with
  | 0=>simp at hx hy;subst hx;subst hy;exact⟨h,h1⟩
  | i+1=>simp at hx
 cases h with
 | data x v h =>
   cases h with
   | agg cs vs hl hh =>
     refine⟨by simpa[D.cells,Data.cells,Value.cells] using hl,fun i x y hx hy=>?_⟩;simp only[D.cells,Data.cells,List.getElem?_map,Option.map_eq_some_iff] at hx;obtain⟨z,hz,rfl⟩:=hx;have:=hh i z y hz hy;have hcz:z.cell=true:=by
      rw[List.all_eq_true] at hc;exact hc (.data z) (by simp only[D.cells,Data.cells,List.mem_map];exact⟨z,List.mem_of_getElem? hz,rfl⟩)
     exact⟨.data z y this,this.one hcz⟩
   | tup=>simp[D.cells,Data.cells,D.cell,Data.cell] at hc
   | bool b=>exact single (.data _ _ (.bool b)) rfl rfl
   | int k n=>exact single (.data _ _ (.int k n)) rfl rfl
   | str s=>exact single (.data _ _ (.str s)) rfl rfl
   | sl es l a n cap b off vs hn hle hm hes ha hcc hv=>exact single (.data _ _ (.sl es l a n cap b off vs hn hle hm hes ha hcc hv)) rfl rfl
   | fn f caps vs hl hh=>exact single (.data _ _ (.fn f caps vs hl hh)) rfl rfl
   | mp ks xs b es clock hb hL h1 h2 h3 h4 h5 h6 h7=>exact single (.data _ _ (.mp ks xs b es clock hb hL h1 h2 h3 h4 h5 h6 h7)) rfl rfl
   | bn f r v h=>exact single (.data _ _ (.bn f r v h)) rfl rfl
   | nilf=>exact single (.data _ _ .nilf) rfl rfl
   | ifc t d v h=>exact single (.data _ _ (.ifc t d v h)) rfl rfl
   | nili=>exact single (.data _ _ .nili) rfl rfl
   | nilp=>exact single (.data _ _ .nilp) rfl rfl
   | nilm=>exact single (.data _ _ .nilm) rfl rfl
   | pc c b off vs hb hL hcc hv=>exact single (.data _ _ (.pc c b off vs hb hL hcc hv)) rfl rfl
 | agg cs vs hl hh =>
   refine⟨hl,fun i x y hx hy=>?_⟩;have:=hh i x y hx hy;have hcx:x.cell=true:=by
    rw[List.all_eq_true] at hc;exact hc x (List.mem_of_getElem? hx)
   exact⟨this,this.one hcx⟩
 | yld l=>exact single (.yld l) rfl rfl
 | ful es l a n h=>exact single (.ful es l a n h) rfl rfl
 | junk=>simp[D.cells,D.cell] at hc
 | tp=>simp[D.cells,D.cell] at hc
 | emp es a=>exact single (.emp es a) rfl rfl
 | ref g off len es b sz cap o h1 h2 h3 h4 h5=>exact single (.ref g off len es b sz cap o h1 h2 h3 h4 h5) rfl rfl
 | ref0 g es a h1=>exact single (.ref0 g es a h1) rfl rfl
 | ptr g off b sz h1=>exact single (.ptr g off b sz h1) rfl rfl
 | cut g off len cp es b sz cap o h1 h2 h3 h4 h5 h6=>exact single (.cut g off len cp es b sz cap o h1 h2 h3 h4 h5 h6) rfl rfl
 | mref g b h1=>exact single (.mref g b h1) rfl rfl
 | iref g b h1=>exact single (.iref g b h1) rfl rfl
 | cptr cells b off vs hb hL hcc hv=>exact single (.cptr cells b off vs hb hL hcc hv) rfl rfl
 | fn f caps vs hl hh=>exact single (.fn f caps vs hl hh) rfl rfl
 | bnd f r v h=>exact single (.bnd f r v h) rfl rfl
theorem VV.cell_at {d:D} {v:Value} (h:VV L w m d v) (hc:d.cells.all D.cell=true) {i:Nat} {x:D} (hx:d.cells[i]?=some x):∃ y,v.cells[i]?=some y/\y.oneCell'=true/\VV L w m x y:=by
 obtain⟨h1,h2⟩:=h.cells hc;have hi:i<v.cells.size:=by rw[<- h1];exact (List.getElem?_eq_some_iff.1 hx).1
 have hy:=Array.getElem?_eq_getElem hi;obtain⟨h3,h4⟩:=h2 i x _ hx hy;exact⟨_,hy,h4,h3⟩
theorem allData_eq:∀ {cs:List D} {xs:List Data},allData cs=some xs->cs=xs.map .data
 | [],xs,h=>by simp[allData] at h;subst h;rfl
 | d::cs,xs,h=>by
   cases d<;>simp only[allData,Option.map_eq_some_iff,reduceCtorEq] at h;obtain⟨ys,hys,rfl⟩:=h;simp[allData_eq hys]
theorem VV.data_inv {x:Data} {v:Value} (h:VV L w m (.data x) v):VD L w x v:=by cases h with|data _ _ h=>exact h
theorem VV.mk_agg {cs:List D} {vs:Array Value} (hl:cs.length=vs.size) (h:∀ (i:Nat) (x:D) (v:Value),cs[i]?=some x->vs[i]?=some v->VV L w m x v):VV L w m (mkAgg cs) (.agg vs):=by
 unfold mkAgg;split
 . rename_i xs hxs;have:=allData_eq hxs;subst this;refine .data _ _ (.agg xs vs (by simpa using hl) fun i x v hx hv=>?_);exact (h i (.data x) v (by simp[hx]) hv).data_inv
 . exact .agg cs vs hl h
theorem cD_ok (v:Value):VV L w m (cD v) v:=by
 unfold cD;split
 . exact .data _ _ (.bool _)
 . exact .data _ _ (.int _ _)
 . exact .data _ _ (.str _)
 . exact .emp _ _
 . exact .data _ _ .nilp
 . exact .data _ _ .nilm
 . exact .data _ _ .nili
 . exact .data _ _ .nilf
 . exact .junk _
theorem coe_ok (P:Program) (t:TypeId) {d:D} {v:Value} (h:VV L w m d v):VV L w m (coe P t d) v:=by
 unfold coe;split
 . cases h with
   | emp es a=>(repeat' split)<;>exact .emp _ a
 . exact h
theorem eval_ok {Γ:Nat->Option (List Data)} {a:Act} {e:Nat->D} (hg:Glob Γ L w) (hv:∀ t,VV L w m (e t) (a.tmps.getD t undef)) (x:Operand):VV L w m (evalD Γ e x) (a.eval x):=by
 cases x with
 | tmp t=>exact hv t
 | const v=>exact cD_ok v
 | global g =>
   simp only[evalD,Act.eval];split
   . rename_i cells hc;have:=hg g cells hc;cases this with
     | cptr cells b off vs hb hL hcc hvv=>exact .cptr cells g 0 vs hb hL hcc hvv
   . exact .junk _
 | func f=>exact .data _ _ (.fn f [] #[] rfl (fun i x v hx=>by simp at hx))
theorem over_get {cells vs:List D} {off:Nat} (h:off+vs.length<=cells.length) (i:Nat):(over cells off vs)[i]?=if off<=i/\i<off+vs.length then vs[i-off]? else cells[i]?:=by
 have gen:(cells.take off++vs++cells.drop (off+vs.length))[i]?=if off<=i/\i<off+vs.length then vs[i-off]? else cells[i]?:=by
  have ht:(cells.take off).length=off:=by rw[List.length_take];omega
  by_cases h1:i<off
  . rw[if_neg (by omega),List.append_assoc,List.getElem?_append_left (by omega),List.getElem?_take_of_lt h1]
  . rw[List.append_assoc,List.getElem?_append_right (by omega),ht];by_cases h2:i-off<vs.length
    . rw[if_pos ⟨by omega,by omega⟩,List.getElem?_append_left h2]
    . rw[if_neg (by omega),List.getElem?_append_right (by omega),List.getElem?_drop];congr 1;omega
 unfold over;split
 . rename_i d;rw[List.getElem?_set];by_cases h1:off=i
   . subst h1;simp at h;rw[if_pos rfl,if_pos (by omega),if_pos (by simp)];simp
   . rw[if_neg h1,if_neg (by simp;omega)]
 . exact gen
theorem over_length {cells vs:List D} {off:Nat} (h:off+vs.length<=cells.length):(over cells off vs).length=cells.length:=by
 unfold over;split
 . simp
 . simp only[List.length_append,List.length_take,List.length_drop];omega
end
section
variable (P:Program)
theorem run_isAggT {t:TypeId} {b:Bool} (h:aggT P t=some b) (w:World):(isAgg t).run P w = .ok b w:=by
 unfold aggT at h;cases hu:P.underlying t with
 | none=>simp[hu] at h
 | some d =>
   rw[hu] at h;cases d<;>simp_all[isAgg,run_underlying hu]
theorem info_of_sz {t:TypeId} {n:Nat} (h:szT P t=some n):∃ i,P.info? t=some i/\i.size=n:=by
 unfold szT at h;cases hi:P.info? t with
 | none=>simp[hi] at h
 | some i=>exact⟨i,rfl,by simpa[hi] using h⟩
theorem run_sz {t:TypeId} {n:Nat} (h:szT P t=some n) (w:World):(sizeOf t).run P w = .ok n w:=by
 obtain⟨i,hi,rfl⟩:=info_of_sz P h;simp[sizeOf,typeInfo,hi]
theorem und_slice {t e:TypeId} (h:sliceT P t=some e):P.underlying t=some (.slice e):=by
 unfold sliceT at h;split at h<;>simp_all
theorem und_arr {t e:TypeId} {n:Nat} (h:arrT P t=some (n,e)):P.underlying t=some (.array n e):=by
 unfold arrT at h;split at h<;>simp_all
theorem und_int {t:TypeId} {k:IntKind} (h:intT P t=some k):P.underlying t=some (.int k):=by
 unfold intT at h;split at h<;>simp_all
theorem und_bool {t:TypeId} (h:boolT P t=true):P.underlying t=some .bool:=by
 unfold boolT at h;split at h<;>simp_all
theorem und_str {t:TypeId} (h:strT P t=true):P.underlying t=some .string:=by
 unfold strT at h;split at h<;>simp_all
theorem zero_of {t:TypeId} {z:List D} (h:zeT P t=some z):∃ i v,P.info? t=some i/\i.zero=some v/\z=v.cells.toList.map cD:=by
 unfold zeT at h;cases hi:P.info? t with
 | none=>simp[hi] at h
 | some i =>
   simp only[hi,Option.bind_some,Option.map_eq_some_iff] at h;obtain⟨v,hv,rfl⟩:=h;exact⟨i,v,rfl,hv,rfl⟩
theorem field_of {t:TypeId} {f o:Nat} {ft:TypeId} (h:fldT P t f=some (o,ft)):∃ fs fd,P.underlying t=some (.struct fs)/\fs[f]?=some fd/\fd.offset=o/\fd.type=ft:=by
 unfold fldT at h;split at h
 . rename_i fs hu;cases hf:fs[f]? with
   | none=>simp[hf] at h
   | some fd =>
     simp[hf] at h;exact⟨fs,fd,hu,hf,h.1,h.2⟩
 . cases h
end
def Runs (P:Program) (o:Oper) (a:Act) (w:World) (φ:Value->World->Prop):Prop :=
 (∃ v w',(execOp a.eval o).run P w = .ok (.value v) w'/\φ v w') \/ (∃ w',(execOp a.eval o).run P w = .ok .skip w'/\φ undef w') \/
   ∃ f args w1,(execOp a.eval o).run P w = .ok (.enter f args) w1/\Calls P f args w1 fun e w'=>∃ v,e = .returned v/\φ v w'
theorem Runs.mono {P:Program} {o:Oper} {a:Act} {w:World} {φ ψ:Value->World->Prop} (h:Runs P o a w φ) (hi:∀ v w',φ v w'->ψ v w'):Runs P o a w ψ:=by
 rcases h with⟨v,w',h1,h2⟩|⟨w',h1,h2⟩|⟨f,args,w1,h1,h2⟩
 . exact .inl ⟨v,w',h1,hi _ _ h2⟩
 . exact .inr (.inl ⟨w',h1,hi _ _ h2⟩)
 . exact .inr (.inr ⟨f,args,w1,h1,h2.mono fun e w' ⟨v,he,hv⟩=>⟨v,he,hi _ _ hv⟩⟩)
theorem Runs.wp {P:Program} {o:Oper} {a:Act} {w:World} {φ:Value->World->Prop} {next:Act->World->Prop} {Q:Exit->Act->World->Prop} (h:Runs P o a w φ) (hn:∀ v w',φ v w'->next (a.put o.dst v) w'):o.wp P a w next Q:=by
 unfold Oper.wp;rcases h with⟨v,w',h1,h2⟩|⟨w',h1,h2⟩|⟨f,args,w1,h1,h2⟩
 . rw[h1];exact hn v w' h2
 . rw[h1];exact hn undef w' h2
 . rw[h1,Oper.upon_enter];exact h2.mono fun e w' ⟨v,he,hv⟩=>by subst he;exact hn v w' hv
section
variable {P:Program} {Γ:Nat->Option (List Data)} {L0:Nat->Prop} {w0:W0} {m:Nat->MB} {H:Nat->Blk} {w:World} {fr:Nat}
theorem runs_pure {o:Oper} {a:Act} {v:Value} {d:D} (hr:(execOp a.eval o).run P w = .ok (.value v) w) (h:WR Γ L0 w0 m H w) (hv:VV (Live L0 m H) w m d v):Runs P o a w (After Γ L0 w0 fr H m w d []) :=
 .inl ⟨v,w,hr,After.pure h hv⟩
theorem bin_ok {op:BinOp} {t:TypeId} {x y:D} {vx vy:Value} {K:D->Prop} (ox oy:Operand) (L:Nat->Prop) (hx:VV L w m x vx) (hy:VV L w m y vy) (h:binK P op t x y K) :
 ∃ d v,K d/\VV L w m d v/\(do eqGuard op t ox oy vx vy;binOp op t vx vy:Sem Value).run P w = .ok v w:=by
 have bd:∀ b,VV L w m (boolD b) (.bool b):=fun b=>.data _ _ (.bool b);have nd:∀ k n,VV L w m (intD k n) (.int k n):=fun k n=>.data _ _ (.int k n);have decEq:∀ a b:Int,(a == b)=decide (a=b):=fun a b=>by by_cases h:a=b<;>simp[h]
 unfold binK at h;split at h
 . -- integers
   rename_i k a k' b;have hx:=hx.data_inv;have hy:=hy.data_inv;cases hx;cases hy;have hgd:(eqGuard op t ox oy (.int k a) (.int k' b)).run P w = .ok () w:=by unfold eqGuard;cases op<;>simp
   cases op<;>simp only[cmpI] at h
   all_goals first
    | (obtain⟨rfl,h⟩:=h
       first
       | (obtain⟨hb,h⟩:=h
          refine⟨_,_,h,nd _ _,?_⟩;simp only[Sem.run_bind,hgd,Result.andThen_ok];simp[binOp,Op.intDiv,hb])
       | (refine⟨_,_,h,nd _ _,?_⟩
          simp only[Sem.run_bind,hgd,Result.andThen_ok];simp[binOp,Op.intArith,Op.intBits])
       | (refine⟨_,_,h,bd _,?_⟩
          simp only[Sem.run_bind,hgd,Result.andThen_ok];simp[binOp,Op.intCmp,decEq];done)
       | (refine⟨_,_,h,bd _,?_⟩
          simp only[Sem.run_bind,hgd,Result.andThen_ok];by_cases e:a=b<;>simp[binOp,Op.intCmp,e]))
    | (obtain⟨hb,h⟩:=h
       refine⟨_,_,h,nd _ _,?_⟩;simp only[Sem.run_bind,hgd,Result.andThen_ok];have hb':¬ b<0:=by omega
       simp[binOp,Op.shift,hb'])
 . -- strings
   rename_i a b;have hx:=hx.data_inv;have hy:=hy.data_inv;cases hx;cases hy;have hgd:(eqGuard op t ox oy (.string a) (.string b)).run P w = .ok () w:=by unfold eqGuard;cases op<;>simp
   have heq:(a.toList == b.toList)=decide (a=b):=by
    rw[ByteArray.toList_eq,ByteArray.toList_eq];by_cases e:a=b
    . subst e;simp
    . have e2:a.data.toList≠b.data.toList:=fun k=>e (by cases a;cases b;simp_all);simp only[e,decide_false,beq_eq_false_iff_ne];exact e2
   cases op<;>simp only[] at h
   all_goals first
    | exact h.elim
    | (obtain⟨hb,h⟩:=h
       refine⟨_,_,h,.data _ _ (.str _),?_⟩;simp only[Sem.run_bind,hgd,Result.andThen_ok];have hb':¬ (((a.size+b.size:Nat):Int) > IntKind.i64.max):=by
        have:IntKind.i64.max=9223372036854775807:=by decide
        omega
       simp only[binOp,Op.stringOp,if_neg hb'];rfl)
    | (refine⟨_,_,h,bd _,?_⟩
       simp only[Sem.run_bind,hgd,Result.andThen_ok];simp[binOp,Op.stringOp,heq])
 . -- bools
   rename_i a b;obtain⟨ht,h⟩:=h;have hx:=hx.data_inv;have hy:=hy.data_inv;cases hx;cases hy;have hu:=und_bool P ht;have hgd:(eqGuard op t ox oy (.bool a) (.bool b)).run P w = .ok () w:=by unfold eqGuard;cases op<;>simp
   have heq:(Op.equal t (.bool a) (.bool b)).run P w = .ok (a == b) w:=by
    exact run_equal_bool w t a b hu
   cases op<;>simp only[] at h
   all_goals first
    | exact h.elim
    | (refine⟨_,_,h,bd _,?_⟩
       simp only[Sem.run_bind,hgd,Result.andThen_ok];simp[binOp,heq])
 . rename_i x y _ _ _;have hx:=hx.data_inv;have hy:=hy.data_inv;cases op<;>simp only[] at h
   all_goals first
    | exact h.elim
    | (obtain⟨b,he,h⟩:=h
       obtain⟨h1,h2⟩:=he L w ox oy vx vy hx hy;refine⟨_,_,h,bd _,?_⟩;simp only[Sem.run_bind,h1,Result.andThen_ok];cases hx<;>cases hy<;>first
        | (simp[binOp,h2];done)
        | (rename_i n1 n2 n3;first|exact (n1 _ _ _ _ rfl rfl).elim|exact (n2 _ _ rfl rfl).elim|exact (n3 _ _ rfl rfl).elim))
 . exact h.elim
end
theorem add_off (b o n:Nat):(⟨b,o,none⟩:Addr).add n=⟨b,o+n,none⟩:=by unfold Addr.add;split<;>simp_all
section
variable {P:Program} {Γ:Nat->Option (List Data)} {L0:Nat->Prop} {w0:W0} {m:Nat->MB} {H:Nat->Blk} {w:World} {fr:Nat} {L:Nat->Prop}
theorem cell_of {b:Nat} {vs:Array Value} {ty:TypeId} {fz:Nat×Nat} (h:w.heap[b]?=some (.cells vs ty fz)) (i:Nat):w.cell? ⟨b,i,none⟩=vs[i]?:=by simp[World.cell?,h]
theorem run_loadN {b off n:Nat} {f:Nat->Value} (h:∀ j,j<n->w.cell? ⟨b,off+j,none⟩=some (f j)):(loadCells ⟨b,off,none⟩ n).run P w = .ok ((List.range n).map f).toArray w :=
 run_loadCells w ⟨b,off,none⟩ n f fun j hj=>by rw[add_off];exact h j hj
theorem at_of (h:WR Γ L0 w0 m H w) {g:Nat} {rw:Bool} {cells:List D} {b sz:Nat} (hg:H g = .blk rw cells) (hm:m g = .at b sz) :
 ∃ vs ty,w.heap[b]?=some (.cells vs ty (0,0))/\vs.size=sz/\cells.length<=sz/\(rw=false->¬ Live L0 m H b)/\∀ (i:Nat) (d:D),cells[i]?=some d->∃ v,vs[i]?=some v/\v.oneCell'=true/\VV (Live L0 m H) w m d v:=by
 rcases h.heap.blk g rw cells hg with⟨k,_⟩|⟨b',sz',vs,ty,k1,k2,k3,k4,k5,k6,k7⟩
 . rw[k] at hm;cases hm
 . rw[k1] at hm;cases hm;exact⟨vs,ty,k4,k5,k6,k3,k7⟩
theorem load_ok {t:TypeId} {x:D} {v:Value} {K:D->List Nat->Prop} (h:WR Γ L0 w0 m H w) (hv:VV (Live L0 m H) w m x v) (hk:loadK P t x H K) :
 ∃ d rd u,K d rd/\VV (Live L0 m H) w m d u/\(Instr.loadAt t v).run P w = .ok u w:=by
 unfold loadK at hk;split at hk
 . rename_i g off;cases hv with
   | ptr _ _ b sz hm =>
   split at hk
   . rename_i rw cells hg;obtain⟨vs,ty,h1,h2,h3,_,h5⟩:=at_of h hg hm;split at hk
     . rename_i n ha hs;obtain⟨hfit,hk⟩:=hk;have hcell:∀ j,j<n->w.cell? ⟨b,off+j,none⟩=some (vs.getD (off+j) undef):=fun j hj=>by
        rw[cell_of h1];have hlt:off+j<vs.size:=by omega
        simp[hlt]
       refine⟨_,_,.agg ((List.range n).map fun j=>vs.getD (off+j) undef).toArray,hk,VV.mk_agg (by simp;omega) fun i x v hx hv=>?_,?_⟩
       . rw[List.getElem?_take] at hx;split at hx
         . rename_i hi;rw[List.getElem?_drop] at hx;obtain⟨v',hv',_,hvv⟩:=h5 _ x hx;simp only[List.getElem?_toArray,List.getElem?_map,List.getElem?_range,hi,Option.map_some,Option.some.injEq] at hv;have hgd:vs.getD (off+i) undef=v':=by
            have hlt:=(Array.getElem?_eq_some_iff.1 hv').1;have hq:=(Array.getElem?_eq_some_iff.1 hv').2;simp[hlt,hq]
           rw[<- hv,hgd];exact hvv
         . cases hx
       . simp only[Instr.loadAt,Instr.sureAddr,Sem.run_bind,Sem.run_pure,Result.andThen_ok,loadVar,run_isAggT P ha,run_sz P hs,run_loadN hcell,if_true]
     . rename_i ha;obtain⟨d,hd,hk⟩:=hk;obtain⟨v',hv',_,hvv⟩:=h5 _ d hd;refine⟨_,_,v',hk,hvv,?_⟩;simp[Instr.loadAt,Instr.sureAddr,loadVar,run_isAggT P ha,cell_of h1,hv']
     . exact hk.elim
   . exact hk.elim
 . rename_i cells;cases hv with
   | cptr _ b off vs hb hL hc hvv =>
   split at hk
   . rename_i n ha hs;obtain⟨hfit,hk⟩:=hk;have hcell:∀ j,j<n->w.cell? ⟨b,off+j,none⟩=some (vs j):=fun j hj=>by
      have hlt:j<cells.length:=by omega
      exact hc j _ (List.getElem?_eq_getElem hlt)
     refine⟨_,_,.agg ((List.range n).map vs).toArray,hk,.data _ _ (.agg _ _ (by simp;omega) fun i x v hx hv=>?_),?_⟩
     . rw[List.getElem?_take] at hx;split at hx
       . rename_i hi;simp only[List.getElem?_toArray,List.getElem?_map,List.getElem?_range,hi,Option.map_some,Option.some.injEq] at hv;rw[<- hv];exact hvv i x hx
       . cases hx
     . simp only[Instr.loadAt,Instr.sureAddr,Sem.run_bind,Sem.run_pure,Result.andThen_ok,loadVar,run_isAggT P ha,run_sz P hs,run_loadN hcell,if_true]
   . rename_i ha;obtain⟨d,hd,hk⟩:=hk;refine⟨_,_,vs 0,hk,.data _ _ (hvv 0 d hd),?_⟩;have:=hc 0 d hd;simp only[Nat.add_zero] at this;simp[Instr.loadAt,Instr.sureAddr,loadVar,run_isAggT P ha,this]
   . exact hk.elim
 . exact hk.elim
theorem over_cells {vs:Array Value} {cells new:List D} {nv:List Value} {off:Nat} (hfit:off+new.length<=cells.length) (hsz:cells.length<=vs.size) (hn:new.length=nv.length)
 (hold:∀ (i:Nat) (d:D),cells[i]?=some d->∃ v,vs[i]?=some v/\v.oneCell'=true/\VV L w m d v) (hnew:∀ (i:Nat) (d:D),new[i]?=some d->∃ v,nv[i]?=some v/\v.oneCell'=true/\VV L w m d v) :
 ∀ (i:Nat) (d:D),(over cells off new)[i]?=some d->∃ v,(vs.toList.take off++nv++vs.toList.drop (off+nv.length)).toArray[i]?=some v/\v.oneCell'=true/\VV L w m d v:=by
 intro i d hd;rw[over_get hfit] at hd;have ht:(vs.toList.take off).length=off:=by rw[List.length_take];simp;omega
 have key:(vs.toList.take off++nv++vs.toList.drop (off+nv.length)).toArray[i]?=if off<=i/\i<off+new.length then nv[i-off]? else vs[i]?:=by
  rw[List.getElem?_toArray];by_cases h1:i<off
  . rw[if_neg (by omega),List.append_assoc,List.getElem?_append_left (by omega),List.getElem?_take_of_lt h1];simp
  . rw[List.append_assoc,List.getElem?_append_right (by omega),ht];by_cases h2:i-off<nv.length
    . rw[if_pos ⟨by omega,by omega⟩,List.getElem?_append_left h2]
    . rw[if_neg (by omega),List.getElem?_append_right (by omega),List.getElem?_drop,show off+nv.length+(i-off-nv.length)=i by omega];simp
 rw[key];split at hd
 . rename_i hi;rw[if_pos hi];exact hnew _ d hd
 . rename_i hi;rw[if_neg hi];exact hold i d hd
theorem over_size {vs:Array Value} {nv:List Value} {off:Nat} (h:off+nv.length<=vs.size):(vs.toList.take off++nv++vs.toList.drop (off+nv.length)).toArray.size=vs.size:=by
 simp only[List.size_toArray,List.length_append,List.length_take,List.length_drop,Array.length_toList];omega
theorem store_ok {t:TypeId} {x y:D} {v vy:Value} {K:List (Nat×Blk)->Prop} (h:WR Γ L0 w0 m H w) (hfr:m fr = .res) (hv:VV (Live L0 m H) w m x v) (hy:VV (Live L0 m H) w m y vy) (hk:storeK P t x y H K) :
 ∃ u w',K u/\(Instr.storeAt t v vy).run P w = .ok () w'/\∀ d r,(∀ L' w' m',Grow (Live L0 m H) w L' w'->(∀ k,m k≠.res->m' k=m k)->VV L' w' m' d r)->After Γ L0 w0 fr H m w d u r w':=by
 unfold storeK at hk;split at hk
 . rename_i g off;cases hv with
   | ptr _ _ b sz hm =>
   split at hk
   . rename_i cells hg;obtain⟨hs,hall,hfit,hk⟩:=hk;obtain⟨vs,ty,h1,h2,h3,_,h5⟩:=at_of h hg hm;obtain⟨hc1,hc2⟩:=hy.cells hall;have hlen:vy.cells.toList.length=y.cells.length:=by simp[hc1]
     have hnew:∀ (i:Nat) (d:D),y.cells[i]?=some d->∃ v,vy.cells.toList[i]?=some v/\v.oneCell'=true/\VV (Live L0 m H) w m d v:=fun i d hd=>by
      obtain⟨v,e1,e2,e3⟩:=hy.cell_at hall hd;exact⟨v,by simpa using e1,e2,e3⟩
     have hone:∀ v∈vy.cells.toList,v.oneCell'=true:=fun v hv=>by
      obtain⟨i,hi⟩:=List.getElem?_of_mem hv;have hlt:i<y.cells.length:=by rw[<- hlen];exact (List.getElem?_eq_some_iff.1 hi).1
      exact (hc2 i _ v (List.getElem?_eq_getElem hlt) (by simpa using hi)).2
     have hst:=run_storeCells_at P b off ty vy.cells.toList 0 vs w h1 (by simp at hlen ⊢;omega) hone;simp only[Nat.add_zero] at hst;obtain⟨k1,k2,k3,k4,k5⟩:=h.write (t:=g) (H':=Hp.set H g (.blk true (over cells off y.cells))) (cells':=over cells off y.cells) (vs':=(vs.toList.take off++vy.cells.toList++vs.toList.drop (off+vy.cells.toList.length)).toArray) hg hm h1 (.inl rfl) (by simp[Hp.set]) (fun e=>absurd rfl e)
      (fun k hk _=>by simp[Hp.set,hk]) (by rw[over_size (by omega)];exact h2) (by rw[over_length hfit];exact h3) (over_cells hfit (by omega) hlen.symm h5 hnew)
     refine⟨_,_,hk,?_,fun d r hr=>⟨_,k1,hr _ _ _ k2 k4,k2,fun q hq=>?_⟩⟩
     . obtain⟨ti,hti,hsz⟩:=info_of_sz P hs;have hne:¬ (¬ vy.cells.size=ti.size):=by omega
       simp only[Instr.storeAt,Instr.sureAddr,Sem.run_bind,Sem.run_pure,Result.andThen_ok,storeVar,run_sz P hs,ne_eq,<- hc1];simp only[not_true_eq_false,if_false];exact hst
     . by_cases e:q=g
       . subst e;simp[hm]
       . exact k3 q e
   . exact hk.elim
 . exact hk.elim
theorem new_ok (h:WR Γ L0 w0 m H w) (hfr:m fr = .res) {vs:Array Value} {ty:TypeId} {cells:List D} (hlen:cells.length<=vs.size)
 (hcell:∀ (i:Nat) (d:D),cells[i]?=some d->∃ v,vs[i]?=some v/\v.oneCell'=true/\VV (Live L0 m H) w m d v) :
 After Γ L0 w0 fr H m w (.ptr fr 0) [(fr,.blk true cells)] (.pointer (some ⟨w.heap.size,0,none⟩)) (w.alloc (.cells vs ty)):=by
 obtain⟨k1,k2,k3,k4⟩:=h.new (fr:=fr) (w1:=w) (vs:=vs) (ty:=ty) (fz:=(0,0)) (H':=Hp.set H fr (.blk true cells)) (cells:=cells) hfr ⟨rfl,rfl,rfl,rfl⟩ (by simp[Hp.set]) (fun g hg=>.inl (by simp[Hp.set,hg])) rfl hlen hcell;exact⟨_,k1,.ptr fr 0 _ _ k4,k2,k3⟩
theorem zero_cells {t:TypeId} {z:List D} (hz:zeT P t=some z) (hall:z.all D.cell=true):∃ i v,P.info? t=some i/\i.zero=some v/\z.length=v.cells.size /\
 ∀ (L:Nat->Prop) (w:World) (m:Nat->MB) (i:Nat) (d:D),z[i]?=some d->∃ u,v.cells[i]?=some u/\u.oneCell'=true/\VV L w m d u:=by
 obtain⟨i,v,h1,h2,h3⟩:=zero_of P hz;subst h3;refine⟨i,v,h1,h2,by simp,fun L w m j d hd=>?_⟩;simp only[List.getElem?_map,Option.map_eq_some_iff,Array.getElem?_toList] at hd;obtain⟨u,hu,rfl⟩:=hd;have hc:(cD u).cell=true:=by
  rw[List.all_eq_true] at hall;exact hall _ (List.mem_map.2 ⟨u,List.mem_of_getElem? (i:=j) (by simpa using hu),rfl⟩)
 exact⟨u,hu,(cD_ok (L:=L) (w:=w) (m:=m) u).one hc,cD_ok u⟩
theorem alloc_ok {t:TypeId} {z:List D} (h:WR Γ L0 w0 m H w) (hfr:m fr = .res) (hz:zeT P t=some z) (hall:z.all D.cell=true) :
 ∃ v w',(Instr.alloc t true (.tuple #[])).run P w = .ok v w'/\After Γ L0 w0 fr H m w (.ptr fr 0) [(fr,.blk true z)] v w':=by
 obtain⟨i,v,h1,h2,h3,h4⟩:=zero_cells hz hall;refine⟨_,w.alloc (.cells v.cells t),?_,new_ok h hfr (by omega) (h4 _ _ _)⟩;simp[Instr.alloc,zeroValue,typeInfo,h1,h2,newVar,newRow]
theorem box_ok {t:TypeId} {x:D} {v:Value} (h:WR Γ L0 w0 m H w) (hfr:m fr = .res) (hv:VV (Live L0 m H) w m x v) (hall:x.cells.all D.cell=true) :
 ∃ r w',(Instr.box t v).run P w = .ok r w'/\After Γ L0 w0 fr H m w (.ptr fr 0) [(fr,.blk true x.cells)] r w':=by
 obtain⟨hc1,hc2⟩:=hv.cells hall;refine⟨_,w.alloc (.cells v.cells t),?_,new_ok h hfr (by omega) fun i d hd=>hv.cell_at hall hd⟩;simp[Instr.box,newVar,newRow]
theorem field_ok {t:TypeId} {x:D} {v:Value} {f:Nat} {K:D->Prop} (hv:VV L w m x v) (hk:fieldAddrK P t x f K) :
 ∃ d u,K d/\VV L w m d u/\(Instr.fieldAt t v f).run P w = .ok u w:=by
 unfold fieldAddrK at hk;split at hk
 . rename_i o ft hf;obtain⟨fs,fd,hu,hfd,rfl,rfl⟩:=field_of P hf;split at hk
   . rename_i n hs;have hpl:∀ b off,(fieldPlace ⟨b,off,none⟩ fd).run P w = .ok ⟨b,off+fd.offset,none⟩ w:=fun b off=>by
      simp[fieldPlace,run_sz P hs,add_off]
     split at hk
     . rename_i g off;cases hv with
       | ptr _ _ b sz hm =>
       refine⟨_,_,hk,.ptr _ _ b sz hm,?_⟩;simp[Instr.fieldAt,run_underlying hu,hfd,Instr.sureAddr,hpl]
     . rename_i cells;cases hv with
       | cptr _ b off vs hb hL hc hvv =>
       refine⟨_,_,hk,.cptr _ b (off+fd.offset) (fun i=>vs (fd.offset+i)) hb hL (fun i x hx=>?_) (fun i x hx=>?_),?_⟩
       . rw[List.getElem?_drop] at hx;rw[Nat.add_assoc];exact hc _ x hx
       . rw[List.getElem?_drop] at hx;exact hvv _ x hx
       . simp[Instr.fieldAt,run_underlying hu,hfd,Instr.sureAddr,hpl]
     . exact hk.elim
   . exact hk.elim
 . exact hk.elim
end
theorem flat_at {es:Nat}:∀ {l:List Data},(∀ x∈l,x.cells.length=es)->∀ {i:Nat} {y:Data},l[i]?=some y->∀ {j:Nat} {c:Data},y.cells[j]?=some c->(flat l)[i*es+j]?=some c
 | [],_,i,y,hy,_,_,_=>by simp at hy
 | x::l,h,0,y,hy,j,c,hc=>by
   simp at hy;subst hy;have hj:=(List.getElem?_eq_some_iff.1 hc).1;simp only[flat,List.flatMap_cons,Nat.zero_mul,Nat.zero_add];rw[List.getElem?_append_left hj];exact hc
 | x::l,h,i+1,y,hy,j,c,hc=>by
   have hx:x.cells.length=es:=h x (by simp);have ih:=flat_at (l:=l) (fun z hz=>h z (by simp[hz])) (i:=i) (y:=y) (by simpa using hy) hc;simp only[flat,List.flatMap_cons];rw[List.getElem?_append_right (by rw[hx,Nat.succ_mul];omega),hx,show (i+1)*es+j-es=i*es+j by rw[Nat.succ_mul];omega];exact ih
theorem flat_length {es:Nat}:∀ {l:List Data},(∀ x∈l,x.cells.length=es)->(flat l).length=l.length*es
 | [],_=>by simp[flat]
 | x::l,h=>by
   have:=flat_length (l:=l) (fun z hz=>h z (by simp[hz]));have hx:x.cells.length=es:=h x (by simp);simp only[flat,List.flatMap_cons,List.length_append,List.length_cons] at *;rw[this,hx,Nat.succ_mul];omega
theorem flat_append (l m:List Data):flat (l++m)=flat l++flat m:=by simp[flat]
theorem flat_drop {es:Nat} {l:List Data} (h:∀ x∈l,x.cells.length=es) (k:Nat) (hk:k<=l.length):flat (l.drop k)=(flat l).drop (k*es):=by
 have e:flat l=flat (l.take k)++flat (l.drop k):=by rw[<- flat_append,List.take_append_drop]
 have hl:(flat (l.take k)).length=k*es:=by
  rw[flat_length (es:=es) (fun x hx=>h x (List.mem_of_mem_take hx))];simp[Nat.min_eq_left hk]
 rw[e,List.drop_left' hl]
theorem flat_take {es:Nat} {l:List Data} (h:∀ x∈l,x.cells.length=es) (k:Nat) (hk:k<=l.length):flat (l.take k)=(flat l).take (k*es):=by
 have e:flat l=flat (l.take k)++flat (l.drop k):=by rw[<- flat_append,List.take_append_drop]
 have hl:(flat (l.take k)).length=k*es:=by
  rw[flat_length (es:=es) (fun x hx=>h x (List.mem_of_mem_take hx))];simp[Nat.min_eq_left hk]
 rw[e,List.take_left' hl]
section
variable {P:Program} {w:World} {m:Nat->MB} {L:Nat->Prop}
theorem int_inv {k:IntKind} {n:Int} {v:Value} (h:VV L w m (.data (.int k n)) v):v = .int k n:=by
 have:=h.data_inv;cases this;rfl
theorem indexAddr_ok {t:TypeId} {x ix:D} {v vi:Value} {K:D->Prop} (hv:VV L w m x v) (hi:VV L w m ix vi) (hk:indexAddrK P t x ix K) :
 ∃ d u,K d/\VV L w m d u/\(Instr.indexAt t v vi).run P w = .ok u w:=by
 unfold indexAddrK at hk;split at hk
 . rename_i k i;obtain rfl:=int_inv hi;split at hk
   . rename_i es l;split at hk
     . rename_i e he;obtain⟨hs,h0,y,hy,hk⟩:=hk;have hu:=und_slice P he;have hv:=hv.data_inv;cases hv with
       | sl _ _ a n cap b off vs hn hle hm hes ha hc hvv =>
       subst hn;have hlt:i.toNat<l.length:=(List.getElem?_eq_some_iff.1 hy).1;rcases ha with⟨rfl,hb,hL⟩|h1
       . refine⟨_,.pointer (some ⟨b,off+i.toNat*es,none⟩),hk,.cptr _ b (off+i.toNat*es) (fun j=>vs (i.toNat*es+j)) hb hL (fun j c hj=>?_) (fun j c hj=>?_),?_⟩
         . rw[Nat.add_assoc];exact hc _ c (flat_at hes hy hj)
         . exact hvv _ c (flat_at hes hy hj)
         . have hr:(0:Int)<=i/\i<(l.length:Int):=⟨h0,by omega⟩;simp[Instr.indexAt,asIntOf,run_underlying hu,hr,run_sz P hs,add_off]
       . subst h1;simp at hlt
     . exact hk.elim
   . rename_i g off len es;split at hk
     . rename_i e he;obtain⟨hs,h0,hlt,hk⟩:=hk;have hu:=und_slice P he;have hr:(0:Int)<=i/\i<(len:Int):=⟨h0,hlt⟩;cases hv with
       | ref _ _ _ _ b sz cap o h1 h2 h3 h4 h5 =>
         have ho:o=off:=by
          rcases h2 with h2|h2
          . exact h2
          . omega
         subst ho;refine⟨_,_,hk,.ptr _ _ b sz h1,?_⟩;simp[Instr.indexAt,asIntOf,run_underlying hu,hr,run_sz P hs,add_off]
       | ref0 _ _ a h1=>omega
     . exact hk.elim
   . rename_i g off;split at hk
     . rename_i n e he;obtain⟨h0,hlt,hk⟩:=hk;split at hk
       . rename_i es hs;have hu:=und_arr P he;have hr:(0:Int)<=i/\i<(n:Int):=⟨h0,hlt⟩;cases hv with
         | ptr _ _ b sz h1 =>
         refine⟨_,_,hk,.ptr _ _ b sz h1,?_⟩;simp[Instr.indexAt,asIntOf,run_underlying hu,hr,run_sz P hs,add_off,Instr.sureAddr]
       . exact hk.elim
     . exact hk.elim
   . rename_i cells;split at hk
     . rename_i n e he;obtain⟨h0,hlt,hk⟩:=hk;split at hk
       . rename_i es hs;have hu:=und_arr P he;have hr:(0:Int)<=i/\i<(n:Int):=⟨h0,hlt⟩;cases hv with
         | cptr _ b off vs hb hL hc hvv =>
         refine⟨_,.pointer (some ⟨b,off+i.toNat*es,none⟩),hk,.cptr _ b (off+i.toNat*es) (fun j=>vs (i.toNat*es+j)) hb hL (fun j c hj=>?_) (fun j c hj=>?_),?_⟩
         . rw[List.getElem?_drop] at hj;rw[Nat.add_assoc];exact hc _ c hj
         . rw[List.getElem?_drop] at hj;exact hvv _ c hj
         . simp[Instr.indexAt,asIntOf,run_underlying hu,hr,run_sz P hs,add_off,Instr.sureAddr]
       . exact hk.elim
     . exact hk.elim
   . exact hk.elim
 . exact hk.elim
theorem aggD_inv {x:D} {cs:List D} {v:Value} (h:aggD x=some cs) (hv:VV L w m x v):∃ vs,v = .agg vs/\cs.length=vs.size/\∀ (i:Nat) (d:D) (u:Value),cs[i]?=some d->vs[i]?=some u->VV L w m d u:=by
 unfold aggD at h;split at h
 . rename_i xs;cases h;have hv:=hv.data_inv;cases hv with
   | agg _ vs hl hh =>
   refine⟨vs,rfl,by simpa using hl,fun i d u hd hu=>?_⟩;simp only[List.getElem?_map,Option.map_eq_some_iff] at hd;obtain⟨y,hy,rfl⟩:=hd;exact .data _ _ (hh i y u hy hu)
 . cases h;cases hv with
   | agg _ vs hl hh=>exact⟨vs,rfl,hl,hh⟩
 . cases h
theorem part_ok {t:TypeId} {cs:List D} {off:Nat} {vs:Array Value} {K:D->Prop} (hl:cs.length=vs.size) (hh:∀ (i:Nat) (d:D) (u:Value),cs[i]?=some d->vs[i]?=some u->VV L w m d u) (hk:partK P t cs off K) :
 ∃ d u,K d/\VV L w m d u/\(part t vs off).run P w = .ok u w:=by
 unfold partK at hk;split at hk
 . rename_i n ha hs;obtain⟨hfit,hk⟩:=hk;refine⟨_,.agg (vs.extract off (off+n)),hk,VV.mk_agg (by simp;omega) fun i x v hx hv=>?_,?_⟩
   . rw[List.getElem?_take] at hx;split at hx
     . rename_i hi;rw[List.getElem?_drop] at hx;refine hh (off+i) x v hx ?_;rw[Array.getElem?_extract] at hv;split at hv
       . exact hv
       . cases hv
     . cases hx
   . simp[part,run_isAggT P ha,run_sz P hs]
 . rename_i ha;obtain⟨d,hd,hk⟩:=hk;have hi:off<vs.size:=by rw[<- hl];exact (List.getElem?_eq_some_iff.1 hd).1
   refine⟨_,_,hk,hh off d _ hd (Array.getElem?_eq_getElem hi),?_⟩;simp[part,run_isAggT P ha,hi]
 . exact hk.elim
theorem fieldV_ok {t:TypeId} {x:D} {v:Value} {f:Nat} {K:D->Prop} (hv:VV L w m x v) (hk:fieldK P t x f K) :
 ∃ d u,K d/\VV L w m d u/\(Instr.field t v f).run P w = .ok u w:=by
 unfold fieldK at hk;split at hk
 . rename_i o ft cs hf ha;obtain⟨fs,fd,hu,hfd,rfl,rfl⟩:=field_of P hf;obtain⟨vs,rfl,hl,hh⟩:=aggD_inv ha hv;obtain⟨d,u,h1,h2,h3⟩:=part_ok hl hh hk;refine⟨d,u,h1,h2,?_⟩;simp[Instr.field,run_underlying hu,hfd,asAgg,h3]
 . exact hk.elim
theorem indexV_ok {t:TypeId} {x ix:D} {v vi:Value} {K:D->Prop} (hv:VV L w m x v) (hi:VV L w m ix vi) (hk:indexK P t x ix K) :
 ∃ d u,K d/\VV L w m d u/\(Instr.index t v vi).run P w = .ok u w:=by
 unfold indexK at hk;split at hk
 . rename_i k i;obtain rfl:=int_inv hi;split at hk
   . rename_i s;obtain⟨ht,h0,b,hb,hk⟩:=hk;have hu:=und_str P ht;have hv:=hv.data_inv;cases hv;refine⟨_,_,hk,.data _ _ (.int _ _),?_⟩;simp[Instr.index,asIntOf,run_underlying hu,h0,hb]
   . split at hk
     . rename_i n e cs he ha;obtain⟨h0,hlt,hk⟩:=hk;split at hk
       . rename_i es hs;have hu:=und_arr P he;obtain⟨vs,rfl,hl,hh⟩:=aggD_inv ha hv;obtain⟨d,u,h1,h2,h3⟩:=part_ok hl hh hk;refine⟨d,u,h1,h2,?_⟩;have hr:(0:Int)<=i/\i<(n:Int):=⟨h0,hlt⟩;simp[Instr.index,asIntOf,run_underlying hu,hr,run_sz P hs,h3]
       . exact hk.elim
     . exact hk.elim
 . exact hk.elim
theorem arrPtr_ok {t:TypeId} {x:D} {v:Value} {K:D->Prop} (hv:VV L w m x v) (hk:arrPtrK P t x K) :
 ∃ d u,K d/\VV L w m d u/\(Instr.arrayAt t v).run P w = .ok u w:=by
 unfold arrPtrK at hk;split at hk
 . rename_i n e es l hn;obtain⟨h0,h1,hk⟩:=hk;have hu:=und_arr P hn;have hv:=hv.data_inv;cases hv with
   | sl _ _ a len cap b off vs hl hle hm hes ha hc hvv =>
   have h2:¬ len<n:=by omega
   rcases ha with⟨rfl,hb,hL⟩|rfl
   . exact⟨_,_,hk,.cptr _ b off vs hb hL hc hvv,by simp[Instr.arrayAt,run_underlying hu,h2]⟩
   . simp at h1;omega
 . rename_i n e g off len es hn;obtain⟨h0,h1,hk⟩:=hk;have hu:=und_arr P hn;have h2:¬ len<n:=by omega
   cases hv with
   | ref _ _ _ _ b sz cap o hm ho hs hl hc =>
     have e:o=off:=by rcases ho with h|h<;>omega
     subst e;exact⟨_,_,hk,.ptr _ _ b sz hm,by simp[Instr.arrayAt,run_underlying hu,h2]⟩
   | ref0=>omega
 . exact hk.elim
theorem natD_inv {d:D} {v:Value} {n:Int} (h:natD d=some n) (hv:VV L w m d v):∃ k,v = .int k n:=by
 unfold natD at h;split at h
 . cases h;exact⟨_,int_inv hv⟩
 . cases h
theorem bounds_ok {isSlice:Bool} {len cap:Nat} {lo hi:Option D} {vlo vhi:Option Value} {K:Nat->Nat->Prop} (hc:len<=cap)
 (hlo:∀ d,lo=some d->∃ v,vlo=some v/\VV L w m d v) (hlo0:lo=none->vlo=none) (hhi:∀ d,hi=some d->∃ v,vhi=some v/\VV L w m d v) (hhi0:hi=none->vhi=none) (hk:boundsK len lo hi K) :
 ∃ a b,K a b/\a<=b/\b<=len/\(Instr.sliceBounds isSlice len cap vlo vhi none).run P w = .ok (a,b,cap) w:=by
 unfold boundsK at hk;split at hk
 . rename_i l h hl hh;obtain⟨h0,h1,h2,hk⟩:=hk;refine⟨l.toNat,h.toNat,hk,by omega,by omega,?_⟩;have hb:∀ (y:Nat) (k:IntKind) (n:Int) (c:BoundsCode),0<=n->n<=y->(Instr.sliceBound (.int k n) y c).run P w = .ok n.toNat w:=fun y k n c hn hy=>by
    simp[Instr.sliceBound,asIntOf,hn,hy]
   cases hi with
   | none =>
     simp only[Option.some.injEq] at hh;subst hh;rw[hhi0 rfl];cases lo with
     | none =>
       simp only[Option.some.injEq] at hl;subst hl;rw[hlo0 rfl];simp[Instr.sliceBounds]
     | some d =>
       obtain⟨v,e1,e2⟩:=hlo d rfl;obtain⟨k,rfl⟩:=natD_inv hl e2;rw[e1];simp[Instr.sliceBounds,hb len k l _ h0 (by omega)]
   | some dh =>
     obtain⟨v2,e3,e4⟩:=hhi dh rfl;obtain⟨k2,rfl⟩:=natD_inv hh e4;rw[e3];cases lo with
     | none =>
       simp only[Option.some.injEq] at hl;subst hl;rw[hlo0 rfl];simp[Instr.sliceBounds,hb cap k2 h _ (by omega) (by omega)]
     | some d =>
       obtain⟨v,e1,e2⟩:=hlo d rfl;obtain⟨k,rfl⟩:=natD_inv hl e2;rw[e1];simp[Instr.sliceBounds,hb cap k2 h _ (by omega) (by omega),hb h.toNat k l _ h0 (by omega)]
 . exact hk.elim
theorem map_some {a:Option Operand} {ρ:Operand->D} {σ:Operand->Value} (h:∀ x,VV L w m (ρ x) (σ x)):(∀ d,a.map ρ=some d->∃ v,a.map σ=some v/\VV L w m d v)/\(a.map ρ=none->a.map σ=none):=by
 cases a with
 | none=>exact⟨fun d hd=>(by cases hd),fun _=>rfl⟩
 | some x=>exact⟨fun d hd=>by cases hd;exact⟨_,rfl,h x⟩,fun hd=>by cases hd⟩
theorem sub_sl {es n cap i j c:Nat} {l:List Data} {a:Option Addr} (hv:VD L w (.sl es l) (.slice a n cap)) (hij:i<=j) (hjl:j<=l.length) (hjc:j<=c) (hcc:c<=cap) :
 VD L w (.sl es ((l.take j).drop i)) (.slice (if c=i then a else a.map (·.add (i*es))) (j-i) (c-i)):=by
 cases hv with
 | sl _ _ _ _ _ b off vs hn hle hm hes ha hc hvv =>
 subst hn;have hes':∀ x∈(l.take j).drop i,x.cells.length=es:=fun x hx=>hes x (List.mem_of_mem_take (List.mem_of_mem_drop hx));have hlen:j-i=((l.take j).drop i).length:=by simp;omega
 have hfl:flat ((l.take j).drop i)=((flat l).take (j*es)).drop (i*es):=by
  rw[flat_drop (fun x hx=>hes x (List.mem_of_mem_take hx)) i (by simp;omega),flat_take hes j hjl]
 by_cases hij:i=j
 . refine .sl es _ _ _ _ b off vs hlen (by omega) (by omega) hes' (.inr (by simp;omega)) (fun q c hq=>?_) (fun q c hq=>?_)
   all_goals
    rw[hfl] at hq;have:=(List.getElem?_eq_some_iff.1 hq).1;simp[hij] at this
 . rcases ha with⟨rfl,hb,hL⟩|h0
   . rw[if_neg (by omega)];refine .sl es _ _ _ _ b (off+i*es) (fun q=>vs (i*es+q)) hlen (by omega) (by omega) hes' (.inl ⟨by simp[add_off],hb,hL⟩) (fun q c hq=>?_) (fun q c hq=>?_)
     all_goals
      rw[hfl,List.getElem?_drop,List.getElem?_take] at hq;split at hq
      . first
        | exact hvv _ c hq
        | (rw[Nat.add_assoc];exact hc _ c hq)
      . cases hq
   . subst h0;simp at hjl;omega
theorem natD_is {x:D} {n:Int} (h:natD x=some n) {v:Value} (hv:VV L w m x v):∃ k,v = .int k n:=by
 unfold natD at h;split at h
 . cases h;exact⟨_,int_inv hv⟩
 . cases h
theorem bounds3_ok {len cp cap:Nat} {lo hi:Option Operand} {mo:Operand} {ρ:Operand->D} {σ:Operand->Value} (hρ:∀ x,VV L w m (ρ x) (σ x)) (hle:len<=cp) (hc:cp<=cap) {K:Nat->Nat->Nat->Prop} (h:boundsC len cp (lo.map ρ) (hi.map ρ) (some (ρ mo)) K) :
 ∃ a b c,K a b c/\a<=b/\b<=c/\c<=cp/\(Instr.sliceBounds true len cap (lo.map σ) (hi.map σ) (some (σ mo))).run P w = .ok (a,b,c) w:=by
 unfold boundsC at h;split at h
 . rename_i l h' M hl hh hM;obtain⟨h0,h1,h2,h3,hk⟩:=h;have hb:∀ (y:Nat) (k:IntKind) (n:Int) (c:BoundsCode),0<=n->n<=y->(Instr.sliceBound (.int k n) y c).run P w = .ok n.toNat w:=fun y k n c hn hy=>by
    simp[Instr.sliceBound,asIntOf,hn,hy]
   have num:∀ (x:Operand) (n:Int),natD (ρ x)=some n->∃ k,σ x = .int k n:=fun x n hn=>natD_is hn (hρ x);refine⟨l.toNat,h'.toNat,M.toNat,hk,by omega,by omega,by omega,?_⟩;obtain⟨k3,e3⟩:=num mo M (by simpa using hM);cases hi with
   | none=>simp at hh
   | some c =>
     obtain⟨k2,e2⟩:=num c h' (by simpa using hh);cases lo with
     | none =>
       simp only[Option.map_none,Option.some.injEq] at hl;subst hl;simp[Instr.sliceBounds,e2,e3,hb cap k3 M _ (by omega) (by omega),hb M.toNat k2 h' _ (by omega) (by omega)]
     | some a =>
       obtain⟨k,e1⟩:=num a l (by simpa using hl);simp[Instr.sliceBounds,e1,e2,e3,hb cap k3 M _ (by omega) (by omega),hb M.toNat k2 h' _ (by omega) (by omega),hb h'.toNat k l _ h0 (by omega)]
 . exact h.elim
theorem slice_ok {t:TypeId} {x:D} {v:Value} {lo hi mx:Option Operand} {ρ:Operand->D} {σ:Operand->Value} {K:D->Prop} (hρ:∀ x,VV L w m (ρ x) (σ x)) (hv:VV L w m x v) (hk:sliceK P t x (lo.map ρ) (hi.map ρ) (mx.map ρ) K) :
 ∃ d u,K d/\VV L w m d u/\(Instr.sliceAt t v (lo.map σ) (hi.map σ) (mx.map σ)).run P w = .ok u w:=by
 obtain⟨l1,l2⟩:=map_some (a:=lo) hρ;obtain⟨h1,h2⟩:=map_some (a:=hi) hρ;unfold sliceK at hk;split at hk
 . rename_i md hmx;obtain⟨mo,rfl,rfl⟩:∃ mo,mx=some mo/\ρ mo=md:=by
    cases mx with
    | none=>cases hmx
    | some mo=>exact⟨mo,rfl,by simpa using hmx⟩
   split at hk
   . rename_i es l;split at hk
     . rename_i e he;obtain⟨hs,hk⟩:=hk;have hu:=und_slice P he;have hv:=hv.data_inv;cases hv with
       | sl _ _ a n cap b off vs hn hle hm hes ha hc hvv =>
       subst hn;obtain⟨i,j,c,⟨hjc,hk⟩,q1,q2,q3,hr⟩:=bounds3_ok (P:=P) (cap:=cap) hρ (Nat.le_refl _) hle hk;subst hjc;refine⟨_,_,hk,.ful _ _ (if j=i then a else a.map (·.add (i*es))) (j-i) (sub_sl (.sl es l a _ cap b off vs rfl hle hm hes ha hc hvv) q1 q3 (Nat.le_refl _) (by omega)),?_⟩;simp only[Option.map_some,Instr.sliceAt,run_underlying hu,Instr.slice,hr,run_sz P hs,Sem.run_bind,Result.andThen_ok,Sem.run_pure]
       try rfl
     . exact hk.elim
   . exact hk.elim
 . rename_i hmx;have hmx:mx=none:=by cases mx with|none=>rfl|some _=>cases hmx
   subst hmx;simp only[Option.map_none];split at hk
   . rename_i s;obtain⟨ht,hk⟩:=hk;have hu:=und_str P ht;have hv:=hv.data_inv;cases hv;obtain⟨a,b,hk,hab,hbl,hr⟩:=bounds_ok (P:=P) (isSlice:=false) (cap:=s.size) (Nat.le_refl _) l1 l2 h1 h2 hk;refine⟨_,_,hk,.data _ _ (.str _),?_⟩;simp[Instr.sliceAt,run_underlying hu,Instr.slice,hr]
   . rename_i es l;split at hk
     . rename_i e he;obtain⟨hs,hk⟩:=hk;have hu:=und_slice P he;have hv:=hv.data_inv;cases hv with
       | sl _ _ a n cap b off vs hn hle hm hes ha hc hvv =>
       subst hn;obtain⟨i,j,hk,hab,hbl,hr⟩:=bounds_ok (P:=P) (isSlice:=true) (cap:=cap) hle l1 l2 h1 h2 hk;have hes':∀ x∈(l.take j).drop i,x.cells.length=es:=fun x hx=>hes x (List.mem_of_mem_take (List.mem_of_mem_drop hx));have hlen:j-i=((l.take j).drop i).length:=by simp;omega
       have hfl:flat ((l.take j).drop i)=((flat l).take (j*es)).drop (i*es):=by
        rw[flat_drop (fun x hx=>hes x (List.mem_of_mem_take hx)) i (by simp;omega),flat_take hes j hbl]
       refine⟨_,.slice (if cap=i then a else a.map (·.add (i*es))) (j-i) (cap-i),hk,.data _ _ ?_,?_⟩
       . by_cases hij:i=j
         . refine .sl es _ _ _ _ b off vs hlen (by omega) (by omega) hes' (.inr (by simp;omega)) (fun q c hq=>?_) (fun q c hq=>?_)
           all_goals
            rw[hfl] at hq;have:=(List.getElem?_eq_some_iff.1 hq).1;simp[hij] at this
         . rcases ha with⟨rfl,hb,hL⟩|h0
           . rw[if_neg (by omega)];refine .sl es _ _ _ _ b (off+i*es) (fun q=>vs (i*es+q)) hlen (by omega) (by omega) hes' (.inl ⟨by simp[add_off],hb,hL⟩) (fun q c hq=>?_) (fun q c hq=>?_)
             all_goals
              rw[hfl,List.getElem?_drop,List.getElem?_take] at hq;split at hq
              . first
                | exact hvv _ c hq
                | (rw[Nat.add_assoc];exact hc _ c hq)
              . cases hq
           . subst h0;simp at hbl;omega
       . simp[Instr.sliceAt,run_underlying hu,Instr.slice,hr,run_sz P hs]
     . exact hk.elim
   . rename_i g off len es;split at hk
     . rename_i e he;obtain⟨hs,hk⟩:=hk;have hu:=und_slice P he;cases hv with
       | ref _ _ _ _ b sz cap o k1 k2 k3 k4 k5 =>
         obtain⟨i,j,hk,hab,hbl,hr⟩:=bounds_ok (P:=P) (isSlice:=true) (cap:=cap) k4 l1 l2 h1 h2 hk;refine⟨_,.slice (if cap=i then some ⟨b,o,none⟩ else some ⟨b,o+i*es,none⟩) (j-i) (cap-i),hk,?_,?_⟩
         . have hmul:i*es+(cap-i)*es=cap*es:=by rw[<- Nat.add_mul];congr 1;omega
           by_cases hci:cap=i
           . rw[if_pos hci];exact .ref _ _ _ _ b sz _ o k1 (.inr (by omega)) (by omega) (by omega) (by omega)
           . rw[if_neg hci];refine .ref _ _ _ _ b sz _ _ k1 ?_ (by omega) (by omega) (by omega);rcases k2 with k2|k2
             . exact .inl (by rw[k2])
             . exact .inr (by omega)
         . simp only[Instr.sliceAt,run_underlying hu,Instr.slice,hr,run_sz P hs,Sem.run_bind,Result.andThen_ok,Sem.run_pure,Option.map_some,add_off]
       | ref0 _ _ a k1 =>
         obtain⟨i,j,hk,hab,hbl,hr⟩:=bounds_ok (P:=P) (isSlice:=true) (cap:=0) (Nat.le_refl _) l1 l2 h1 h2 hk;have hj:j=0:=by omega
         have hi0:i=0:=by omega
         subst hj;subst hi0;refine⟨_,.slice a 0 0,hk,?_,?_⟩
         . simp only[Nat.zero_mul,Nat.add_zero,Nat.sub_zero];exact .ref0 _ _ a k1
         . simp[Instr.sliceAt,run_underlying hu,Instr.slice,hr,run_sz P hs]
     . exact hk.elim
   . rename_i es;split at hk
     . rename_i e he;obtain⟨hs,hk⟩:=hk;have hu:=und_slice P he;cases hv with
       | emp _ a =>
       obtain⟨i,j,hk,hab,hbl,hr⟩:=bounds_ok (P:=P) (isSlice:=true) (cap:=0) (Nat.le_refl _) l1 l2 h1 h2 hk;have hj:j=0:=by omega
       have hi0:i=0:=by omega
       subst hj;subst hi0;refine⟨_,.slice a 0 0,hk,.emp es a,?_⟩;simp[Instr.sliceAt,run_underlying hu,Instr.slice,hr,run_sz P hs]
     . exact hk.elim
   . exact hk.elim
end
section
variable {P:Program} {Γ:Nat->Option (List Data)} {L0:Nat->Prop} {w0:W0} {m:Nat->MB} {H:Nat->Blk} {w:World} {fr:Nat} {L:Nat->Prop}
structure Src (P:Program) (L:Nat->Prop) (m:Nat->MB) (w:World) (es n:Nat) (cs:List D) (v:Value) (news:List Value):Prop where
 len:(Builtin.lenOf v).run P w = .ok n w
 len':(Builtin.lenOf v).run P w.drew = .ok n w.drew
 first:∀ k,k<=n->(Builtin.firstCells es k v).run P w = .ok (news.take (k*es)).toArray w
 first':(Builtin.firstCells es n v).run P w.drew = .ok news.toArray w.drew
 cl:cs.length=n*es
 nl:news.length=n*es
 at':∀ (i:Nat) (d:D),cs[i]?=some d->∃ u,news[i]?=some u/\VV L w m d u
theorem Src.mk' {es n:Nat} {cs:List D} {v:Value} {news:List Value} {b off len cap:Nat} (hv:v = .slice (some ⟨b,off,none⟩) len cap) (hn:len=n)
 (hcell:∀ j u,news[j]?=some u->w.cell? ⟨b,off+j,none⟩=some u) (cl:cs.length=n*es) (nl:news.length=n*es) (hat:∀ (i:Nat) (d:D),cs[i]?=some d->∃ u,news[i]?=some u/\VV L w m d u):Src P L m w es n cs v news:=by
 subst hv;subst hn;refine⟨by simp[Builtin.lenOf],by simp[Builtin.lenOf],fun k hk=>?_,?_,cl,nl,hat⟩
 . have hk':k*es<=len*es:=Nat.mul_le_mul_right _ hk;refine run_firstCells_some (P:=P) w es k ⟨b,off,none⟩ len cap (news.take (k*es)) (by simp;omega) fun j u hu=>?_;rw[add_off];rw[List.getElem?_take] at hu;split at hu
   . exact hcell j u hu
   . cases hu
 . exact run_firstCells_some (P:=P) w.drew es len ⟨b,off,none⟩ len cap news nl fun j u hu=>by rw[add_off];exact hcell j u hu
theorem Src.none' {es:Nat} {v:Value} {a:Option Addr} {cap:Nat} (hv:v = .slice a 0 cap):Src P L m w es 0 [] v []:=by
 subst hv;refine⟨by simp[Builtin.lenOf],by simp[Builtin.lenOf],fun k hk=>?_,?_,by simp,by simp,fun i d hd=>by simp at hd⟩
 . obtain rfl:k=0:=by omega
   cases a<;>simp[Builtin.firstCells,loadCells,loadCellsFrom]
 . cases a<;>simp[Builtin.firstCells,loadCells,loadCellsFrom]
theorem src_ok {y:D} {vy:Value} {es:Nat} {K:Nat->List D->List Nat->Prop} (h:WR Γ L0 w0 m H w) (hy:VV (Live L0 m H) w m y vy) (hk:srcK y es H K) :
 ∃ n cs rd news,K n cs rd/\Src P (Live L0 m H) m w es n cs vy news:=by
 unfold srcK at hk;split at hk
 . cases hy with
   | emp _ a=>exact⟨_,_,_,_,hk,Src.none' rfl⟩
 . rename_i es' l;obtain⟨rfl,hk⟩:=hk;have hy:=hy.data_inv;cases hy with
   | sl _ _ a n cap b off vs hn hle hm hes ha hc hvv =>
   subst hn;rcases ha with⟨rfl,hb,hL⟩|h0
   . have hfl:=flat_length hes;refine⟨_,_,_,(List.range (l.length*es')).map vs,hk,Src.mk' (b:=b) (off:=off) (cap:=cap) rfl rfl (fun j u hu=>?_) (by simp[hfl]) (by simp) (fun i d hd=>?_)⟩
     . rw[List.getElem?_map,Option.map_eq_some_iff] at hu;obtain⟨q,hq,rfl⟩:=hu;have hlt:=(List.getElem?_eq_some_iff.1 hq).1;simp at hlt;rw[List.getElem?_range hlt] at hq;cases hq;exact hc j _ (List.getElem?_eq_getElem (by omega))
     . rw[List.getElem?_map,Option.map_eq_some_iff] at hd;obtain⟨x,hx,rfl⟩:=hd;have hlt:=(List.getElem?_eq_some_iff.1 hx).1;exact⟨vs i,by rw[List.getElem?_map,List.getElem?_range (by omega)];rfl,.data _ _ (hvv i x hx)⟩
   . subst h0;exact⟨_,_,_,_,hk,by simpa[flat] using Src.none' (P:=P) (L:=Live L0 m H) (m:=m) (w:=w) (es:=es') (v:=.slice a ([]:List Data).length cap) rfl⟩
 . rename_i g off len es';obtain⟨rfl,hk⟩:=hk;split at hk
   . rename_i rw cells hg;obtain⟨hfit,hk⟩:=hk;cases hy with
     | ref _ _ _ _ b sz cap o k1 k2 k3 k4 k5 =>
       obtain⟨vs,ty,h1,h2,h3,_,h5⟩:=at_of h hg k1;by_cases hl:len=0
       . subst hl;refine⟨_,_,_,[],hk,?_⟩;have:(cells.drop off).take (0*es')=[]:=by simp
         rw[this];exact Src.none' rfl
       . have ho:o=off:=by
          rcases k2 with k2|k2
          . exact k2
          . omega
         subst ho;have hcl:((cells.drop o).take (len*es')).length=len*es':=by simp;omega
         refine⟨_,_,_,(vs.toList.drop o).take (len*es'),hk,Src.mk' (b:=b) (off:=o) (cap:=cap) rfl rfl (fun j u hu=>?_) hcl (by simp;omega) (fun i d hd=>?_)⟩
         . rw[List.getElem?_take] at hu;split at hu
           . rw[List.getElem?_drop] at hu;rw[cell_of h1];simpa using hu
           . cases hu
         . rw[List.getElem?_take] at hd;split at hd
           . rename_i hi;rw[List.getElem?_drop] at hd;obtain⟨v,e1,e2,e3⟩:=h5 _ d hd;exact⟨v,by rw[List.getElem?_take,if_pos hi,List.getElem?_drop];simpa using e1,e3⟩
           . cases hd
     | ref0 _ _ a k1 =>
       refine⟨_,_,_,[],hk,?_⟩;have:(cells.drop 0).take (0*es')=[]:=by simp
       rw[this];exact Src.none' rfl
   . exact hk.elim
 . rename_i g off len cp es';obtain⟨rfl,hk⟩:=hk;split at hk
   . rename_i rw cells hg;obtain⟨hfit,hk⟩:=hk;cases hy with
     | cut _ _ _ _ _ b sz cap o k1 k2 k3 k4 k5 k6 =>
       obtain⟨vs,ty,h1,h2,h3,_,h5⟩:=at_of h hg k1;by_cases hl:len=0
       . subst hl;refine⟨_,_,_,[],hk,?_⟩;have:(cells.drop off).take (0*es')=[]:=by simp
         rw[this];exact Src.none' rfl
       . have ho:o=off:=by
          rcases k2 with k2|k2
          . exact k2
          . omega
         subst ho;have hcl:((cells.drop o).take (len*es')).length=len*es':=by simp;omega
         refine⟨_,_,_,(vs.toList.drop o).take (len*es'),hk,Src.mk' (b:=b) (off:=o) (cap:=cap) rfl rfl (fun j u hu=>?_) hcl (by simp;omega) (fun i d hd=>?_)⟩
         . rw[List.getElem?_take] at hu;split at hu
           . rw[List.getElem?_drop] at hu;rw[cell_of h1];simpa using hu
           . cases hu
         . rw[List.getElem?_take] at hd;split at hd
           . rename_i hi;rw[List.getElem?_drop] at hd;obtain⟨v,e1,e2,e3⟩:=h5 _ d hd;exact⟨v,by rw[List.getElem?_take,if_pos hi,List.getElem?_drop];simpa using e1,e3⟩
           . cases hd
   . exact hk.elim
 . rename_i s;obtain⟨rfl,hk⟩:=hk;have hy:=hy.data_inv;cases hy;have hsz:s.toList.length=s.size:=by rw[ByteArray.toList_eq,Array.length_toList];rfl
   have hfull:s.extract 0 s.size=s:=by simp
   refine⟨_,_,_,s.toList.map fun b=>.int .u8 b.toNat,hk,⟨by simp[Builtin.lenOf],by simp[Builtin.lenOf],fun k hk=>?_,?_,by simp[hsz],by simp[hsz],fun i d hd=>?_⟩⟩
   . simp only[Builtin.firstCells,Sem.run_pure];congr 1;apply Array.ext';simp only[Array.toList_map,Nat.mul_one,List.map_take,ByteArray.toList_eq,List.toList_toArray];simp
   . simp only[Builtin.firstCells,Sem.run_pure,hfull];congr 1;apply Array.ext';simp[ByteArray.toList_eq]
   . rw[List.getElem?_map,Option.map_eq_some_iff] at hd;obtain⟨x,hx,rfl⟩:=hd;exact⟨_,by rw[List.getElem?_map,hx];rfl,.data _ _ (.int _ _)⟩
 . exact hk.elim
end
section
variable {P:Program} {Γ:Nat->Option (List Data)} {L0:Nat->Prop} {w0:W0} {m:Nat->MB} {H:Nat->Blk} {w:World} {fr:Nat} {L:Nat->Prop}
structure Put (P:Program) (w:World) (st xt:TypeId) (es by_ n:Nat) (news:List Value) (vx:Value) (base:Option Addr) (sLen sCap:Nat):Prop where
 fits:sLen+n<=sCap->∀ w',(match base with|some a=>(storeCells (a.add (sLen*es)) news).run P w = .ok () w'|none=>w'=w)->(Builtin.append_ #[st,xt] 0 #[.slice base sLen sCap,vx]).run P w = .ok (.slice base (sLen+n) sCap) w'
 grows:sCap<sLen+n->∀ e z olds,P.underlying st=some (.slice e)->(P.info? e).bind (·.zero)=some z->(Builtin.firstCells es sLen (.slice base sLen sCap)).run P w.drew = .ok olds w.drew →
  (Builtin.append_ #[st,xt] 0 #[.slice base sLen sCap,vx]).run P w = .ok (.slice (some ⟨w.heap.size,0,none⟩) (sLen+n) (grownCap w (sLen+n) sCap e)) (w.drew.alloc (.cells (olds++news.toArray++Builtin.zeroCells z.cells (grownCap w (sLen+n) sCap e-(sLen+n))) e))
theorem und_src {xt:TypeId} (hxs:((sliceT P xt).isSome || strT P xt)=true):(∃ e,P.underlying xt=some (.slice e)) \/ P.underlying xt=some .string:=by
 rcases Bool.or_eq_true_iff.1 hxs with h|h
 . obtain⟨e,he⟩:=Option.isSome_iff_exists.1 h;exact .inl ⟨_,und_slice P he⟩
 . exact .inr (und_str P h)
theorem put_src {st xt e:TypeId} {es by_ n:Nat} {cs:List D} {vx:Value} {news:List Value} (he:sliceT P st=some e) (hs:szT P e=some es) (hb:byT P e=some by_) (hxs:((sliceT P xt).isSome || strT P xt)=true)
 (hsrc:Src P L m w es n cs vx news) (base:Option Addr) (sLen sCap:Nat) (h63:sLen+n<=140737488355328) (h48:(sLen+n)*by_<=140737488355328):Put P w st xt es by_ n news vx base sLen sCap:=by
 have hu:=und_slice P he;obtain⟨i,hi,his⟩:=info_of_sz P hs;have hib:i.bytes=by_:=by unfold byT at hb;rw[hi] at hb;simpa using hb
 have hfirst:=hsrc.first n (Nat.le_refl _);rw[<- hsrc.nl,List.take_length] at hfirst;refine⟨fun hfit w' hst=>?_,fun hgrow e' z olds hu' hz' holds=>?_⟩
 . cases base with
   | none =>
     simp only at hst;subst hst;rcases und_src hxs with⟨e2,hd⟩|hd<;>simp[Builtin.append_,run_underlying hu,run_underlying hd,run_sz P hs,hsrc.len,hfit,hfirst]
   | some a =>
     simp only at hst;rcases und_src hxs with⟨e2,hd⟩|hd<;>simp[Builtin.append_,run_underlying hu,run_underlying hd,run_sz P hs,hsrc.len,hfit,hfirst,hst]
 . rw[hu] at hu';cases hu';rw[hi,Option.bind_some] at hz';have hnf:¬ (sLen+n<=sCap):=by omega
   have h63':¬ (9223372036854775807<((sLen:Int)+(n:Int))):=by omega
   have h48':¬ (281474976710656<Builtin.nextslicecap (sLen+n) sCap*i.bytes):=by
    have:=growslice_fits (need:=sLen+n) (old:=sCap) (bytes:=by_) (by omega) h48;rw[hib];omega
   have hf':=hsrc.first';rcases und_src hxs with⟨e2,hd⟩|hd
   . simp[Builtin.append_,run_underlying hu,run_underlying hd,sizeOf,typeInfo,zeroValue,hi,hz',his,hsrc.len,hnf,h63',h48',Question.forced,hf',holds,newRow,grownCap]
   . simp[Builtin.append_,run_underlying hu,run_underlying hd,sizeOf,typeInfo,zeroValue,hi,hz',his,hsrc.len,hnf,h63',h48',Question.forced,hf',holds,newRow,grownCap]
theorem put_zeros {st xt e:TypeId} {es by_ n:Nat} {k:IntKind} {z:Value} (he:sliceT P st=some e) (hs:szT P e=some es) (hes:0<es) (hb:byT P e=some by_) (hxi:(intT P xt).isSome=true) (hz:(P.info? e).bind (·.zero)=some z)
 (hzs:z.cells.size=es) (base:Option Addr) (sLen sCap:Nat) (h63:sLen+n<=140737488355328) (h48:(sLen+n)*by_<=140737488355328):Put P w st xt es by_ n (Builtin.zeroCells z.cells n).toList (.int k (n:Nat)) base sLen sCap:=by
 have hu:=und_slice P he;obtain⟨kx,hkx⟩:=Option.isSome_iff_exists.1 hxi;have hd:=und_int P hkx;obtain⟨i,hi,his⟩:=info_of_sz P hs;have hib:i.bytes=by_:=by unfold byT at hb;rw[hi] at hb;simpa using hb
 rw[hi,Option.bind_some] at hz;have hw:IntKind.i64.wrap (n:Int)=n:=by rw[IntKind.wrap_i64];omega
 have hneg:¬ ((n:Int)<0):=by omega
 have hmul:n*by_<=140737488355328:=Nat.le_trans (Nat.mul_le_mul_right _ (by omega)) h48;have h48i:¬ (281474976710656<(n:Int)*(i.bytes:Nat)):=by
  have hm2:((n*by_:Nat):Int)<=281474976710656:=Int.le_trans (Int.ofNat_le.2 hmul) (by decide);rw[Int.natCast_mul] at hm2;rw[hib];exact Int.not_lt.2 hm2
 refine⟨fun hfit w' hst=>?_,fun hgrow e' z' olds hu' hz' holds=>?_⟩
 . by_cases hn0:n=0
   . subst hn0;have hzero:(Builtin.zeroCells z.cells 0).toList=[]:=by simp[Builtin.zeroCells]
     rw[hzero] at hst;simp only[Nat.add_zero] at hfit;cases base with
     | none =>
       simp only at hst;subst hst;simp[Builtin.append_,run_underlying hu,run_underlying hd,sizeOf,typeInfo,hi,his,asInt,asIntOf,IntKind.wrap_i64,hfit]
     | some a =>
       simp only at hst;simp[Builtin.append_,run_underlying hu,run_underlying hd,sizeOf,typeInfo,hi,his,asInt,asIntOf,IntKind.wrap_i64,hfit,hst]
   . have hne:¬ (n*es=0):=by have:=Nat.mul_pos (by omega:0<n) hes;omega
     cases base with
     | none =>
       simp only at hst;subst hst;simp[Builtin.append_,run_underlying hu,run_underlying hd,sizeOf,typeInfo,zeroValue,hi,his,hz,asInt,asIntOf,hw,hneg,h48i,hfit,hne]
     | some a =>
       simp only at hst;simp[Builtin.append_,run_underlying hu,run_underlying hd,sizeOf,typeInfo,zeroValue,hi,his,hz,asInt,asIntOf,hw,hneg,h48i,hfit,hne,hst]
 . rw[hu] at hu';cases hu';rw[hi,Option.bind_some,hz] at hz';cases hz';have hnf:¬ (sLen+n<=sCap):=by omega
   have h63':¬ (9223372036854775807<((sLen:Int)+(n:Int))):=by omega
   have h48':¬ (281474976710656<Builtin.nextslicecap (sLen+n) sCap*i.bytes):=by
    have:=growslice_fits (need:=sLen+n) (old:=sCap) (bytes:=by_) (by omega) h48;rw[hib];omega
   by_cases hn0:n=0
   . subst hn0;have hzero:(Builtin.zeroCells z.cells 0) = #[]:=by simp[Builtin.zeroCells]
     simp only[Nat.add_zero] at hnf h63' h48';have h63'':¬ (9223372036854775807<(sLen:Int)):=by omega
     simp[Builtin.append_,run_underlying hu,run_underlying hd,sizeOf,typeInfo,zeroValue,hi,his,hz,asInt,asIntOf,IntKind.wrap_i64,hnf,h63'',h48',Question.forced,holds,newRow,grownCap,hzero]
   . have hne:¬ (n*es=0):=by have:=Nat.mul_pos (by omega:0<n) hes;omega
     simp[Builtin.append_,run_underlying hu,run_underlying hd,sizeOf,typeInfo,zeroValue,hi,his,hz,asInt,asIntOf,hw,hneg,h48i,hnf,h63',h48',Question.forced,holds,newRow,grownCap,hne]
theorem WR.newnil (h:WR Γ L0 w0 m H w) {fr:Nat} (hfr:m fr = .res) {H':Nat->Blk} (hnew:H' fr = .blk true []) (hold:∀ g,g≠fr->H' g=H g \/ H' g = .dead) :
 let m':=fun g=>if g=fr then MB.nil else m g
 WR Γ L0 w0 m' H' w/\Grow (Live L0 m H) w (Live L0 m' H') w/\(∀ g,g≠fr->m' g=m g)/\m' fr = .nil:=by
 intro m';have hm':∀ g,g≠fr->m' g=m g:=fun g hg=>if_neg hg;have hmr:∀ g,m g≠.res->m' g=m g:=fun g hg=>hm' g (fun e=>hg (by rw[e];exact hfr));have hmf:m' fr = .nil:=if_pos rfl;have back:∀ g rw cs,g≠fr->H' g = .blk rw cs->H g = .blk rw cs:=fun g rw cs e hg=>by
  rcases hold g e with h5|h5
  . rw[h5] at hg;exact hg
  . rw[h5] at hg;cases hg
 have hgrow:Grow (Live L0 m H) w (Live L0 m' H') w:=by
  refine Grow.less w fun b hb=>?_;rcases hb with k|⟨g,sz,hg,hm⟩
  . exact .inl k
  . by_cases e:g=fr
    . subst e;rw[hmf] at hm;cases hm
    . rw[hm' g e] at hm;exact .inr ⟨g,sz,(by
       rcases hold g e with h5|h5
       . rw[h5] at hg;exact hg
       . rw[h5] at hg;cases hg),hm⟩
 have oback:∀ g o,H' g = .obj o->g≠fr/\H g = .obj o:=fun g o hg=>by
  have e:g≠fr:=fun e=>by rw[e,hnew] at hg;cases hg
  rcases hold g e with h5|h5
  . rw[h5] at hg;exact⟨e,hg⟩
  . rw[h5] at hg;cases hg
 refine⟨⟨⟨?_,?_,fun g o hg=>?_,fun g g' o o' b s1 s2 hg hg' hm1 hm2=>?_⟩,h.below,(fun b hb=>⟨Nat.lt_of_lt_of_le (h.l0 b hb).1 hgrow.size,(h.l0 b hb).2⟩),h.glob.mono hgrow⟩,hgrow,hm',hmf⟩;rotate_left 2
 . obtain⟨e,hg⟩:=oback g o hg;obtain⟨b,v,k1,k2,k3,k4⟩:=h.heap.obj g o hg;exact⟨b,v,by rw[hm' g e];exact k1,k2,k3,k4.mono hgrow hmr⟩
 . obtain⟨e,hg⟩:=oback g o hg;obtain⟨e',hg'⟩:=oback g' o' hg';rw[hm' g e] at hm1;rw[hm' g' e'] at hm2;exact h.heap.injO g g' o o' b s1 s2 hg hg' hm1 hm2
 . intro g rw cs hg;by_cases e:g=fr
   . subst e;rw[hnew] at hg;cases hg;exact .inl ⟨hmf,rfl⟩
   . rcases h.heap.blk g rw cs (back g _ _ e hg) with⟨k1,k2⟩|⟨b,sz,vs',ty',k1,k2,k3,k4,k5,k6,k7⟩
     . exact .inl ⟨by rw[hm' g e];exact k1,k2⟩
     . have hb:=h.lt (back g _ _ e hg) k1;refine .inr ⟨b,sz,vs',ty',by rw[hm' g e];exact k1,k2,fun hrw=>(hgrow.keep b hb (k3 hrw)).2,k4,k5,k6,fun i d hd=>?_⟩;obtain⟨v,hv,h1c,hvv⟩:=k7 i d hd;exact⟨v,hv,h1c,hvv.mono hgrow hmr⟩
 . intro g g' cs rw' cs' b sz sz' hg hg' hm1 hm2;by_cases e:g=fr
   . rw[e,hmf] at hm1;cases hm1
   . by_cases e':g'=fr
     . rw[e',hmf] at hm2;cases hm2
     . rw[hm' g e] at hm1;rw[hm' g' e'] at hm2;exact h.heap.inj g g' cs rw' cs' b sz sz' (back g _ _ e hg) (back g' _ _ e' hg') hm1 hm2
theorem zeroCells_len (z:Array Value) (n:Nat):(Builtin.zeroCells z n).size=n*z.size:=by simp[Builtin.zeroCells]
theorem append_core (h:WR Γ L0 w0 m H w) (hfr:m fr = .res) {st xt e:TypeId} {es by_ n len sCap:Nat} {cs old:List D} {news olds:List Value} {vx z:Value} {base:Option Addr} (hes:0<es) (he:sliceT P st=some e) (hz:(P.info? e).bind (·.zero)=some z) (hzs:z.cells.size=es)
 (hput:Put P w st xt es by_ n news vx base len sCap) (hcl:cs.length=n*es) (hnl:news.length=n*es) (hcap:sCap<=maxLen) (h63:len+n<=140737488355328)
 (hcs:∀ (i:Nat) (d:D),cs[i]?=some d->∃ u,news[i]?=some u/\u.oneCell'=true/\VV (Live L0 m H) w m d u)
 (hone:∀ u∈news,u.oneCell'=true)
 {H':Nat->Blk} (hnew:H' fr = .blk true (old++cs))
 (htarget:(len=0/\sCap=0/\old=[]/\olds=[]/\(∀ g,g≠fr->H' g=H g \/ H' g = .dead)) \/ (sCap=len/\0<n/\(∀ g,g≠fr->H' g=H g \/ H' g = .dead)/\∃ l:List Data,old=(flat l).map D.data/\((flat l).map D.data).all D.cell=true/\VD (Live L0 m H) w (.sl es l) (.slice base len len)) \/
   ∃ g b sz o,fr≠g/\H g = .blk true old/\H' g = .dead/\(∀ k,k≠fr->k≠g->H' k=H k)/\m g = .at b sz/\base=some ⟨b,o,none⟩/\(o=0 \/ sCap=0)/\sCap*es<=sz/\len<=sCap/\old.length=len*es) :
 ∃ v w' m',(Builtin.append_ #[st,xt] 0 #[.slice base len sCap,vx]).run P w = .ok v w'/\WR Γ L0 w0 m' H' w'/\VV (Live L0 m' H') w' m' (.ref fr 0 (len+n) es) v/\Grow (Live L0 m H) w (Live L0 m' H') w'/\∀ g,g≠fr->m' g=m g:=by
 have hu:=und_slice P he;by_cases hfit:len+n<=sCap
 . rcases htarget with⟨h0,h1,h2,_,hold⟩|⟨h0,h1,_⟩|⟨g,b,sz,o,hfg,hg,hgone,hold,hm,hbase,ho,hsz,hls,hol⟩
   rotate_left
   . omega
   rotate_left
   . -- nothing behind nothing
     subst h0;subst h1;obtain rfl:n=0:=by omega
     have hc0:cs=[]:=List.eq_nil_of_length_eq_zero (by omega);have hn0:news=[]:=List.eq_nil_of_length_eq_zero (by omega);subst hc0;subst hn0;subst h2;obtain⟨k1,k2,k3,k4⟩:=h.newnil hfr (H':=H') (by simpa using hnew) hold;refine⟨.slice base 0 0,w,_,?_,k1,.ref0 fr es base k4,k2,k3⟩;refine hput.fits hfit w ?_;cases base<;>simp[storeCells]
   . obtain⟨vs,ty,e1,e2,e3,_,e5⟩:=at_of h hg hm;subst hbase;have hmul:(len+n)*es<=sCap*es:=Nat.mul_le_mul_right _ hfit;rw[Nat.add_mul] at hmul;have hoff:o=0 \/ (len=0/\n=0):=by omega
     have hfit2:len*es+news.length<=vs.size:=by omega
     have hst:(storeCells ((⟨b,o,none⟩:Addr).add (len*es)) news).run P w = .ok () (w.setRow b (vs.toList.take (len*es)++news++vs.toList.drop (len*es+news.length)).toArray):=by
      rcases hoff with rfl|⟨rfl,rfl⟩
      . have:=run_storeCells_at P b (len*es) ty news 0 vs w e1 (by omega) hone;simp only[Nat.add_zero] at this;rw[add_off,Nat.zero_add];exact this
      . have hn0:news=[]:=List.eq_nil_of_length_eq_zero (by omega);subst hn0;simp only[storeCells,Nat.zero_mul,List.take_zero,List.nil_append,List.length_nil,Nat.add_zero,List.drop_zero];rw[show vs.toList.toArray=vs by simp,setRow_self w b vs ty (0,0) e1];rfl
     have hcell:∀ (i:Nat) (d:D),(old++cs)[i]?=some d->∃ v,(vs.toList.take (len*es)++news++vs.toList.drop (len*es+news.length)).toArray[i]?=some v/\v.oneCell'=true/\VV (Live L0 m H) w m d v:=by
      intro i d hd;have ht:(vs.toList.take (len*es)).length=len*es:=by rw[List.length_take];simp;omega
      rw[List.getElem?_toArray,List.append_assoc];by_cases hi:i<old.length
      . rw[List.getElem?_append_left hi] at hd;obtain⟨v,q1,q2,q3⟩:=e5 i d hd;refine⟨v,?_,q2,q3⟩;rw[List.getElem?_append_left (by omega),List.getElem?_take_of_lt (by omega)];simpa using q1
      . rw[List.getElem?_append_right (by omega)] at hd;have hlt:=(List.getElem?_eq_some_iff.1 hd).1;obtain⟨v,q1,q2,q3⟩:=hcs _ d hd;refine⟨v,?_,q2,q3⟩;rw[List.getElem?_append_right (by omega),ht,<- hol,List.getElem?_append_left (by omega)];exact q1
     obtain⟨k1,k2,k3,k4,k5⟩:=h.write (t:=fr) (H':=H') (cells':=old++cs) (vs':=(vs.toList.take (len*es)++news++vs.toList.drop (len*es+news.length)).toArray) hg hm e1 (.inr hfr) hnew (fun _=>hgone) hold
      (by rw[over_size hfit2];exact e2) (by simp;omega) hcell
     refine⟨_,_,_,hput.fits hfit _ hst,k1,?_,k2,k3⟩;refine .ref fr 0 (len+n) es b sz sCap o k5 ?_ (by omega) hfit hcap;rcases ho with ho|ho
     . exact .inl ho
     . exact .inr ho
 . -- a new block
   have hgrow:sCap<len+n:=by omega
   have hge:=grownCap_ge w (len+n) sCap e;have hmax:=grownCap_le_maxLen w (len+n) sCap e (by unfold maxLen;omega);have key:∀ (olds:List Value) (hol:old.length=len*es) (hl:olds.length=len*es) (hfc:(Builtin.firstCells es len (.slice base len sCap)).run P w.drew = .ok olds.toArray w.drew)
    (hoc:∀ (i:Nat) (d:D),old[i]?=some d->∃ u,olds[i]?=some u/\u.oneCell'=true/\VV (Live L0 m H) w m d u) (hold:∀ g,g≠fr->H' g=H g \/ H' g = .dead),
    ∃ v w' m',(Builtin.append_ #[st,xt] 0 #[.slice base len sCap,vx]).run P w = .ok v w'/\WR Γ L0 w0 m' H' w'/\VV (Live L0 m' H') w' m' (.ref fr 0 (len+n) es) v/\Grow (Live L0 m H) w (Live L0 m' H') w'/\∀ g,g≠fr->m' g=m g:=by
    intro olds hol hl hfc hoc hold;have hr:=hput.grows hgrow e z olds.toArray hu hz hfc;have hsz:(olds.toArray++news.toArray++Builtin.zeroCells z.cells (grownCap w (len+n) sCap e-(len+n))).size=grownCap w (len+n) sCap e*es:=by
     simp only[Array.size_append,List.size_toArray,zeroCells_len,hzs,hl,hnl];rw[<- Nat.add_mul,<- Nat.add_mul];congr 1;omega
    have hle:(len+n)*es<=grownCap w (len+n) sCap e*es:=Nat.mul_le_mul_right _ hge;rw[Nat.add_mul] at hle;obtain⟨k1,k2,k3,k4⟩:=h.new (fr:=fr) (w1:=w.drew) (vs:=olds.toArray++news.toArray++Builtin.zeroCells z.cells (grownCap w (len+n) sCap e-(len+n))) (ty:=e) (fz:=(0,0)) (H':=H') (cells:=old++cs) hfr ⟨rfl,rfl,rfl,rfl⟩ hnew hold rfl
     (by rw[hsz];simp;omega) (fun i d hd=>by
       by_cases hi:i<old.length
       . rw[List.getElem?_append_left hi] at hd;obtain⟨v,q1,q2,q3⟩:=hoc i d hd;refine⟨v,?_,q2,q3⟩;rw[<- Array.getElem?_toList];simp only[Array.toList_append,List.append_assoc];rw[List.getElem?_append_left (by omega)];exact q1
       . rw[List.getElem?_append_right (by omega)] at hd;have hlt:=(List.getElem?_eq_some_iff.1 hd).1;obtain⟨v,q1,q2,q3⟩:=hcs _ d hd;refine⟨v,?_,q2,q3⟩;rw[<- Array.getElem?_toList];simp only[Array.toList_append,List.append_assoc];rw[List.getElem?_append_right (by omega),List.getElem?_append_left (by omega),show i-olds.length=i-old.length by omega];exact q1)
    refine⟨_,_,_,hr,k1,?_,k2,k3⟩;exact .ref fr 0 (len+n) es _ _ _ 0 k4 (.inl rfl) (by rw[hsz];omega) hge hmax
   rcases htarget with⟨h0,h1,h2,h3,hold⟩|⟨h0,h1,hold,l,rfl,hall,hvd⟩|⟨g,b,sz,o,hfg,hg,hgone,hold,hm,hbase,ho,hsz,hls,hol⟩
   rotate_left
   . subst h0;cases hvd with
     | sl _ _ _ _ _ b off vs hn hle hm hes' ha hc hvv =>
     have hfl:(flat l).length=sCap*es:=by rw[flat_length hes',hn]
     refine key ((List.range (sCap*es)).map vs) (by simpa using hfl) (by simp) ?_ (fun i d hd=>?_) hold
     . rcases ha with⟨rfl,hb,hL⟩|rfl
       . refine run_firstCells_some (P:=P) w.drew es sCap ⟨b,off,none⟩ sCap sCap _ (by simp) fun j u hu=>?_;rw[List.getElem?_map,Option.map_eq_some_iff] at hu;obtain⟨q,hq,rfl⟩:=hu;obtain⟨hlt,rfl⟩:=List.getElem?_eq_some_iff.1 hq;simp only[List.length_range] at hlt;rw[add_off,World.cell?_drew,List.getElem_range];exact hc j _ (List.getElem?_eq_getElem (by omega))
       . obtain rfl:sCap=0:=by simpa using hn
         cases base<;>simp[Builtin.firstCells,loadCells,loadCellsFrom]
     . rw[List.getElem?_map,Option.map_eq_some_iff] at hd;obtain⟨x,hx,rfl⟩:=hd;have hi:=(List.getElem?_eq_some_iff.1 hx).1;have hcx:D.cell (.data x)=true:=List.all_eq_true.1 hall _ (List.mem_map.2 ⟨x,List.mem_of_getElem? hx,rfl⟩);have hv:=VV.data (m:=m) x _ (hvv i x hx);exact⟨vs i,by rw[List.getElem?_map,List.getElem?_range (by omega)];rfl,hv.one hcx,hv⟩
   rotate_left
   . subst h0;subst h1;subst h2;refine key [] (by simp) (by simp) ?_ (fun i d hd=>by simp at hd) hold;cases base<;>simp[Builtin.firstCells,loadCells,loadCellsFrom]
   . obtain⟨vs,ty,e1,e2,e3,_,e5⟩:=at_of h hg hm;subst hbase;have hlo:o=0 \/ len=0:=by omega
     refine key (vs.toList.take (len*es)) hol (by simp;omega) ?_ (fun i d hd=>?_) (fun k hk=>?_)
     . refine run_firstCells_some (P:=P) w.drew es len ⟨b,o,none⟩ len sCap _ (by simp;omega) fun j u hu=>?_;rw[List.getElem?_take] at hu;split at hu
       . rename_i hj;rw[add_off];have ho0:o=0:=by
          rcases hlo with e|e
          . exact e
          . subst e;omega
         rw[ho0,Nat.zero_add,World.cell?_drew,cell_of e1];simpa using hu
       . cases hu
     . obtain⟨v,q1,q2,q3⟩:=e5 i d hd;have hi:=(List.getElem?_eq_some_iff.1 hd).1;exact⟨v,by rw[List.getElem?_take_of_lt (by omega)];simpa using q1,q2,q3⟩
     . by_cases e:k=g
       . subst e;exact .inr hgone
       . exact .inl (hold k hk e)
theorem append_keep (h:WR Γ L0 w0 m H w) (hfr:m fr = .res) {st xt e:TypeId} {es n len sCap b sz o g cp:Nat} {cs cells:List D} {news:List Value} {vx z:Value} (hes:0<es) (he:sliceT P st=some e) (hz:(P.info? e).bind (·.zero)=some z) (hzs:z.cells.size=es)
 (hput:∀ w',(storeCells ((⟨b,o,none⟩:Addr).add (len*es)) news).run P w = .ok () w'->(Builtin.append_ #[st,xt] 0 #[.slice (some ⟨b,o,none⟩) len sCap,vx]).run P w = .ok (.slice (some ⟨b,o,none⟩) (len+n) sCap) w') (hcl:cs.length=n*es) (hnl:news.length=n*es) (hcap:sCap<=maxLen)
 (hcs:∀ (i:Nat) (d:D),cs[i]?=some d->∃ u,news[i]?=some u/\u.oneCell'=true/\VV (Live L0 m H) w m d u)
 (hone:∀ u∈news,u.oneCell'=true) (hg:H g = .blk true cells) (hm:m g = .at b sz) (ho:o=0 \/ sCap=0) (hsz:sCap*es<=sz) (hls:len<=sCap) (hol:len*es<=cells.length) (hcp:len+n<=cp) (hcc:cp<=sCap) :
 ∃ v w',(Builtin.append_ #[st,xt] 0 #[.slice (some ⟨b,o,none⟩) len sCap,vx]).run P w = .ok v w'/\After Γ L0 w0 fr H m w (.cut g 0 (len+n) cp es) [(g,.blk true (ovr cells (len*es) cs))] v w':=by
 have hu:=und_slice P he;obtain⟨vs,ty,e1,e2,e3,_,e5⟩:=at_of h hg hm;have hfit:len+n<=sCap:=by omega
 . have hmul:(len+n)*es<=sCap*es:=Nat.mul_le_mul_right _ hfit;rw[Nat.add_mul] at hmul;have hoff:o=0 \/ (len=0/\n=0):=by omega
   have hfit2:len*es+news.length<=vs.size:=by omega
   have hst:(storeCells ((⟨b,o,none⟩:Addr).add (len*es)) news).run P w = .ok () (w.setRow b (vs.toList.take (len*es)++news++vs.toList.drop (len*es+news.length)).toArray):=by
    rcases hoff with rfl|⟨rfl,rfl⟩
    . have:=run_storeCells_at P b (len*es) ty news 0 vs w e1 (by omega) hone;simp only[Nat.add_zero] at this;rw[add_off,Nat.zero_add];exact this
    . have hn0:news=[]:=List.eq_nil_of_length_eq_zero (by omega);subst hn0;simp only[storeCells,Nat.zero_mul,List.take_zero,List.nil_append,List.length_nil,Nat.add_zero,List.drop_zero];rw[show vs.toList.toArray=vs by simp,setRow_self w b vs ty (0,0) e1];rfl
   have hol2:(ovr cells (len*es) cs).length<=sz:=by
    unfold ovr;simp only[List.length_append,List.length_take,List.length_drop];omega
   have hcell:∀ (i:Nat) (d:D),(ovr cells (len*es) cs)[i]?=some d->∃ v,(vs.toList.take (len*es)++news++vs.toList.drop (len*es+news.length)).toArray[i]?=some v/\v.oneCell'=true/\VV (Live L0 m H) w m d v:=by
    intro i d hd;have ht:(vs.toList.take (len*es)).length=len*es:=by rw[List.length_take];simp;omega
    have hc:(cells.take (len*es)).length=len*es:=by rw[List.length_take];omega
    unfold ovr at hd;rw[List.getElem?_toArray,List.append_assoc];by_cases hi:i<len*es
    . rw[List.getElem?_append_left (by omega),List.getElem?_take_of_lt hi] at hd;obtain⟨v,q1,q2,q3⟩:=e5 i d hd;refine⟨v,?_,q2,q3⟩;rw[List.getElem?_append_left (by omega),List.getElem?_take_of_lt hi];simpa using q1
    . rw[List.getElem?_append_right (by omega),hc] at hd;by_cases hj:i-len*es<cs.length
      . rw[List.getElem?_append_left hj] at hd;obtain⟨v,q1,q2,q3⟩:=hcs _ d hd;refine⟨v,?_,q2,q3⟩;rw[List.getElem?_append_right (by omega),ht,List.getElem?_append_left (by omega)];exact q1
      . rw[List.getElem?_append_right (by omega),List.getElem?_drop] at hd;rw[show len*es+cs.length+(i-len*es-cs.length)=i by omega] at hd;obtain⟨v,q1,q2,q3⟩:=e5 i d hd;refine⟨v,?_,q2,q3⟩;rw[List.getElem?_append_right (by omega),ht,List.getElem?_append_right (by omega),List.getElem?_drop,show len*es+news.length+(i-len*es-news.length)=i by omega];simpa using q1
   obtain⟨k1,k2,k3,k4,k5⟩:=h.write (t:=g) (H':=Hp.set H g (.blk true (ovr cells (len*es) cs))) (cells':=ovr cells (len*es) cs) (vs':=(vs.toList.take (len*es)++news++vs.toList.drop (len*es+news.length)).toArray) hg hm e1 (.inl rfl) (by simp[Hp.set]) (fun e=>absurd rfl e)
    (fun k hk _=>by simp[Hp.set,hk]) (by rw[over_size hfit2];exact e2) hol2 hcell
   refine⟨_,_,hput _ hst,_,k1,?_,k2,fun q hq=>?_⟩
   . refine .cut g 0 (len+n) cp es b sz sCap o k5 ?_ (by omega) hcp hcc hcap;rcases ho with ho|ho
     . exact .inl ho
     . exact .inr ho
   . by_cases e:q=g
     . subst e;simp[hm]
     . exact k3 q e
end
end Go.Proofs.Ytndnlfgchmjbjaa
