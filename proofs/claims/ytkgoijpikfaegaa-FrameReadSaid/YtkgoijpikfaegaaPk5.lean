/- A row of the caller's, lent to a call: the call is looked at with this row alone. The closed facts on the types. The document's own comparison of rows. Frames on a line: bytes escaped, plain, fed: the mathematics. Frames on a line: how a byte is escaped. Frames on a line: what is plain, as the program tells it and as the document does. Frames on a line: rows joined, what is sent. Check sequences: the program's and the document's own functions, on plain data. Frames on a line: a line that is fed. Frames on a line: all frames of bytes, as the program tells them. Frames on a line: all frames of bytes, as the document tells them; the document's example. Frames on a line: the document's example. Frames on a line: StuffTells, StuffFeeds, StuffRight, StuffAnew. Frames on a line: StuffRight, StuffAnew, StuffLong. Frames on a line: StuffBack, StuffRow. Frames: the mathematics, the document's own functions. Frames: what is read, taken; rows of frames. Frames: what is taken of bytes that are sent. Regions whose order is open, that fill a map of their own: its entries come in whatever order. -/
import Derived.Test.YtkgoijpikfaegaaPk4
import Derived.Test.YtkgoijpikfaegaaChecked
import Derived.KernelRfl
namespace Go.Proofs.Ytkgoijpikfaegaa
open Go.RowKit
set_option linter.unusedSimpArgs false
set_option linter.unusedVariables false
set_option maxRecDepth 100000
/-- What is live elsewhere,where row g is lent. -/
def lentL (L0:Nat->Prop) (m:Nat->MB) (H:Nat->Blk) (g:Nat):Nat->Prop:=fun b=>Live L0 m H b∧∀ sz,m g≠.at b sz
def lentM (m m':Nat->MB) (t k:Nat):Nat->MB:=fun q=>if q = t then m' k else m q
def lentH (H:Nat->Blk) (g t:Nat) (c:List Data):Nat->Blk:=fun q=>if q = t then .blk true (c.map D.data) else if q = g then .dead else H q
section
variable {Γ:Nat->Option (List Data)} {L0:Nat->Prop} {w0:W0} {m:Nat->MB} {H:Nat->Blk} {w:World}
theorem lend (h:WR Γ L0 w0 m H w) {g:Nat} {cells:List Data} (hg:H g = .blk true (cells.map D.data)) :
 WR Γ (lentL L0 m H g) ⟨w,0,Nat.zero_le _⟩ (fun i=>if i = 0 then m g else .res) (hpL [(0,.blk true (cells.map D.data))]) w ∧
 ∀ b,Live (lentL L0 m H g) (fun i=>if i = 0 then m g else .res) (hpL [(0,.blk true (cells.map D.data))]) b ↔ Live L0 m H b:=by
 have hp0:hpL [(0,.blk true (cells.map D.data))] 0 = .blk true (cells.map D.data):=rfl
 have hpn:∀ i,i≠0->hpL [(0,.blk true (cells.map D.data))] i = .dead:=fun i hi=>by simp [hpL,hi]
 have hlive:∀ b,Live (lentL L0 m H g) (fun i=>if i = 0 then m g else .res) (hpL [(0,.blk true (cells.map D.data))]) b ↔ Live L0 m H b:=by
  intro b
  constructor
  · rintro (hb | ⟨q,sz,hq,hm⟩)
    · exact hb.1
    · by_cases e:q = 0
      · subst e;exact .inr ⟨g,sz,by rw [hg];rfl,by simpa using hm⟩
      · rw [hpn q e] at hq;cases hq
  · intro hb
    by_cases e:∃ sz,m g = .at b sz
    · obtain ⟨sz,e⟩:=e
      exact .inr ⟨0,sz,by rw [hp0];rfl,by simpa using e⟩
    · exact .inl ⟨hb,fun sz k=>e ⟨sz,k⟩⟩
 refine ⟨⟨⟨?_,?_,?_,?_⟩,⟨rfl,rfl,rfl,Nat.le_refl _,fun k hk=>absurd hk (Nat.not_lt_zero k)⟩,fun b hb=>⟨h.live_lt hb.1,rfl⟩,h.glob.mono (Grow.less w fun b hb=>(hlive b).1 hb)⟩,hlive⟩
 · intro q rw cs hq
   by_cases e:q = 0
   · subst e
     rw [hp0] at hq;cases hq
     rcases h.heap.blk g true _ hg with ⟨k1,k2⟩ | ⟨b,sz,vs,ty,k1,k2,k3,k4,k5,k6,k7⟩
     · exact .inl ⟨by simpa using k1,k2⟩
     · refine .inr ⟨b,sz,vs,ty,by simpa using k1,⟨Nat.zero_le _,fun hl=>hl.2 sz k1⟩,(fun e=>by cases e),k4,k5,k6,fun i d hd=>?_⟩
       obtain ⟨v,hv,h1c,hvv⟩:=k7 i d hd
       refine ⟨v,hv,h1c,?_⟩
       rw [List.getElem?_map,Option.map_eq_some_iff] at hd
       obtain ⟨x,_,rfl⟩:=hd
       exact .data _ _ (hvv.data_inv.mono (Grow.less w fun b hb=>(hlive b).1 hb))
   · rw [hpn q e] at hq;cases hq
 · intro q q' cs rw' cs' b sz sz' hq hq' _ _
   by_cases e:q = 0
   · by_cases e':q' = 0
     · rw [e,e']
     · rw [hpn q' e'] at hq';cases hq'
   · rw [hpn q e] at hq;cases hq
 · intro q o hq
   by_cases e:q = 0
   · subst e;rw [hp0] at hq;cases hq
   · rw [hpn q e] at hq;cases hq
 · intro q q' o o' b sz sz' hq _ _ _
   by_cases e:q = 0
   · subst e;rw [hp0] at hq;cases hq
   · rw [hpn q e] at hq;cases hq
theorem lent_back (h:WR Γ L0 w0 m H w) {g:Nat} {cells:List Data} (hg:H g = .blk true (cells.map D.data)) {m':Nat->MB} {H':Nat->Blk} {w':World}
 (k1:WR Γ (lentL L0 m H g) ⟨w,0,Nat.zero_le _⟩ m' H' w') (k2:Grow (Live L0 m H) w (Live (lentL L0 m H g) m' H') w') (hm0:m' 0 = m g) {k t:Nat} {c:List Data} (hk:H' k = .blk true (c.map D.data)) (ht:(t = g∧k = 0) ∨ (t≠g∧m t = .res)) :
 WR Γ L0 w0 (lentM m m' t k) (lentH H g t c) w'∧Grow (Live L0 m H) w (Live L0 (lentM m m' t k) (lentH H g t c)) w'∧(∀ b,Live L0 (lentM m m' t k) (lentH H g t c) b->Live (lentL L0 m H g) m' H' b)∧∀ q,m q≠.res->lentM m m' t k q = m q:=by
 have hown:∀ b sz,m g = .at b sz->Own L0 w0.base b:=fun b sz hm=>by
  rcases h.heap.blk g true _ hg with ⟨j1,_⟩ | ⟨b',sz',vs,ty,j1,j2,_⟩
  · rw [j1] at hm;cases hm
  · rw [j1] at hm;cases hm;exact j2
 have hgl:∀ b sz,m g = .at b sz->Live L0 m H b:=fun b sz hm=>.inr ⟨g,sz,by rw [hg];rfl,hm⟩
 have hM:∀ q,m q≠.res->lentM m m' t k q = m q:=fun q hq=>by
  unfold lentM
  by_cases e:q = t
  · rw [if_pos e]
    rcases ht with ⟨e1,e2⟩ | ⟨_,e2⟩
    · rw [e2,hm0,e,e1]
    · rw [e] at hq;exact absurd e2 hq
  · exact if_neg e
 have hMt:lentM m m' t k t = m' k:=if_pos rfl
 have hMn:∀ q,q≠t->lentM m m' t k q = m q:=fun q e=>if_neg e
 have hHt:lentH H g t c t = .blk true (c.map D.data):=if_pos rfl
 have hHn:∀ q,q≠t->q≠g->lentH H g t c q = H q:=fun q e e2=>by unfold lentH;rw [if_neg e,if_neg e2]
 have hHg:∀ q,q≠t->q = g->lentH H g t c q = .dead:=fun q e e2=>by unfold lentH;rw [if_neg e,if_pos e2]
 have other:∀ q b sz,q≠g->H q≠.dead->m q = .at b sz->∀ s,m g≠.at b s:=fun q b sz e hq hm s hs=>e (h.inj (by rw [hg];rfl) hq hs hm).symm
 have sub:∀ b,Live L0 (lentM m m' t k) (lentH H g t c) b->Live (lentL L0 m H g) m' H' b:=by
  rintro b (hb | ⟨q,sz,hq,hm⟩)
  · exact .inl ⟨.inl hb,fun sz e=>(hown b sz e).2 hb⟩
  · by_cases e:q = t
    · subst e;rw [hMt] at hm;exact .inr ⟨k,sz,by rw [hk];rfl,hm⟩
    · by_cases e2:q = g
      · rw [hHg q e e2] at hq;cases hq
      · rw [hHn q e e2] at hq;rw [hMn q e] at hm
        exact .inl ⟨.inr ⟨q,sz,hq,hm⟩,other q b sz e2 (fun e3=>by rw [e3] at hq;cases hq) hm⟩
 have newb:∀ b sz,m' k = .at b sz->b < w.heap.size->∃ s,m g = .at b s:=fun b sz hm hb=>Classical.byContradiction fun hno=>by
  have hl:Live L0 m H b:=Classical.byContradiction fun hl=>(k2.keep b hb hl).2 (.inr ⟨k,sz,by rw [hk];rfl,hm⟩)
  rcases k1.heap.blk k true _ hk with ⟨j1,_⟩ | ⟨b',sz',vs,ty,j1,j2,_⟩
  · rw [j1] at hm;cases hm
  · rw [j1] at hm;cases hm
    exact j2.2 ⟨hl,fun s e=>hno ⟨s,e⟩⟩
 have oldl:∀ b,b < w.heap.size->Live L0 (lentM m m' t k) (lentH H g t c) b->Live L0 m H b:=by
  rintro b hb (hl | ⟨q,sz,hq,hm⟩)
  · exact .inl hl
  · by_cases e:q = t
    · subst e;rw [hMt] at hm
      obtain ⟨s,hs⟩:=newb b sz hm hb
      exact hgl b s hs
    · by_cases e2:q = g
      · rw [hHg q e e2] at hq;cases hq
      · rw [hHn q e e2] at hq;rw [hMn q e] at hm
        exact .inr ⟨q,sz,hq,hm⟩
 have grow:Grow (Live L0 m H) w (Live L0 (lentM m m' t k) (lentH H g t c)) w':=⟨k2.size,fun b hb hL=>⟨(k2.keep b hb hL).1,fun hl=>hL (oldl b hb hl)⟩⟩
 have vd:∀ {x:Data} {v:Value},VD (Live (lentL L0 m H g) m' H') w' x v->VD (Live L0 (lentM m m' t k) (lentH H g t c)) w' x v:=fun hx=>hx.mono (Grow.less w' sub)
 have still:∀ b,b < w.heap.size->(∀ s,m g≠.at b s)->w'.heap[b]? = w.heap[b]?:=fun b hb hn=>by
  by_cases hl:Live L0 m H b
  · exact (k1.l0 b ⟨hl,hn⟩).2
  · exact (k2.keep b hb hl).1
 have tdead:t≠g->H t = .dead:=fun e=>by
  rcases ht with ⟨e1,_⟩ | ⟨_,e2⟩
  · exact absurd e1 e
  · exact h.none e2
 have oback:∀ q o,lentH H g t c q = .obj o->q≠t∧q≠g∧H q = .obj o:=fun q o hq=>by
  have e:q≠t:=fun e=>by rw [e,hHt] at hq;cases hq
  have e2:q≠g:=fun e2=>by rw [hHg q e e2] at hq;cases hq
  exact ⟨e,e2,by rw [<- hHn q e e2];exact hq⟩
 refine ⟨⟨⟨?_,?_,?_,?_⟩,?_,?_,h.glob.mono grow⟩,grow,sub,hM⟩
 · intro q rw cs hq
   by_cases e:q = t
   · subst e
     rw [hHt] at hq;cases hq
     rcases k1.heap.blk k true _ hk with ⟨j1,j2⟩ | ⟨b,sz,vs,ty,j1,j2,j3,j4,j5,j6,j7⟩
     · exact .inl ⟨by rw [hMt];exact j1,j2⟩
     · refine .inr ⟨b,sz,vs,ty,by rw [hMt];exact j1,?_,(fun e=>by cases e),j4,j5,j6,fun i d hd=>?_⟩
       · by_cases hb:b < w.heap.size
         · obtain ⟨s,hs⟩:=newb b sz j1 hb
           exact hown b s hs
         · exact ⟨Nat.le_trans h.base (Nat.le_of_not_lt hb),fun hl=>hb (h.l0 b hl).1⟩
       · obtain ⟨v,hv,h1c,hvv⟩:=j7 i d hd
         refine ⟨v,hv,h1c,?_⟩
         rw [List.getElem?_map,Option.map_eq_some_iff] at hd
         obtain ⟨x,_,rfl⟩:=hd
         exact .data _ _ (vd hvv.data_inv)
   · by_cases e2:q = g
     · rw [hHg q e e2] at hq;cases hq
     · rw [hHn q e e2] at hq
       rcases h.heap.blk q rw cs hq with ⟨j1,j2⟩ | ⟨b,sz,vs,ty,j1,j2,j3,j4,j5,j6,j7⟩
       · exact .inl ⟨by rw [hMn q e];exact j1,j2⟩
       · have hb:=h.lt hq j1
         refine .inr ⟨b,sz,vs,ty,by rw [hMn q e];exact j1,j2,fun hrw hl=>j3 hrw (oldl b hb hl),?_,j5,j6,fun i d hd=>?_⟩
         · rw [still b hb (other q b sz e2 (fun e3=>by rw [e3] at hq;cases hq) j1)];exact j4
         · obtain ⟨v,hv,h1c,hvv⟩:=j7 i d hd
           exact ⟨v,hv,h1c,hvv.mono grow hM⟩
 · intro q q' cs rw' cs' b sz sz' hq hq' hm1 hm2
   have tno:∀ p,p≠t->p≠g->H p≠.dead->∀ s s',m' k = .at b s->m p = .at b s'->False:=fun p e e2 hp s s' h1 h2=>by
    have hb:b < w.heap.size:=by
     cases hpe:H p with
     | dead=>exact absurd hpe hp
     | blk rw c2=>exact h.lt hpe h2
     | obj o=>exact h.ltO hpe h2
    obtain ⟨s2,hs⟩:=newb b s h1 hb
    exact other p b s' e2 hp h2 s2 hs
   by_cases e:q = t
   · by_cases e':q' = t
     · rw [e,e']
     · exfalso
       by_cases e2:q' = g
       · rw [hHg q' e' e2] at hq';cases hq'
       · rw [hHn q' e' e2] at hq';rw [hMn q' e'] at hm2;rw [e,hMt] at hm1
         exact tno q' e' e2 (fun e3=>by rw [e3] at hq';cases hq') sz sz' hm1 hm2
   · by_cases e2:q = g
     · rw [hHg q e e2] at hq;cases hq
     · rw [hHn q e e2] at hq;rw [hMn q e] at hm1
       by_cases e':q' = t
       · exfalso
         rw [e',hMt] at hm2
         exact tno q e e2 (fun e3=>by rw [e3] at hq;cases hq) sz' sz hm2 hm1
       · by_cases e3:q' = g
         · rw [hHg q' e' e3] at hq';cases hq'
         · rw [hHn q' e' e3] at hq';rw [hMn q' e'] at hm2
           exact h.heap.inj q q' cs rw' cs' b sz sz' hq hq' hm1 hm2
 · intro q o hq
   obtain ⟨e,e2,hq⟩:=oback q o hq
   obtain ⟨b,v,j1,j2,j3,j4⟩:=h.heap.obj q o hq
   exact ⟨b,v,by rw [hMn q e];exact j1,j2,by rw [still b (h.ltO hq j1) (other q b 0 e2 (fun e3=>by rw [e3] at hq;cases hq) j1)];exact j3,j4.mono grow hM⟩
 · intro q q' o o' b sz sz' hq hq' hm1 hm2
   obtain ⟨e,_,hq⟩:=oback q o hq
   obtain ⟨e',_,hq'⟩:=oback q' o' hq'
   rw [hMn q e] at hm1;rw [hMn q' e'] at hm2
   exact h.heap.injO q q' o o' b sz sz' hq hq' hm1 hm2
 · refine h.below.trans ⟨k1.below.os,k1.below.tape,k1.below.output,k2.size,fun b hb=>still b (Nat.lt_of_lt_of_le hb h.base) fun s hs=>?_⟩
   have:=(hown b s hs).1
   omega
 · intro b hb
   refine ⟨Nat.lt_of_lt_of_le (h.l0 b hb).1 k2.size,?_⟩
   rw [still b (h.l0 b hb).1 fun s hs=>(hown b s hs).2 hb]
   exact (h.l0 b hb).2
end
section
variable {P:Program} {Γ:Nat->Option (List Data)}
theorem lent_args {L0:Nat->Prop} {m:Nat->MB} {H:Nat->Blk} {w:World} {d0 d1:D} {xs:List D} {vs:Array Value} {L:Nat->Prop} {m1:Nat->MB} (hL:∀ b,L b->Live L0 m H b)
 (h0:∀ v,VV (Live L0 m H) w m d0 v->VV L w m1 d1 v) (hx:∀ x∈xs,(∃ y,x = .data y) ∨ ∃ c,x = .cptr c)
 (hv:∀ (i:Nat) (d:D) (v:Value),(d0 :: xs)[i]? = some d->vs[i]? = some v->VV (Live L0 m H) w m d v) (i:Nat) (d:D) (v:Value) (hd:(d1 :: xs)[i]? = some d) (hvi:vs[i]? = some v):VV L w m1 d v:=by
 cases i with
 | zero =>
   simp only [List.getElem?_cons_zero,Option.some.injEq] at hd
   subst hd
   exact h0 v (hv 0 d0 v rfl hvi)
 | succ i =>
   have hd2:=hd
   rw [List.getElem?_cons_succ] at hd2
   have hvv:=hv (i + 1) d v (by rw [List.getElem?_cons_succ];exact hd2) hvi
   have hg:Grow (Live L0 m H) w L w:=Grow.less w hL
   rcases hx d (List.mem_of_getElem? hd2) with ⟨y,rfl⟩ | ⟨c,rfl⟩
   · exact .data _ _ (hvv.data_inv.mono hg)
   · cases hvv with
     | cptr _ b off us hb hl hc hu=>exact .cptr c b off us hb (fun h=>hl (hL _ h)) hc fun i x hx=>(hu i x hx).mono hg
/-- A call that is handed a row of the caller's own,and hands back one in its place. -/
theorem dc_given {f:FuncId} {xs:List D} {cells:List Data} {len es:Nat} {K0:Nat->List Data->Prop}
 (hc:DC P Γ f (.ref 0 0 len es :: xs) (hpL [(0,.blk true (cells.map D.data))]) 1 fun d H' _=>∃ k n c,d = .ref k 0 n es∧H' k = .blk true (c.map D.data)∧K0 n c)
 {H:Nat->Blk} {nx g:Nat} {K:D->(Nat->Blk)->Nat->Prop} (hg:H g = .blk true (cells.map D.data)) (hn:g < nx) (hxs:∀ x∈xs,(∃ y,x = .data y) ∨ ∃ c,x = .cptr c)
 (hk:∀ n c,K0 n c->K (.ref nx 0 n es) (Hp.upd H [(g,.dead),(nx,.blk true (c.map D.data))]) (nx + 1)):DC P Γ f (.ref g 0 len es :: xs) H nx K:=by
 refine ⟨hc.1,fun L0 w0 m w vs hwr hres hdead hl hv=>?_⟩
 obtain ⟨h1,hlive⟩:=lend hwr hg
 refine (hc.2 _ _ _ w vs h1 (fun q hq=>if_neg (by omega)) (fun q hq=>by simp [hpL,show q≠0 by omega]) (by simpa using hl) (lent_args (fun b hb=>(hlive b).1 hb) (fun v hvv=>?_) hxs hv)).mono fun e w' ⟨v,d,H',nx',m',he,k1,hvv,k2,k3,k4,k5,k,n,c,hd,h0,hK⟩=>?_
 · cases hvv with
   | ref _ _ _ _ b sz cap o hm j2 j3 j4 j5=>exact .ref 0 0 len es b sz cap o (by simpa using hm) j2 j3 j4 j5
   | ref0 _ _ a hm=>exact .ref0 0 es a (by simpa using hm)
 subst hd
 have hm0:m' 0 = m g:=(k3 0 (by omega)).trans (if_pos rfl)
 have k2':Grow (Live L0 m H) w (Live (lentL L0 m H g) m' H') w':=⟨k2.size,fun b hb hL=>k2.keep b hb fun h=>hL ((hlive b).1 h)⟩
 obtain ⟨a,b,s,hM⟩:=lent_back hwr hg k1 k2' hm0 (k:=k) (t:=nx) (c:=c) h0 (.inr ⟨by omega,hres nx (Nat.le_refl _)⟩)
 have same:lentH H g nx c = Hp.upd H [(g,.dead),(nx,.blk true (c.map D.data))]:=by
  funext q
  have hgn:g≠nx:=by omega
  unfold lentH
  by_cases e:q = nx
  · subst e;simp [Hp.upd,Hp.set,hgn]
  · by_cases e2:q = g
    · subst e2;simp [Hp.upd,Hp.set,e]
    · simp [Hp.upd,Hp.set,e,e2,Ne.symm e,Ne.symm e2]
 rw [same] at a b s
 refine ⟨v,.ref nx 0 n es,_,nx + 1,lentM m m' nx k,he,a,?_,b,fun q hq=>if_neg (by omega),fun q hq=>(if_neg (by omega)).trans (hres q (by omega)),by omega,hk n c hK⟩
 have hMt:lentM m m' nx k nx = m' k:=if_pos rfl
 cases hvv with
 | ref _ _ _ _ b2 sz cap o hm j2 j3 j4 j5=>exact .ref nx 0 n es b2 sz cap o (by rw [hMt];exact hm) j2 j3 j4 j5
 | ref0 _ _ a2 hm=>exact .ref0 nx es a2 (by rw [hMt];exact hm)
end
end Go.Proofs.Ytkgoijpikfaegaa
namespace Go.Proofs.Ytkgoijpikfaegaa
@[go_sem] theorem ty_in3:intT Try.prog 3 = some .i64:=by kernel_rfl
@[go_sem] theorem ty_sz4:szT Try.prog 4 = some 1:=by kernel_rfl
@[go_sem] theorem ty_ag4:aggT Try.prog 4 = some false:=by kernel_rfl
@[go_sem] theorem ty_bo4:boolT Try.prog 4 = true:=by kernel_rfl
@[go_sem] theorem ty_sz5:szT Try.prog 5 = some 1:=by kernel_rfl
@[go_sem] theorem ty_by5:byT Try.prog 5 = some 1:=by kernel_rfl
@[go_sem] theorem ty_ag5:aggT Try.prog 5 = some false:=by kernel_rfl
@[go_sem] theorem ty_ze5:zeT Try.prog 5 = some [.data (.int .u8 0)]:=by kernel_rfl
@[go_sem] theorem ty_zl5:zlT Try.prog 5 = some 1:=by kernel_rfl
@[go_sem] theorem ty_in5:intT Try.prog 5 = some .u8:=by kernel_rfl
@[go_sem] theorem ty_st9:strT Try.prog 9 = true:=by kernel_rfl
@[go_sem] theorem ty_sz22:szT Try.prog 22 = some 1:=by kernel_rfl
@[go_sem] theorem ty_ag22:aggT Try.prog 22 = some false:=by kernel_rfl
@[go_sem] theorem ty_ze22:zeT Try.prog 22 = some [.emp 0]:=by kernel_rfl
@[go_sem] theorem ty_sl22:sliceT Try.prog 22 = some 5:=by kernel_rfl
@[go_sem] theorem ty_in22:intT Try.prog 22 = none:=by kernel_rfl
@[go_sem] theorem ty_st22:strT Try.prog 22 = false:=by kernel_rfl
@[go_sem] theorem ty_sz24:szT Try.prog 24 = some 2:=by kernel_rfl
@[go_sem] theorem ty_ag24:aggT Try.prog 24 = some true:=by kernel_rfl
@[go_sem] theorem ty_ze24:zeT Try.prog 24 = some [.emp 0,.data (.bool false)]:=by kernel_rfl
@[go_sem] theorem ty_ar24:arrT Try.prog 24 = none:=by kernel_rfl
@[go_sem] theorem ty_fl24_0:fldT Try.prog 24 0 = some (0,22):=by kernel_rfl
@[go_sem] theorem ty_fl24_1:fldT Try.prog 24 1 = some (1,4):=by kernel_rfl
@[go_sem] theorem ty_pl24:plT Try.prog 24 = some [(0,1),(1,1)]:=by kernel_rfl
@[go_sem] theorem ty_sz27:szT Try.prog 27 = some 1:=by kernel_rfl
@[go_sem] theorem ty_ag27:aggT Try.prog 27 = some false:=by kernel_rfl
@[go_sem] theorem ty_in27:intT Try.prog 27 = some .u16:=by kernel_rfl
@[go_sem] theorem ty_sz29:szT Try.prog 29 = some 2:=by kernel_rfl
@[go_sem] theorem ty_by29:byT Try.prog 29 = some 32:=by kernel_rfl
@[go_sem] theorem ty_ag29:aggT Try.prog 29 = some true:=by kernel_rfl
@[go_sem] theorem ty_ze29:zeT Try.prog 29 = some [.data (.int .u16 0),.emp 0]:=by kernel_rfl
@[go_sem] theorem ty_zl29:zlT Try.prog 29 = some 2:=by kernel_rfl
@[go_sem] theorem ty_ar29:arrT Try.prog 29 = none:=by kernel_rfl
@[go_sem] theorem ty_fl29_0:fldT Try.prog 29 0 = some (0,27):=by kernel_rfl
@[go_sem] theorem ty_fl29_1:fldT Try.prog 29 1 = some (1,22):=by kernel_rfl
@[go_sem] theorem ty_pl29:plT Try.prog 29 = some [(0,1),(1,1)]:=by kernel_rfl
@[go_sem] theorem ty_sz35:szT Try.prog 35 = some 1:=by kernel_rfl
@[go_sem] theorem ty_ag35:aggT Try.prog 35 = some false:=by kernel_rfl
@[go_sem] theorem ty_fl37_0:fldT Try.prog 37 0 = some (0,29):=by kernel_rfl
@[go_sem] theorem ty_fl37_1:fldT Try.prog 37 1 = some (2,35):=by kernel_rfl
@[go_sem] theorem ty_fl37_2:fldT Try.prog 37 2 = some (3,4):=by kernel_rfl
@[go_sem] theorem ty_fl37_3:fldT Try.prog 37 3 = some (4,22):=by kernel_rfl
@[go_sem] theorem ty_sl45:sliceT Try.prog 45 = some 29:=by kernel_rfl
@[go_sem] theorem ty_in45:intT Try.prog 45 = none:=by kernel_rfl
@[go_sem] theorem ty_st45:strT Try.prog 45 = false:=by kernel_rfl
@[go_sem] theorem ty_sl69:sliceT Try.prog 69 = some 22:=by kernel_rfl
@[go_sem] theorem ty_mp71:mapT Try.prog 71 = some (73,22):=by kernel_rfl
@[go_sem] theorem ty_ze73:zeT Try.prog 73 = some [.data (.bool false),.data (.bool false)]:=by kernel_rfl
@[go_sem] theorem ty_ar73:arrT Try.prog 73 = some (2,4):=by kernel_rfl
@[go_sem] theorem ty_ka73 (b0 b1:Bool):keyT Try.prog 73 (.agg [.bool b0,.bool b1]) = true:=by kernel_rfl
theorem mixed:Try.prog.follows .mixedOrders = true:=by kernel_rfl
end Go.Proofs.Ytkgoijpikfaegaa
namespace Go.Proofs.Ytkgoijpikfaegaa
open Go.RowKit
set_option linter.unusedSimpArgs false
set_option linter.unusedVariables false
set_option maxRecDepth 100000
set_option maxRecDepth 100000 in
theorem row_pc (Γ:Nat->Option (List Data)) (a b:List Nat) (ha:a.length≤100000000000) (hb:b.length≤100000000000):PC Try.prog Γ 19 [.sl 1 (bys a),.sl 1 (bys b)] (.bool (decide (a = b))):=by
 refine pc_by mixed Try.func19 rfl (fun args w=>Try.call19 args w) ?_
 simp -implicitDefEqProofs (disch:=omega) [go_sem,Try.f19]
 refine ifW_ndec (fun h=>?_) (fun h=>?_)
 · have hne:a≠b:=fun e=>h (by rw [e])
   simp -implicitDefEqProofs (disch:=omega) [go_sem,Try.f19,hne]
 · have hl:a.length = b.length:=by omega
   simp -implicitDefEqProofs (disch:=omega) [go_sem]
   refine loop_of (σ:={ i:Nat // i≤a.length∧∀ j,j < i->a[j]? = b[j]? }) (fun i=>⟨envL [(0,.data (.sl 1 (bys a))),(1,.data (.sl 1 (bys b))),(5,.data (.int .i64 i.1))],hpL [],0,0,26⟩) (fun i=>a.length - i.1) ⟨0,by omega,by omega⟩ ?_ ?_
   · apply weak_lists <;> simp -implicitDefEqProofs [go_sem]
   · rintro ⟨i,hi,heq⟩
     simp -implicitDefEqProofs (disch:=omega) [go_sem]
     refine ifW_dec (fun h=>?_) (fun h=>?_)
     · have hia:i < a.length:=by omega
       simp -implicitDefEqProofs (disch:=omega) [go_sem]
       refine side (by kernel_rfl) ?_
       simp -implicitDefEqProofs (disch:=omega) [go_sem]
       refine ifW_ndec (fun h2=>?_) (fun h2=>?_)
       · have hne:a≠b:=fun e=>h2 (by subst e;rfl)
         simp -implicitDefEqProofs (disch:=omega) [go_sem,Try.f19,hne]
       · simp -implicitDefEqProofs (disch:=omega) [go_sem]
         refine next_of ⟨i + 1,by omega,fun j hj=>?_⟩ ?_ (by simp only;omega)
         · by_cases e:j = i
           · subst e
             rw [List.getElem?_eq_getElem hia,List.getElem?_eq_getElem (by omega)]
             congr 1
             omega
           · exact heq j (by omega)
         apply weak_lists <;> simp -implicitDefEqProofs [go_sem]
     · have hab:a = b:=List.ext_getElem? fun j=>by
        by_cases hj:j < a.length
        · exact heq j (by omega)
        · rw [List.getElem?_eq_none (by omega),List.getElem?_eq_none (by omega)]
       simp -implicitDefEqProofs (disch:=omega) [go_sem,Try.f19,hab]
namespace Sf
/-- A byte that is escaped. -/
def escd (accm c:Nat):Prop:=c = 126 ∨ c = 125 ∨ (c < 32∧accm / 2 ^ c % 2 = 1)
instance (accm c:Nat):Decidable (escd accm c):=by unfold escd;infer_instance
def esc1 (accm c:Nat):List Nat:=if escd accm c then [125,c ^^^ 32] else [c]
def escB (accm:Nat) (b:List Nat):List Nat:=b.flatMap (esc1 accm)
theorem escB_nil (accm:Nat):escB accm [] = []:=rfl
theorem escB_cons (accm c:Nat) (b:List Nat):escB accm (c :: b) = esc1 accm c++escB accm b:=rfl
theorem escB_append (accm:Nat) (a b:List Nat):escB accm (a++b) = escB accm a++escB accm b:=by simp [escB,List.flatMap_append]
theorem escB_take (accm:Nat) (b:List Nat) (i:Nat) (h:i < b.length):escB accm (b.take (i + 1)) = escB accm (b.take i)++esc1 accm b[i]:=by
 rw [List.take_add_one,List.getElem?_eq_getElem h,Option.toList_some,escB_append]
 simp [escB]
theorem esc1_le (accm c:Nat):(esc1 accm c).length≤2:=by unfold esc1;split <;> simp
theorem escB_le (accm:Nat):∀ b:List Nat,(escB accm b).length≤2 * b.length
 | []=>by simp [escB_nil]
 | c :: b=>by
   have h1:=escB_le accm b
   have h2:=esc1_le accm c
   rw [escB_cons,List.length_append,List.length_cons]
   omega
theorem xor_lt {c:Nat} (h:c < 256):c ^^^ 32 < 256:=Nat.xor_lt_two_pow (n:=8) h (by decide)
theorem xor_xor (c:Nat):c ^^^ 32 ^^^ 32 = c:=by rw [Nat.xor_assoc,Nat.xor_self,Nat.xor_zero]
theorem escd_xor {accm c:Nat} (h:escd accm c):c ^^^ 32≠126∧c ^^^ 32≠125∧32≤c ^^^ 32:=by
 unfold escd at h
 have hc:c = 126 ∨ c = 125 ∨ c < 32:=by omega
 have key:∀ c:Fin 32,c.val ^^^ 32≠126∧c.val ^^^ 32≠125∧32≤c.val ^^^ 32:=by decide
 rcases hc with rfl | rfl | hc
 · decide
 · decide
 · exact key ⟨c,hc⟩
/-- What is plain,of bytes of which the first is turned by t. -/
def plT:Nat->List Nat->Option (List Nat)
 | t,[]=>if t = 0 then some [] else none
 | t,c :: l=>if c = 126 then none else if c = 125∧t = 0 then plT 32 l else (plT 0 l).map ((c ^^^ t) :: ·)
def plain (b:List Nat):Option (List Nat):=plT 0 b
/-- What is plain,a byte or two at a time. -/
theorem plT_le:∀ (t:Nat) (b out:List Nat),plT t b = some out->out.length≤b.length
 | t,[],out,h=>by
   unfold plT at h
   split at h
   · cases h;simp
   · cases h
 | t,c :: l,out,h=>by
   unfold plT at h
   split at h
   · cases h
   · split at h
     · have:=plT_le 32 l out h
       simp;omega
     · obtain ⟨o,ho,rfl⟩:=Option.map_eq_some_iff.1 h
       have:=plT_le 0 l o ho
       simp;omega
theorem plT_lt:∀ (t:Nat) (b out:List Nat),t < 256->(∀ x∈b,x < 256)->plT t b = some out->∀ x∈out,x < 256
 | t,[],out,ht,hb,h=>by
   unfold plT at h
   split at h
   · cases h;simp
   · cases h
 | t,c :: l,out,ht,hb,h=>by
   unfold plT at h
   split at h
   · cases h
   · split at h
     · exact plT_lt 32 l out (by omega) (fun x hx=>hb x (by simp [hx])) h
     · obtain ⟨o,ho,rfl⟩:=Option.map_eq_some_iff.1 h
       have hl:=plT_lt 0 l o (by omega) (fun x hx=>hb x (by simp [hx])) ho
       intro x hx
       rcases List.mem_cons.1 hx with rfl | hx
       · exact Nat.xor_lt_two_pow (n:=8) (hb c (by simp)) ht
       · exact hl x hx
theorem plT_flag (t:Nat) (b:List Nat) (h:126∈b):plT t b = none:=by
 induction b generalizing t with
 | nil=>cases h
 | cons c l ih =>
   unfold plT
   split
   · rfl
   · rename_i hc
     have hl:126∈l:=by
      rcases List.mem_cons.1 h with h | h
      · exact absurd h.symm hc
      · exact h
     split
     · exact ih 32 hl
     · rw [ih 0 hl];rfl
/-- What is escaped is plain again. -/
theorem plain_esc (accm:Nat) (b r:List Nat):plT 0 (escB accm b++r) = (plT 0 r).map (b++·):=by
 induction b with
 | nil=>simp [escB_nil]
 | cons c l ih =>
   rw [escB_cons,List.append_assoc]
   unfold esc1
   by_cases h:escd accm c
   · rw [if_pos h]
     obtain ⟨h1,h2,h3⟩:=escd_xor h
     have e1:plT 0 ([125,c ^^^ 32]++(escB accm l++r)) = (plT 0 (escB accm l++r)).map ((c ^^^ 32 ^^^ 32) :: ·):=by
      show plT 0 (125 :: (c ^^^ 32) :: (escB accm l++r)) = _
      rw [plT,if_neg (by decide),if_pos ⟨rfl,rfl⟩,plT,if_neg h1,if_neg (by omega)]
     rw [e1,ih,xor_xor]
     cases plT 0 r <;> rfl
   · rw [if_neg h]
     unfold escd at h
     have e1:plT 0 ([c]++(escB accm l++r)) = (plT 0 (escB accm l++r)).map ((c ^^^ 0) :: ·):=by
      show plT 0 (c :: (escB accm l++r)) = _
      rw [plT,if_neg (by omega),if_neg (by omega)]
     rw [e1,ih,Nat.xor_zero]
     cases plT 0 r <;> rfl
theorem plain_of_esc (accm:Nat) (b:List Nat):plain (escB accm b) = some b:=by
 have:=plain_esc accm b []
 simpa [plain,plT] using this
theorem esc_noflag (accm:Nat) (b:List Nat):126 ∉ escB accm b:=fun h=>by
 have:=plain_of_esc accm b
 rw [plain,plT_flag 0 _ h] at this
 cases this
theorem esc_lt (accm:Nat) {b:List Nat} (h:∀ x∈b,x < 256):∀ x∈escB accm b,x < 256:=by
 intro x hx
 obtain ⟨c,hc,hx⟩:=List.mem_flatMap.1 hx
 unfold esc1 at hx
 split at hx
 · simp only [List.mem_cons,List.not_mem_nil,or_false] at hx
   rcases hx with rfl | rfl
   · omega
   · exact xor_lt (h c hc)
 · simp only [List.mem_singleton] at hx
   subst hx
   exact h _ hc
theorem xor8 {a b:Nat} (ha:a < 256) (hb:b < 256):xorI .u8 a b = ((a ^^^ b:Nat):Int):=by
 have h:a ^^^ b < 2 ^ 8:=Nat.xor_lt_two_pow (by simpa using ha) (by simpa using hb)
 unfold xorI
 rw [IntKind.wrap_u8,BitVec.ofInt_natCast,BitVec.ofInt_natCast,BitVec.toNat_xor,BitVec.toNat_ofNat,BitVec.toNat_ofNat,mod_of (show a < 2 ^ IntKind.u8.bits from ha),mod_of (show b < 2 ^ IntKind.u8.bits from hb)]
 omega
theorem turn8 {a:Nat} (ha:a < 256):xorI .u8 a 32 = ((a ^^^ 32:Nat):Int):=xor8 ha (by decide)
theorem bit_lo {a c:Nat} (ha:a < 4294967296):andI .u32 ((a:Int) / 2 ^ c) 1 = ((a / 2 ^ c % 2:Nat):Int):=by
 have e1:((a:Int) / 2 ^ c) = ((a / 2 ^ c:Nat):Int):=by simp
 have hlt:a / 2 ^ c < 4294967296:=Nat.lt_of_le_of_lt (Nat.div_le_self _ _) ha
 have e2:andI .u32 ((a / 2 ^ c:Nat):Int) ((1:Nat):Int) = _:=and_u32 hlt (by decide)
 rw [e1,show (1:Int) = ((1:Nat):Int) from rfl,e2,Nat.and_one_is_mod]
theorem bit_hi {a:Nat} (ha:a < 4294967296):andI .u32 ((a:Int).fdiv 4294967296) 1 = 0:=by
 rw [Int.fdiv_eq_ediv_of_nonneg _ (by decide),Int.ediv_eq_zero_of_lt (by omega) (by omega)]
 decide
theorem esc1_yes {a c:Nat} (h:escd a c):esc1 a c = [125,c ^^^ 32]:=if_pos h
theorem esc1_no {a c:Nat} (h:¬ escd a c):esc1 a c = [c]:=if_neg h
end Sf
namespace Sf
section
variable (Γ:Nat->Option (List Data))
def escD (a:Nat):Data:=.fn 48 [.pc [.int .u32 a]]
theorem escaping_pc (a:Nat):PC Try.prog Γ 45 [.int .u32 a] (escD a):=by
 refine pc_by mixed Try.func45 rfl (fun args w=>Try.call45 args w) ?_
 simp -implicitDefEqProofs (disch:=omega) [go_sem,Try.f45]
 exact ⟨_,⟨_,rfl,_,rfl,_,rfl,frz_ptr (rw:=true) (l:=[.int .u32 a]) (by simp [go_sem]) (.inl rfl)⟩,rfl⟩
set_option maxHeartbeats 4000000 in
theorem esc1_dc (q:List Nat) (a c:Nat) (hq:q.length≤1000000000) (ha:a < 4294967296) (hc:c < 256):DC Try.prog Γ 48 [.ref 0 0 q.length 1,.data (.int .u8 c),.cptr [.int .u32 a]] (hpL [(0,.blk true ((bys q).map D.data))]) 1
 (fun d H' _=>∃ g m x,d = .ref g 0 m 1∧H' g = .blk true (x.map D.data)∧m = (q++esc1 a c).length∧x = bys (q++esc1 a c)):=by
 refine dc_by mixed Try.func48 rfl (fun args w=>Try.call48 args w) ?_
 have ht:=turn8 hc
 have t6:xorI .u8 126 32 = 94:=turn8 (a:=126) (by decide)
 have t5:xorI .u8 125 32 = 93:=turn8 (a:=125) (by decide)
 by_cases h0:c < 32
 · have hb:=bit_lo (c:=c) ha
   have hlt:a / 2 ^ c % 2 < 2:=Nat.mod_lt _ (by omega)
   by_cases h1:a / 2 ^ c % 2 = 1
   · have he:esc1 a c = [125,c ^^^ 32]:=esc1_yes (.inr (.inr ⟨h0,h1⟩))
     rw [h1] at hb
     simp -implicitDefEqProofs (disch:=omega) [go_sem,hb,he,ht,t5,t6,Try.f48]
     simp [bys,u8]
   · have he:esc1 a c = [c]:=esc1_no (by unfold escd;omega)
     have h2:a / 2 ^ c % 2 = 0:=by omega
     rw [h2] at hb
     simp -implicitDefEqProofs (disch:=omega) [go_sem,hb,he,ht,t5,t6,Try.f48]
     simp [bys,u8]
 · have hb:=bit_hi ha
   by_cases h1:c = 126
   · subst h1
     have he:esc1 a 126 = [125,126 ^^^ 32]:=esc1_yes (.inl rfl)
     simp -implicitDefEqProofs (disch:=omega) [go_sem,hb,he,ht,t5,t6,Try.f48]
     simp [bys,u8]
   · by_cases h2:c = 125
     · subst h2
       have he:esc1 a 125 = [125,125 ^^^ 32]:=esc1_yes (.inr (.inl rfl))
       simp -implicitDefEqProofs (disch:=omega) [go_sem,hb,he,ht,t5,t6,Try.f48]
       simp [bys,u8]
     · have he:esc1 a c = [c]:=esc1_no (by unfold escd;omega)
       simp -implicitDefEqProofs (disch:=omega) [go_sem,hb,he,ht,t5,t6,Try.f48]
       simp [bys,u8]
/-- Bytes at hand: one more,escaped if it is to be. -/
theorem esc_given {q:List Nat} {a c:Nat} (hq:q.length≤1000000000) (ha:a < 4294967296) (hc:c < 256) {H:Nat->Blk} {nx g:Nat} {K:D->(Nat->Blk)->Nat->Prop} {m:Nat} (hm:m = q.length) (hg:H g = .blk true ((bys q).map D.data)) (hgn:g < nx)
 (h:K (.ref nx 0 (q++esc1 a c).length 1) (Hp.upd H [(g,.dead),(nx,.blk true ((bys (q++esc1 a c)).map D.data))]) (nx + 1)):DC Try.prog Γ 48 [.ref g 0 m 1,.data (.int .u8 c),.cptr [.int .u32 a]] H nx K:=by
 subst hm
 exact dc_given (cells:=bys q) (K0:=fun m x=>m = (q++esc1 a c).length∧x = bys (q++esc1 a c)) (esc1_dc Γ q a c hq ha hc) hg hgn (by simp) (fun m c ⟨h3,h4⟩=>by subst h3;subst h4;exact h)
set_option maxHeartbeats 4000000 in
theorem escape_oc (b:List Nat) (a:Nat) (hb:b.length≤10000000) (hl:∀ x∈b,x < 256) (ha:a < 4294967296):OC Try.prog Γ 37 [.sl 1 (bys b),.int .u32 a] (.ref 0 0 (escB a b).length 1) [(0,.blk true ((bys (escB a b)).map .data))] 1:=by
 refine oc_by mixed Try.func37 rfl (fun args w=>Try.call37 args w) ?_
 simp -implicitDefEqProofs (disch:=omega) [go_sem]
 refine .inl (call_data (escaping_pc Γ a) (by simp [go_sem]) ?_)
 simp -implicitDefEqProofs (disch:=omega) [go_sem,escD]
 refine loop_ren (σ:={ i:Nat // i≤b.length }) (fun i=>⟨envL [(5,.data (escD a)),(6,.ref 0 0 (escB a (b.take i.1)).length 1),(14,.data (.sl 1 (bys b))),(15,.data (.int .i64 b.length)),(16,.data (.int .i64 i.1))],hpL [(0,.blk true ((bys (escB a (b.take i.1))).map .data))],1,0,26⟩) (fun i=>b.length - i.1) ⟨0,by omega⟩ [] (rhoL [(0,some 6)]) ?_ ?_
 · apply ren_lists <;> simp -implicitDefEqProofs [go_sem,escB_nil,escD]
 · rintro ⟨i,hi⟩
   by_cases h:i < b.length
   · have hc:=hl _ (List.getElem_mem h)
     have ht:=escB_take a b i h
     have hle:=escB_le a (b.take i)
     rw [List.length_take,Nat.min_eq_left hi] at hle
     simp -implicitDefEqProofs (disch:=omega) [go_sem,escD]
     refine .inr (esc_given Γ (q:=escB a (b.take i)) (by omega) ha hc rfl (by simp [go_sem]) (by simp) ?_)
     simp -implicitDefEqProofs (disch:=omega) [go_sem]
     refine next_ren ⟨i + 1,by omega⟩ (by simp only;omega) [] (rhoL [(0,some 8)]) ?_
     apply ren_lists <;> simp -implicitDefEqProofs [go_sem,escD,ht]
   · have:i = b.length:=by omega
     subst this
     simp -implicitDefEqProofs (disch:=omega) [go_sem,Try.f37]
     refine own_of [] [(0,some 0)] ?_
     apply ren_lists <;> simp -implicitDefEqProofs [go_sem]
theorem escape_pc (b:List Nat) (a:Nat) (hb:b.length≤10000000) (hl:∀ x∈b,x < 256) (ha:a < 4294967296):PC Try.prog Γ 37 [.sl 1 (bys b),.int .u32 a] (.sl 1 (bys (escB a b))) :=
 pc_of_oc (escape_oc Γ b a hb hl ha) (frz_bys (rw:=true) rfl (.inl rfl) rfl)
end
end Sf
namespace Sf
section
variable (Γ:Nat->Option (List Data))
/-- What is told of bytes that are to be plain. -/
def plR:Option (List Nat)->Data
 | some o=>.tup [.sl 1 (bys o),.int .i64 0]
 | none=>.tup [.sl 1 [],.int .i64 2]
theorem plT_cons (t c:Nat) (l:List Nat):plT t (c :: l) = if c = 126 then none else if c = 125∧t = 0 then plT 32 l else (plT 0 l).map ((c ^^^ t) :: ·):=rfl
theorem map_step (o:Option (List Nat)) (out:List Nat) (x:Nat):(o.map (x :: ·)).map (out++·) = o.map ((out++[x])++·):=by cases o <;> simp
set_option maxHeartbeats 4000000 in
theorem plain_pc' (b:List Nat) (r:Option (List Nat)) (hr:plain b = r) (hb:b.length≤1000000000) (hl:∀ x∈b,x < 256):PC Try.prog Γ 43 [.sl 1 (bys b)] (plR r):=by
 refine pc_by mixed Try.func43 rfl (fun args w=>Try.call43 args w) ?_
 simp -implicitDefEqProofs (disch:=omega) [go_sem]
 refine loop_ren (σ:={ p:Nat × List Nat × Nat // p.1≤b.length∧(p.2.2 = 0 ∨ p.2.2 = 32)∧p.2.1.length≤p.1∧r = (plT p.2.2 (b.drop p.1)).map (p.2.1++·) }) (fun p=>⟨envL [(4,.ref 0 0 p.1.2.1.length 1),(5,.data (.int .u8 p.1.2.2)),(11,.data (.sl 1 (bys b))),(12,.data (.int .i64 b.length)),(13,.data (.int .i64 p.1.1))],hpL [(0,.blk true ((bys p.1.2.1).map .data))],1,0,37⟩) (fun p=>b.length - p.1.1) ⟨(0,[],0),by simp,.inl rfl,by simp,by rw [<- hr];simp [plain]⟩ [] (rhoL [(0,some 4)]) ?_ ?_
 · apply ren_lists <;> simp -implicitDefEqProofs [go_sem]
 rintro ⟨⟨i,out,t⟩,hi,ht,ho,hinv⟩
 simp only at hi ht ho hinv
 have hv:=hinv
 by_cases h:i < b.length
 · have hd:=List.drop_eq_getElem_cons h
   have hc:=hl _ (List.getElem_mem h)
   rw [hd,plT_cons] at hv
   by_cases h6:b[i] = 126
   · rw [if_pos h6] at hv
     subst hv
     simp -implicitDefEqProofs (disch:=omega) [go_sem,h6,Try.f43]
     exact ⟨_,⟨_,rfl,.emp ..⟩,rfl⟩
   · rw [if_neg h6] at hv
     by_cases h5:b[i] = 125∧t = 0
     · rw [if_pos h5] at hv
       obtain ⟨h5,rfl⟩:=h5
       simp -implicitDefEqProofs (disch:=omega) [go_sem,h5]
       refine next_ren ⟨(i + 1,out,32),by simp only;omega,.inr rfl,by simp only;omega,hv⟩ (by simp only;omega) [] (rhoL [(0,some 0)]) ?_
       apply ren_lists <;> simp -implicitDefEqProofs [go_sem]
     · rw [if_neg h5,map_step] at hv
       have hx:xorI .u8 (b[i]:Int) (t:Int) = ((b[i] ^^^ t:Nat):Int):=xor8 hc (by omega)
       by_cases h55:b[i] = 125
       · have ht0:t = 32:=by omega
         subst ht0
         rw [h55] at hx hv
         have x5:xorI .u8 125 32 = 93:=turn8 (a:=125) (by decide)
         simp -implicitDefEqProofs (disch:=omega) [go_sem,h55,x5]
         refine next_ren ⟨(i + 1,out++[125 ^^^ 32],0),by simp only;omega,.inl rfl,by simp;omega,hv⟩ (by simp only;omega) [] (rhoL [(0,some 20)]) ?_
         apply ren_lists <;> simp -implicitDefEqProofs [go_sem]
         exact renCells_plain (by simp [bys,u8]) (by simp [plainD,bys,u8])
       · simp -implicitDefEqProofs (disch:=omega) [go_sem,h55,hx]
         refine next_ren ⟨(i + 1,out++[b[i] ^^^ t],0),by simp only;omega,.inl rfl,by simp;omega,hv⟩ (by simp only;omega) [] (rhoL [(0,some 20)]) ?_
         apply ren_lists <;> simp -implicitDefEqProofs [go_sem]
         exact renCells_plain (by simp [bys,u8]) (by simp [plainD,bys,u8])
 · have:i = b.length:=by omega
   subst this
   rw [List.drop_length] at hv
   rcases ht with rfl | rfl
   · have hp:r = some out:=by rw [hv];simp [plT]
     subst hp
     simp -implicitDefEqProofs (disch:=omega) [go_sem,Try.f43,plR]
     exact ⟨_,⟨_,rfl,frz_bys (rw:=true) (by simp [go_sem]) (.inl rfl) rfl⟩,rfl⟩
   · have hp:r = none:=by rw [hv];simp [plT]
     subst hp
     simp -implicitDefEqProofs (disch:=omega) [go_sem,Try.f43,plR]
     exact ⟨_,⟨_,rfl,.emp ..⟩,rfl⟩
set_option maxHeartbeats 4000000 in
theorem rplain_pc' (b:List Nat) (r:Option (List Nat)) (hr:plain b = r) (hb:b.length≤1000000000) (hl:∀ x∈b,x < 256):PC Try.prog Γ 34 [.sl 1 (bys b)] (plR r):=by
 refine pc_by mixed Try.func34 rfl (fun args w=>Try.call34 args w) ?_
 simp -implicitDefEqProofs (disch:=omega) [go_sem]
 refine loop_ren (σ:={ p:Nat × List Nat // p.1≤b.length∧p.2.length≤p.1∧r = (plT 0 (b.drop p.1)).map (p.2++·) }) (fun p=>⟨envL [(0,.data (.sl 1 (bys b))),(4,.ref 0 0 p.1.2.length 1),(5,.data (.int .i64 p.1.1))],hpL [(0,.blk true ((bys p.1.2).map .data))],1,0,46⟩) (fun p=>b.length - p.1.1) ⟨(0,[]),by simp,by simp,by rw [<- hr];simp [plain]⟩ [] (rhoL [(0,none)]) ?_ ?_
 · apply ren_lists <;> simp -implicitDefEqProofs [go_sem]
 rintro ⟨⟨i,out⟩,hi,ho,hinv⟩
 simp only at hi ho hinv
 by_cases h:i < b.length
 · have hd:=List.drop_eq_getElem_cons h
   have hc:=hl _ (List.getElem_mem h)
   rw [hd,plT_cons] at hinv
   by_cases h6:b[i] = 126
   · rw [if_pos h6] at hinv
     subst hinv
     simp -implicitDefEqProofs (disch:=omega) [go_sem,h6,Try.f34]
     exact ⟨_,⟨_,rfl,.emp ..⟩,rfl⟩
   · rw [if_neg h6] at hinv
     by_cases h5:b[i] = 125
     · rw [if_pos ⟨h5,rfl⟩] at hinv
       by_cases h1:i + 1 < b.length
       · have hd1:=List.drop_eq_getElem_cons h1
         have hc1:=hl _ (List.getElem_mem h1)
         rw [hd1,plT_cons] at hinv
         by_cases h7:b[i + 1] = 126
         · rw [if_pos h7] at hinv
           subst hinv
           simp -implicitDefEqProofs (disch:=omega) [go_sem,h5,h7,Try.f34]
           exact ⟨_,⟨_,rfl,.emp ..⟩,rfl⟩
         · rw [if_neg h7,if_neg (by omega),map_step] at hinv
           have hx:xorI .u8 (b[i + 1]:Int) 32 = ((b[i + 1] ^^^ 32:Nat):Int):=turn8 hc1
           simp -implicitDefEqProofs (disch:=omega) [go_sem,h5,hx]
           refine next_ren ⟨(i + 2,out++[b[i + 1] ^^^ 32]),by simp only;omega,by simp;omega,hinv⟩ (by simp only;omega) [] (rhoL [(0,some 37)]) ?_
           apply ren_lists <;> simp -implicitDefEqProofs [go_sem]
           · omega
           · exact renCells_plain (by simp [bys,u8]) (by simp [plainD,bys,u8])
       · have hz:b.drop (i + 1) = []:=List.drop_eq_nil_of_le (by omega)
         rw [hz] at hinv
         have hp:r = none:=by rw [hinv];simp [plT]
         subst hp
         have e1:i + 1 = b.length:=by omega
         simp -implicitDefEqProofs (disch:=omega) [go_sem,h5,Try.f34]
         exact ⟨_,⟨_,rfl,.emp ..⟩,rfl⟩
     · rw [if_neg (by omega),map_step,Nat.xor_zero] at hinv
       simp -implicitDefEqProofs (disch:=omega) [go_sem,h5]
       refine next_ren ⟨(i + 1,out++[b[i]]),by simp only;omega,by simp;omega,hinv⟩ (by simp only;omega) [] (rhoL [(0,some 17)]) ?_
       apply ren_lists <;> simp -implicitDefEqProofs [go_sem]
       exact renCells_plain (by simp [bys,u8]) (by simp [plainD,bys,u8])
 · have:i = b.length:=by omega
   subst this
   rw [List.drop_length] at hinv
   have hp:r = some out:=by rw [hinv];simp [plT]
   subst hp
   simp -implicitDefEqProofs (disch:=omega) [go_sem,Try.f34,plR]
   exact ⟨_,⟨_,rfl,frz_bys (rw:=true) (by simp [go_sem]) (.inl rfl) rfl⟩,rfl⟩
theorem plain_pc (b:List Nat) (hb:b.length≤1000000000) (hl:∀ x∈b,x < 256):PC Try.prog Γ 43 [.sl 1 (bys b)] (plR (plain b)):=plain_pc' Γ b _ rfl hb hl
theorem rplain_pc (b:List Nat) (hb:b.length≤1000000000) (hl:∀ x∈b,x < 256):PC Try.prog Γ 34 [.sl 1 (bys b)] (plR (plain b)):=rplain_pc' Γ b _ rfl hb hl
end
end Sf
theorem frz_rows {ok:Bool} {H:Nat->Blk} {g len es:Nat} {rw:Bool} {cells:List D} {l:List Data} (hg:H g = .blk rw cells) (hrw:ok = true ∨ rw = false) (hl:l.length = len) (hes:∀ x∈l,x.cells.length = es) (h:FrzL ok H cells (flat l)):Frz ok H (.ref g 0 len es) (.sl es l):=by
 obtain ⟨h1,h2⟩:=h
 have hfl:(flat l).length = l.length * es:=flat_length hes
 refine .ref g 0 len es rw cells l (fun i=>cells.getD i .junk) hg hrw hl hes (by rw [<- hl];omega) (fun i x hx=>?_) (fun i x hx=>?_)
 · have hi:=(List.getElem?_eq_some_iff.1 hx).1
   have hi2:i < cells.length:=by omega
   simp [List.getD_eq_getElem?_getD,hi2]
 · have hi:=(List.getElem?_eq_some_iff.1 hx).1
   have hi2:i < cells.length:=by omega
   refine h2 i _ x ?_ hx
   simp [List.getD_eq_getElem?_getD,hi2]
theorem over_bys {p f:List Nat} {k:Nat} (h:f.length≤k):over ((bys (p++List.replicate k 0)).map D.data) p.length ((bys f).map D.data) = (bys (p++f++List.replicate (k - f.length) 0)).map D.data:=by
 have e:List.replicate k 0 = List.replicate f.length 0++List.replicate (k - f.length) 0:=by rw [List.replicate_append_replicate];congr 1;omega
 rw [e]
 have h1:∀ a b:List Nat,(bys (a++b)).map D.data = (bys a).map D.data++(bys b).map D.data:=fun a b=>(bysd_append a b).symm
 rw [h1,h1,List.append_assoc,h1,h1]
 have:=over_mid (A:=(bys p).map D.data) (old:=(bys (List.replicate f.length 0)).map D.data) (new:=(bys f).map D.data) (rest:=(bys (List.replicate (k - f.length) 0)).map D.data) (by simp [bys])
 rw [show ((bys p).map D.data).length = p.length by simp [bys]] at this
 exact this
namespace Sf
section
variable (Γ:Nat->Option (List Data))
def rws (l:List (List Nat)):List Data:=l.map fun b=>.sl 1 (bys b)
@[go_sem] theorem rws_length (l:List (List Nat)):(rws l).length = l.length:=by simp [rws]
@[go_sem] theorem rws_get (l:List (List Nat)) (i:Nat):(rws l)[i]? = (l[i]?).map fun b=>.sl 1 (bys b):=by simp [rws]
theorem rws_cells (l:List (List Nat)):∀ x∈rws l,x.cells.length = 1:=fun x hx=>by
 obtain ⟨p,_,rfl⟩:=List.mem_map.1 hx
 rfl
theorem flat_rws (l:List (List Nat)):flat (rws l) = rws l:=by
 induction l with
 | nil=>rfl
 | cons b l ih =>
   show (Data.sl 1 (bys b)).cells++flat (rws l) = _
   rw [ih];rfl
theorem join_take (l:List (List Nat)) (i:Nat) (h:i < l.length):(l.take (i + 1)).flatten = (l.take i).flatten++l[i]:=by
 rw [List.take_add_one,List.getElem?_eq_getElem h,Option.toList_some,List.flatten_append]
 simp
theorem join_le (l:List (List Nat)) (i:Nat):(l.take i).flatten.length≤l.flatten.length:=by
 have:l.flatten = (l.take i).flatten++(l.drop i).flatten:=by rw [<- List.flatten_append,List.take_append_drop]
 rw [this,List.length_append];omega
theorem plain_bys (l:List Nat):((bys l).map D.data).all plainD = true:=by simp [bys,plainD]
set_option maxHeartbeats 4000000 in
theorem concat_pc (l:List (List Nat)) (h0:0 < l.flatten.length) (hn:l.flatten.length≤1000000000) (hl:l.length≤1000000):PC Try.prog Γ 27 [.sl 1 (rws l)] (.sl 1 (bys l.flatten)):=by
 refine pc_by mixed Try.func27 rfl (fun args w=>Try.call27 args w) ?_
 have hpos:0 < l.length:=by
  rcases Nat.eq_zero_or_pos l.length with e | e
  · rw [List.eq_nil_of_length_eq_zero e] at h0;simp at h0
  · exact e
 simp -implicitDefEqProofs (disch:=omega) [-List.length_flatten,go_sem]
 refine loop_ren (σ:={ i:Nat // i≤l.length }) (fun i=>⟨envL [(0,.data (.sl 1 (rws l))),(3,.data (.int .i64 (l.take i.1).flatten.length)),(9,.data (.sl 1 (rws l))),(10,.data (.int .i64 l.length)),(11,.data (.int .i64 i.1))],hpL [],0,0,36⟩) (fun i=>l.length - i.1) ⟨0,by omega⟩ [] (rhoL []) ?_ ?_
 · apply ren_lists <;> simp -implicitDefEqProofs [-List.length_flatten,go_sem]
 rintro ⟨i,hi⟩
 by_cases h:i < l.length
 · have hj:=join_take l i h
   have hle:=join_le l (i + 1)
   rw [hj,List.length_append] at hle
   simp -implicitDefEqProofs (disch:=omega) [-List.length_flatten,go_sem]
   refine next_ren ⟨i + 1,by omega⟩ (by simp only;omega) [] (rhoL []) ?_
   apply ren_lists <;> simp -implicitDefEqProofs [-List.length_flatten,go_sem,hj]
 · have:i = l.length:=by omega
   subst this
   have ht:l.take l.length = l:=List.take_length
   generalize hT:l.flatten.length = T at *
   simp -implicitDefEqProofs (disch:=omega) [-List.length_flatten,go_sem,ht,hT]
   refine .inr (dc_by mixed Try.func39 rfl (fun args w=>Try.call39 args w) ?_)
   simp -implicitDefEqProofs (disch:=omega) [-List.length_flatten,go_sem,Try.f39]
   refine loop_ren (σ:={ i:Nat // i≤l.length }) (fun i=>⟨envL [(6,if i.1 < l.length then .cut 0 0 (l.take i.1).flatten.length T 1 else .ref 0 0 T 1),(25,.data (.sl 1 (rws l))),(26,.data (.int .i64 l.length)),(27,.data (.int .i64 i.1))],hpL [(0,.blk true ((bys ((l.take i.1).flatten++List.replicate (T - (l.take i.1).flatten.length) 0)).map .data))],1,0,36⟩) (fun i=>l.length - i.1) ⟨0,by omega⟩ [] (rhoL [(0,some 20)]) ?_ ?_
   · apply ren_lists <;> simp -implicitDefEqProofs [-List.length_flatten,go_sem,hpos]
   rintro ⟨i,hi⟩
   by_cases h:i < l.length
   · have hj:=join_take l i h
     have hle:=join_le l (i + 1)
     rw [hj,List.length_append,hT] at hle
     have hov:=over_bys (p:=(l.take i).flatten) (f:=l[i]) (k:=T - (l.take i).flatten.length) (by omega)
     have hjl:(l.take (i + 1)).flatten.length = (l.take i).flatten.length + l[i].length:=by rw [hj,List.length_append]
     have hsub:T - (l.take (i + 1)).flatten.length = T - (l.take i).flatten.length - l[i].length:=by omega
     simp -implicitDefEqProofs (disch:=omega) [-List.length_flatten,go_sem,h]
     refine next_ren ⟨i + 1,by omega⟩ (by simp only;omega) [] (rhoL [(0,some 0)]) ?_
     by_cases h2:i + 1 < l.length
     · apply ren_lists <;> simp -implicitDefEqProofs [-List.length_flatten,go_sem,h2,hj,hsub]
       rw [hov]
       exact renCells_plain (by congr 2;rw [List.append_assoc];congr 3;omega) (plain_bys _)
     · apply ren_lists <;> simp -implicitDefEqProofs [-List.length_flatten,go_sem,h2,hj,hsub]
       · have:=hjl
         rw [List.take_of_length_le (by omega),hT] at this
         exact this
       · rw [hov]
         exact renCells_plain (by congr 2;rw [List.append_assoc];congr 3;omega) (plain_bys _)
   · have:i = l.length:=by omega
     subst this
     simp -implicitDefEqProofs (disch:=omega) [-List.length_flatten,go_sem,ht,hT,Try.f27]
     exact ⟨_,⟨_,rfl,frz_bys (rw:=true) (by simp [go_sem]) (.inl rfl) hT⟩,rfl⟩
def sendB (a:Nat) (b:List Nat):List Nat:=126 :: (escB a b++[126])
theorem send_pc (b:List Nat) (a:Nat) (hb:b.length≤10000000) (hl:∀ x∈b,x < 256) (ha:a < 4294967296):PC Try.prog Γ 25 [.sl 1 (bys b),.int .u32 a] (.sl 1 (bys (sendB a b))):=by
 refine pc_by mixed Try.func25 rfl (fun args w=>Try.call25 args w) ?_
 have hle:=escB_le a b
 have hc:=concat_pc Γ [[126],escB a b,[126]] (by simp) (by simp;omega) (by simp)
 simp -implicitDefEqProofs (disch:=omega) [go_sem]
 refine .inl (call_data (escape_pc Γ b a hb hl ha) (by simp [go_sem]) ?_)
 simp -implicitDefEqProofs (disch:=omega) [go_sem]
 refine .inl (call_frz [1,8] [1,8] (fun g hg=>?_) hc (fun H' hH'=>?_) ?_)
 · simp only [List.mem_cons,List.not_mem_nil,or_false] at hg
   rcases hg with rfl | rfl <;> exact ⟨true,_,by simp [Hp.upd,Hp.set];rfl⟩
 · have f1:Frz false (Hp.upd H' (List.map (fun g=>(g,fz (Hp.upd (Hp.upd (Hp.upd (Hp.upd (Hp.upd (Hp.upd (Hp.upd (Hp.upd (Hp.upd (fun x=>Blk.dead) []) [(1,Blk.blk true [D.data (Data.int IntKind.u8 126)])]) []) []) []) []) []) []) [(8,Blk.blk true [D.ref 1 0 1 1,D.data (Data.sl 1 (bys (escB a b))),D.ref 1 0 1 1])] g))) [1,8])) (.ref 1 0 1 1) (.sl 1 (bys [126])) :=
    frz_bys (rw:=false) (by simp [Hp.upd,Hp.set,fz,bys,u8]) (.inr rfl) rfl
   refine frzL_c (frz_rows (rw:=false) (cells:=[.ref 1 0 1 1,.data (.sl 1 (bys (escB a b))),.ref 1 0 1 1]) (by simp [Hp.upd,Hp.set,fz]) (.inr rfl) rfl (rws_cells _) ?_) frzL_n
   rw [flat_rws]
   exact frzL_c f1 (frzL_c (.data _) (frzL_c f1 frzL_n))
 simp -implicitDefEqProofs (disch:=omega) [go_sem,Try.f25]
 rfl
end
end Sf
namespace Fc
theorem xor16 {a b:Nat} (ha:a < 65536) (hb:b < 65536):xorI .u16 a b = ((a ^^^ b:Nat):Int):=by
 have h:a ^^^ b < 2 ^ 16:=Nat.xor_lt_two_pow (by simpa using ha) (by simpa using hb)
 unfold xorI
 rw [IntKind.wrap_u16,BitVec.ofInt_natCast,BitVec.ofInt_natCast,BitVec.toNat_xor,BitVec.toNat_ofNat,BitVec.toNat_ofNat,mod_of (show a < 2 ^ IntKind.u16.bits from ha),mod_of (show b < 2 ^ IntKind.u16.bits from hb)]
 omega
theorem xor64 {a b:Nat} (ha:a < 65536) (hb:b < 65536):xorI .i64 a b = ((a ^^^ b:Nat):Int):=by
 have h:a ^^^ b < 2 ^ 16:=Nat.xor_lt_two_pow (by simpa using ha) (by simpa using hb)
 have h1:a < 2 ^ IntKind.i64.bits:=Nat.lt_of_lt_of_le ha (by decide)
 have h2:b < 2 ^ IntKind.i64.bits:=Nat.lt_of_lt_of_le hb (by decide)
 unfold xorI
 rw [IntKind.wrap_i64,BitVec.ofInt_natCast,BitVec.ofInt_natCast,BitVec.toNat_xor,BitVec.toNat_ofNat,BitVec.toNat_ofNat,mod_of h1,mod_of h2]
 omega
theorem turn16 {a:Nat} (ha:a < 65536):xorI .u16 a 33800 = ((a ^^^ 33800:Nat):Int):=xor16 ha (by decide)
theorem turn64 {a:Nat} (ha:a < 65536):xorI .i64 a 33800 = ((a ^^^ 33800:Nat):Int):=xor64 ha (by decide)
theorem and16 {a:Nat} (ha:a < 65536):andI .u16 a 1 = ((a % 2:Nat):Int):=by
 unfold andI
 rw [IntKind.wrap_u16,BitVec.ofInt_natCast,show (1:Int) = ((1:Nat):Int) from rfl,BitVec.ofInt_natCast,BitVec.toNat_and,BitVec.toNat_ofNat,BitVec.toNat_ofNat,mod_of (show a < 2 ^ IntKind.u16.bits from ha),show (1:Nat) % 2 ^ IntKind.u16.bits = 1 from rfl,Nat.and_one_is_mod]
 omega
theorem not16 {a:Nat} (ha:a < 65536):notI .u16 a = ((65535 - a:Nat):Int):=by
 have e:notI .u16 a = xorI .u16 ((65535:Nat):Int) a:=rfl
 have h:=M.xor_not ha
 rw [e,xor16 (by decide) ha]
 have h2:65535 ^^^ a = 65535 - a:=by
  have h3:=congrArg (· ^^^ a) h
  change a ^^^ (65535 - a) ^^^ a = 65535 ^^^ a at h3
  rw [Nat.xor_comm a,Nat.xor_assoc,Nat.xor_self,Nat.xor_zero] at h3
  exact h3.symm
 rw [h2]
theorem over_zeros (b:List Nat) (k:Nat):over ((bys (List.replicate (b.length + k) 0)).map D.data) 0 ((bys b).map D.data) = (bys (b++List.replicate k 0)).map D.data:=by
 have:=over_bys (p:=[]) (f:=b) (k:=b.length + k) (by omega)
 simpa using this
theorem over_at (a:List Nat) (x y:Nat) (r:List Nat) {n:Nat} {v:Int} (hn:n = a.length) (hv:v = (y:Int)):over ((bys (a++x :: r)).map D.data) n [.data (.int .u8 v)] = (bys (a++y :: r)).map D.data:=by
 subst hn hv
 simp [over,bys,u8]
theorem turn16h {a:Nat} (ha:a < 65536):xorI .u16 ((a:Int) / 2) 33800 = ((a / 2 ^^^ 33800:Nat):Int):=by
 have:=turn16 (a:=a / 2) (by omega)
 rwa [show ((a / 2:Nat):Int) = (a:Int) / 2 by omega] at this
theorem turn64h {a:Nat} (ha:a < 65536):xorI .i64 ((a:Int) / 2) 33800 = ((a / 2 ^^^ 33800:Nat):Int):=by
 have:=turn64 (a:=a / 2) (by omega)
 rwa [show ((a / 2:Nat):Int) = (a:Int) / 2 by omega] at this
theorem shr16 (a:Nat):(a:Int).fdiv 2 = ((a / 2:Nat):Int):=by rw [Int.fdiv_eq_ediv_of_nonneg _ (by decide)];omega
theorem high16 (a:Nat):(a:Int).fdiv 256 = ((a / 256:Nat):Int):=by rw [Int.fdiv_eq_ediv_of_nonneg _ (by decide)];omega
section
variable (Γ:Nat->Option (List Data))
theorem step_pc (s c:Nat) (hs:s < 65536) (hc:c < 256):PC Try.prog Γ 46 [.int .u16 s,.int .u8 c] (.int .u16 (M.step s c)):=by
 refine pc_by mixed Try.func46 rfl (fun args w=>Try.call46 args w) ?_
 have hx:=xor16 hs (show c < 65536 by omega)
 have hy:s ^^^ c < 65536:=M.xor_lt hs (by omega)
 unfold M.step
 generalize s ^^^ c = y at *
 simp -implicitDefEqProofs (disch:=omega) [go_sem,hx]
 refine loop_ren (σ:={ i:Nat // i≤8 }) (fun i=>⟨envL [(0,.data (.int .u16 (M.it i.1 y))),(10,.data (.int .i64 i.1))],hpL [],0,0,22⟩) (fun i=>8 - i.1) ⟨0,by omega⟩ [] (rhoL []) ?_ ?_
 · apply ren_lists <;> simp -implicitDefEqProofs [go_sem,M.it]
   rw [show (c:Int) % 65536 = c by omega,hx]
 rintro ⟨i,hi⟩
 have hl:=M.it_lt hy i
 by_cases h:i < 8
 · have hs2:M.bs (M.it i y) = M.bs (M.it i y):=rfl
   by_cases ho:M.it i y % 2 = 1
   · have ho2:((M.it i y % 2:Nat):Int) = 1:=by omega
     rw (occs:=.pos [2]) [M.bs_odd ho] at hs2
     have ht:=turn16h hl
     simp -implicitDefEqProofs (disch:=omega) [go_sem,and16 hl,ho2,shr16]
     refine next_ren ⟨i + 1,by omega⟩ (by simp only;omega) [] (rhoL []) ?_
     apply ren_lists <;> simp -implicitDefEqProofs [go_sem]
     rw [ht,<- hs2]
     rfl
   · have ho2:((M.it i y % 2:Nat):Int) = 0:=by omega
     rw (occs:=.pos [2]) [M.bs_even ho] at hs2
     simp -implicitDefEqProofs (disch:=omega) [go_sem,and16 hl,ho2,shr16]
     refine next_ren ⟨i + 1,by omega⟩ (by simp only;omega) [] (rhoL []) ?_
     apply ren_lists <;> simp -implicitDefEqProofs [go_sem]
     show ((M.bs (M.it i y):Nat):Int) = _
     rw [hs2];omega
 · have:i = 8:=by omega
   subst this
   simp -implicitDefEqProofs (disch:=omega) [go_sem,Try.f46]
theorem on_pc (s:Nat) (b:List Nat) (hs:s < 65536) (hb:b.length≤1000000000) (hl:∀ x∈b,x < 256):PC Try.prog Γ 38 [.int .u16 s,.sl 1 (bys b)] (.int .u16 (M.on s b)):=by
 refine pc_by mixed Try.func38 rfl (fun args w=>Try.call38 args w) ?_
 simp -implicitDefEqProofs (disch:=omega) [go_sem]
 refine loop_ren (σ:={ i:Nat // i≤b.length }) (fun i=>⟨envL [(0,.data (.int .u16 (M.on s (b.take i.1)))),(7,.data (.sl 1 (bys b))),(8,.data (.int .i64 b.length)),(9,.data (.int .i64 i.1))],hpL [],0,0,18⟩) (fun i=>b.length - i.1) ⟨0,by omega⟩ [] (rhoL []) ?_ ?_
 · apply ren_lists <;> simp -implicitDefEqProofs [go_sem,M.on]
 rintro ⟨i,hi⟩
 by_cases h:i < b.length
 · have h1:=M.on_lt (b.take i) s hs (fun x hx=>hl x (List.mem_of_mem_take hx))
   have h2:=hl b[i] (List.getElem_mem h)
   have h3:=M.on_take_succ s b i h
   have c1:=step_pc Γ (M.on s (b.take i)) b[i] h1 h2
   rw [<- h3] at c1
   simp -implicitDefEqProofs (disch:=omega) [go_sem]
   refine .inl (call_data c1 (by simp [go_sem]) ?_)
   simp -implicitDefEqProofs (disch:=omega) [go_sem]
   refine next_ren ⟨i + 1,by omega⟩ (by simp only;omega) [] (rhoL []) ?_
   apply ren_lists <;> simp -implicitDefEqProofs [go_sem]
 · have:i = b.length:=by omega
   subst this
   simp -implicitDefEqProofs (disch:=omega) [go_sem,List.take_length,Try.f38]
theorem put_pc (b:List Nat) (hb:b.length≤1000000000) (hl:∀ x∈b,x < 256):PC Try.prog Γ 26 [.sl 1 (bys b)] (.sl 1 (bys (M.put b))):=by
 refine pc_by mixed Try.func26 rfl (fun args w=>Try.call26 args w) ?_
 have c1:=on_pc Γ 65535 b (by omega) hb hl
 have h1:=M.on_lt b 65535 (by omega) hl
 have hn:=not16 h1
 unfold M.put M.tail
 generalize M.on 65535 b = s at *
 simp -implicitDefEqProofs (disch:=omega) [go_sem]
 refine .inl (call_data c1 (by simp [go_sem]) ?_)
 have h0:=over_zeros b 2
 rw [show b.length + 2 = ((b.length:Int) + 2).toNat by omega] at h0
 have h2:=over_at b 0 ((65535 - s) % 256) [0] (n:=b.length) (v:=((65535 - s:Nat):Int) % 256) rfl (by omega)
 have h3:=over_at (b++[(65535 - s) % 256]) 0 ((65535 - s) / 256) [] (n:=b.length + 1) (v:=((65535 - s:Nat):Int) / 256 % 256) (by simp) (by omega)
 simp only [List.append_assoc,List.cons_append,List.nil_append,List.replicate_succ,List.replicate_zero] at h0 h2 h3
 simp -implicitDefEqProofs (disch:=omega) [go_sem,hn,high16,h0,h2,h3]
 exact ⟨_,⟨_,rfl,frz_bys (rw:=true) (by simp [go_sem]) (.inl rfl) (by simp;omega)⟩,rfl⟩
theorem good_pc (b:List Nat) (hb:b.length≤1000000000) (hl:∀ x∈b,x < 256):PC Try.prog Γ 41 [.sl 1 (bys b)] (.bool (M.good b)):=by
 refine pc_by mixed Try.func41 rfl (fun args w=>Try.call41 args w) ?_
 have c1:=on_pc Γ 65535 b (by omega) hb hl
 by_cases h:2≤b.length
 · have e:M.good b = decide (M.on 65535 b = 61624):=by unfold M.good;rw [decide_eq_true h,Bool.true_and];rfl
   rw [e]
   generalize M.on 65535 b = s at *
   simp -implicitDefEqProofs (disch:=omega) [go_sem]
   refine .inl (call_data c1 (by simp [go_sem]) ?_)
   by_cases hs:s = 61624
   · simp -implicitDefEqProofs (disch:=omega) [go_sem,hs,Try.f41]
   · simp -implicitDefEqProofs (disch:=omega) [go_sem,hs,Try.f41]
 · have e:M.good b = false:=by unfold M.good;rw [decide_eq_false h,Bool.false_and]
   rw [e]
   simp -implicitDefEqProofs (disch:=omega) [go_sem,Try.f41]
def cutE (b:List Nat):Int:=if b.length < 2 then 2 else if M.good b = true then 0 else 3
def cutB (b:List Nat):List Nat:=if b.length < 2 then [] else if M.good b = true then b.take (b.length - 2) else []
theorem copy_row (b:List Nat) (k:Nat) (h:k≤b.length):over ((bys (List.replicate k 0)).map D.data) 0 ((bys (b.take k)).map D.data) = (bys (b.take k)).map D.data:=by
 have:=over_zeros (b.take k) 0
 simpa [List.length_take,Nat.min_eq_left h] using this
theorem cut_pc (b:List Nat) (hb:b.length≤1000000000) (hl:∀ x∈b,x < 256):PC Try.prog Γ 29 [.sl 1 (bys b)] (.tup [.sl 1 (bys (cutB b)),.int .i64 (cutE b)]):=by
 refine pc_by mixed Try.func29 rfl (fun args w=>Try.call29 args w) ?_
 have c1:=good_pc Γ b hb hl
 unfold cutE cutB
 by_cases h:b.length < 2
 · rw [if_pos h,if_pos h]
   simp -implicitDefEqProofs (disch:=omega) [go_sem,Try.f29]
   exact ⟨_,⟨_,rfl,.emp _ _⟩,rfl⟩
 rw [if_neg h,if_neg h]
 by_cases hg:M.good b = true
 · rw [if_pos hg,if_pos hg]
   rw [hg] at c1
   simp -implicitDefEqProofs (disch:=omega) [go_sem]
   refine .inl (call_data c1 (by simp [go_sem]) ?_)
   have h0:=copy_row b (b.length - 2) (by omega)
   have hn:((b.length:Int) - 2).toNat = b.length - 2:=by omega
   simp -implicitDefEqProofs (disch:=omega) [go_sem,hn,h0]
   exact ⟨_,⟨_,rfl,frz_bys (rw:=true) (by simp [go_sem]) (.inl rfl) (by rw [List.length_take];omega)⟩,rfl⟩
 · rw [if_neg hg,if_neg hg]
   rw [show M.good b = false by simpa using hg] at c1
   simp -implicitDefEqProofs (disch:=omega) [go_sem]
   refine .inl (call_data c1 (by simp [go_sem]) ?_)
   simp -implicitDefEqProofs (disch:=omega) [go_sem,Try.f29]
   exact ⟨_,⟨_,rfl,.emp _ _⟩,rfl⟩
theorem rstep_pc (s c:Nat) (hs:s < 65536) (hc:c < 256):PC Try.prog Γ 50 [.int .u16 s,.int .u8 c] (.int .u16 (M.step s c)):=by
 refine pc_by mixed Try.func50 rfl (fun args w=>Try.call50 args w) ?_
 have hx:=xor64 hs (show c < 65536 by omega)
 have hy:s ^^^ c < 65536:=M.xor_lt hs (by omega)
 unfold M.step
 generalize s ^^^ c = y at *
 simp -implicitDefEqProofs (disch:=omega) [go_sem,hx]
 refine loop_ren (σ:={ i:Nat // i≤8 }) (fun i=>⟨envL [(5,.data (.int .i64 (M.it i.1 y))),(6,.data (.int .i64 i.1))],hpL [],0,0,27⟩) (fun i=>8 - i.1) ⟨0,by omega⟩ [] (rhoL []) ?_ ?_
 · apply ren_lists <;> simp -implicitDefEqProofs [go_sem,M.it]
 rintro ⟨i,hi⟩
 have hl:=M.it_lt hy i
 by_cases h:i < 8
 · have hs2:M.bs (M.it i y) = M.bs (M.it i y):=rfl
   by_cases ho:M.it i y % 2 = 1
   · have ho2:((M.it i y % 2:Nat):Int) = 1:=by omega
     rw (occs:=.pos [2]) [M.bs_odd ho] at hs2
     have ho3:((M.it i y:Nat):Int).tmod 2 = 1:=by rw [Int.tmod_eq_emod_of_nonneg (by omega)];omega
     have ht:=turn64h hl
     simp -implicitDefEqProofs (disch:=omega) [go_sem,ho3]
     refine next_ren ⟨i + 1,by omega⟩ (by simp only;omega) [] (rhoL []) ?_
     apply ren_lists <;> simp -implicitDefEqProofs [go_sem]
     rw [ht,<- hs2]
     rfl
   · have ho2:((M.it i y % 2:Nat):Int) = 0:=by omega
     rw (occs:=.pos [2]) [M.bs_even ho] at hs2
     have ho3:((M.it i y:Nat):Int).tmod 2 = 0:=by rw [Int.tmod_eq_emod_of_nonneg (by omega)];omega
     simp -implicitDefEqProofs (disch:=omega) [go_sem,ho3]
     refine next_ren ⟨i + 1,by omega⟩ (by simp only;omega) [] (rhoL []) ?_
     apply ren_lists <;> simp -implicitDefEqProofs [go_sem]
     show ((M.bs (M.it i y):Nat):Int) = _
     rw [hs2];omega
 · have:i = 8:=by omega
   subst this
   simp -implicitDefEqProofs (disch:=omega) [go_sem,Try.f50]
   have:=M.it_lt hy 8
   omega
theorem ron_pc (s:Nat) (b:List Nat) (hs:s < 65536) (hb:b.length≤1000000000) (hl:∀ x∈b,x < 256):PC Try.prog Γ 49 [.int .u16 s,.sl 1 (bys b)] (.int .u16 (M.on s b)):=by
 refine pc_by mixed Try.func49 rfl (fun args w=>Try.call49 args w) ?_
 simp -implicitDefEqProofs (disch:=omega) [go_sem]
 refine loop_ren (σ:={ i:Nat // i≤b.length }) (fun i=>⟨envL [(0,.data (.int .u16 (M.on s (b.take i.1)))),(1,.data (.sl 1 (bys b))),(5,.data (.int .i64 i.1))],hpL [],0,0,19⟩) (fun i=>b.length - i.1) ⟨0,by omega⟩ [] (rhoL []) ?_ ?_
 · apply ren_lists <;> simp -implicitDefEqProofs [go_sem,M.on]
 rintro ⟨i,hi⟩
 by_cases h:i < b.length
 · have h1:=M.on_lt (b.take i) s hs (fun x hx=>hl x (List.mem_of_mem_take hx))
   have h2:=hl b[i] (List.getElem_mem h)
   have h3:=M.on_take_succ s b i h
   have c1:=rstep_pc Γ (M.on s (b.take i)) b[i] h1 h2
   rw [<- h3] at c1
   simp -implicitDefEqProofs (disch:=omega) [go_sem]
   refine .inl (call_data c1 (by simp [go_sem]) ?_)
   simp -implicitDefEqProofs (disch:=omega) [go_sem]
   refine next_ren ⟨i + 1,by omega⟩ (by simp only;omega) [] (rhoL []) ?_
   apply ren_lists <;> simp -implicitDefEqProofs [go_sem]
 · have:i = b.length:=by omega
   subst this
   simp -implicitDefEqProofs (disch:=omega) [go_sem,List.take_length,Try.f49]
theorem rput_pc (b:List Nat) (hb:b.length≤1000000000) (hl:∀ x∈b,x < 256):PC Try.prog Γ 47 [.sl 1 (bys b)] (.sl 1 (bys (M.put b))):=by
 refine pc_by mixed Try.func47 rfl (fun args w=>Try.call47 args w) ?_
 have c1:=ron_pc Γ 65535 b (by omega) hb hl
 have h1:=M.on_lt b 65535 (by omega) hl
 unfold M.put M.tail
 generalize M.on 65535 b = s at *
 simp -implicitDefEqProofs (disch:=omega) [go_sem]
 refine .inl (call_data c1 (by simp [go_sem]) ?_)
 simp -implicitDefEqProofs (disch:=omega) [go_sem]
 refine ⟨_,⟨_,rfl,frz_bys (rw:=true) ?_ (.inl rfl) (by simp)⟩,rfl⟩
 simp [go_sem,bys,u8]
 omega
theorem rgood_pc (b:List Nat) (hb:b.length≤1000000000) (hl:∀ x∈b,x < 256):PC Try.prog Γ 44 [.sl 1 (bys b)] (.bool (M.good b)):=by
 refine pc_by mixed Try.func44 rfl (fun args w=>Try.call44 args w) ?_
 by_cases h:2≤b.length
 · have c1:=rput_pc Γ (b.take (b.length - 2)) (by rw [List.length_take];omega) (fun x hx=>hl x (List.mem_of_mem_take hx))
   have e:M.good b = decide (b = M.put (b.take (b.length - 2))):=by
    rw [Bool.eq_iff_iff,decide_eq_true_iff]
    exact M.good_iff hl h
   have c2:=row_pc Γ b (M.put (b.take (b.length - 2))) (by omega) (by unfold M.put M.tail;rw [List.length_append,List.length_take];simp;omega)
   rw [e]
   generalize M.put (b.take (b.length - 2)) = q at *
   have hn:((b.length:Int) - 2).toNat = b.length - 2:=by omega
   simp -implicitDefEqProofs (disch:=omega) [go_sem]
   refine .inl (call_data c1 (by simp [go_sem,hn]) ?_)
   simp -implicitDefEqProofs (disch:=omega) [go_sem]
   refine .inl (call_data c2 (by simp [go_sem]) ?_)
   simp -implicitDefEqProofs (disch:=omega) [go_sem,Try.f44]
 · have e:M.good b = false:=by unfold M.good;rw [decide_eq_false h,Bool.false_and]
   rw [e]
   simp -implicitDefEqProofs (disch:=omega) [go_sem,Try.f44]
theorem rcut_pc (b:List Nat) (hb:b.length≤1000000000) (hl:∀ x∈b,x < 256):PC Try.prog Γ 35 [.sl 1 (bys b)] (.tup [.sl 1 (bys (cutB b)),.int .i64 (cutE b)]):=by
 refine pc_by mixed Try.func35 rfl (fun args w=>Try.call35 args w) ?_
 have c1:=rgood_pc Γ b hb hl
 unfold cutE cutB
 by_cases h:b.length < 2
 · rw [if_pos h,if_pos h]
   simp -implicitDefEqProofs (disch:=omega) [go_sem,Try.f35]
   exact ⟨_,⟨_,rfl,.emp _ _⟩,rfl⟩
 rw [if_neg h,if_neg h]
 by_cases hg:M.good b = true
 · rw [if_pos hg,if_pos hg]
   rw [hg] at c1
   have hn:((b.length:Int) - 2).toNat = b.length - 2:=by omega
   simp -implicitDefEqProofs (disch:=omega) [go_sem]
   refine .inl (call_data c1 (by simp [go_sem]) ?_)
   simp -implicitDefEqProofs (disch:=omega) [go_sem,hn,Try.f35]
 · rw [if_neg hg,if_neg hg]
   rw [show M.good b = false by simpa using hg] at c1
   simp -implicitDefEqProofs (disch:=omega) [go_sem]
   refine .inl (call_data c1 (by simp [go_sem]) ?_)
   simp -implicitDefEqProofs (disch:=omega) [go_sem,Try.f35]
   exact ⟨_,⟨_,rfl,.emp _ _⟩,rfl⟩
end
end Fc
namespace Sf
section
variable (Γ:Nat->Option (List Data))
/-- A line. -/
def ln (b:List Nat) (lg:Bool):Data:=.agg [.sl 1 (bys b),.bool lg]
/-- A line with a byte more. -/
def nxt (b:List Nat) (lg:Bool) (c:Nat):List Nat × Bool :=
 if c = 126 then ([],false) else if lg = true ∨ 1508≤b.length then ([],true) else (b++[c],false)
/-- The frame that has come. -/
def cam (b:List Nat) (lg:Bool) (c:Nat):Option (List Nat):=if c = 126∧lg = false∧b≠[] then plain b else none
def feedR (b:List Nat) (lg:Bool) (c:Nat):Data:=match cam b lg c with
 | some o=>.tup [ln (nxt b lg c).1 (nxt b lg c).2,.sl 1 (bys o),.bool true]
 | none=>.tup [ln (nxt b lg c).1 (nxt b lg c).2,.sl 1 [],.bool false]
theorem feedR_no {b:List Nat} {lg:Bool} {c:Nat} (h:cam b lg c = none):feedR b lg c = .tup [ln (nxt b lg c).1 (nxt b lg c).2,.sl 1 [],.bool false]:=by unfold feedR;rw [h]
theorem feedR_yes {b o:List Nat} {lg:Bool} {c:Nat} (h:cam b lg c = some o):feedR b lg c = .tup [ln (nxt b lg c).1 (nxt b lg c).2,.sl 1 (bys o),.bool true]:=by unfold feedR;rw [h]
set_option maxHeartbeats 4000000 in
theorem feed_pc (b:List Nat) (lg:Bool) (c:Nat) (hb:b.length≤1000000) (hl:∀ x∈b,x < 256) (hc:c < 256):PC Try.prog Γ 22 [ln b lg,.int .u8 c] (feedR b lg c):=by
 refine pc_by mixed Try.func22 rfl (fun args w=>Try.call22 args w) ?_
 simp -implicitDefEqProofs (disch:=omega) [go_sem,ln]
 refine .inr (dc_by mixed Try.func33 rfl (fun args w=>Try.call33 args w) ?_)
 by_cases h1:c = 126
 · subst h1
   cases lg with
   | true =>
     rw [feedR_no (by simp [cam])]
     simp -implicitDefEqProofs (disch:=omega) [go_sem,Try.f33,Try.f22,nxt,ln]
     exact ⟨_,⟨_,_,rfl,frz_aggL (frzL_c (.emp ..) (frzL_c (.data _) frzL_n)),_,rfl,.emp ..⟩,rfl⟩
   | false =>
     by_cases h2:b = []
     · subst h2
       rw [feedR_no (by simp [cam])]
       simp -implicitDefEqProofs (disch:=omega) [go_sem,Try.f33,Try.f22,nxt,ln]
       exact ⟨_,⟨_,_,rfl,frz_aggL (frzL_c (.emp ..) (frzL_c (.data _) frzL_n)),_,rfl,.emp ..⟩,rfl⟩
     · have hpos:0 < b.length:=List.length_pos_iff.2 h2
       have hpl:=plain_pc Γ b (by omega) hl
       have hcam:cam b false 126 = plain b:=by simp [cam,h2]
       simp -implicitDefEqProofs (disch:=omega) [go_sem,ln]
       refine .inl (call_frz [] [] (by simp) hpl (fun H' hH'=>frzL_c (.ful ..) frzL_n) ?_)
       cases hr:plain b with
       | none =>
         rw [feedR_no (hcam.trans hr)]
         simp -implicitDefEqProofs (disch:=omega) [go_sem,Try.f33,Try.f22,nxt,ln,plR]
         exact ⟨_,⟨_,_,rfl,frz_aggL (frzL_c (.emp ..) (frzL_c (.data _) frzL_n)),_,rfl,.emp ..⟩,rfl⟩
       | some o =>
         rw [feedR_yes (hcam.trans hr)]
         simp -implicitDefEqProofs (disch:=omega) [go_sem,Try.f33,Try.f22,nxt,ln,plR]
         exact ⟨_,⟨_,rfl,frz_aggL (frzL_c (.emp ..) (frzL_c (.data _) frzL_n))⟩,rfl⟩
 · have hn:cam b lg c = none:=by simp [cam,h1]
   rw [feedR_no hn]
   cases lg with
   | true =>
     simp -implicitDefEqProofs (disch:=omega) [go_sem,Try.f33,Try.f22,nxt,ln,h1]
     exact ⟨_,⟨_,_,rfl,frz_aggL (frzL_c (.emp ..) (frzL_c (.data _) frzL_n)),_,rfl,.emp ..⟩,rfl⟩
   | false =>
     by_cases h2:1508≤b.length
     · simp -implicitDefEqProofs (disch:=omega) [go_sem,Try.f33,Try.f22,nxt,ln,h1,h2]
       exact ⟨_,⟨_,_,rfl,frz_aggL (frzL_c (.emp ..) (frzL_c (.data _) frzL_n)),_,rfl,.emp ..⟩,rfl⟩
     · simp -implicitDefEqProofs (disch:=omega) [go_sem,Try.f33,Try.f22,nxt,ln,h1,h2]
       exact ⟨_,⟨_,_,rfl,frz_aggL (frzL_c (frz_bys (rw:=true) (by simp [Hp.set,bys,u8]) (.inl rfl) (by simp)) (frzL_c (.data _) frzL_n)),_,rfl,.emp ..⟩,rfl⟩
set_option maxHeartbeats 4000000 in
theorem rfeed_pc (b:List Nat) (lg:Bool) (c:Nat) (hb:b.length≤1508) (hl:∀ x∈b,x < 256) (hc:c < 256):PC Try.prog Γ 23 [ln b lg,.int .u8 c] (feedR b lg c):=by
 refine pc_by mixed Try.func23 rfl (fun args w=>Try.call23 args w) ?_
 by_cases h1:c = 126
 · subst h1
   have hpl:=rplain_pc Γ b (by omega) hl
   simp -implicitDefEqProofs (disch:=omega) [go_sem,ln]
   refine .inl (call_data hpl (by simp [go_sem]) ?_)
   cases lg with
   | true =>
     rw [feedR_no (by simp [cam])]
     cases hr:plain b with
     | none =>
       simp -implicitDefEqProofs (disch:=omega) [go_sem,Try.f23,nxt,ln,plR]
       exact ⟨_,⟨_,_,rfl,frz_aggL (frzL_c (.emp ..) (frzL_c (.data _) frzL_n)),_,rfl,.emp ..⟩,rfl⟩
     | some o =>
       simp -implicitDefEqProofs (disch:=omega) [go_sem,Try.f23,nxt,ln,plR]
       exact ⟨_,⟨_,_,rfl,frz_aggL (frzL_c (.emp ..) (frzL_c (.data _) frzL_n)),_,rfl,.emp ..⟩,rfl⟩
   | false =>
     by_cases h2:b = []
     · subst h2
       rw [feedR_no (by simp [cam])]
       have hr:plain [] = some []:=rfl
       rw [hr]
       simp -implicitDefEqProofs (disch:=omega) [go_sem,Try.f23,nxt,ln,plR]
       exact ⟨_,⟨_,_,rfl,frz_aggL (frzL_c (.emp ..) (frzL_c (.data _) frzL_n)),_,rfl,.emp ..⟩,rfl⟩
     · have hpos:0 < b.length:=List.length_pos_iff.2 h2
       have hcam:cam b false 126 = plain b:=by simp [cam,h2]
       cases hr:plain b with
       | none =>
         rw [feedR_no (hcam.trans hr)]
         simp -implicitDefEqProofs (disch:=omega) [go_sem,Try.f23,nxt,ln,plR]
         exact ⟨_,⟨_,_,rfl,frz_aggL (frzL_c (.emp ..) (frzL_c (.data _) frzL_n)),_,rfl,.emp ..⟩,rfl⟩
       | some o =>
         rw [feedR_yes (hcam.trans hr)]
         simp -implicitDefEqProofs (disch:=omega) [go_sem,Try.f23,nxt,ln,plR]
         exact ⟨_,⟨_,rfl,frz_aggL (frzL_c (.emp ..) (frzL_c (.data _) frzL_n))⟩,rfl⟩
 · have hn:cam b lg c = none:=by simp [cam,h1]
   rw [feedR_no hn]
   cases lg with
   | true =>
     simp -implicitDefEqProofs (disch:=omega) [go_sem,Try.f23,nxt,ln,h1]
     exact ⟨_,⟨_,_,rfl,frz_aggL (frzL_c (.emp ..) (frzL_c (.data _) frzL_n)),_,rfl,.emp ..⟩,rfl⟩
   | false =>
     by_cases h2:b.length = 1508
     · simp -implicitDefEqProofs (disch:=omega) [go_sem,Try.f23,nxt,ln,h1,h2]
       exact ⟨_,⟨_,_,rfl,frz_aggL (frzL_c (.emp ..) (frzL_c (.data _) frzL_n)),_,rfl,.emp ..⟩,rfl⟩
     · have h3:¬ 1508≤b.length:=by omega
       simp -implicitDefEqProofs (disch:=omega) [go_sem,Try.f23,nxt,ln,h1,h2,h3]
       exact ⟨_,⟨_,_,rfl,frz_aggL (frzL_c (frz_bys (rw:=true) (by simp [Hp.set,bys,u8]) (.inl rfl) (by simp)) (frzL_c (.data _) frzL_n)),_,rfl,.emp ..⟩,rfl⟩
/-- A line that is right. -/
def Rl (b:List Nat) (lg:Bool):Prop:=b.length≤1508∧(lg = true->b = [])∧126 ∉ b
instance (b:List Nat) (lg:Bool):Decidable (Rl b lg):=by unfold Rl;infer_instance
set_option maxHeartbeats 4000000 in
theorem rright_pc (b:List Nat) (lg:Bool) (hb:b.length≤140737488351232):PC Try.prog Γ 9 [ln b lg] (.bool (decide (Rl b lg))):=by
 refine pc_by mixed Try.func9 rfl (fun args w=>Try.call9 args w) ?_
 by_cases h1:1508 < b.length
 · have hn:¬ Rl b lg:=fun h=>by have:=h.1;omega
   rw [decide_eq_false hn]
   simp -implicitDefEqProofs (disch:=omega) [go_sem,Try.f9,ln]
 by_cases h2:lg = true∧0 < b.length
 · have hn:¬ Rl b lg:=fun h=>by have:=h.2.1 h2.1;rw [this] at h2;simp at h2
   rw [decide_eq_false hn]
   obtain ⟨rfl,h2⟩:=h2
   simp -implicitDefEqProofs (disch:=omega) [go_sem,Try.f9,ln]
 have h3:lg = true->b = []:=fun e=>List.eq_nil_of_length_eq_zero (by
  by_cases hz:0 < b.length
  · exact absurd ⟨e,hz⟩ h2
  · omega)
 have start:∀ q:Bool,(q = true ↔ 126 ∉ b)->decide (Rl b lg) = q:=fun q hq=>by
  cases q
  · exact decide_eq_false fun h=>by have:=hq.2 h.2.2;cases this
  · exact decide_eq_true ⟨by omega,h3,hq.1 rfl⟩
 generalize decide (Rl b lg) = r at start
 have hcond:lg = false ∨ (lg = true∧b.length = 0):=by
  cases lg
  · exact .inl rfl
  · exact .inr ⟨rfl,by rw [h3 rfl];rfl⟩
 have main:∀ s:St,s = s:=fun _=>rfl
 rcases hcond with rfl | ⟨rfl,hz⟩
 · simp -implicitDefEqProofs (disch:=omega) [go_sem,ln]
   refine loop_ren (σ:={ i:Nat // i≤b.length∧126 ∉ b.take i }) (fun i=>⟨envL [(1,.ptr 0 0),(3,.data (.int .i64 i.1))],hpL [(0,.blk true [.data (.sl 1 (bys b)),.data (.bool false)])],1,0,31⟩) (fun i=>b.length - i.1) ⟨0,by omega,by simp⟩ [] (rhoL [(0,some 0)]) ?_ ?_
   · apply ren_lists <;> simp -implicitDefEqProofs [go_sem]
   rintro ⟨i,hi,hno⟩
   by_cases h:i < b.length
   · by_cases h6:b[i] = 126
     · have:=start false (by simp;exact h6 ▸ List.getElem_mem h)
       subst this
       simp -implicitDefEqProofs (disch:=omega) [go_sem,h6,Try.f9]
     · simp -implicitDefEqProofs (disch:=omega) [go_sem,h6]
       refine next_ren ⟨i + 1,by omega,?_⟩ (by simp only;omega) [] (rhoL [(0,some 0)]) ?_
       · rw [List.take_add_one,List.getElem?_eq_getElem h]
         simp only [Option.toList_some,List.mem_append,List.mem_singleton]
         intro e
         rcases e with e | e
         · exact hno e
         · exact h6 e.symm
       apply ren_lists <;> simp -implicitDefEqProofs [go_sem]
   · have:i = b.length:=by omega
     subst this
     rw [List.take_length] at hno
     have:=start true (by simp [hno])
     subst this
     simp -implicitDefEqProofs (disch:=omega) [go_sem,Try.f9]
 · have hnil:b = []:=List.eq_nil_of_length_eq_zero hz
   subst hnil
   have:=start true (by simp)
   subst this
   simp -implicitDefEqProofs (disch:=omega) [go_sem,ln]
   refine loop_ren (σ:=Unit) (fun i=>⟨envL [(1,.ptr 0 0),(3,.data (.int .i64 0))],hpL [(0,.blk true [.data (.sl 1 []),.data (.bool true)])],1,0,31⟩) (fun i=>0) () [] (rhoL [(0,some 0)]) ?_ ?_
   · apply ren_lists <;> simp -implicitDefEqProofs [go_sem]
   rintro ⟨⟩
   simp -implicitDefEqProofs (disch:=omega) [go_sem,Try.f9]
theorem rsame_pc (b b':List Nat) (lg lg':Bool) (hb:b.length≤1000000) (hb':b'.length≤1000000):PC Try.prog Γ 12 [ln b lg,ln b' lg'] (.bool (decide (b = b'∧lg = lg'))):=by
 refine pc_by mixed Try.func12 rfl (fun args w=>Try.call12 args w) ?_
 have hr:=row_pc Γ b b' (by omega) (by omega)
 by_cases h:b = b'
 · rw [decide_eq_true h] at hr
   simp -implicitDefEqProofs (disch:=omega) [go_sem,ln]
   refine .inl (call_data hr (by simp [go_sem]) ?_)
   subst h
   cases lg <;> cases lg' <;> simp -implicitDefEqProofs (disch:=omega) [go_sem,Try.f12]
 · rw [decide_eq_false h] at hr
   simp -implicitDefEqProofs (disch:=omega) [go_sem,ln]
   refine .inl (call_data hr (by simp [go_sem]) ?_)
   simp -implicitDefEqProofs (disch:=omega) [go_sem,Try.f12,h]
end
end Sf
namespace Sf
section
variable (Γ:Nat->Option (List Data))
theorem sequal_pc (a b:List Nat) (ha:∀ x∈a,x < 256) (hb:∀ x∈b,x < 256):PC Try.prog Γ 32 [.sl 1 (bys a),.sl 1 (bys b)] (.bool (decide (a = b))):=by
 refine pc_by mixed Try.func32 rfl (fun args w=>Try.call32 args w) ?_
 have hd:decide (toStr a = toStr b) = decide (a = b):=decide_eq_decide.2 (toStr_inj ha hb)
 simp -implicitDefEqProofs (disch:=omega) [go_sem,Try.f32]
 refine conv_bys (e:=5) ha (by simp [go_sem]) (by simp [go_sem]) (by simp [go_sem]) ?_
 simp -implicitDefEqProofs (disch:=omega) [go_sem]
 refine conv_bys (e:=5) hb (by simp [go_sem]) (by simp [go_sem]) (by simp [go_sem]) ?_
 simp -implicitDefEqProofs (disch:=omega) [go_sem,Try.f32,hd]
/-- All frames that come. -/
def allF:List Nat->Bool->List Nat->List (List Nat)
 | _,_,[]=>[]
 | b,lg,c :: l=>(cam b lg c).toList++allF (nxt b lg c).1 (nxt b lg c).2 l
theorem allF_cons (b:List Nat) (lg:Bool) (c:Nat) (l:List Nat):allF b lg (c :: l) = (cam b lg c).toList++allF (nxt b lg c).1 (nxt b lg c).2 l:=rfl
def allB (b:List Nat):List (List Nat):=allF [] false b
theorem nxt_le {b:List Nat} {lg:Bool} {c:Nat} (h:b.length≤1508):(nxt b lg c).1.length≤1508:=by
 unfold nxt
 split
 · simp
 · split
   · simp
   · simp;omega
theorem nxt_lt {b:List Nat} {lg:Bool} {c:Nat} (h:∀ x∈b,x < 256) (hc:c < 256):∀ x∈(nxt b lg c).1,x < 256:=by
 unfold nxt
 intro x hx
 split at hx
 · cases hx
 · split at hx
   · cases hx
   · rcases List.mem_append.1 hx with hx | hx
     · exact h x hx
     · simp only [List.mem_singleton] at hx;subst hx;exact hc
end
end Sf
namespace Sf
section
variable (Γ:Nat->Option (List Data))
/-- A line that has been fed with these,no flag among them,from one without anything. -/
def sg (s:List Nat):List Nat × Bool:=if s.length≤1508 then (s,false) else ([],true)
theorem sg_step {s:List Nat} {c:Nat} (h:c≠126):nxt (sg s).1 (sg s).2 c = sg (s++[c]):=by
 unfold sg nxt
 rw [if_neg h]
 by_cases h1:s.length≤1508
 · rw [if_pos h1]
   by_cases h2:s.length + 1≤1508
   · rw [if_neg (by simp;omega),if_pos (by simpa using h2)]
   · rw [if_pos (by simp;omega),if_neg (by simpa using h2)]
 · rw [if_neg h1,if_pos (.inl rfl),if_neg (by simp;omega)]
theorem sg_cam (s:List Nat) {c:Nat} (h:c≠126):cam (sg s).1 (sg s).2 c = none:=by simp [cam,h]
theorem sg_frame (s:List Nat):cam (sg s).1 (sg s).2 126 = if 0 < s.length∧s.length≤1508 then plain s else none:=by
 unfold sg cam
 by_cases h1:s.length≤1508
 · rw [if_pos h1]
   by_cases h2:s = []
   · simp [h2]
   · have:=List.length_pos_iff.2 h2
     simp [h1,h2,this]
 · rw [if_neg h1,if_neg (fun h=>h.2.2 rfl),if_neg (fun h=>h1 h.2)]
end
end Sf
namespace Sf
end Sf
namespace Sf
section
variable (Γ:Nat->Option (List Data))
theorem row_same (a:List Nat) (ha:a.length≤100000000000):PC Try.prog Γ 19 [.sl 1 (bys a),.sl 1 (bys a)] (.bool true):=by
 have:=row_pc Γ a a ha ha
 rwa [decide_eq_true rfl] at this
theorem cam_le {b o:List Nat} {lg:Bool} {c:Nat} (h:cam b lg c = some o):o.length≤b.length:=by
 unfold cam at h
 split at h
 · exact plT_le 0 b o h
 · cases h
theorem allF_le:∀ (l b:List Nat) (lg:Bool),b.length≤1508->(allF b lg l).length≤l.length∧∀ x∈allF b lg l,x.length≤1508
 | [],_,_,_=>⟨by simp [allF],by simp [allF]⟩
 | c :: l,b,lg,hb=>by
   obtain ⟨h1,h2⟩:=allF_le l (nxt b lg c).1 (nxt b lg c).2 (nxt_le hb)
   rw [allF_cons]
   refine ⟨?_,fun x hx=>?_⟩
   · cases cam b lg c <;> simp <;> omega
   · rcases List.mem_append.1 hx with hx | hx
     · cases hc:cam b lg c with
       | none=>rw [hc] at hx;simp at hx
       | some o =>
         rw [hc] at hx
         simp only [Option.toList_some,List.mem_singleton] at hx
         subst hx
         have:=cam_le hc
         omega
     · exact h2 x hx
theorem allB_le (b:List Nat):(allB b).length≤b.length∧∀ x∈allB b,x.length≤1508:=allF_le b [] false (by simp)
/-- A line that comes in. -/
theorem arg_line {x:Data} (a:argD Try.prog 8 24 x):∃ (b:List Nat) (lg:Bool),x = ln b lg∧(∀ c∈b,c < 256)∧b.length≤140737488351232:=by
 obtain ⟨ds,rfl,h⟩:=arg_struct Try.underlying24 a
 obtain ⟨d1,r1,rfl,h1,h⟩:=okF_cons h
 obtain ⟨d2,r2,rfl,h2,h⟩:=okF_cons h
 obtain rfl:=okF_nil h
 obtain ⟨b,lb,hb,rfl⟩:=ok_bytes Try.underlying22 Try.underlying5 (by kernel_rfl) h1
 unfold okD at h2
 simp only [Try.underlying4] at h2
 obtain ⟨lg,rfl⟩:=h2
 exact ⟨b,lg,rfl,lb,hb⟩
end
end Sf
namespace Sf
section
variable (Γ:Nat->Option (List Data))
theorem esc1_len (a c:Nat):(esc1 a c).length = if escd a c then 2 else 1:=by unfold esc1;split <;> rfl
theorem escB_ge (a:Nat):∀ b:List Nat,b.length≤(escB a b).length
 | []=>by simp
 | c :: b=>by
   have h1:=escB_ge a b
   have h2:=esc1_len a c
   rw [escB_cons,List.length_append,List.length_cons,h2]
   split <;> omega
end
end Sf
namespace Sf
section
variable (Γ:Nat->Option (List Data))
/-- The line behind bytes. -/
def stF:List Nat->Bool->List Nat->List Nat × Bool
 | b,lg,[]=>(b,lg)
 | b,lg,c :: l=>stF (nxt b lg c).1 (nxt b lg c).2 l
theorem allF_append:∀ (s:List Nat) (b:List Nat) (lg:Bool) (r:List Nat),allF b lg (s++r) = allF b lg s++allF (stF b lg s).1 (stF b lg s).2 r
 | [],b,lg,r=>by simp [allF,stF]
 | c :: s,b,lg,r=>by
   rw [List.cons_append,allF_cons,allF_append s,allF_cons,List.append_assoc]
   rfl
theorem nxt_flag (b:List Nat) (lg:Bool):nxt b lg 126 = ([],false):=by simp [nxt]
theorem allF_flag (b:List Nat) (lg:Bool) (r:List Nat):allF b lg (126 :: r) = (cam b lg 126).toList++allF [] false r:=by
 rw [allF_cons,nxt_flag]
/-- Bytes without a flag tell nothing,and stand in the line. -/
theorem allF_seg:∀ (s p r:List Nat),126 ∉ s->allF (sg p).1 (sg p).2 (s++r) = allF (sg (p++s)).1 (sg (p++s)).2 r
 | [],p,r,_=>by simp
 | c :: s,p,r,h=>by
   have h1:c≠126:=fun e=>h (by simp [e])
   have h2:126 ∉ s:=fun e=>h (by simp [e])
   rw [List.cons_append,allF_cons,sg_cam p h1,sg_step h1,allF_seg s (p++[c]) r h2]
   simp
end
end Sf
namespace Fc
structure Fr where
 p:Nat
 i:List Nat
deriving DecidableEq
def fr (f:Fr):Data:=.agg [.int .u16 f.p,.sl 1 (bys f.i)]
def noF:Fr:=⟨0,[]⟩
def MayP (p:Nat):Prop:=p % 2 = 1∧p / 256 % 2 = 0∧p≠255
instance (p:Nat):Decidable (MayP p):=by unfold MayP;infer_instance
/-- A frame that may be. -/
def Ok (f:Fr):Prop:=MayP f.p∧f.i.length≤1500
instance (f:Fr):Decidable (Ok f):=by unfold Ok;infer_instance
def hdB (p:Nat) (sh:Bool):List Nat:=(if sh = false ∨ p = 49185 then [255,3] else [])++((if sh = false ∨ 256≤p then [p / 256] else [])++[p % 256])
def frB (f:Fr) (sh:Bool):List Nat:=if Ok f then M.put (hdB f.p sh++f.i) else []
def frE (f:Fr):Int:=if Ok f then 0 else 1
def fin (p:Nat) (i:List Nat):Fr × Int:=if MayP p then if i.length≤1500 then (⟨p,i⟩,0) else (noF,4) else (noF,2)
def bodyR:List Nat->Fr × Int
 | []=>(noF,2)
 | x :: r=>if x % 2 = 1 then fin x r else match r with
   | []=>(noF,2)
   | y :: r=>fin (x * 256 + y) r
def strip:List Nat->List Nat
 | x :: y :: r=>if x = 255∧y = 3 then r else x :: y :: r
 | c=>c
def readF (b:List Nat):Fr × Int:=if cutE b = 0 then bodyR (strip (cutB b)) else (noF,cutE b)
def tkF:Option (List Nat)->Fr × Bool
 | none=>(noF,false)
 | some b=>((readF b).1,decide ((readF b).2 = 0))
theorem hdB_le (p:Nat) (sh:Bool):(hdB p sh).length≤4:=by unfold hdB;split <;> split <;> simp
theorem hdB_lt {p:Nat} (h:p < 65536) (sh:Bool):∀ x∈hdB p sh,x < 256:=by
 intro x hx
 unfold hdB at hx
 rcases List.mem_append.1 hx with hx | hx
 · split at hx
   · simp at hx;omega
   · cases hx
 · rcases List.mem_append.1 hx with hx | hx
   · split at hx
     · simp at hx;omega
     · cases hx
   · simp at hx;omega
theorem put_len (l:List Nat):(M.put l).length = l.length + 2:=by simp [M.put,M.tail]
theorem frB_le (f:Fr) (sh:Bool):(frB f sh).length≤1506:=by
 unfold frB
 split
 · rename_i h
   have:=hdB_le f.p sh
   rw [put_len,List.length_append]
   unfold Ok at h
   omega
 · simp
theorem frB_lt {f:Fr} (hp:f.p < 65536) (hl:∀ x∈f.i,x < 256) (sh:Bool):∀ x∈frB f sh,x < 256:=by
 unfold frB
 split
 · exact M.put_lt fun x hx=>by
    rcases List.mem_append.1 hx with hx | hx
    · exact hdB_lt hp sh x hx
    · exact hl x hx
 · intro x hx;cases hx
def sdB (f:Fr) (a:Nat) (sh:Bool):List Nat:=if Ok f then Sf.sendB a (frB f sh) else []
theorem cutB_le (b:List Nat):(cutB b).length≤b.length:=by
 unfold cutB
 split
 · simp
 · split
   · rw [List.length_take];omega
   · simp
theorem cutB_lt {b:List Nat} (h:∀ x∈b,x < 256):∀ x∈cutB b,x < 256:=fun x hx=>by
 unfold cutB at hx
 split at hx
 · cases hx
 · split at hx
   · exact h x (List.mem_of_mem_take hx)
   · cases hx
section
variable (Γ:Nat->Option (List Data))
theorem rproto_pc (p:Nat) (hp:p < 65536):PC Try.prog Γ 36 [.int .u16 p] (.bool (decide (MayP p))):=by
 refine pc_by mixed Try.func36 rfl (fun args w=>Try.call36 args w) ?_
 unfold MayP
 by_cases h1:p % 2 = 1
 · have e1:(p:Int) % 2 = 1:=by omega
   by_cases h2:p / 256 % 2 = 0
   · have e2:(p:Int) / 256 % 2 = 0:=by omega
     by_cases h3:p = 255
     · simp -implicitDefEqProofs (disch:=omega) [go_sem,h3,Try.f36]
     · have e3:¬ ((p:Int) = 255):=by omega
       simp -implicitDefEqProofs (disch:=omega) [go_sem,e1,e2,e3,h1,h2,h3,Try.f36]
   · have e2:¬ ((p:Int) / 256 % 2 = 0):=by omega
     simp -implicitDefEqProofs (disch:=omega) [go_sem,e1,e2,h1,h2,Try.f36]
 · have e1:¬ ((p:Int) % 2 = 1):=by omega
   simp -implicitDefEqProofs (disch:=omega) [go_sem,e1,h1,Try.f36]
theorem rsame_pc (f g:Fr) (h:f.i.length≤1000000000) (h2:g.i.length≤1000000000):PC Try.prog Γ 13 [fr f,fr g] (.bool (decide (f = g))):=by
 refine pc_by mixed Try.func13 rfl (fun args w=>Try.call13 args w) ?_
 have c1:=row_pc Γ f.i g.i (by omega) (by omega)
 have e:decide (f = g) = (decide (f.i = g.i) && decide (f.p = g.p)):=by
  obtain ⟨p,i⟩:=f;obtain ⟨q,j⟩:=g
  simp only [Fr.mk.injEq,Bool.decide_and,Bool.and_comm]
 rw [e]
 by_cases hi:f.i = g.i
 · by_cases hp:f.p = g.p
   · simp -implicitDefEqProofs (disch:=omega) [go_sem,fr]
     refine .inl (call_data c1 (by simp [go_sem]) ?_)
     simp -implicitDefEqProofs (disch:=omega) [go_sem,hi,hp,Try.f13]
   · have hp2:¬ ((f.p:Int) = g.p):=by omega
     simp -implicitDefEqProofs (disch:=omega) [go_sem,fr]
     refine .inl (call_data c1 (by simp [go_sem]) ?_)
     simp -implicitDefEqProofs (disch:=omega) [go_sem,hi,hp,hp2,Try.f13]
 · simp -implicitDefEqProofs (disch:=omega) [go_sem,fr]
   refine .inl (call_data c1 (by simp [go_sem]) ?_)
   simp -implicitDefEqProofs (disch:=omega) [go_sem,hi,Try.f13]
set_option maxHeartbeats 4000000 in
theorem rread_pc (b:List Nat) (hb:b.length≤1000000000) (hl:∀ x∈b,x < 256):PC Try.prog Γ 24 [.sl 1 (bys b)] (.tup [fr (readF b).1,.int .i64 (readF b).2]):=by
 refine pc_by mixed Try.func24 rfl (fun args w=>Try.call24 args w) ?_
 have c1:=rcut_pc Γ b hb hl
 unfold readF
 have hcl:∀ x∈cutB b,x < 256:=cutB_lt hl
 have hcn:(cutB b).length≤b.length:=cutB_le b
 have ex:∀ (e:Int) (H:Nat->Blk),∃ xs,(∃ y,xs = [y,Data.int .i64 e]∧Frz true H (D.agg [D.data (.int .u16 0),D.emp 0]) y)∧Data.tup [fr noF,.int .i64 e] = tupD xs:=fun e H=>⟨_,⟨_,rfl,frz_aggL (frzL_c (.data _) (frzL_c (.emp 0 1) frzL_n))⟩,rfl⟩
 generalize cutB b = c at *
 by_cases he:cutE b = 0
 rotate_left
 · rw [if_neg he]
   generalize cutE b = e at *
   simp -implicitDefEqProofs (disch:=omega) [go_sem]
   refine .inl (call_data c1 (by simp [go_sem]) ?_)
   simp -implicitDefEqProofs (disch:=omega) [go_sem,he,Try.f24]
   exact ex _ _
 rw [if_pos he]
 rw [he] at c1
 simp -implicitDefEqProofs (disch:=omega) [go_sem]
 refine .inl (call_data c1 (by simp [go_sem]) ?_)
 rcases c with _ | ⟨x,_ | ⟨y,r⟩⟩
 · simp -implicitDefEqProofs (disch:=omega) [go_sem,Try.f24]
   exact ex _ _
 · rw [show strip [x] = [x] from rfl]
   have hx:=hcl x (by simp)
   by_cases ho:x % 2 = 1
   · have ho2:¬ ((x:Int) % 2 = 0):=by omega
     have cp:=rproto_pc Γ x (by omega)
     rw [show bodyR [x] = fin x [] by simp [bodyR,ho]]
     simp -implicitDefEqProofs (disch:=omega) [go_sem,ho2]
     refine .inl (call_data cp (by simp [go_sem] <;> omega) ?_)
     by_cases hm:MayP (x)
     · rw [show fin (x) [] = (⟨x,[]⟩,0) by unfold fin;rw [if_pos hm,if_pos (by simp)]]
       simp -implicitDefEqProofs (disch:=omega) [go_sem,hm,fr,Try.f24] <;> first | omega | (refine ⟨by omega,?_⟩;simp [bys])
     · rw [show fin (x) (([]:List Nat)) = (noF,2) by unfold fin;rw [if_neg hm]]
       simp -implicitDefEqProofs (disch:=omega) [go_sem,hm,Try.f24]
       exact ex _ _
   · have ho2:((x:Int) % 2 = 0):=by omega
     rw [show bodyR [x] = (noF,2) by simp [bodyR,ho]]
     simp -implicitDefEqProofs (disch:=omega) [go_sem,ho2,Try.f24]
     exact ex _ _
 · by_cases h5:x = 255∧y = 3
   · obtain ⟨rfl,rfl⟩:=h5
     rw [show strip (255 :: 3 :: r) = r from rfl]
     rcases r with _ | ⟨x',_ | ⟨y',r'⟩⟩
     · simp -implicitDefEqProofs (disch:=omega) [go_sem,Try.f24]
       exact ex _ _
     · clear hcn
       have hx:=hcl x' (by simp)
       by_cases ho:x' % 2 = 1
       · have ho2:¬ ((x':Int) % 2 = 0):=by omega
         have cp:=rproto_pc Γ x' (by omega)
         rw [show bodyR [x'] = fin x' [] by simp [bodyR,ho]]
         simp -implicitDefEqProofs (disch:=omega) [go_sem,ho2]
         refine .inl (call_data cp (by simp [go_sem] <;> omega) ?_)
         by_cases hm:MayP (x')
         · rw [show fin (x') [] = (⟨x',[]⟩,0) by unfold fin;rw [if_pos hm,if_pos (by simp)]]
           simp -implicitDefEqProofs (disch:=omega) [go_sem,hm,fr,Try.f24] <;> first | omega | (refine ⟨by omega,?_⟩;simp [bys])
         · rw [show fin (x') (([]:List Nat)) = (noF,2) by unfold fin;rw [if_neg hm]]
           simp -implicitDefEqProofs (disch:=omega) [go_sem,hm,Try.f24]
           exact ex _ _
       · have ho2:((x':Int) % 2 = 0):=by omega
         rw [show bodyR [x'] = (noF,2) by simp [bodyR,ho]]
         simp -implicitDefEqProofs (disch:=omega) [go_sem,ho2,Try.f24]
         exact ex _ _
     · clear hcn
       have hx:=hcl x' (by simp)
       have hy:=hcl y' (by simp)
       by_cases ho:x' % 2 = 1
       · have ho2:¬ ((x':Int) % 2 = 0):=by omega
         have cp:=rproto_pc Γ x' (by omega)
         rw [show bodyR (x' :: y' :: r') = fin x' (y' :: r') by simp [bodyR,ho]]
         simp -implicitDefEqProofs (disch:=omega) [go_sem,ho2]
         refine .inl (call_data cp (by simp [go_sem] <;> omega) ?_)
         by_cases hm:MayP (x')
         · by_cases hi:(y' :: r').length≤1500
           · rw [show fin (x') (y' :: r') = (⟨x',y' :: r'⟩,0) by unfold fin;rw [if_pos hm,if_pos hi]]
             simp only [List.length_cons,List.length_nil] at hi
             simp -implicitDefEqProofs (disch:=omega) [go_sem,hm,fr,Try.f24] <;> first | omega | (refine ⟨by omega,?_⟩;simp [bys])
           · rw [show fin (x') (y' :: r') = (noF,4) by unfold fin;rw [if_pos hm,if_neg hi]]
             simp only [List.length_cons,List.length_nil] at hi
             simp -implicitDefEqProofs (disch:=omega) [go_sem,hm,Try.f24]
             exact ex _ _
         · rw [show fin (x') (y' :: r') = (noF,2) by unfold fin;rw [if_neg hm]]
           simp -implicitDefEqProofs (disch:=omega) [go_sem,hm,Try.f24]
           exact ex _ _
       · have ho2:((x':Int) % 2 = 0):=by omega
         have cp:=rproto_pc Γ (x' * 256 + y') (by omega)
         rw [show bodyR (x' :: y' :: r') = fin (x' * 256 + y') r' by simp [bodyR,ho]]
         simp -implicitDefEqProofs (disch:=omega) [go_sem,ho2]
         refine .inl (call_data cp (by simp [go_sem] <;> omega) ?_)
         by_cases hm:MayP (x' * 256 + y')
         · by_cases hi:(r').length≤1500
           · rw [show fin (x' * 256 + y') (r') = (⟨x' * 256 + y',r'⟩,0) by unfold fin;rw [if_pos hm,if_pos hi]]
             simp -implicitDefEqProofs (disch:=omega) [go_sem,hm,fr,Try.f24] <;> first | omega | (refine ⟨by omega,?_⟩;simp [bys])
           · rw [show fin (x' * 256 + y') (r') = (noF,4) by unfold fin;rw [if_pos hm,if_neg hi]]
             simp -implicitDefEqProofs (disch:=omega) [go_sem,hm,Try.f24]
             exact ex _ _
         · rw [show fin (x' * 256 + y') (r') = (noF,2) by unfold fin;rw [if_neg hm]]
           simp -implicitDefEqProofs (disch:=omega) [go_sem,hm,Try.f24]
           exact ex _ _
   · rw [show strip (x :: y :: r) = x :: y :: r from if_neg h5]
     have h6:((x:Int) = 255)->¬ ((y:Int) = 3):=fun h1 h2=>h5 ⟨by omega,by omega⟩
     by_cases h7:(x:Int) = 255
     · have h8:=h6 h7
       have hx:=hcl x (by simp)
       have hy:=hcl y (by simp)
       by_cases ho:x % 2 = 1
       · have ho2:¬ ((x:Int) % 2 = 0):=by omega
         have cp:=rproto_pc Γ x (by omega)
         rw [show bodyR (x :: y :: r) = fin x (y :: r) by simp [bodyR,ho]]
         simp -implicitDefEqProofs (disch:=omega) [go_sem,ho2,h7,h8]
         refine .inl (call_data cp (by simp [go_sem] <;> omega) ?_)
         by_cases hm:MayP (x)
         · by_cases hi:(y :: r).length≤1500
           · rw [show fin (x) (y :: r) = (⟨x,y :: r⟩,0) by unfold fin;rw [if_pos hm,if_pos hi]]
             simp only [List.length_cons,List.length_nil] at hi
             simp -implicitDefEqProofs (disch:=omega) [go_sem,hm,fr,Try.f24] <;> first | omega | (refine ⟨by omega,?_⟩;simp [bys])
           · rw [show fin (x) (y :: r) = (noF,4) by unfold fin;rw [if_pos hm,if_neg hi]]
             simp only [List.length_cons,List.length_nil] at hi
             simp -implicitDefEqProofs (disch:=omega) [go_sem,hm,Try.f24]
             exact ex _ _
         · rw [show fin (x) (y :: r) = (noF,2) by unfold fin;rw [if_neg hm]]
           simp -implicitDefEqProofs (disch:=omega) [go_sem,hm,Try.f24]
           exact ex _ _
       · exfalso;omega
     · clear h6
       have hx:=hcl x (by simp)
       have hy:=hcl y (by simp)
       by_cases ho:x % 2 = 1
       · have ho2:¬ ((x:Int) % 2 = 0):=by omega
         have cp:=rproto_pc Γ x (by omega)
         rw [show bodyR (x :: y :: r) = fin x (y :: r) by simp [bodyR,ho]]
         simp -implicitDefEqProofs (disch:=omega) [go_sem,ho2,h7]
         refine .inl (call_data cp (by simp [go_sem] <;> omega) ?_)
         by_cases hm:MayP (x)
         · by_cases hi:(y :: r).length≤1500
           · rw [show fin (x) (y :: r) = (⟨x,y :: r⟩,0) by unfold fin;rw [if_pos hm,if_pos hi]]
             simp only [List.length_cons,List.length_nil] at hi
             simp -implicitDefEqProofs (disch:=omega) [go_sem,hm,fr,Try.f24] <;> first | omega | (refine ⟨by omega,?_⟩;simp [bys])
           · rw [show fin (x) (y :: r) = (noF,4) by unfold fin;rw [if_pos hm,if_neg hi]]
             simp only [List.length_cons,List.length_nil] at hi
             simp -implicitDefEqProofs (disch:=omega) [go_sem,hm,Try.f24]
             exact ex _ _
         · rw [show fin (x) (y :: r) = (noF,2) by unfold fin;rw [if_neg hm]]
           simp -implicitDefEqProofs (disch:=omega) [go_sem,hm,Try.f24]
           exact ex _ _
       · have ho2:((x:Int) % 2 = 0):=by omega
         have cp:=rproto_pc Γ (x * 256 + y) (by omega)
         rw [show bodyR (x :: y :: r) = fin (x * 256 + y) r by simp [bodyR,ho]]
         simp -implicitDefEqProofs (disch:=omega) [go_sem,ho2,h7]
         refine .inl (call_data cp (by simp [go_sem] <;> omega) ?_)
         by_cases hm:MayP (x * 256 + y)
         · by_cases hi:(r).length≤1500
           · rw [show fin (x * 256 + y) (r) = (⟨x * 256 + y,r⟩,0) by unfold fin;rw [if_pos hm,if_pos hi]]
             simp -implicitDefEqProofs (disch:=omega) [go_sem,hm,fr,Try.f24] <;> first | omega | (refine ⟨by omega,?_⟩;simp [bys])
           · rw [show fin (x * 256 + y) (r) = (noF,4) by unfold fin;rw [if_pos hm,if_neg hi]]
             simp -implicitDefEqProofs (disch:=omega) [go_sem,hm,Try.f24]
             exact ex _ _
         · rw [show fin (x * 256 + y) (r) = (noF,2) by unfold fin;rw [if_neg hm]]
           simp -implicitDefEqProofs (disch:=omega) [go_sem,hm,Try.f24]
           exact ex _ _
end
end Fc
namespace Fc
theorem fin_facts {p:Nat} {i:List Nat} (hp:p < 65536) (hl:∀ x∈i,x < 256):(fin p i).1.p < 65536∧(∀ x∈(fin p i).1.i,x < 256)∧(fin p i).1.i.length≤1500∧((fin p i).2 = 0->Ok (fin p i).1)∧((fin p i).2≠0->(fin p i).1 = noF∧((fin p i).2 = 2 ∨ (fin p i).2 = 4)):=by
 unfold fin
 split
 · rename_i h
   split
   · rename_i h2;exact ⟨hp,hl,h2,fun _=>⟨h,h2⟩,fun h=>absurd rfl h⟩
   · exact ⟨by decide,by simp [noF],by simp [noF],fun h=>by simp at h,fun _=>⟨rfl,.inr rfl⟩⟩
 · exact ⟨by decide,by simp [noF],by simp [noF],fun h=>by simp at h,fun _=>⟨rfl,.inl rfl⟩⟩
theorem no_facts:noF.p < 65536∧(∀ x∈noF.i,x < 256)∧noF.i.length≤1500:=⟨by decide,by simp [noF],by simp [noF]⟩
theorem strip_mem {c:List Nat} (h:∀ x∈c,x < 256):∀ x∈strip c,x < 256:=by
 rcases c with _ | ⟨x,_ | ⟨y,r⟩⟩
 · exact h
 · exact h
 · by_cases e:x = 255∧y = 3
   · rw [show strip (x :: y :: r) = r from if_pos e]
     exact fun z hz=>h z (by simp [hz])
   · rw [show strip (x :: y :: r) = x :: y :: r from if_neg e]
     exact h
theorem bodyR_facts {c:List Nat} (h:∀ x∈c,x < 256):(bodyR c).1.p < 65536∧(∀ x∈(bodyR c).1.i,x < 256)∧(bodyR c).1.i.length≤1500∧((bodyR c).2 = 0->Ok (bodyR c).1)∧((bodyR c).2≠0->(bodyR c).1 = noF∧((bodyR c).2 = 2 ∨ (bodyR c).2 = 4)):=by
 have none:∀ r:Fr × Int,r = (noF,2)->r.1.p < 65536∧(∀ x∈r.1.i,x < 256)∧r.1.i.length≤1500∧(r.2 = 0->Ok r.1)∧(r.2≠0->r.1 = noF∧(r.2 = 2 ∨ r.2 = 4)):=fun r e=>by
  subst e
  exact ⟨no_facts.1,no_facts.2.1,no_facts.2.2,fun h=>by simp at h,fun _=>⟨rfl,.inl rfl⟩⟩
 rcases c with _ | ⟨x,r⟩
 · exact none _ rfl
 have hx:=h x (by simp)
 by_cases ho:x % 2 = 1
 · rw [show bodyR (x :: r) = fin x r by simp [bodyR,ho]]
   exact fin_facts (by omega) fun y hy=>h y (by simp [hy])
 · rcases r with _ | ⟨y,r⟩
   · exact none _ (by simp [bodyR,ho])
   · have hy:=h y (by simp)
     rw [show bodyR (x :: y :: r) = fin (x * 256 + y) r by simp [bodyR,ho]]
     exact fin_facts (by omega) fun z hz=>h z (by simp [hz])
theorem readF_facts {b:List Nat} (h:∀ x∈b,x < 256):(readF b).1.p < 65536∧(∀ x∈(readF b).1.i,x < 256)∧(readF b).1.i.length≤1500∧((readF b).2 = 0->Ok (readF b).1)∧((readF b).2≠0->(readF b).1 = noF∧((readF b).2 = 2 ∨ (readF b).2 = 3 ∨ (readF b).2 = 4)):=by
 unfold readF
 by_cases he:cutE b = 0
 · rw [if_pos he]
   obtain ⟨h1,h2,h3,h4,h5⟩:=bodyR_facts (strip_mem (cutB_lt h))
   refine ⟨h1,h2,h3,h4,fun h=>⟨(h5 h).1,?_⟩⟩
   rcases (h5 h).2 with e | e
   · exact .inl e
   · exact .inr (.inr e)
 · rw [if_neg he]
   refine ⟨no_facts.1,no_facts.2.1,no_facts.2.2,fun h=>absurd h he,fun _=>⟨rfl,?_⟩⟩
   unfold cutE at he ⊢
   split
   · exact .inl rfl
   · split
     · rename_i h1 h2;rw [if_neg h1,if_pos h2] at he;exact absurd rfl he
     · exact .inr (.inl rfl)
/-- What is told as bytes is read as it was. -/
theorem fin_ok {f:Fr} (h:Ok f):fin f.p f.i = (f,0):=by
 obtain ⟨h1,h2⟩:=h
 unfold fin
 rw [if_pos h1,if_pos h2]
theorem strip_no {x:Nat} {r:List Nat} (h:x≠255):strip (x :: r) = x :: r:=by
 rcases r with _ | ⟨y,r⟩
 · rfl
 · exact if_neg fun e=>h e.1
theorem body_back {f:Fr} (h:Ok f) (hp:f.p < 65536) (sh:Bool):bodyR (strip (hdB f.p sh++f.i)) = (f,0):=by
 have hm:=h.1
 unfold MayP at hm
 have two:bodyR ((f.p / 256) :: (f.p % 256) :: f.i) = (f,0):=by
  rw [show bodyR ((f.p / 256) :: (f.p % 256) :: f.i) = fin (f.p / 256 * 256 + f.p % 256) f.i by simp [bodyR,show ¬ (f.p / 256 % 2 = 1) by omega],show f.p / 256 * 256 + f.p % 256 = f.p by omega]
  exact fin_ok h
 by_cases h1:sh = false ∨ f.p = 49185
 · have e:hdB f.p sh++f.i = 255 :: 3 :: (f.p / 256) :: (f.p % 256) :: f.i:=by
    unfold hdB
    rw [if_pos h1,if_pos (by rcases h1 with h1 | h1;exact .inl h1;exact .inr (by omega))]
    rfl
   rw [e,show strip (255 :: 3 :: (f.p / 256) :: (f.p % 256) :: f.i) = (f.p / 256) :: (f.p % 256) :: f.i from rfl]
   exact two
 · by_cases h2:256≤f.p
   · have e:hdB f.p sh++f.i = (f.p / 256) :: (f.p % 256) :: f.i:=by
      unfold hdB
      rw [if_neg h1,if_pos (.inr h2)]
      rfl
     rw [e,strip_no (by omega)]
     exact two
   · have e:hdB f.p sh++f.i = f.p :: f.i:=by
      unfold hdB
      rw [if_neg h1,if_neg (by rintro (e | e);exact h1 (.inl e);exact h2 e),show f.p % 256 = f.p by omega]
      rfl
     rw [e,strip_no (by omega),show bodyR (f.p :: f.i) = fin f.p f.i by simp [bodyR,hm.1]]
     exact fin_ok h
theorem cut_put {l:List Nat} (h:∀ x∈l,x < 256):cutE (M.put l) = 0∧cutB (M.put l) = l:=by
 have hl:=put_len l
 have hg:=M.good_put h
 refine ⟨by unfold cutE;rw [if_neg (by omega),if_pos hg],?_⟩
 unfold cutB
 rw [if_neg (by omega),if_pos hg,hl,Nat.add_sub_cancel]
 exact List.take_left
theorem read_back {f:Fr} (h:Ok f) (hp:f.p < 65536) (hl:∀ x∈f.i,x < 256) (sh:Bool):readF (frB f sh) = (f,0):=by
 have hb:∀ x∈hdB f.p sh++f.i,x < 256:=fun x hx=>by
  rcases List.mem_append.1 hx with hx | hx
  · exact hdB_lt hp sh x hx
  · exact hl x hx
 obtain ⟨h1,h2⟩:=cut_put hb
 unfold frB readF
 rw [if_pos h,h1,if_pos rfl,h2]
 exact body_back h hp sh
theorem frB_ne {f:Fr} (h:Ok f) (sh:Bool):frB f sh≠[]:=fun e=>by
 have:=put_len (hdB f.p sh++f.i)
 unfold frB at e
 rw [if_pos h] at e
 rw [e] at this
 simp at this
theorem frB_len {f:Fr} (h:Ok f) (sh:Bool):(frB f sh).length = (hdB f.p sh).length + f.i.length + 2:=by
 unfold frB
 rw [if_pos h,put_len,List.length_append]
theorem cam_lt {b o:List Nat} {lg:Bool} {c:Nat} (hl:∀ x∈b,x < 256) (h:Sf.cam b lg c = some o):∀ x∈o,x < 256:=by
 unfold Sf.cam at h
 split at h
 · exact Sf.plT_lt 0 b o (by omega) hl h
 · cases h
section
variable (Γ:Nat->Option (List Data))
set_option maxHeartbeats 1000000 in
theorem rtake_pc (b:List Nat) (lg:Bool) (c:Nat) (hb:b.length≤1508) (hl:∀ x∈b,x < 256) (hc:c < 256):PC Try.prog Γ 11 [Sf.ln b lg,.int .u8 c] (.tup [Sf.ln (Sf.nxt b lg c).1 (Sf.nxt b lg c).2,fr (tkF (Sf.cam b lg c)).1,.bool (tkF (Sf.cam b lg c)).2]):=by
 refine pc_by mixed Try.func11 rfl (fun args w=>Try.call11 args w) ?_
 have c1:=Sf.rfeed_pc Γ b lg c hb hl hc
 cases hm:Sf.cam b lg c with
 | none =>
   rw [Sf.feedR_no hm] at c1
   unfold Sf.ln at c1 ⊢
   simp -implicitDefEqProofs (disch:=omega) [go_sem]
   refine .inl (call_data c1 (by simp [go_sem]) ?_)
   simp -implicitDefEqProofs (disch:=omega) [go_sem,Try.f11]
   exact ⟨_,⟨_,_,rfl,rfl,_,rfl,frz_aggL (frzL_c (.data _) (frzL_c (.emp 0 1) frzL_n))⟩,rfl⟩
 | some o =>
   rw [Sf.feedR_yes hm] at c1
   have ho:=cam_lt hl hm
   have hol:=Sf.cam_le hm
   have c2:=rread_pc Γ o (by omega) ho
   rw [show tkF (some o) = ((readF o).1,decide ((readF o).2 = 0)) from rfl]
   generalize readF o = R at *
   unfold Sf.ln at c1 ⊢
   unfold fr at c2 ⊢
   simp -implicitDefEqProofs (disch:=omega) [go_sem]
   refine .inl (call_data c1 (by simp [go_sem]) ?_)
   simp -implicitDefEqProofs (disch:=omega) [go_sem]
   refine .inl (call_data c2 (by simp [go_sem]) ?_)
   simp -implicitDefEqProofs (disch:=omega) [go_sem,Try.f11]
   refine side (by kernel_rfl) ?_
   simp -implicitDefEqProofs (disch:=omega) [go_sem,Try.f11]
def frs (l:List Fr):List Data:=l.map fr
@[go_sem] theorem frs_length (l:List Fr):(frs l).length = l.length:=by simp [frs]
@[go_sem] theorem frs_get (l:List Fr) (i:Nat):(frs l)[i]? = (l[i]?).map fr:=by simp [frs]
theorem fframes_pc (a b:List Fr) (ha:a.length≤1000000000) (hb:b.length≤1000000000) (hla:∀ x∈a,x.i.length≤1000000000) (hlb:∀ x∈b,x.i.length≤1000000000):PC Try.prog Γ 20 [.sl 2 (frs a),.sl 2 (frs b)] (.bool (decide (a = b))):=by
 refine pc_by mixed Try.func20 rfl (fun args w=>Try.call20 args w) ?_
 by_cases hn:a.length = b.length
 rotate_left
 · rw [decide_eq_false fun e=>hn (by rw [e])]
   simp -implicitDefEqProofs (disch:=omega) [go_sem,hn,Try.f20]
 simp -implicitDefEqProofs (disch:=omega) [go_sem,hn]
 refine loop_ren (σ:={ i:Nat // i≤b.length∧a.take i = b.take i }) (fun i=>⟨envL [(0,.data (.sl 2 (frs a))),(1,.data (.sl 2 (frs b))),(5,.data (.int .i64 i.1))],hpL [],0,0,29⟩) (fun i=>b.length - i.1) ⟨0,by omega,rfl⟩ [] (rhoL []) ?_ ?_
 · apply ren_lists <;> simp -implicitDefEqProofs [go_sem]
 rintro ⟨i,hi,hall⟩
 by_cases h:i < b.length
 · have h2:i < a.length:=by omega
   have c1:=rsame_pc Γ a[i] b[i] (hla _ (List.getElem_mem h2)) (hlb _ (List.getElem_mem h))
   unfold fr at c1
   by_cases he:a[i] = b[i]
   · rw [decide_eq_true he] at c1
     simp -implicitDefEqProofs (disch:=omega) [go_sem,fr]
     refine .inl (call_data c1 (by simp [go_sem]) ?_)
     simp -implicitDefEqProofs (disch:=omega) [go_sem]
     refine side (by kernel_rfl) ?_
     simp -implicitDefEqProofs (disch:=omega) [go_sem]
     refine next_ren ⟨i + 1,by omega,by rw [List.take_add_one,List.take_add_one,hall,List.getElem?_eq_getElem h,List.getElem?_eq_getElem h2,he]⟩ (by simp only;omega) [] (rhoL []) ?_
     apply ren_lists <;> simp -implicitDefEqProofs [go_sem]
   · rw [decide_eq_false he] at c1
     rw [decide_eq_false fun e=>he (by simp [e])]
     simp -implicitDefEqProofs (disch:=omega) [go_sem,fr]
     refine .inl (call_data c1 (by simp [go_sem]) ?_)
     simp -implicitDefEqProofs (disch:=omega) [go_sem]
     refine side (by kernel_rfl) ?_
     simp -implicitDefEqProofs (disch:=omega) [go_sem,Try.f20]
 · have:i = b.length:=by omega
   subst this
   rw [List.take_length,List.take_of_length_le (by omega)] at hall
   rw [decide_eq_true hall]
   simp -implicitDefEqProofs (disch:=omega) [go_sem,hn,Try.f20]
end
end Fc
namespace Fc
/-- Frames that are read of rows of bytes. -/
def oneR (b:List Nat):Option Fr:=if (readF b).2 = 0 then some (readF b).1 else none
def takF (b:List Nat):List Fr:=(Sf.allB b).filterMap oneR
theorem tk_one (o:Option (List Nat)):(tkF o).2 = true∧o.toList.filterMap oneR = [(tkF o).1] ∨ (tkF o).2 = false∧(tkF o).1 = (tkF o).1∧o.toList.filterMap oneR = []:=by
 cases o with
 | none=>exact .inr ⟨rfl,rfl,rfl⟩
 | some b =>
   by_cases h:(readF b).2 = 0
   · exact .inl ⟨by simp [tkF,h],by simp [tkF,oneR,h]⟩
   · exact .inr ⟨by simp [tkF,h],rfl,by simp [oneR,h]⟩
theorem one_back {f:Fr} (h:Ok f) (hp:f.p < 65536) (hl:∀ x∈f.i,x < 256) (sh:Bool):oneR (frB f sh) = some f:=by
 unfold oneR
 rw [read_back h hp hl sh]
 rfl
theorem allF_esc2 (a:Nat) {b:List Nat} (h1:b≠[]) (h2:b.length≤754) (r:List Nat):Sf.allF [] false (Sf.escB a b++126 :: r) = b :: Sf.allF [] false r:=by
 have e:=Sf.allF_seg (Sf.escB a b) [] (126 :: r) (Sf.esc_noflag a b)
 have hle:=Sf.escB_le a b
 have hge:=Sf.escB_ge a b
 have hpos:=List.length_pos_iff.2 h1
 rw [show Sf.sg [] = ([],false) from rfl,List.nil_append] at e
 rw [e,Sf.allF_flag,Sf.sg_frame,if_pos (by omega),Sf.plain_of_esc]
 rfl
theorem allF_send2 (a:Nat) {b:List Nat} (h1:b≠[]) (h2:b.length≤754) (p:List Nat) (lg:Bool) (r:List Nat):Sf.allF p lg (Sf.sendB a b++r) = (Sf.cam p lg 126).toList++b :: Sf.allF [] false r:=by
 unfold Sf.sendB
 rw [List.cons_append,Sf.allF_flag,List.append_assoc]
 rw [show Sf.escB a b++([126]++r) = Sf.escB a b++126 :: r from rfl,allF_esc2 a h1 h2]
theorem allB_ahead2 (a:Nat) {b:List Nat} (h1:b≠[]) (h2:b.length≤754) (q:List Nat):∃ l,Sf.allB (q++Sf.sendB a b) = l++[b]:=by
 unfold Sf.allB
 rw [Sf.allF_append]
 have:=allF_send2 a h1 h2 (Sf.stF [] false q).1 (Sf.stF [] false q).2 []
 rw [List.append_nil] at this
 rw [this]
 exact ⟨Sf.allF [] false q++(Sf.cam (Sf.stF [] false q).1 (Sf.stF [] false q).2 126).toList,by simp [Sf.allF]⟩
theorem hd_two (p:Nat) (sh:Bool):1≤(hdB p sh).length:=by unfold hdB;simp;omega
/-- What is sent is taken as it was,whatever bytes stood ahead. -/
theorem take_ahead {f:Fr} (h:Ok f) (hp:f.p < 65536) (hl:∀ x∈f.i,x < 256) (hn:f.i.length≤748) (sh:Bool) (a:Nat) (q:List Nat):∃ l,takF (q++sdB f a sh) = l++[f]:=by
 have h4:=hdB_le f.p sh
 have hlen:=frB_len h sh
 obtain ⟨l,e⟩:=allB_ahead2 a (frB_ne h sh) (by omega) q
 unfold takF sdB
 rw [if_pos h,e,List.filterMap_append]
 exact ⟨l.filterMap oneR,by simp [one_back h hp hl sh]⟩
/-- Frames that are sent,one behind the other,each with its own way. -/
def sdR (a:Nat):List (Fr × Bool)->List Nat
 | []=>[]
 | (f,sh) :: l=>sdB f a sh++sdR a l
theorem sdR_append (a:Nat):∀ (l m:List (Fr × Bool)),sdR a (l++m) = sdR a l++sdR a m
 | [],m=>rfl
 | (f,sh) :: l,m=>by rw [List.cons_append,sdR,sdR,sdR_append a l m,List.append_assoc]
theorem takes_row (a:Nat):∀ l:List (Fr × Bool),(∀ x∈l,Ok x.1∧x.1.p < 65536∧(∀ c∈x.1.i,c < 256)∧x.1.i.length≤748)->(Sf.allF [] false (sdR a l)).filterMap oneR = l.map Prod.fst
 | [],_=>rfl
 | (f,sh) :: l,h=>by
   obtain ⟨h1,h2,h3,h4⟩:Ok f∧f.p < 65536∧(∀ c∈f.i,c < 256)∧f.i.length≤748:=h (f,sh) (by simp)
   have ih:=takes_row a l fun x hx=>h x (by simp [hx])
   have h5:=hdB_le f.p sh
   have hlen:=frB_len h1 sh
   have h6:f.i.length≤748:=h4
   rw [sdR]
   unfold sdB
   rw [if_pos h1,allF_send2 a (frB_ne h1 sh) (by omega)]
   rw [show Sf.cam [] false 126 = none by simp [Sf.cam]]
   simp only [Option.toList_none,List.nil_append,List.filterMap_cons,one_back h1 h2 h3 sh,ih,List.map_cons]
theorem send_len {f:Fr} (h:Ok f) (a:Nat) (sh:Bool):(sdB f a sh).length≤2 * f.i.length + 14:=by
 have h4:=hdB_le f.p sh
 have hlen:=frB_len h sh
 have:=Sf.escB_le a (frB f sh)
 unfold sdB Sf.sendB
 rw [if_pos h]
 simp only [List.length_cons,List.length_append,List.length_nil]
 omega
theorem send_lt {f:Fr} (h:Ok f) (hp:f.p < 65536) (hl:∀ x∈f.i,x < 256) (a:Nat) (sh:Bool):∀ x∈sdB f a sh,x < 256:=by
 intro x hx
 unfold sdB Sf.sendB at hx
 rw [if_pos h] at hx
 rcases List.mem_cons.1 hx with rfl | hx
 · decide
 · rcases List.mem_append.1 hx with hx | hx
   · exact Sf.esc_lt a (frB_lt hp hl sh) x hx
   · simp at hx;omega
end Fc
/-- An operation that puts something into a map,kept still. -/
def stillOp (o:Oper):Oper:=match o.op with
 | .insert ..=>⟨o.dst,.move (.const .nilIface),o.type,o.pos,o.after,o.guard⟩
 | _=>o
def isIns (o:Oper):Bool:=match o.op with
 | .insert ..=>true
 | _=>false
/-- The map behind so many of its entries. -/
def mapAt (ent:Nat->Data × D) (l:List Nat):Blk:=.obj (.mp (l.map fun i=>(ent i).1) (l.map fun i=>(ent i).2))
/-- What the check says. -/
def fillOk (ops:Array Oper) (tr:List Tr) (a b i0 g0:Nat) (idx:List Nat):Bool :=
 drawOk ops tr && Nat.ble b (a + 64) && decide ((tr[i0]?).map (·.ks) = some [g0]) && !idx.contains i0 && decide idx.Nodup && (match ops[i0]? with
  | some o=>(match o.op with
    | .makeMap _ none=>o.guard.isNone
    | _=>false)
  | none=>false) &&
 ((List.range ops.size).all fun i=>i == i0 || ((tr[i]?).all fun t=>!t.rd.contains g0 && !t.ks.contains g0)) &&
 ((List.range ops.size).all fun i=>match ops[i]? with
   | some o=>(isIns o == idx.contains i) && (!isIns o || (o.guard.isNone && o.dst.isNone && ((o.after.any fun e=>Region.binds .any e && e.on == i0)) &&
      (List.range ops.size).all fun j=>Nat.blt j i || match ops[j]? with
        | some o'=>(match o'.dst with
          | some s=>!(o.looksAt ops).contains s
          | none=>true)
        | none=>true))
   | none=>true)
section
variable (P:Program) (Γ:Nat->Option (List Data))
/-- What an operation puts in. -/
def PutsIn (o:Oper) (e:Nat->D) (g0:Nat) (x:Data × D):Prop:=match o.op with
 | .insert t m k v=>(match mapT P t with
    | some (kt,et)=>evalD Γ e m = .mref g0∧evalD Γ e k = .data x.1∧keyT P kt x.1 = true∧coe P et (evalD Γ e v) = x.2
    | none=>False)
 | _=>False
def InsIs (ops:Array Oper) (e:Nat->D) (g0 i:Nat) (x:Data × D):Prop:=match ops[i]? with
 | some o=>PutsIn P Γ o e g0 x
 | none=>False
/-- A region that fills a map. -/
def fillW (ops:Array Oper) (s:St) (i0 g0:Nat) (idx:List Nat) (ent:Nat->Data × D) (Q:St->Prop):Prop :=
 drawW P Γ (ops.map stillOp) (ops.toList.map stillOp) s [] fun s' tr=>fillOk ops tr s.nx s'.nx i0 g0 idx = true∧(∀ i∈idx,InsIs P Γ ops s'.env g0 i (ent i))∧(∀ i∈idx,∀ j∈idx,i≠j->keyEq (ent i).1 (ent j).1 = some false) ∧
  ∀ l:List Nat,l.Perm idx->Q ⟨s'.env,Hp.set s'.hp g0 (mapAt ent l),s'.nx,s'.lo,s'.nt⟩
/-- Code,for whatever world stands behind a state. -/
def WP (c:Code) (Q:Exit->St->Prop) (s:St):Prop:=∀ (L0:Nat->Prop) (w0:W0) (m:Nat->MB) (a:Act) (w:World),Rel Γ L0 w0 m s a w->c.wp P (Lifts Γ L0 w0 m s w Q) a w
end
section
variable {P:Program} {Γ:Nat->Option (List Data)} {L0:Nat->Prop} {w0:W0}
theorem WP.code (hm:P.follows .mixedOrders = true) {c:Code} {Q:Exit->St->Prop} {s:St} (h:wpF P Γ c Q s):WP P Γ c Q s:=fun L0 w0 m a w hr=>wp_sound hm c Q m s a w hr h
theorem WP.seq (hm:P.follows .mixedOrders = true) {x y:Code} {Q:Exit->St->Prop} {s:St} (h:wpF P Γ x (thenW (WP P Γ y Q) Q) s):WP P Γ (.seq x y) Q s:=fun L0 w0 m a w hr=>by
 refine wp_seq (wp_mono (wp_sound hm x _ m s a w hr h) fun e a' w' ⟨m',s',h1,h2,h3⟩=>?_)
 cases e with
 | normal=>exact wp_mono (h3 L0 w0 m' a' w' h1) fun e a'' w'' ⟨m'',s'',h4,h5,h6⟩=>⟨m'',s'',h4,h2.trans h5,h6⟩
 | exit id=>exact ⟨m',s',h1,h2,h3⟩
 | goto l=>exact ⟨m',s',h1,h2,h3⟩
 | ret=>exact ⟨m',s',h1,h2,h3⟩
 | panic ch=>exact ⟨m',s',h1,h2,h3⟩
 | outgrown=>exact ⟨m',s',h1,h2,h3⟩
theorem WP.both {x y:Code} {Q:Exit->St->Prop} {s:St} (h:WP P Γ x (thenW (WP P Γ y Q) Q) s):WP P Γ (.seq x y) Q s:=fun L0 w0 m a w hr=>by
 refine wp_seq (wp_mono (h L0 w0 m a w hr) fun e a' w' ⟨m',s',h1,h2,h3⟩=>?_)
 cases e with
 | normal=>exact wp_mono (h3 L0 w0 m' a' w' h1) fun e a'' w'' ⟨m'',s'',h4,h5,h6⟩=>⟨m'',s'',h4,h2.trans h5,h6⟩
 | exit id=>exact ⟨m',s',h1,h2,h3⟩
 | goto l=>exact ⟨m',s',h1,h2,h3⟩
 | ret=>exact ⟨m',s',h1,h2,h3⟩
 | panic ch=>exact ⟨m',s',h1,h2,h3⟩
 | outgrown=>exact ⟨m',s',h1,h2,h3⟩
/-- A function by its body,for whatever world. -/
theorem dc_ofW {f:FuncId} {fn:Func} {c:Code} {ds:List D} {H:Nat->Blk} {nx:Nat} {K:D->(Nat->Blk)->Nat->Prop} (hf:P.funcs[f]? = some fn) (hb:fn.body = some c) (hc:CallOk P f)
 (h:WP P Γ c (retDQ P fn K) ⟨envArgs ds,H,nx,nx,ds.length + (fn.ntmps - ds.length)⟩):DC P Γ f ds H nx K:=by
 refine ⟨hc,fun L0 w0 m w vs hwr hres hdead hl hv=>calls_of_wp hf hb ?_⟩
 have hrel:Rel Γ L0 w0 m ⟨envArgs ds,H,nx,nx,ds.length + (fn.ntmps - ds.length)⟩ { tmps:=vs++Array.replicate (fn.ntmps - vs.size) undef,defers:=[] } w :=
  ⟨rfl,fun t=>args_env hl hv t,hwr.heap,hres,hdead,hwr.below,hwr.l0,hwr.glob,Nat.le_refl _,by simp [hl]⟩
 refine wp_mono (h L0 w0 m _ w hrel) fun e a' w' ⟨m',s',h1,h2,h3⟩=>?_
 have key:(resK P fn.results.toList s' fun ds=>∃ d,tupDD ds = some d∧K d s'.hp s'.nx)->a'.defers = []∧∃ v,(results fn a'.tmps).run P w' = .ok v w'∧∃ v' d H' nx' m',Ending.returned v = .returned v'∧WR Γ L0 w0 m' H' w'∧VV (Live L0 m' H') w' m' d v'∧Grow (Live L0 m H) w (Live L0 m' H') w' ∧
  (∀ g,g < nx->m' g = (m:Nat->MB) g)∧(∀ g,nx'≤g->m' g = .res)∧nx≤nx'∧K d H' nx':=by
  intro hk
  obtain ⟨es,us,⟨d,hd,hK⟩,k1,k2,k3⟩:=res_ok h1 _ _ hk
  refine ⟨h1.defers,_,results_run k3,_,d,s'.hp,s'.nx,m',rfl,h1.wr,?_,h2.grow,h2.keep,h1.res,by have:=h1.lo;rw [h2.lo] at this;exact this,hK⟩
  match es,us,k1,k2,hd with
  | [e],[u],_,k2,hd =>
    simp only [tupDD,Option.some.injEq] at hd
    subst hd
    exact k2 0 e u rfl rfl
  | [],[],_,_,hd =>
    simp only [tupDD,allData,Option.some.injEq] at hd
    subst hd
    exact .data _ _ (.tup [] #[] rfl (fun i x v hx=>by simp at hx))
  | e :: e2 :: es,u :: u2 :: us,k1,k2,hd =>
    simp only [tupDD,Option.some.injEq] at hd
    cases hxs:allData (e :: e2 :: es) with
    | some xs =>
      rw [hxs] at hd
      simp only at hd
      subst hd
      have hx:=allData_eq hxs
      refine .data _ _ (.tup xs _ (by have:=congrArg List.length hx;simp at this k1 ⊢;omega) fun i x v hxi hvi=>?_)
      exact (k2 i (.data x) v (by rw [hx,List.getElem?_map,hxi];rfl) (by simpa using hvi)).data_inv
    | none =>
      rw [hxs] at hd
      simp only at hd
      subst hd
      exact .tp _ _ (by simp at k1 ⊢;omega) fun i x v hxi hvi=>k2 i x v hxi (by simpa using hvi)
  | [],u :: us,k1,_,_=>simp at k1
  | [e],[],k1,_,_=>simp at k1
  | [e],u :: u2 :: us,k1,_,_=>simp at k1
  | e :: e2 :: es,[],k1,_,_=>simp at k1
  | e :: e2 :: es,[u],k1,_,_=>simp at k1
 cases e with
 | normal=>exact key h3
 | ret=>exact key h3
 | _=>exact h3.elim
/-- In the midst of operations whose order is open,with blocks as they are. -/
structure MidH (Γ:Nat->Option (List Data)) (L0:Nat->Prop) (w0:W0) (ops:Array Oper) (l:List (Oper × Res)) (m0:Nat->MB) (s0:St) (wS:World) (B:Array Bool) (H:Nat->Blk) (m:Nat->MB) (a:Act) (w:World):Prop where
 defers:a.defers = []
 slots:a.tmps.size = s0.nt
 listed:B.size = ops.size
 vals:∀ t,VV (Live L0 m H) w m (envF (B.getD · false) l 0 s0.env t) (a.tmps.getD t undef)
 wr:WR Γ L0 w0 m H w
 fresh:∀ (j:Nat) (o:Oper) (r:Res),l[j]? = some (o,r)->B.getD j false = false->∀ q,q < r.k->m (s0.nx + offs (l.take j) + q) = .res
 beyond:∀ g,s0.nx + offs l≤g->m g = .res
 keep:∀ g,g < s0.nx->m g = m0 g
 grow:Grow (Live L0 m0 s0.hp) wS (Live L0 m H) w
 closed:∀ (j:Nat) (o:Oper),ops[j]? = some o->B.getD j false = true->∀ e∈o.after,Region.binds .any e = true->B.getD e.on false = true
theorem midH_fin {ops:Array Oper} {l:List (Oper × Res)} {m0:Nat->MB} {s0:St} {wS:World} {B:Array Bool} {H:Nat->Blk} {m:Nat->MB} {a:Act} {w:World} {i:Nat} {o:Oper} {r:Res} {u:List (Nat × Blk)} {d:D} {v:Value} {w':World}
 (h:MidH Γ L0 w0 ops l m0 s0 wS B H m a w) (hll:l.length = ops.size) (hli:l[i]? = some (o,r)) (ho:ops[i]? = some o) (hun:B.getD i false = false) (hdep:∀ e∈o.after,Region.binds .any e = true->B.getD e.on false = true)
 (hd:dstOk o s0.nt = true) (henv:envF ((B.setIfInBounds i true).getD · false) l 0 s0.env = Env.dst (envF (B.getD · false) l 0 s0.env) o.dst d)
 (haf:AfterK Γ L0 w0 (s0.nx + offs (l.take i)) r.k H m w d u v w'):∃ m',MidH Γ L0 w0 ops l m0 s0 wS (B.setIfInBounds i true) (Hp.upd H u) m' (a.put o.dst v) w':=by
 have hi:i < ops.size:=(Array.getElem?_eq_some_iff.1 ho).1
 have hiB:i < B.size:=by rw [h.listed];exact hi
 have hoff:=offs_take_succ hli
 have hoffl:=offs_take_le l (i + 1)
 have hresi:∀ q,q < r.k->m (s0.nx + offs (l.take i) + q) = .res:=h.fresh i o r hli hun
 obtain ⟨m',k1,k2,k3,k4⟩:=haf
 have hmr:∀ g,m g≠.res->m' g = m g:=fun g hg=>k4 g (by
  rcases Nat.lt_or_ge g (s0.nx + offs (l.take i)) with e | e
  · exact .inl e
  · rcases Nat.lt_or_ge g (s0.nx + offs (l.take i) + r.k) with e2 | e2
    · exact absurd (by have:=hresi (g - (s0.nx + offs (l.take i))) (by omega);rwa [show s0.nx + offs (l.take i) + (g - (s0.nx + offs (l.take i))) = g by omega] at this) hg
    · exact .inr e2)
 refine ⟨m',?_,by rw [put_slots];exact h.slots,by simp;exact h.listed,?_,k1,?_,?_,?_,h.grow.trans k3,?_⟩
 · have:(a.put o.dst v).defers = a.defers:=by cases o.dst <;> rfl
   rw [this];exact h.defers
 · intro t
   rw [henv]
   refine dst_get (fun t ht=>?_) k2 (fun t=>(h.vals t).mono k3 hmr) t
   rw [h.slots]
   simpa [dstOk,ht] using hd
 · intro j o' r' hj hb q hq
   rw [getD_set' hiB] at hb
   by_cases e:i = j
   · simp [e] at hb
   · rw [if_neg e] at hb
     have hj1:=offs_take_succ hj
     rw [k4 _ (by
      rcases Nat.lt_or_ge j i with e2 | e2
      · have:=offs_mono l (show j + 1≤i by omega);exact .inl (by omega)
      · have:=offs_mono l (show i + 1≤j by omega);exact .inr (by omega))]
     exact h.fresh j o' r' hj hb q hq
 · intro g hg
   rw [k4 _ (by omega)]
   exact h.beyond g hg
 · intro g hg
   rw [k4 _ (by omega)]
   exact h.keep g hg
 · intro j oj hoj hb e he hbd
   rw [getD_set' hiB] at hb ⊢
   by_cases e1:i = e.on
   · rw [if_pos e1]
   · rw [if_neg e1]
     by_cases e2:i = j
     · subst e2
       rw [ho] at hoj;cases hoj
       exact hdep e he hbd
     · rw [if_neg e2] at hb
       exact h.closed j oj hoj hb e he hbd
theorem putsIn_congr {o:Oper} {e e':Nat->D} {g0:Nat} {x:Data × D} (h:∀ y∈o.op.operands,evalD Γ e' y = evalD Γ e y) (hp:PutsIn P Γ o e g0 x):PutsIn P Γ o e' g0 x:=by
 obtain ⟨dst,op,type,pos,after,guard⟩:=o
 unfold PutsIn at hp ⊢
 cases op with
 | insert t m k v =>
   simp only [Op.operands] at h
   simp only at hp ⊢
   rw [h m (by simp),h k (by simp),h v (by simp)]
   exact hp
 | _=>exact hp
theorem find_none {k:Data}:∀ (ks:List Data) (i:Nat),(∀ x∈ks,keyEq k x = some false)->findD k ks i = some none
 | [],i,_=>rfl
 | x :: ks,i,h=>by
   unfold findD
   rw [h x (by simp)]
   exact find_none ks (i + 1) fun y hy=>h y (by simp [hy])
theorem put_op {o:Oper} {e:Nat->D} {H:Nat->Blk} {g0 fr i:Nat} {ent:Nat->Data × D} {l:List Nat} (hp:PutsIn P Γ o e g0 (ent i)) (hg:H g0 = mapAt ent l) (hd:∀ j∈l,keyEq (ent i).1 (ent j).1 = some false) :
 opK P Γ o e H fr fun d' rd' u'=>d' = D.junk∧rd' = [g0]∧u' = [(g0,mapAt ent (l++[i]))]:=by
 obtain ⟨dst,op,type,pos,after,guard⟩:=o
 unfold PutsIn at hp
 cases op with
 | insert t m k v =>
   simp only at hp
   split at hp
   · rename_i kt et hm
     obtain ⟨h1,h2,h3,h4⟩:=hp
     show insertK P t (evalD Γ e m) (evalD Γ e k) (coe P (match mapT P t with | some x=>x.2 | none=>t) (evalD Γ e v)) H (fun rd' u'=>D.junk = D.junk∧rd' = [g0]∧u' = [(g0,mapAt ent (l++[i]))])
     unfold insertK
     rw [hm,h1,h2]
     simp only
     refine ⟨h3,?_⟩
     rw [hg]
     unfold mapAt
     simp only
     rw [find_none _ 0 (fun x hx=>by
      obtain ⟨j,hj,rfl⟩:=List.mem_map.1 hx
      exact hd j hj)]
     refine ⟨by first | rfl | trivial,by first | rfl | trivial,?_⟩
     rw [h4,List.map_append,List.map_append]
     rfl
   · exact hp.elim
 | _=>exact hp.elim
/-- Blocks in the midst of a map's filling. -/
def ovl (ent:Nat->Data × D) (i0 g0:Nat) (B:Array Bool) (l:List (Oper × Res)) (H:Nat->Blk) (p:List Nat):Nat->Blk :=
 if B.getD i0 false = true then Hp.set (hpF (B.getD · false) l 0 H) g0 (mapAt ent p) else hpF (B.getD · false) l 0 H
theorem ovl_other {ent:Nat->Data × D} {i0 g0:Nat} {B:Array Bool} {l:List (Oper × Res)} {H:Nat->Blk} {p:List Nat} {g:Nat} (h:g≠g0):ovl ent i0 g0 B l H p g = hpF (B.getD · false) l 0 H g:=by
 unfold ovl
 split
 · simp [Hp.set,h]
 · rfl
theorem upd_set {H:Nat->Blk} {g0:Nat} {b:Blk}:∀ {u:List (Nat × Blk)} {H:Nat->Blk},g0 ∉ u.map (·.1)->Hp.upd (Hp.set H g0 b) u = Hp.set (Hp.upd H u) g0 b
 | [],H,_=>rfl
 | (g,c) :: u,H,h=>by
   simp only [List.map_cons,List.mem_cons,not_or] at h
   show Hp.upd (Hp.set (Hp.set H g0 b) g c) u = _
   have:Hp.set (Hp.set H g0 b) g c = Hp.set (Hp.set H g c) g0 b:=by
    funext j
    unfold Hp.set
    by_cases e1:j = g
    · subst e1
      simp [Ne.symm h.1]
    · simp [e1]
   rw [this]
   exact upd_set (H:=H) h.2
/-- What is known of such a region. -/
structure FillIs (P:Program) (Γ:Nat->Option (List Data)) (ops:Array Oper) (l:List (Oper × Res)) (s0:St) (i0 g0:Nat) (idx:List Nat) (ent:Nat->Data × D):Prop where
 len:l.length = ops.size
 at_:∀ (i:Nat) (o:Oper) (r:Res),l[i]? = some (o,r)->ops[i]? = some o
 apart:Apart ops l (ancs ops.toList [])
 ord:∀ (i:Nat) (o:Oper),ops[i]? = some o->∀ e∈o.after,Region.binds .any e = true->e.on < i
 comes:∀ (i:Nat) (o:Oper) (r:Res),l[i]? = some (o,r)->i ∉ idx->Comes1 P Γ ops o (stAt (l.take i) s0) r
 still:∀ (i:Nat) (o:Oper) (r:Res),l[i]? = some (o,r)->i∈idx->r.u = []∧r.k = 1
 first:∀ (o:Oper) (r:Res),l[i0]? = some (o,r)->r.u = [(g0,.obj (.mp [] []))]
 out:i0 ∉ idx
 nodup:idx.Nodup
 other:∀ (i:Nat) (o:Oper) (r:Res),l[i]? = some (o,r)->i≠i0->g0 ∉ r.rd∧g0 ∉ r.u.map (·.1)
 puts:∀ (i:Nat) (o:Oper) (r:Res),l[i]? = some (o,r)->i∈idx->o.guard = none∧o.dst = none∧(∃ e∈o.after,Region.binds .any e = true∧e.on = i0)∧PutsIn P Γ o (stAt (l.take i) s0).env g0 (ent i)
 keys:∀ i∈idx,∀ j∈idx,i≠j->keyEq (ent i).1 (ent j).1 = some false
 big:offs l≤64
/-- In the midst of a map's filling. -/
def MidM (Γ:Nat->Option (List Data)) (L0:Nat->Prop) (w0:W0) (ops:Array Oper) (l:List (Oper × Res)) (m0:Nat->MB) (s0:St) (wS:World) (i0 g0:Nat) (idx:List Nat) (ent:Nat->Data × D) (B:Array Bool) (m:Nat->MB) (a:Act) (w:World):Prop :=
 ∃ p:List Nat,p.Nodup∧(∀ i∈p,i∈idx∧B.getD i false = true)∧(∀ i∈idx,B.getD i false = true->i∈p)∧MidH Γ L0 w0 ops l m0 s0 wS B (ovl ent i0 g0 B l s0.hp p) m a w
theorem midM_step {ops:Array Oper} {l:List (Oper × Res)} {m0:Nat->MB} {s0:St} {wS:World} {B:Array Bool} {m:Nat->MB} {a:Act} {w:World} {i i0 g0:Nat} {idx:List Nat} {ent:Nat->Data × D} {o:Oper} {Q:Exit->Act->World->Prop} {next:Act->World->Prop}
 (hf:FillIs P Γ ops l s0 i0 g0 idx ent) (h:MidM Γ L0 w0 ops l m0 s0 wS i0 g0 idx ent B m a w) (hun:B.getD i true = false) (ho:ops[i]? = some o) (hdep:∀ e∈o.after,Region.binds .any e = true->B.getD e.on false = true)
 (hn:∀ m' a' w',MidM Γ L0 w0 ops l m0 s0 wS i0 g0 idx ent (B.setIfInBounds i true) m' a' w'->next a' w'):wpOp P ops Q i next a w:=by
 obtain ⟨p,hp1,hp2,hp3,h⟩:=h
 have hi:i < ops.size:=(Array.getElem?_eq_some_iff.1 ho).1
 have hiB:i < B.size:=by rw [h.listed];exact hi
 have hunf:B.getD i false = false:=by simpa [Array.getD_eq_getD_getElem?,hiB] using hun
 have hil:i < l.length:=by rw [hf.len];exact hi
 obtain ⟨r,hli⟩:∃ r,l[i]? = some (o,r):=by
  have:=hf.at_ i l[i].1 l[i].2 (List.getElem?_eq_getElem hil)
  rw [ho] at this
  exact ⟨l[i].2,by rw [List.getElem?_eq_getElem hil,Option.some.inj this]⟩
 have hap:=hf.apart
 have hord:=hf.ord
 have hup:=anc_up (B:=(B.getD · false)) hord h.closed i o ho hdep
 have later:∀ j oj rj,i < j->l[j]? = some (oj,rj)->B.getD j false = true->¬ ((ancs ops.toList []).getD j 0).testBit i = true:=by
  intro j oj rj hij hj hbj hbit
  have hoj:=hf.at_ j oj rj hj
  have:=anc_up (B:=(B.getD · false)) hord h.closed j oj hoj (h.closed j oj hoj hbj) i hbit
  simp only [hunf] at this
  cases this
 obtain ⟨hse,hsh⟩:=stAt_env l i 0 s0
 simp only [Nat.zero_add] at hse hsh
 obtain ⟨hnx,_,hnt⟩:=stAt_nx (l.take i) s0
 have hnx':(stAt (l.take i) s0).nx = s0.nx + offs (l.take i):=hnx
 have hbig:=hf.big
 have hoff:=offs_take_succ hli
 have hoffl:=offs_take_le l (i + 1)
 have hslots:∀ s∈o.looksAt ops,envF (B.getD · false) l 0 s0.env s = (stAt (l.take i) s0).env s:=by
  intro s hs
  rw [hse]
  refine envF_agree rfl fun j oj rj hj hdj=>?_
  simp only [Nat.zero_add]
  rcases Nat.lt_trichotomy j i with hji | hji | hji
  · simp only [hji,decide_true]
    rcases (hap.pair j i oj rj o r hji hj hli).2 with hbit | ⟨h1,_⟩
    · exact hup j hbit
    · exact absurd hs (h1 s hdj)
  · subst hji;simp [hunf]
  · have:¬ j < i:=by omega
    simp only [this,decide_false]
    cases hbj:B.getD j false with
    | false=>rfl
    | true =>
      rcases (hap.pair i j o r oj rj hji hli hj).2 with hbit | ⟨_,h2,_⟩
      · exact absurd hbit (later j oj rj hji hj hbj)
      · exact absurd hs (h2 s hdj)
 have hblocks:∀ g,(g∈r.rd ∨ g∈r.u.map (·.1))->hpF (B.getD · false) l 0 s0.hp g = (stAt (l.take i) s0).hp g:=by
  intro g hg
  rw [hsh]
  refine hpF_agree rfl fun j oj rj hj hdj=>?_
  simp only [Nat.zero_add]
  rcases Nat.lt_trichotomy j i with hji | hji | hji
  · simp only [hji,decide_true]
    rcases (hap.pair j i oj rj o r hji hj hli).2 with hbit | ⟨_,_,h3,_⟩
    · exact hup j hbit
    · obtain ⟨q1,q2⟩:=h3 g hdj
      rcases hg with hg | hg
      · exact absurd hg q1
      · exact absurd hg q2
  · subst hji;simp [hunf]
  · have:¬ j < i:=by omega
    simp only [this,decide_false]
    cases hbj:B.getD j false with
    | false=>rfl
    | true =>
      rcases (hap.pair i j o r oj rj hji hli hj).2 with hbit | ⟨_,_,h3,h4⟩
      · exact absurd hbit (later j oj rj hji hj hbj)
      · rcases hg with hg | hg
        · exact absurd hg (h4 g hdj)
        · exact absurd hdj (h3 g hg).2
 have henv:∀ d,(o.dst≠none->d = r.d)->envF ((B.setIfInBounds i true).getD · false) l 0 s0.env = Env.dst (envF (B.getD · false) l 0 s0.env) o.dst d:=by
  intro d hdr
  funext t
  by_cases ht:o.dst = some t
  · rw [ht,dst_eq,hdr (by rw [ht];intro e;cases e)]
    refine envF_at hli ht (by simp [getD_set' hiB]) fun j o' r' hj hij _ hd'=>?_
    exact (hap.pair i j o r o' r' hij hli hj).1 t ht hd'
  · rw [dst_ne ht]
    refine envF_agree rfl fun j o' r' hj hd'=>?_
    simp only [Nat.zero_add,getD_set' hiB]
    by_cases e:i = j
    · subst e;rw [hli] at hj;cases hj;exact absurd hd' ht
    · simp [e]
 have hhp:hpF ((B.setIfInBounds i true).getD · false) l 0 s0.hp = Hp.upd (hpF (B.getD · false) l 0 s0.hp) r.u:=by
  funext g
  by_cases hg:g∈r.u.map (·.1)
  · refine hpF_at hli hg (by simp [getD_set' hiB]) fun j o' r' hj hij hb hg'=>?_
    have hbj:B.getD j false = true:=by
     simp only [Nat.zero_add,getD_set' hiB] at hb
     rw [if_neg (by omega)] at hb
     exact hb
    rcases (hap.pair i j o r o' r' hij hli hj).2 with hbit | ⟨_,_,h3,_⟩
    · exact later j o' r' hij hj hbj hbit
    · exact (h3 g hg).2 hg'
  · rw [upd_not hg]
    refine hpF_agree rfl fun j o' r' hj hg'=>?_
    simp only [Nat.zero_add,getD_set' hiB]
    by_cases e:i = j
    · subst e;rw [hli] at hj;cases hj;exact absurd hg' hg
    · simp [e]
 have hresi:∀ q,q < r.k->m (s0.nx + offs (l.take i) + q) = .res:=h.fresh i o r hli hunf
 have hops:∀ x∈o.op.operands,evalD Γ (envF (B.getD · false) l 0 s0.env) x = evalD Γ (stAt (l.take i) s0).env x:=fun x hx=>by
  cases x with
  | tmp t =>
    refine hslots t ?_
    unfold Oper.looksAt
    simp only [List.mem_append]
    refine .inl ?_
    rw [List.mem_filterMap]
    exact ⟨.tmp t,by simpa using hx,rfl⟩
  | const v=>rfl
  | global g=>rfl
  | func f=>rfl
 unfold wpOp
 simp only [ho]
 have hwc:=wanted_congr (ops:=ops) (o:=o) hslots
 have setB:∀ j,i≠j->(B.setIfInBounds i true).getD j false = B.getD j false:=fun j hj=>by rw [getD_set' hiB,if_neg hj]
 by_cases hix:i∈idx
 · obtain ⟨hgd,hdst,⟨e,he,heb,hei⟩,hput⟩:=hf.puts i o r hli hix
   obtain ⟨hu,hk⟩:=hf.still i o r hli hix
   have hB0:B.getD i0 false = true:=by rw [<- hei];exact hdep e he heb
   have hi0:i≠i0:=fun e=>hf.out (e ▸ hix)
   have hH:ovl ent i0 g0 B l s0.hp p g0 = mapAt ent p:=by unfold ovl;rw [if_pos hB0];simp [Hp.set]
   have hnp:i ∉ p:=fun hm=>by have:=(hp2 i hm).2;rw [hunf] at this;cases this
   have hop:=put_op (P:=P) (Γ:=Γ) (fr:=s0.nx + offs (l.take i)) (putsIn_congr hops hput) hH fun j hj=>hf.keys i hix j (hp2 j hj).1 fun e=>hnp (e ▸ hj)
   rw [hk] at hresi
   have hres0:m (s0.nx + offs (l.take i)) = .res:=hresi 0 (by omega)
   have hwt:wantedD ops (envF (B.getD · false) l 0 s0.env) o = some true:=by unfold wantedD;rw [hgd]
   rw [wanted_ok h.vals hwt,if_pos rfl]
   left
   obtain ⟨d,rd,u,⟨rfl,rfl,rfl⟩,hr⟩:=op_sound h.wr hres0 (h.wr.none hres0) h.vals hop
   refine hr.wp fun v w' ha=>?_
   obtain ⟨m',hm'⟩:=midH_fin h hf.len hli ho hunf hdep (by unfold dstOk;rw [hdst]) (henv D.junk (fun e=>absurd hdst e)) (by rw [hk];exact ha.k)
   refine hn m' _ _ ⟨p++[i],?_,?_,?_,?_⟩
   · rw [List.nodup_append]
     refine ⟨hp1,by simp,fun x hx y hy=>?_⟩
     simp only [List.mem_singleton] at hy
     subst hy
     exact fun e=>hnp (e ▸ hx)
   · intro j hj
     rcases List.mem_append.1 hj with hj | hj
     · obtain ⟨q1,q2⟩:=hp2 j hj
       exact ⟨q1,by rw [setB j (fun e=>hnp (e ▸ hj))];exact q2⟩
     · simp only [List.mem_singleton] at hj
       subst hj
       exact ⟨hix,by rw [getD_set' hiB,if_pos rfl]⟩
   · intro j hj hb
     by_cases e:i = j
     · subst e;simp
     · rw [setB j e] at hb
       exact List.mem_append_left _ (hp3 j hj hb)
   · have:ovl ent i0 g0 (B.setIfInBounds i true) l s0.hp (p++[i]) = Hp.upd (ovl ent i0 g0 B l s0.hp p) [(g0,mapAt ent (p++[i]))]:=by
      unfold ovl
      rw [setB i0 hi0,if_pos hB0,if_pos hB0,hhp,hu]
      funext j
      simp only [Hp.upd,Hp.set]
      split <;> rfl
     rw [this]
     exact hm'
 · obtain ⟨hd,hcm⟩:=hf.comes i o r hli hix
   have hov:∃ p',p' = p∧ovl ent i0 g0 (B.setIfInBounds i true) l s0.hp p = Hp.upd (ovl ent i0 g0 B l s0.hp p) r.u:=by
    refine ⟨p,rfl,?_⟩
    by_cases e0:i = i0
    · subst e0
      have hpn:p = []:=by
       cases p with
       | nil=>rfl
       | cons j p =>
         exfalso
         obtain ⟨q1,q2⟩:=hp2 j (by simp)
         have hjl:j < l.length:=by
          rw [hf.len,<- h.listed]
          rcases Nat.lt_or_ge j B.size with e | e
          · exact e
          · simp [Array.getD_eq_getD_getElem?,Array.getElem?_eq_none e] at q2
         have hlj:l[j]? = some (l[j].1,l[j].2):=List.getElem?_eq_getElem hjl
         obtain ⟨_,_,⟨e,he,heb,hei⟩,_⟩:=hf.puts j _ _ hlj q1
         have:=h.closed j _ (hf.at_ j _ _ hlj) q2 e he heb
         rw [hei,hunf] at this
         cases this
      subst hpn
      have hu:=hf.first o r hli
      have e1:¬ B.getD i false = true:=by rw [hunf];simp
      have e2:(B.setIfInBounds i true).getD i false = true:=by rw [getD_set' hiB,if_pos rfl]
      unfold ovl
      rw [if_neg e1,if_pos e2,hhp,hu]
      funext j
      simp only [Hp.upd,Hp.set,mapAt,List.map_nil]
      split <;> rfl
    · obtain ⟨_,q2⟩:=hf.other i o r hli e0
      unfold ovl
      rw [setB i0 e0,hhp]
      split
      · exact (upd_set (H:=hpF (B.getD · false) l 0 s0.hp) q2).symm
      · rfl
   obtain ⟨_,_,hov⟩:=hov
   have hbl:∀ g,(g∈r.rd ∨ g∈r.u.map (·.1))->ovl ent i0 g0 B l s0.hp p g = (stAt (l.take i) s0).hp g:=by
    intro g hg
    rw [<- hblocks g hg]
    by_cases e0:i = i0
    · subst e0
      have e1:¬ B.getD i false = true:=by rw [hunf];simp
      unfold ovl
      rw [if_neg e1]
    · obtain ⟨q1,q2⟩:=hf.other i o r hli e0
      exact ovl_other fun e=>by
       subst e
       rcases hg with hg | hg
       · exact q1 hg
       · exact q2 hg
   have fin:∀ v w',AfterK Γ L0 w0 (s0.nx + offs (l.take i)) r.k (ovl ent i0 g0 B l s0.hp p) m w r.d r.u v w'->next (a.put o.dst v) w':=by
    intro v w' ha
    obtain ⟨m',hm'⟩:=midH_fin h hf.len hli ho hunf hdep (by rw [<- hnt];exact hd) (henv r.d (fun _=>rfl)) ha
    refine hn m' _ _ ⟨p,hp1,fun j hj=>?_,fun j hj hb=>?_,by rw [hov];exact hm'⟩
    · obtain ⟨q1,q2⟩:=hp2 j hj
      exact ⟨q1,by rw [setB j (fun e=>hix (e ▸ q1))];exact q2⟩
    · rw [setB j (fun e=>hix (e ▸ hj))] at hb
      exact hp3 j hj hb
   cases hw:wantedD ops (stAt (l.take i) s0).env o with
   | none=>rw [hw] at hcm;exact hcm.elim
   | some b =>
     rw [hw] at hcm
     rw [wanted_ok h.vals (hwc.trans hw)]
     cases b with
     | true =>
       simp only at hcm
       rw [if_pos rfl]
       left
       rcases hcm with ⟨hk1,hcm⟩ | hcm
       · rw [hk1] at hresi
         have hres0:m (s0.nx + offs (l.take i)) = .res:=hresi 0 (by omega)
         have hop:opK P Γ o (envF (B.getD · false) l 0 s0.env) (ovl ent i0 g0 B l s0.hp p) (s0.nx + offs (l.take i)) fun d' rd' u'=>d' = r.d∧rd' = r.rd∧u' = r.u:=by
          rw [<- hnx',op_congr (e:=(stAt (l.take i) s0).env) hops]
          exact op_loc hcm (fun g hg=>hbl g (.inl hg)) (fun g hg=>hbl g (.inr hg))
         obtain ⟨d,rd,u,⟨rfl,rfl,rfl⟩,hr⟩:=op_sound h.wr hres0 (h.wr.none hres0) h.vals hop
         exact hr.wp fun v w' ha=>fin v w' (by rw [hk1];exact ha.k)
       · have hop:effK P Γ o (envF (B.getD · false) l 0 s0.env) (ovl ent i0 g0 B l s0.hp p) (s0.nx + offs (l.take i)) fun d' rd' u' k'=>d' = r.d∧rd' = r.rd∧u' = r.u∧k' = r.k:=by
          rw [<- hnx',eff_congr (e:=(stAt (l.take i) s0).env) hops]
          exact eff_loc hcm (fun g hg=>hbl g (.inl hg)) (fun g hg=>hbl g (.inr hg))
         exact eff_wp h.wr h.vals hresi (fun g hg=>h.beyond g (by omega)) hop fin
     | false =>
       simp only at hcm
       subst hcm
       rw [if_neg (by simp)]
       exact fin undef w ⟨m,h.wr,undef_ok _ _ _,Grow.refl _ _,fun _ _=>rfl⟩
theorem anyM_sound {ops:Array Oper} {l:List (Oper × Res)} {m0:Nat->MB} {s0:St} {wS:World} {i0 g0:Nat} {idx:List Nat} {ent:Nat->Data × D} {Q:Exit->Act->World->Prop} (hf:FillIs P Γ ops l s0 i0 g0 idx ent)
 (hend:∀ B m a w,(∀ j,j < ops.size->B.getD j false = true)->MidM Γ L0 w0 ops l m0 s0 wS i0 g0 idx ent B m a w->Q .normal a w) :
 ∀ (fuel:Nat) (B:Array Bool) (m:Nat->MB) (a:Act) (w:World),leftOf B≤fuel->MidM Γ L0 w0 ops l m0 s0 wS i0 g0 idx ent B m a w->wpAny P .any ops Q fuel B a w
 | 0,B,m,a,w,hl,h=>by
   have hls:B.size = ops.size:=by obtain ⟨_,_,_,_,h⟩:=h;exact h.listed
   have hz:∀ j,j < ops.size->B.getD j false = true:=fun j hj=>leftOf_zero (Nat.le_zero.1 hl) (by rw [hls];exact hj)
   refine ⟨List.eq_nil_iff_forall_not_mem.2 fun j hj=>?_,hend B m a w hz h⟩
   obtain ⟨h1,o,ho,_⟩:=ready_mem hj
   have hjs:=(Array.getElem?_eq_some_iff.1 ho).1
   have:=hz j hjs
   have hjB:j < B.size:=by rw [hls];exact hjs
   simp [Array.getD_eq_getD_getElem?,hjB] at this h1
   rw [this] at h1;cases h1
 | fuel + 1,B,m,a,w,hl,h=>by
   have hls:B.size = ops.size:=by obtain ⟨_,_,_,_,h⟩:=h;exact h.listed
   refine ⟨fun hr=>hend B m a w (ready_nil hls hf.ord hr) h,fun i hi=>?_⟩
   obtain ⟨hun,o,ho,hdep⟩:=ready_mem hi
   refine midM_step hf h hun ho hdep fun m' a' w' h'=>?_
   refine anyM_sound hf hend fuel _ m' a' w' ?_ h'
   have:=leftOf_set hun
   omega
theorem still_dst (o:Oper):(stillOp o).dst = o.dst:=by
 unfold stillOp;split <;> rfl
theorem still_guard (o:Oper):(stillOp o).guard = o.guard:=by
 unfold stillOp;split <;> rfl
theorem still_wanted (ops:Array Oper) (e:Nat->D) (o:Oper):wantedD (ops.map stillOp) e (stillOp o) = wantedD ops e o:=by
 unfold wantedD
 rw [still_guard]
 cases o.guard with
 | none=>rfl
 | some jw =>
   obtain ⟨j,want⟩:=jw
   have:((ops.map stillOp)[j]?).bind (·.dst) = (ops[j]?).bind (·.dst):=by
    rw [Array.getElem?_map]
    cases ops[j]? with
    | none=>rfl
    | some o=>exact still_dst o
   simp only [this]
theorem still_not {o:Oper} (h:isIns o = false):stillOp o = o:=by
 unfold isIns at h
 unfold stillOp
 split
 · rename_i h2;rw [h2] at h;cases h
 · rfl
theorem still_yes {o:Oper} (h:isIns o = true):(stillOp o).op = .move (.const .nilIface):=by
 unfold isIns at h
 unfold stillOp
 split
 · rfl
 · rename_i h2;split at h
   · rename_i h3;exact absurd h3 (h2 _ _ _ _)
   · cases h
theorem zip_take {α β:Type}:∀ (l:List α) (q:List β) (i:Nat),(l.zip q).take i = (l.take i).zip (q.take i)
 | [],q,i=>by simp
 | a :: l,[],i=>by simp
 | a :: l,b :: q,0=>by simp
 | a :: l,b :: q,i + 1=>by simp [zip_take l q i]
theorem perm_of {p q:List Nat} (h1:p.Nodup) (h2:q.Nodup) (h:∀ i,i∈p ↔ i∈q):p.Perm q:=by
 rw [List.perm_iff_count]
 intro a
 by_cases ha:a∈p
 · rw [h1.count,h2.count,if_pos ha,if_pos ((h a).1 ha)]
 · rw [h1.count,h2.count,if_neg ha,if_neg fun e=>ha ((h a).2 e)]
/-- What is known of a region that the check has let by. -/
theorem fill_is {ops:Array Oper} {s:St} {rs:List Res} {i0 g0:Nat} {idx:List Nat} {ent:Nat->Data × D} (hlen:rs.length = (ops.toList.map stillOp).length)
 (hcomes:∀ i o r,(ops.toList.map stillOp)[i]? = some o->rs[i]? = some r->Comes1 P Γ (ops.map stillOp) o (stAt (((ops.toList.map stillOp).zip rs).take i) s) r)
 (hok:fillOk ops (rs.map Res.tr) s.nx (stAt ((ops.toList.map stillOp).zip rs) s).nx i0 g0 idx = true)
 (hins:∀ i∈idx,InsIs P Γ ops (stAt ((ops.toList.map stillOp).zip rs) s).env g0 i (ent i)) (hkeys:∀ i∈idx,∀ j∈idx,i≠j->keyEq (ent i).1 (ent j).1 = some false) :
 FillIs P Γ ops (ops.toList.zip rs) s i0 g0 idx ent∧stAt (ops.toList.zip rs) s = stAt ((ops.toList.map stillOp).zip rs) s:=by
 unfold fillOk at hok
 simp only [Bool.and_eq_true] at hok
 obtain ⟨⟨⟨⟨⟨⟨⟨h1,h2⟩,h3⟩,h4⟩,h5⟩,h6⟩,h7⟩,h8⟩:=hok
 have hlen':rs.length = ops.toList.length:=by simpa using hlen
 have step:∀ (o:Oper) (r:Res) (t:St),stAt [(stillOp o,r)] t = stAt [(o,r)] t:=fun o r t=>by
  simp only [stAt,stepK,still_dst]
 have same:∀ (l:List Oper) (q:List Res) (t:St),stAt (l.zip q) t = stAt ((l.map stillOp).zip q) t:=by
  intro l
  induction l with
  | nil=>intro q t;rfl
  | cons o l ih =>
    intro q t
    cases q with
    | nil=>rfl
    | cons r q =>
      simp only [List.map_cons,List.zip_cons_cons,stAt]
      rw [ih]
      congr 1
      simp only [stepK,still_dst]
 have samek:∀ i,stAt ((ops.toList.zip rs).take i) s = stAt (((ops.toList.map stillOp).zip rs).take i) s:=fun i=>by
  have e1:(ops.toList.zip rs).take i = (ops.toList.take i).zip (rs.take i):=zip_take _ _ _
  have e2:((ops.toList.map stillOp).zip rs).take i = ((ops.toList.take i).map stillOp).zip (rs.take i):=by rw [List.map_take];exact zip_take _ _ _
  rw [e1,e2]
  exact same _ _ _
 have hat:∀ (i:Nat) (o:Oper) (r:Res),(ops.toList.zip rs)[i]? = some (o,r)->ops[i]? = some o∧rs[i]? = some r:=fun i o r h=>by
  rw [List.getElem?_zip_eq_some] at h
  exact ⟨by simpa using h.1,h.2⟩
 obtain ⟨hap,hord⟩:=apart_of hlen' h1
 have hsize:∀ {i:Nat} {o:Oper},ops[i]? = some o->i < ops.size:=fun h=>(Array.getElem?_eq_some_iff.1 h).1
 have each:∀ i o,ops[i]? = some o->(isIns o = idx.contains i)∧(isIns o = true->o.guard = none∧o.dst = none∧(∃ e∈o.after,Region.binds .any e = true∧e.on = i0)∧∀ j o' t,i≤j->ops[j]? = some o'->o'.dst = some t->t ∉ o.looksAt ops):=by
  intro i o ho
  rw [List.all_eq_true] at h8
  have:=h8 i (List.mem_range.2 (hsize ho))
  rw [ho] at this
  simp only [Bool.and_eq_true,beq_iff_eq,Bool.or_eq_true,Bool.not_eq_true'] at this
  refine ⟨this.1,fun hi=>?_⟩
  rcases this.2 with e | ⟨⟨⟨e1,e2⟩,e3⟩,e4⟩
  · rw [hi] at e;cases e
  · refine ⟨by simpa using e1,by simpa using e2,?_,fun j o' t hij ho' hd ht=>?_⟩
    · obtain ⟨k,hk,q⟩:=Array.any_eq_true.1 e3
      exact ⟨o.after[k],Array.getElem_mem hk,by simpa using q⟩
    · rw [List.all_eq_true] at e4
      have:=e4 j (List.mem_range.2 (hsize ho'))
      rw [ho'] at this
      simp only [Bool.or_eq_true] at this
      rcases this with q | q
      · have:Nat.blt j i = true:=q
        rw [Nat.blt_eq] at this
        omega
      · rw [hd] at q
        simp [ht] at q
 have hcm:∀ (i:Nat) (o:Oper) (r:Res),(ops.toList.zip rs)[i]? = some (o,r)->Comes1 P Γ (ops.map stillOp) (stillOp o) (stAt ((ops.toList.zip rs).take i) s) r:=fun i o r h=>by
  obtain ⟨k1,k2⟩:=hat i o r h
  rw [samek]
  exact hcomes i (stillOp o) r (by rw [List.getElem?_map];simp [k1]) k2
 have hidx:∀ i o,ops[i]? = some o->(i∈idx ↔ isIns o = true):=fun i o ho=>by
  rw [(each i o ho).1,List.contains_iff_mem]
 refine ⟨⟨by simp [hlen'],fun i o r h=>(hat i o r h).1,hap,hord,fun i o r h hn=>?_,fun i o r h hi=>?_,fun o r h=>?_,by simpa using h4,by simpa using h5,fun i o r h hi=>?_,fun i o r h hi=>?_,hkeys,?_⟩,same _ _ _⟩
 · have ho:=(hat i o r h).1
   have hno:isIns o = false:=by
    cases hb:isIns o with
    | false=>rfl
    | true=>exact absurd ((hidx i o ho).2 hb) hn
   have:=hcm i o r h
   unfold Comes1 at this ⊢
   rw [still_wanted,still_not hno] at this
   exact this
 · have ho:=(hat i o r h).1
   have hyes:=(hidx i o ho).1 hi
   have hst:=still_yes hyes
   obtain ⟨hg,hd,_⟩:=(each i o ho).2 hyes
   have:=hcm i o r h
   unfold Comes1 at this
   rw [still_wanted,show wantedD ops _ o = some true by unfold wantedD;rw [hg]] at this
   rcases this.2 with ⟨q1,q2⟩ | q
   · generalize stillOp o = o2 at *
     obtain ⟨dst,op,type,pos,after,guard⟩:=o2
     simp only at hst
     subst hst
     exact ⟨q2.2.2.symm,q1⟩
   · generalize stillOp o = o2 at *
     obtain ⟨dst,op,type,pos,after,guard⟩:=o2
     simp only at hst
     subst hst
     exact q.elim
 · obtain ⟨ho,hr⟩:=hat i0 o r h
   rw [ho] at h6
   have:=hcm i0 o r h
   have hni:isIns o = false:=by
    have:=(each i0 o ho).1
    rw [this]
    simpa using h4
   rw [still_not hni] at this
   obtain ⟨dst,op,type,pos,after,guard⟩:=o
   cases op with
   | makeMap t n =>
     cases n with
     | none =>
       simp only [Option.isNone_iff_eq_none] at h6
       subst h6
       unfold Comes1 at this
       rw [show wantedD (ops.map stillOp) _ ⟨dst,.makeMap t none,type,pos,after,none⟩ = some true from rfl] at this
       rcases this.2 with ⟨_,q⟩ | q
       · have hu:=q.2.2
         have hk:r.u.map (·.1) = [g0]:=by
          have:=h3
          simp only [List.getElem?_map,hr,Option.map_some,Option.some.injEq,Res.tr,decide_eq_true_eq] at this
          exact this
         rw [<- hu] at hk ⊢
         simp only [List.map_cons,List.map_nil,List.cons.injEq,and_true] at hk
         rw [hk]
       · exact q.elim
     | some n=>cases h6
   | _=>cases h6
 · obtain ⟨ho,hr⟩:=hat i o r h
   rw [List.all_eq_true] at h7
   have:=h7 i (List.mem_range.2 (hsize ho))
   rw [List.getElem?_map,hr] at this
   simp only [Option.map_some,Option.all_some,Bool.or_eq_true,beq_iff_eq,Bool.and_eq_true,Bool.not_eq_true',List.contains_eq_mem,decide_eq_false_iff_not] at this
   exact this.resolve_left hi
 · obtain ⟨ho,hr⟩:=hat i o r h
   have hyes:=(hidx i o ho).1 hi
   obtain ⟨q1,q2,q3,q4⟩:=(each i o ho).2 hyes
   refine ⟨q1,q2,q3,?_⟩
   have hin:=hins i hi
   unfold InsIs at hin
   rw [ho] at hin
   refine putsIn_congr (fun x hx=>?_) hin
   cases x with
   | tmp t =>
     have hlook:t∈o.looksAt ops:=by
      unfold Oper.looksAt
      simp only [List.mem_append]
      refine .inl ?_
      rw [List.mem_filterMap]
      exact ⟨.tmp t,by simpa using hx,rfl⟩
     show (stAt ((ops.toList.zip rs).take i) s).env t = (stAt ((ops.toList.map stillOp).zip rs) s).env t
     rw [<- same ops.toList rs s]
     have e1:=(stAt_env (ops.toList.zip rs) i 0 s).1
     have e2:=(stAt_env (ops.toList.zip rs) (ops.toList.zip rs).length 0 s).1
     rw [List.take_length] at e2
     rw [e1,e2]
     refine envF_agree rfl fun j oj rj hj hdj=>?_
     have hjl:=(List.getElem?_eq_some_iff.1 hj).1
     rcases Nat.lt_or_ge j i with e | e
     · have:j < 0 + (ops.toList.zip rs).length:=by omega
       simp only [Nat.zero_add,e,decide_true]
       exact (decide_eq_true hjl).symm
     · exact absurd hlook (q4 j oj t e (hat j oj rj hj).1 hdj)
   | const v=>rfl
   | global g=>rfl
   | func f=>rfl
 · have h2:=Nat.le_of_ble_eq_true h2
   rw [<- same ops.toList rs s,(stAt_nx _ _).1] at h2
   omega
/-- A region that fills a map. -/
theorem WP.fill (hm:P.follows .mixedOrders = true) {id:Nat} {ops:Array Oper} {s:St} {Q:Exit->St->Prop} (i0 g0:Nat) (idx:List Nat) (ent:Nat->Data × D) (hk:fillW P Γ ops s i0 g0 idx ent (Q .normal)):WP P Γ (.region id ops true) Q s:=by
 intro L0 w0 m a w h
 obtain ⟨rs,hlen,hcomes,hok,hins,hkeys,hK⟩:=draw_text _ _ _ hk
 simp only [List.reverse_nil,List.nil_append] at hok
 obtain ⟨hf,hst⟩:=fill_is hlen hcomes hok hins hkeys
 have hbig:=hf.big
 refine wp_region_any hm ?_
 have hlen':rs.length = ops.toList.length:=by simpa using hlen
 have hfalse:∀ j,(Array.replicate ops.size false).getD j false = false:=fun j=>by
  by_cases hj:j < ops.size <;> simp [Array.getD_eq_getD_getElem?,hj]
 have no:∀ (l:List (Oper × Res)) (k:Nat) (e:Nat->D) (H:Nat->Blk),envF (fun j=>(Array.replicate ops.size false).getD j false) l k e = e∧hpF (fun j=>(Array.replicate ops.size false).getD j false) l k H = H:=by
  have hB:(fun j=>(Array.replicate ops.size false).getD j false) = fun _=>false:=funext hfalse
  rw [hB]
  intro l
  induction l with
  | nil=>intro k e H;exact ⟨rfl,rfl⟩
  | cons x l ih =>
    intro k e H
    obtain ⟨o,r⟩:=x
    simp only [envF,hpF,Bool.false_eq_true,if_false]
    exact ih (k + 1) e H
 have hdr:Grow (Live L0 m s.hp) w (Live L0 m s.hp) w.drew:=⟨Nat.le_refl _,fun b _ hL=>⟨rfl,hL⟩⟩
 have hov:ovl ent i0 g0 (Array.replicate ops.size false) (ops.toList.zip rs) s.hp [] = s.hp:=by
  unfold ovl
  rw [if_neg (by rw [hfalse];simp)]
  exact (no _ _ s.env _).2
 refine anyM_sound (P:=P) (L0:=L0) (w0:=w0) (m0:=m) (wS:=w) hf ?_ ops.size _ m a _ ?_ ⟨[],List.nodup_nil,(fun i hi=>by cases hi),(fun i _ hb=>by rw [hfalse] at hb;cases hb),⟨h.defers,h.slots,by simp,?_,?_,?_,?_,fun _ _=>rfl,?_,?_⟩⟩
 · rintro B m' a' w' hall ⟨p,hp1,hp2,hp3,hmid⟩
   have hall':∀ j o r,(ops.toList.zip rs)[j]? = some (o,r)->B.getD (0 + j) false = decide (0 + j < 0 + (ops.toList.zip rs).length):=fun j o r hj=>by
    have hlt:=(List.getElem?_eq_some_iff.1 hj).1
    have:j < ops.size:=by simp [hlen'] at hlt;exact hlt
    simp only [Nat.zero_add,hlt,decide_true]
    exact hall j this
   obtain ⟨e1,e2⟩:=stAt_env (ops.toList.zip rs) (ops.toList.zip rs).length 0 s
   rw [List.take_length] at e1 e2
   have he:envF (B.getD · false) (ops.toList.zip rs) 0 s.env = (stAt (ops.toList.zip rs) s).env:=by
    rw [e1];funext t;exact envF_agree rfl fun j o r hj _=>hall' j o r hj
   have hh:hpF (B.getD · false) (ops.toList.zip rs) 0 s.hp = (stAt (ops.toList.zip rs) s).hp:=by
    rw [e2];funext g;exact hpF_agree rfl fun j o r hj _=>hall' j o r hj
   obtain ⟨f1,f2,f3⟩:=stAt_nx (ops.toList.zip rs) s
   have hidxlt:∀ i∈idx,i < ops.size:=fun i hi=>by
    have:=hins i hi
    unfold InsIs at this
    cases ho:ops[i]? with
    | none=>rw [ho] at this;exact this.elim
    | some o=>exact (Array.getElem?_eq_some_iff.1 ho).1
   have hperm:p.Perm idx:=perm_of hp1 hf.nodup fun i=>⟨fun hi=>(hp2 i hi).1,fun hi=>hp3 i hi (hall i (hidxlt i hi))⟩
   have hK:=hK p hperm
   rw [<- hst] at hK
   have hi0:i0 < ops.size:=by
    rcases Nat.lt_or_ge i0 ops.size with e | e
    · exact e
    · exfalso
      unfold fillOk at hok
      simp only [Bool.and_eq_true] at hok
      have:=hok.1.1.2
      rw [Array.getElem?_eq_none e] at this
      cases this
   have hover:ovl ent i0 g0 B (ops.toList.zip rs) s.hp p = Hp.set (stAt (ops.toList.zip rs) s).hp g0 (mapAt ent p):=by
    unfold ovl
    rw [if_pos (hall i0 hi0),hh]
   have hv:=hmid.vals
   have hw:=hmid.wr
   have hg:=hmid.grow
   rw [he,hover] at hv
   rw [hover] at hw hg
   have hres:∀ g,(stAt (ops.toList.zip rs) s).nx≤g->m' g = .res:=fun g hgg=>hmid.beyond g (by rw [f1] at hgg;exact hgg)
   refine ⟨m',⟨(stAt (ops.toList.zip rs) s).env,Hp.set (stAt (ops.toList.zip rs) s).hp g0 (mapAt ent p),(stAt (ops.toList.zip rs) s).nx,(stAt (ops.toList.zip rs) s).lo,(stAt (ops.toList.zip rs) s).nt⟩,⟨hmid.defers,hv,hw.heap,hres,?_,hw.below,hw.l0,hw.glob,?_,?_⟩,⟨hg,fun g hgg=>hmid.keep g (Nat.lt_of_lt_of_le hgg h.lo),f2,f3⟩,hK⟩
   · intro g hgg
     exact hw.none (hres g hgg)
   · show (stAt (ops.toList.zip rs) s).lo≤(stAt (ops.toList.zip rs) s).nx
     rw [f1,f2];exact Nat.le_trans h.lo (Nat.le_add_right _ _)
   · show a'.tmps.size = (stAt (ops.toList.zip rs) s).nt
     rw [f3];exact hmid.slots
 · unfold leftOf
   simp
 · intro t
   rw [(no _ _ _ s.hp).1,hov]
   exact (h.vals t).mono hdr (fun _ _=>rfl)
 · rw [hov]
   exact h.wr.drew
 · intro j o r hj _ q _
   exact h.res _ (by omega)
 · intro g hg
   exact h.res g (by omega)
 · rw [hov]
   exact hdr
 · intro j o ho hb
   rw [hfalse] at hb;cases hb
end
end Go.Proofs.Ytkgoijpikfaegaa
