/- Challenges: ChapProves. Challenges: ChapOnce. Challenges: ChapTells. Options: the mathematics. Options: the document's own functions. Options: joined, dropped, put; numbers. Rules: the document's own functions. Rules: the document's own functions that go through rows. The state table: the document's own functions. The state table: the document's own Next, Has, Ints, Timed, Name. Automata: the document's own functions. Automata: right ones stay right; what a table's cell does to an automaton. Automata left alone: they end. Protocols that negotiate: plain data, and what actions send and tell. Protocols that negotiate: events, requests, answers, packets taken. Protocols that negotiate: requests, answers. Protocols that negotiate: answers, packets taken. Automata held against each other, and as they come in. Protocols that negotiate: which are right, which are small, which are the same, what came out. Challenges: ChapDoes. Challenges: ChapEnds. Challenges: ChapRead. Challenges: ChapGood. Challenges: ChapUsers. Challenges: the laws, of whatever answers as ProgC says. Challenges: the program's own functions. Challenges: the program's own functions: asking, judging, ending. Challenges: the program's own functions: ticks, answers, who is judged good. Challenges: the laws, of the program as it is. -/
import Derived.Test.YtafcdeegcfmcpaaDoorPk5
namespace Go.Proofs.YtafcdeegcfmcpaaDoor
open Go.RowKit
set_option linter.unusedSimpArgs false
set_option linter.unusedVariables false
set_option maxRecDepth 100000
attribute [-go_sem] bysd_one
namespace Ch
open Pa
theorem ath_len {a:Ath} (h:a.Ty):(athC a).length = 37:=by
 have:=h.v;have:=h.p
 unfold athC
 simp [bys_length]
 omega
theorem ath_take {a:Ath} (h:a.Ty):(athC a).take 37 = athC a:=List.take_of_length_le (Nat.le_of_eq (ath_len h))
@[go_sem] theorem ath_cell (a:Ath):(∀ x∈athC a,x.cell = true) ↔ True:=iff_true_intro fun x hx=>by
 unfold athC at hx
 simp only [List.mem_cons,List.mem_append] at hx
 rcases hx with rfl | rfl | rfl | rfl | hx | rfl | hx
 . rfl
 . rfl
 . rfl
 . rfl
 . exact bys_cell' _ x hx
 . rfl
 . exact bys_cell' _ x hx
@[go_sem] theorem ath_0 (a:Ath) (k:0 < (athC a).length):(athC a)[0] = .int .i64 a.s:=rfl
@[go_sem] theorem ath_2 (a:Ath) (k:2 < (athC a).length):(athC a)[2] = .int .i64 a.l:=rfl
@[go_sem] theorem ath_3 (a:Ath) (k:3 < (athC a).length):(athC a)[3] = .int .u8 a.id:=rfl
theorem ath_20 {a:Ath} (h:a.Ty) (k:20 < (athC a).length):(athC a)[20] = .str a.w:=by
 refine Option.some.inj ?_
 rw [<- List.getElem?_eq_getElem k]
 unfold athC
 show (bys a.v++Data.str a.w :: bys a.p)[16]? = _
 rw [List.getElem?_append_right (by rw [bys_length,h.v];exact Nat.le_refl _),bys_length,h.v]
 rfl
theorem ath_v {a:Ath} (h:a.Ty):((athC a).drop 4).take 16 = bys a.v:=by
 unfold athC
 show (bys a.v++Data.str a.w :: bys a.p).take 16 = _
 exact List.take_left' (by rw [bys_length,h.v])
def zeroA:List D:=[.data (.int .i64 0),.data (.int .i64 0),.data (.int .i64 0),.data (.int .u8 0),.data (.int .u8 0),.data (.int .u8 0),.data (.int .u8 0),.data (.int .u8 0),.data (.int .u8 0),.data (.int .u8 0),.data (.int .u8 0),.data (.int .u8 0),.data (.int .u8 0),.data (.int .u8 0),.data (.int .u8 0),.data (.int .u8 0),.data (.int .u8 0),.data (.int .u8 0),.data (.int .u8 0),.data (.int .u8 0),.data (.str emptyS),.data (.int .u8 0),.data (.int .u8 0),.data (.int .u8 0),.data (.int .u8 0),.data (.int .u8 0),.data (.int .u8 0),.data (.int .u8 0),.data (.int .u8 0),.data (.int .u8 0),.data (.int .u8 0),.data (.int .u8 0),.data (.int .u8 0),.data (.int .u8 0),.data (.int .u8 0),.data (.int .u8 0),.data (.int .u8 0)]
theorem over_ath {a:Ath} (h:a.Ty):over zeroA 0 ((athC a).map D.data) = (athC a).map D.data:=over_whole _ _ (by rw [List.length_map,ath_len h];rfl)
theorem answer_v16 {p:Pk} (h:p.Ty):V16 (answerP p).2.1:=by
 unfold answerP
 split
 . rename_i c
   unfold okP at c
   simp only [Bool.and_eq_true,decide_eq_true_eq] at c
   exact ⟨by simp only [List.length_take,List.length_drop];omega,fun x hx=>h.d x (List.mem_of_mem_drop (List.mem_of_mem_take hx))⟩
 . exact v16_zero
section
variable (Γ:Nat->Option (List Data))
theorem users_at (l:List Usr) (hl:InU l):∃ q:Bool,(q = true ↔ UsersOk l)/\PC Tryd.prog Γ 11 [.sl 2 (usrs l)] (.bool q) :=
 ⟨@decide _ (Classical.propDecidable (UsersOk l)),by simp,rusers_pc Γ l hl.1 (by simp)⟩
set_option maxHeartbeats 16000000 in
theorem cproves_pc (hp:ProgC Γ) (a:Ath) (l:List Usr) (p:Pk) (ha:AthW a) (hl:InU l) (tp:p.Ty) (pl:p.d.length<=140737488351232):PC Tryd.prog Γ 3 [ath a,.sl 2 (usrs l),Pa.pk p] (.bool true):=by
 refine pc_by mixed Tryd.func3 rfl (fun args w=>Tryd.call3 args w) ?_
 have f1:=rright15_pc Γ a ha.ty
 obtain ⟨q,hq,f2⟩:=users_at Γ l hl
 have la:=ath_len ha.ty
 have ta:=ath_take ha.ty
 unfold ath at f1 ⊢
 unfold Pa.pk
 simp -implicitDefEqProofs (disch:=omega) [go_sem,la,ta]
 refine .inl (call_data (shown15_pc Γ hp) (by simp [go_sem]) ?_)
 simp -implicitDefEqProofs (disch:=omega) [go_sem,la,ta]
 refine .inl (call_data f1 rfl ?_)
 by_cases g1:RightT a
 rotate_left
 . rw [decide_eq_false g1]
   simp -implicitDefEqProofs (disch:=omega) [go_sem,Tryd.f3]
 rw [decide_eq_true g1]
 simp -implicitDefEqProofs (disch:=omega) [go_sem,la,ta]
 refine .inl (call_data f2 rfl ?_)
 cases q with
 | false=>simp -implicitDefEqProofs (disch:=omega) [go_sem,Tryd.f3]
 | true =>
 have g2:UsersOk l:=hq.1 rfl
 by_cases g3:100 < p.d.length
 . simp -implicitDefEqProofs (disch:=omega) [go_sem,g3,Tryd.f3]
 have pl2:p.d.length<=100:=by omega
 have cj:=hp.judge a l p ha.ty g1 g2 tp pl2
 have ca:=hp.answer p tp pl2
 have PR:=proves g1 (l:=l) (p:=p)
 have wh:=judge_who a l p pl2
 have hv:=answer_v16 tp
 generalize judgeA a l p (answerP p) = j at *
 generalize answerP p = r at *
 obtain ⟨who,good,counts⟩:=j
 obtain ⟨nm,v,is⟩:=r
 simp only at PR wh hv cj ca
 have lv:(bys v).length = 16:=by rw [bys_length,hv.1]
 have tv:v.take 16 = v:=List.take_of_length_le (Nat.le_of_eq hv.1)
 unfold ath Pa.pk at cj
 unfold Pa.pk at ca
 simp -implicitDefEqProofs (disch:=omega) [go_sem,la,ta,g3]
 refine .inl (call_data cj rfl ?_)
 simp -implicitDefEqProofs (disch:=omega) [go_sem,la,ta]
 refine .inl (call_data ca rfl ?_)
 cases counts with
 | false =>
   obtain ⟨e1,e2,e3⟩:=PR.2 rfl
   subst e1 e2
   by_cases c1:is = false
   . subst c1
     simp -implicitDefEqProofs (disch:=omega) [go_sem,la,ta,lv,tv,emptyS,Tryd.f3]
   have c1:is = true:=by simpa using c1
   subst c1
   by_cases c2:a.s = 1
   . have c3:p.i≠a.id:=by simpa [c2] using e3
     simp -implicitDefEqProofs (disch:=omega) [go_sem,la,ta,lv,tv,c2,c3,emptyS,Tryd.f3]
   . simp -implicitDefEqProofs (disch:=omega) [go_sem,la,ta,lv,tv,c2,emptyS,Tryd.f3]
 | true =>
   obtain ⟨e1,e2,e3,e4,e5⟩:=PR.1 rfl
   subst e1
   have b1:=hp.end_ a who v good ha.ty g1 wh hv
   have b2:=hp.end_ a who v false ha.ty g1 wh hv
   have tb:=end_ty ha.ty who hv good
   have tc:=end_ty ha.ty who hv false
   have rb:=right_end g1 who v good
   have rc:=right_end g1 who v false
   have pb:=hp.proved _ l tb rb g2
   have pc:=hp.proved _ l tc rc g2
   rw [e4] at pb
   rw [(end_bad a l who v).1] at pc
   have ec:=(end_bad a l who v).2
   have qb:=rright15_pc Γ _ tb
   have qc:=rright15_pc Γ _ tc
   rw [decide_eq_true rb] at qb
   rw [decide_eq_true rc] at qc
   generalize endA a who v good = b at *
   generalize endA a who v false = c at *
   have lb:=ath_len tb
   have tkb:=ath_take tb
   have lc:=ath_len tc
   have tkc:=ath_take tc
   have b20:=ath_20 tb
   have c20:=ath_20 tc
   have ob:=over_ath tb
   have oc:=over_ath tc
   unfold zeroA at ob oc
   simp only [ec] at c20
   unfold ath Pa.pk at b1 b2
   unfold ath at pb pc qb qc
   simp -implicitDefEqProofs (disch:=omega) [go_sem,la,ta,lv,tv]
   refine .inl (call_data b1 rfl ?_)
   simp -implicitDefEqProofs (disch:=omega) [go_sem,la,ta,lv,tv,lb,tkb,lc,tkc,ob,oc]
   refine .inl (call_data b2 rfl ?_)
   simp -implicitDefEqProofs (disch:=omega) [go_sem,la,ta,lv,tv,lb,tkb,lc,tkc,ob,oc]
   refine .inl (call_data pb rfl ?_)
   simp -implicitDefEqProofs (disch:=omega) [go_sem,la,ta,lv,tv,lb,tkb,lc,tkc,ob,oc]
   refine .inl (call_data pc rfl ?_)
   simp -implicitDefEqProofs (disch:=omega) [go_sem,la,ta,lv,tv,lb,tkb,lc,tkc,ob,oc,c20,emptyS]
   refine .inl (call_data qb rfl ?_)
   simp -implicitDefEqProofs (disch:=omega) [go_sem,la,ta,lv,tv,lb,tkb,lc,tkc,ob,oc,c20,emptyS]
   refine .inl (call_data qc rfl ?_)
   cases good with
   | false=>simp -implicitDefEqProofs (disch:=omega) [go_sem,la,ta,lv,tv,lb,tkb,lc,tkc,ob,oc,c20,emptyS,Tryd.f3]
   | true =>
     obtain ⟨e6,e7⟩:=e5 rfl
     simp only [e6] at b20
     simp -implicitDefEqProofs (disch:=omega) [go_sem,la,ta,lv,tv,lb,tkb,lc,tkc,ob,oc,c20,b20,e7,emptyS,Tryd.f3]
end
end Ch
namespace Ch
open Pa
theorem beh_take {a:Ath} (h:a.Ty) (r:List Data):(athC a++r).take 37 = athC a:=List.take_left' (ath_len h)
theorem beh_drop {a:Ath} (h:a.Ty) (k:Nat) (r:List Data):(athC a++r).drop (37 + k) = r.drop k:=by
 rw [<- List.drop_drop,List.drop_left' (ath_len h)]
theorem beh_get {a:Ath} (h:a.Ty) (k:Nat) (r:List Data):(athC a++r)[37 + k]? = r[k]?:=by
 rw [List.getElem?_append_right (by rw [ath_len h];omega),ath_len h,Nat.add_sub_cancel_left]
theorem get_of {C:List Data} {k:Nat} {x:Data} (h:C[k]? = some x) (hk:k < C.length):C[k] = x:=by
 rw [List.getElem?_eq_getElem hk] at h
 exact Option.some.inj h
def onceC (a:Ath) (l:List Usr) (p:Pk) (v:List Nat) (g:Bool):List Data:=athC a++(.sl 2 (usrs l) :: .int .u8 p.c :: .int .u8 p.i :: .sl 1 (bys p.d) :: (bys v++[.bool g]))
structure OnceF (a:Ath) (l:List Usr) (p:Pk) (v:List Nat) (g:Bool) (C:List Data):Prop where
 cell:∀ x∈C,x.cell = true
 len:C.length = 58
 at0:C.take 37 = athC a
 at37:C[37]? = some (.sl 2 (usrs l))
 at38:(C.drop 38).take 3 = [.int .u8 p.c,.int .u8 p.i,.sl 1 (bys p.d)]
 at41:(C.drop 41).take 16 = bys v
 at57:C[57]? = some (.bool g)
theorem once_f {a:Ath} (h:a.Ty) (l:List Usr) (p:Pk) {v:List Nat} (hv:V16 v) (g:Bool):OnceF a l p v g (onceC a l p v g) where
 cell:=fun x hx=>by
  unfold onceC at hx
  simp only [List.mem_append,List.mem_cons,List.not_mem_nil,or_false] at hx
  rcases hx with hx | rfl | rfl | rfl | rfl | hx | rfl
  . exact (ath_cell a).2 trivial x hx
  . rfl
  . rfl
  . rfl
  . rfl
  . exact bys_cell' _ x hx
  . rfl
 len:=by unfold onceC;simp [ath_len h,bys_length,hv.1]
 at0:=beh_take h _
 at37:=(beh_get h 0 _).trans rfl
 at38:=by rw [onceC,beh_drop h 1];rfl
 at41:=by
  rw [onceC,beh_drop h 4]
  exact List.take_left' (by rw [bys_length,hv.1])
 at57:=by
  rw [onceC,beh_get h 20]
  show (bys v++[Data.bool g])[16]? = _
  rw [List.getElem?_append_right (by rw [bys_length,hv.1];exact Nat.le_refl _),bys_length,hv.1]
  rfl
section
variable (Γ:Nat->Option (List Data))
set_option maxHeartbeats 16000000 in
theorem conce_pc (hp:ProgC Γ) (a:Ath) (l:List Usr) (p:Pk) (v:List Nat) (g:Bool) (ha:AthW a) (hl:InU l) (tp:p.Ty) (pl:p.d.length<=140737488351232) (hv:V16 v):PC Tryd.prog Γ 6 [.agg (onceC a l p v g)] (.bool true):=by
 refine pc_byW Tryd.func6 rfl (fun args w=>Tryd.call6 args w) ?_
 simp only [startK]
 have f1:=rright15_pc Γ a ha.ty
 obtain ⟨q,hq,f2⟩:=users_at Γ l hl
 have la:=ath_len ha.ty
 have ta:=ath_take ha.ty
 have lv:(bys v).length = 16:=by rw [bys_length,hv.1]
 have tv:v.take 16 = v:=List.take_of_length_le (Nat.le_of_eq hv.1)
 unfold ath at f1
 have hC:=once_f ha.ty l p hv g
 generalize onceC a l p v g = C at *
 obtain ⟨e0,e1,e2,e3,e4,e5,e6⟩:=hC
 have e7:=get_of e3
 have e8:=get_of e6
 have oa:=over_ath ha.ty
 unfold zeroA at oa
 refine WP.seq mixed ?_
 simp -implicitDefEqProofs (disch:=omega) [go_sem,e0,e1]
 refine WP.seq mixed ?_
 simp -implicitDefEqProofs (disch:=omega) [go_sem,e0,e1,e2,e4,e5,e7,e8,oa,la,ta]
 refine WP.seq mixed ?_
 simp -implicitDefEqProofs (disch:=omega) [go_sem,e0,e1,e2,e4,e5,e7,e8,oa,la,ta]
 refine WP.seq mixed ?_
 simp -implicitDefEqProofs (disch:=omega) [go_sem,e0,e1,e2,e4,e5,e7,e8,oa,la,ta]
 refine WP.seq mixed ?_
 simp -implicitDefEqProofs (disch:=omega) [go_sem,e0,e1,e2,e4,e5,e7,e8,oa,la,ta,lv,tv]
 refine WP.seq mixed ?_
 simp -implicitDefEqProofs (disch:=omega) [go_sem,e0,e1,e2,e4,e5,e7,e8,oa,la,ta,lv,tv]
 refine WP.weak (S:=⟨envL [(3,.ptr 0 0),(4,.data (.sl 2 (usrs l))),(5,.ptr 1 0),(6,.ptr 2 0),(7,.data (.bool g))],hpL [(0,.blk true ((athC a).map D.data)),(1,.blk true [.data (.int .u8 p.c),.data (.int .u8 p.i),.data (.sl 1 (bys p.d))]),(2,.blk true ((bys v).map D.data))],3,0,105⟩) (join_ren [] (rhoL [(0,some 4),(1,some 11),(2,some 15)]) ?_) ?_
 . apply ren_lists <;> simp -implicitDefEqProofs [go_sem]
 clear e0 e1 e2 e3 e4 e5 e6 e7 e8
 refine WP.code mixed ?_
 simp -implicitDefEqProofs (disch:=omega) [go_sem,la,ta]
 refine .inl (call_data (shown15_pc Γ hp) rfl ?_)
 simp -implicitDefEqProofs (disch:=omega) [go_sem,la,ta]
 refine .inl (call_data f1 rfl ?_)
 by_cases g1:RightT a
 rotate_left
 . rw [decide_eq_false g1]
   simp -implicitDefEqProofs (disch:=omega) [go_sem,Tryd.f6]
 rw [decide_eq_true g1]
 simp -implicitDefEqProofs (disch:=omega) [go_sem,la,ta]
 refine .inl (call_data f2 rfl ?_)
 cases q with
 | false=>simp -implicitDefEqProofs (disch:=omega) [go_sem,Tryd.f6]
 | true =>
 have g2:UsersOk l:=hq.1 rfl
 by_cases g3:100 < p.d.length
 . simp -implicitDefEqProofs (disch:=omega) [go_sem,g3,Tryd.f6]
 have pl2:p.d.length<=100:=by omega
 have cj:=hp.judge a l p ha.ty g1 g2 tp pl2
 have wh:=judge_who a l p pl2
 have once:=fun w v g h=>counts_once (l:=l) (p:=p) (answerP p) ha.ty.id h w v g
 have tb:=begin_ty ha.ty hv
 have rb:=right_begin a v
 have cb:=hp.begin_ a v ha.ty g1 hv
 have cjb:=hp.judge _ l p tb rb g2 tp pl2
 have te:=fun w=>end_ty ha.ty w hv g
 have re:=fun w=>right_end g1 w v g
 have ce:=fun w hw=>hp.end_ a w v g ha.ty g1 hw hv
 have cje:=fun w=>hp.judge _ l p (te w) (re w) g2 tp pl2
 generalize answerP p = r at *
 generalize hj:judgeA a l p r = j at *
 obtain ⟨who,good,counts⟩:=j
 simp only at wh cj once
 have ce:=ce who wh
 have cje:=cje who
 have te:=te who
 have once:=fun h=>once who v g h
 cases counts with
 | false =>
   unfold ath Pa.pk at cj
   simp -implicitDefEqProofs (disch:=omega) [go_sem,la,ta,g3]
   refine .inl (call_data cj rfl ?_)
   simp -implicitDefEqProofs (disch:=omega) [go_sem,la,ta,Tryd.f6]
 | true =>
 obtain ⟨o1,o2,o3⟩:=once rfl
 generalize endA a who v g = b at *
 generalize beginA a v = c at *
 rw [show judgeA b l p r = ((judgeA b l p r).1,(judgeA b l p r).2.1,false) by rw [<- o1]] at cje
 rw [show judgeA c l p r = ((judgeA c l p r).1,(judgeA c l p r).2.1,false) by rw [<- o2]] at cjb
 generalize (judgeA b l p r).1 = w1 at *
 generalize (judgeA b l p r).2.1 = q1 at *
 generalize (judgeA c l p r).1 = w2 at *
 generalize (judgeA c l p r).2.1 = q2 at *
 simp only at cje cjb
 have lb:=ath_len te
 have tkb:=ath_take te
 have lc:=ath_len tb
 have tkc:=ath_take tb
 have ob:=over_ath te
 have oc:=over_ath tb
 unfold zeroA at ob oc
 unfold ath Pa.pk at cj ce cje cb cjb
 simp -implicitDefEqProofs (disch:=omega) [go_sem,la,ta,g3]
 refine .inl (call_data cj rfl ?_)
 simp -implicitDefEqProofs (disch:=omega) [go_sem,la,ta,lv,tv]
 refine .inl (call_data ce rfl ?_)
 simp -implicitDefEqProofs (disch:=omega) [go_sem,la,ta,lv,tv,lb,tkb,lc,tkc,ob,oc]
 refine .inl (call_data cje rfl ?_)
 simp -implicitDefEqProofs (disch:=omega) [go_sem,la,ta,lv,tv,lb,tkb,lc,tkc,ob,oc]
 refine .inl (call_data cb rfl ?_)
 simp -implicitDefEqProofs (disch:=omega) [go_sem,la,ta,lv,tv,lb,tkb,lc,tkc,ob,oc]
 refine .inl (call_data cjb rfl ?_)
 simp -implicitDefEqProofs (disch:=omega) [go_sem,la,ta,lv,tv,lb,tkb,lc,tkc,ob,oc,o3,Tryd.f6]
end
end Ch
namespace Ch
open Pa
end Ch
namespace Op9
structure Ot where
 t:Nat
 d:List Nat
deriving DecidableEq
structure Ot.Ty (o:Ot):Prop where
 t:o.t < 256
 d:∀ x∈o.d,x < 256
def otB (o:Ot):List Nat:=o.t :: (2 + o.d.length) :: o.d
def otsB (l:List Ot):List Nat:=l.flatMap otB
def OkO (l:List Ot):Prop:=(∀ o∈l,o.d.length<=253)/\(otsB l).length<=1496
instance (l:List Ot):Decidable (OkO l):=by unfold OkO;infer_instance
def FewO (l:List Ot):Prop:=l.length<=30/\∀ o∈l,o.d.length<=253
instance (l:List Ot):Decidable (FewO l):=by unfold FewO;infer_instance
end Op9
namespace Op9
end Op9
namespace Op9
end Op9
namespace Ru
open Op9
structure Rule where
 ip:Bool
 magic:Nat
 other:Nat
 addr:Nat
 ours:Nat
deriving DecidableEq
structure Rule.Ty (r:Rule):Prop where
 magic:r.magic < 4294967296
 other:r.other < 4294967296
 addr:r.addr < 4294967296
 ours:r.ours < 4294967296
theorem find_no {p:Ot->Bool} (l:List Ot) (h:∀ (j:Nat) (hj:j < l.length),p l[j] = false):l.find? p = none:=by
 rw [List.find?_eq_none]
 intro x hx
 obtain ⟨j,hj,rfl⟩:=List.getElem_of_mem hx
 simpa using h j hj
end Ru
namespace Ru
open Op9
section
variable (Γ:Nat->Option (List Data))
def Fine (l:List Ot):Prop:=l.length<=1000000/\∀ o∈l,(∀ x∈o.d,x < 256)/\o.d.length<=1000000000
end
end Ru
namespace Fs
end Fs
namespace Fs
def Out (s e:Int):Prop:=s < 0 \/ 9 < s \/ e < 0 \/ 15 < e \/ (5 < e/\s < 2)
instance (s e:Int):Decidable (Out s e):=by unfold Out;infer_instance
end Fs
namespace Fs
structure Au where
 s:Int
 c:Int
 l:Int
 id:Nat
deriving DecidableEq
def Tm (s:Int):Prop:=4<=s/\s<=8
instance (s:Int):Decidable (Tm s):=by unfold Tm;infer_instance
def RightA (a:Au):Prop:=(0<=a.s/\a.s<=9)/\(0<=a.c/\a.c<=5)/\(Tm a.s/\1<=a.l/\a.l<=3 \/ ¬ Tm a.s/\a.l = 0)
instance (a:Au):Decidable (RightA a):=by unfold RightA;infer_instance
end Fs
namespace Fs
def Sends (l:List Int):Prop:=6∈l \/ 7∈l \/ 10∈l
instance (l:List Int):Decidable (Sends l):=by unfold Sends;infer_instance
end Fs
namespace Fs
def Au.rest (a:Au):Int:=if Tm a.s then a.l + 3 * a.c else 0
end Fs
namespace Ne
open Op9 Ru Fs Pa
structure Ng where
 a:Au
 r:Rule
 ours:List Ot
 naks:Int
 peer:List Ot
deriving DecidableEq
def Lay (x:Int):Prop:=x = 1 \/ x = 2 \/ x = 3 \/ x = 4
instance (x:Int):Decidable (Lay x):=by unfold Lay;infer_instance
def Fresh (was:Int) (l:List Int):Prop:=5∈l/\7∈l/\1<=was/\was<=3
instance (was:Int) (l:List Int):Decidable (Fresh was l):=by unfold Fresh;infer_instance
end Ne
namespace Ne
open Op9 Ru Fs Pa
end Ne
namespace Ne
open Op9 Ru Fs Pa
end Ne
namespace Ne
open Op9 Ru Fs Pa
def oddC (n:Ng) (p:Pk):Prop:=p.c < 1 \/ 11 < p.c \/ (n.r.ip = true/\7 < p.c)
instance (n:Ng) (p:Pk):Decidable (oddC n p):=by unfold oddC;infer_instance
end Ne
namespace Fs
def I64 (n:Int):Prop:=-9223372036854775808<=n/\n<=9223372036854775807
def AuT (a:Au):Prop:=I64 a.s/\I64 a.c/\I64 a.l/\a.id < 256
theorem RightA.ty {a:Au} (h:RightA a) (hi:a.id < 256):AuT a:=by
 obtain ⟨h1,h2,h3⟩:=h
 refine ⟨⟨by omega,by omega⟩,⟨by omega,by omega⟩,?_,hi⟩
 rcases h3 with ⟨_,k⟩ | ⟨_,k⟩
 . exact ⟨by omega,by omega⟩
 . exact ⟨by omega,by omega⟩
end Fs
namespace Ne
open Op9 Ru Fs Pa
def SmallN (n:Ng):Prop:=FewO n.ours/\FewO n.peer
instance (n:Ng):Decidable (SmallN n):=by unfold SmallN;infer_instance
def RightN (n:Ng):Prop:=RightA n.a/\(0<=n.naks/\n.naks<=3)/\OkO n.ours/\∀ o∈n.ours,o.t = 5->o.d.length = 4
instance (n:Ng):Decidable (RightN n):=by unfold RightN;infer_instance
end Ne
namespace Ch
open Pa
end Ch
namespace Ch
open Pa
def oneV (i:Nat):List Nat:=i :: List.replicate 15 0
theorem oneV_ok {i:Nat} (h:i < 256):V16 (oneV i):=⟨rfl,fun x hx=>by
 rcases List.mem_cons.1 hx with rfl | hx
 . exact h
 . rw [List.eq_of_mem_replicate hx];decide⟩
section
variable (Γ:Nat->Option (List Data))
set_option maxHeartbeats 16000000 in
theorem cends_pc (hp:ProgC Γ) (a:Ath) (v:List Nat) (n:Nat) (ha:AthW a) (hv:V16 v) (hn:n < 256):PC Tryd.prog Γ 4 [ath a,.agg (bys v),.int .u8 n] (.bool true):=by
 refine pc_by mixed Tryd.func4 rfl (fun args w=>Tryd.call4 args w) ?_
 have f1:=rright15_pc Γ a ha.ty
 have la:=ath_len ha.ty
 have ta:=ath_take ha.ty
 have lv:(bys v).length = 16:=by rw [bys_length,hv.1]
 have tv:v.take 16 = v:=List.take_of_length_le (Nat.le_of_eq hv.1)
 unfold ath at f1 ⊢
 simp -implicitDefEqProofs (disch:=omega) [go_sem,la,ta,lv,tv]
 refine .inl (call_data (shown15_pc Γ hp) rfl ?_)
 simp -implicitDefEqProofs (disch:=omega) [go_sem,la,ta,lv,tv]
 refine .inl (call_data f1 rfl ?_)
 by_cases g1:RightT a
 rotate_left
 . rw [decide_eq_false g1]
   simp -implicitDefEqProofs (disch:=omega) [go_sem,Tryd.f4]
 rw [decide_eq_true g1]
 have tb:=begin_ty ha.ty hv
 have rb:=right_begin a v
 have cb:=hp.begin_ a v ha.ty g1 hv
 have sb:=stands_zero a v
 have vb:=ath_v tb
 have wb:=ath_20 tb
 have ib:(beginA a v).id = (a.id + 1) % 256:=rfl
 have e1:((a.id:Int) + 1) % 256 = (((a.id + 1) % 256:Nat):Int):=by omega
 have wb':(beginA a v).w = emptyS:=rfl
 have vb':(beginA a v).v = v:=rfl
 simp only [vb'] at vb
 simp only [wb'] at wb
 generalize (a.id + 1) % 256 = m at *
 generalize beginA a v = b at *
 have lb:=ath_len tb
 have tkb:=ath_take tb
 have ob:=over_ath tb
 unfold zeroA at ob
 unfold ath Pa.pk challP at cb
 simp -implicitDefEqProofs (disch:=omega) [go_sem,la,ta,lv,tv]
 refine .inl (call_data cb rfl ?_)
 simp -implicitDefEqProofs (disch:=omega) [go_sem,la,ta,lv,tv,lb,tkb,ob,e1,ib,vb,wb,emptyS]
 refine eqK_ints arr16 hv.1 hv.1 hv.2 hv.2 ?_
 simp -implicitDefEqProofs (maxSteps:=4000000) (disch:=omega) [go_sem,la,ta,lv,tv,lb,tkb,ob,e1,ib,vb,wb,emptyS]
 refine loop_ren (σ:={ x:Nat × Ath // x.1<=n/\StandsT x.2 x.1/\x.2.Ty/\RightT x.2 }) (fun x=>⟨envL [(2,.data (.int .u8 n)),(7,.data (.bool true)),(8,.ptr 0 0),(10,.data (.int .i64 (sentT x.1.1))),(11,.data (.int .i64 x.1.1))],hpL [(0,.blk true ((athC x.1.2).map D.data))],1,0,155⟩) (fun x=>n - x.1.1) ⟨(0,b),Nat.zero_le _,sb,tb,rb⟩ [] (rhoL [(0,some 14)]) ?_ ?_
 . apply ren_lists <;> simp -implicitDefEqProofs [go_sem,sent_zero]
 rintro ⟨⟨i,c⟩,hi,hs,tc,rc⟩
 simp only at hi hs tc rc
 have lc:=ath_len tc
 have tkc:=ath_take tc
 have vc:=ath_v tc
 have s4:0<=sentT i/\sentT i<=4:=by unfold sentT;omega
 by_cases h:i < n
 . have i256:(i:Int) % 256 = i:=by omega
   have ct:=hp.tick c (oneV i) tc rc (oneV_ok (by omega))
   have st:=stands_tick hs (oneV i)
   have TS:=tick_sends c (oneV i)
   have td:=tickT_ty tc (oneV_ok (i:=i) (by omega))
   have rd:=right_tickT rc (oneV i)
   have ss:=sent_succ i
   have e3:((c.id:Int) + 1) % 256 = (((c.id + 1) % 256:Nat):Int):=by omega
   generalize (c.id + 1) % 256 = k at *
   generalize tickT c (oneV i) = o at *
   obtain ⟨d,sent⟩:=o
   simp only at ct st TS td rd
   rw [<- st.2] at ss
   have st1:=st.1
   have ld:=ath_len td
   have tkd:=ath_take td
   have vd:=ath_v td
   have od:=over_ath td
   unfold zeroA at od
   have qd:=rright15_pc Γ _ td
   rw [decide_eq_true rd] at qd
   rcases TS with ⟨rfl,i1,v1⟩ | ⟨rfl,i1,v1⟩
   . rw [v1] at vd
     unfold ath at ct qd
     simp only [List.length_nil,Int.natCast_zero,Int.add_zero] at ss
     simp -implicitDefEqProofs (disch:=omega) [go_sem,lc,tkc,i256]
     refine .inl (call_data ct rfl ?_)
     simp -implicitDefEqProofs (disch:=omega) [go_sem,lc,tkc,ld,tkd,od]
     refine .inl (call_data qd rfl ?_)
     simp -implicitDefEqProofs (disch:=omega) [go_sem,lc,tkc,ld,tkd,od,i1,vc,vd]
     refine eqK_ints arr16 tc.v tc.v tc.vb tc.vb ?_
     simp -implicitDefEqProofs (disch:=omega) [go_sem,lc,tkc,ld,tkd,od,i1,vc,vd]
     refine side (by kernel_rfl) ?_
     simp -implicitDefEqProofs (disch:=omega) [go_sem,lc,tkc,ld,tkd,od,i1,vc,vd]
     refine next_ren ⟨(i + 1,d),h,st1,td,rd⟩ (by simp only;omega) [] (rhoL [(0,some 0)]) ?_
     simp only [ss]
     apply ren_lists <;> simp -implicitDefEqProofs [go_sem]
     exact renCells_plain (over_whole _ _ (by simp [ld,lc])).symm (by simp [plainD])
   . rw [v1] at vd
     unfold ath at ct qd
     simp only [List.length_cons,List.length_nil] at ss
     unfold challP at ct
     simp -implicitDefEqProofs (disch:=omega) [go_sem,lc,tkc,i256]
     refine .inl (call_data ct rfl ?_)
     simp -implicitDefEqProofs (disch:=omega) [go_sem,lc,tkc,ld,tkd,od,Pa.pk]
     refine .inl (call_data qd rfl ?_)
     simp -implicitDefEqProofs (disch:=omega) [go_sem,lc,tkc,ld,tkd,od,i1,vc,vd,e3,Pa.pk]
     refine eqK_ints arr16 (l:=oneV i) (m:=oneV i) rfl rfl (oneV_ok (by omega)).2 (oneV_ok (by omega)).2 ?_
     simp -implicitDefEqProofs (disch:=omega) [go_sem,lc,tkc,ld,tkd,od,i1,vc,vd,e3,Pa.pk]
     refine side (by kernel_rfl) ?_
     simp -implicitDefEqProofs (disch:=omega) [go_sem,lc,tkc,ld,tkd,od,i1,vc,vd,e3,Pa.pk]
     refine next_ren ⟨(i + 1,d),h,st1,td,rd⟩ (by simp only;omega) [] (rhoL [(0,some 0)]) ?_
     simp only [ss]
     apply ren_lists <;> simp -implicitDefEqProofs [go_sem]
     exact renCells_plain (over_whole _ _ (by simp [ld,lc])).symm (by simp [plainD])
 . have hin:i = n:=by omega
   subst hin
   have hr:=stands_ref hs
   by_cases hh:16<=i
   . have c3:=hr.2 hh
     have k1:(16:Int)<=(i:Int):=by omega
     have k2:sentT i = 4:=by unfold sentT;omega
     have k3:¬ 1 + (i:Int) / 4 < 4:=by omega
     have k4:¬ 1 + (i:Int) / 4<=4:=by omega
     simp -implicitDefEqProofs (disch:=omega) [go_sem,lc,tkc,c3,k1,k2,k3,k4,Tryd.f4]
   . have c3:¬ c.s = 3:=fun e=>hh (hr.1 e)
     have k1:¬ (16:Int)<=(i:Int):=by omega
     have k2:sentT i = 1 + (i:Int) / 4:=by unfold sentT;omega
     have k3:1 + (i:Int) / 4<=4:=by omega
     simp -implicitDefEqProofs (disch:=omega) [go_sem,lc,tkc,c3,k1,k2,Tryd.f4]
end
end Ch
namespace Ch
open Pa
def readC (w:ByteArray) (v:List Nat) (c i:Nat):List Data:=.str w :: (bys v++[.int .u8 c,.int .u8 i])
structure ReadF (w:ByteArray) (v:List Nat) (c i:Nat) (C:List Data):Prop where
 cell:∀ x∈C,x.cell = true
 len:C.length = 19
 at0:C[0]? = some (.str w)
 at1:(C.drop 1).take 16 = bys v
 at17:C[17]? = some (.int .u8 c)
 at18:C[18]? = some (.int .u8 i)
theorem read_f (w:ByteArray) {v:List Nat} (hv:V16 v) (c i:Nat):ReadF w v c i (readC w v c i) where
 cell:=fun x hx=>by
  unfold readC at hx
  simp only [List.mem_append,List.mem_cons,List.not_mem_nil,or_false] at hx
  rcases hx with rfl | hx | rfl | rfl
  . rfl
  . exact bys_cell' _ x hx
  . rfl
  . rfl
 len:=by unfold readC;simp [bys_length,hv.1]
 at0:=rfl
 at1:=List.take_left' (by rw [bys_length,hv.1])
 at17:=by
  show (bys v++_)[16]? = _
  rw [List.getElem?_append_right (by rw [bys_length,hv.1];decide),bys_length,hv.1]
  rfl
 at18:=by
  show (bys v++_)[17]? = _
  rw [List.getElem?_append_right (by rw [bys_length,hv.1];decide),bys_length,hv.1]
  rfl
section
variable (Γ:Nat->Option (List Data))
set_option maxHeartbeats 16000000 in
theorem cread_pc (hp:ProgC Γ) (w:ByteArray) (v:List Nat) (c i:Nat) (hv:V16 v) (hc:c < 256) (hi:i < 256) (wl:w.size<=140737488351232):PC Tryd.prog Γ 5 [.agg (readC w v c i)] (.bool true):=by
 refine pc_byW Tryd.func5 rfl (fun args w=>Tryd.call5 args w) ?_
 simp only [startK]
 have lv:(bys v).length = 16:=by rw [bys_length,hv.1]
 have tv:v.take 16 = v:=List.take_of_length_le (Nat.le_of_eq hv.1)
 have hC:=read_f w hv c i
 generalize readC w v c i = C at *
 obtain ⟨e0,e1,e2,e3,e4,e5⟩:=hC
 have e7:=get_of e2
 have e8:=get_of e4
 have e9:=get_of e5
 have e3:((C.map D.data).tail).take 16 = (bys v).map D.data:=by rw [<- List.drop_one,<- List.map_drop,<- List.map_take,e3]
 refine WP.seq mixed ?_
 simp -implicitDefEqProofs (disch:=omega) [go_sem,e0,e1]
 refine WP.seq mixed ?_
 simp -implicitDefEqProofs (disch:=omega) [go_sem,e0,e1,e3,e7,e8,e9,lv,tv]
 refine WP.seq mixed ?_
 simp -implicitDefEqProofs (disch:=omega) [go_sem,e0,e1,e3,e7,e8,e9,lv,tv]
 refine WP.seq mixed ?_
 simp -implicitDefEqProofs (disch:=omega) [go_sem,e0,e1,e3,e7,e8,e9,lv,tv]
 refine WP.seq mixed ?_
 simp -implicitDefEqProofs (disch:=omega) [go_sem,e0,e1,e3,e7,e8,e9,lv,tv]
 refine WP.weak (S:=⟨envL [(3,.data (.str w)),(4,.ptr 0 0),(5,.data (.int .u8 c)),(6,.data (.int .u8 i))],hpL [(0,.blk true ((bys v).map D.data))],1,0,94⟩) (join_ren [] (rhoL [(0,some 7)]) ?_) ?_
 . apply ren_lists <;> simp -implicitDefEqProofs [go_sem]
 clear e0 e1 e2 e3 e4 e5 e7 e8 e9
 refine WP.code mixed ?_
 simp -implicitDefEqProofs (disch:=omega) [go_sem,lv,tv]
 refine .inl (call_data (shown15_pc Γ hp) rfl ?_)
 by_cases g1:50 < w.size
 . simp -implicitDefEqProofs (disch:=omega) [go_sem,g1,Tryd.f5]
 simp -implicitDefEqProofs (disch:=omega) [go_sem,lv,tv,g1]
 refine loop_ren (σ:={ k:Nat // k<=16 }) (fun k=>⟨envL [(3,.data (.str w)),(4,.ptr 0 0),(5,.data (.int .u8 c)),(6,.data (.int .u8 i)),(7,.data (.bool true)),(8,.ref 1 0 (k.1 + 1) 1),(9,.data (.int .i64 k.1))],hpL [(0,.blk true ((bys v).map D.data)),(1,.blk true ((bys (16 :: v.take k.1)).map D.data))],2,0,94⟩) (fun k=>16 - k.1) ⟨0,by omega⟩ [] (rhoL [(0,some 0),(1,some 6)]) ?_ ?_
 . apply ren_lists <;> simp -implicitDefEqProofs [go_sem]
   exact renCells_plain rfl (plainB _)
 rintro ⟨k,hk⟩
 simp only
 have hvl:=hv.1
 by_cases h:k < 16
 . clear lv
   simp -implicitDefEqProofs (disch:=omega) [go_sem,hvl,h]
   refine next_ren (σ:={ k:Nat // k<=16 }) ⟨k + 1,by omega⟩ (by simp only;omega) [] (rhoL [(0,some 0),(1,some 9)]) ?_
   apply ren_lists <;> simp -implicitDefEqProofs [go_sem]
   exact renCells_plain (by rw [take_snoc v k (by omega),<- List.cons_append,snocD]) (plainB _)
 . have hkk:k = 16:=by omega
   subst hkk
   have tp:(⟨c,i,16 :: (v++txB w)⟩:Pk).Ty:=⟨hc,hi,fun x hx=>by
    rcases List.mem_cons.1 hx with rfl | hx
    . decide
    . rcases List.mem_append.1 hx with hx | hx
      . exact hv.2 x hx
      . exact txB_lt w x hx⟩
   have tl:=txB_length w
   have ca:=hp.answer ⟨c,i,16 :: (v++txB w)⟩ tp (by show (16 :: (v++txB w)).length<=100;simp [tl,hv.1];omega)
   rw [read_told hv.1] at ca
   unfold Pa.pk at ca
   have ex:=tx_bys w
   generalize txB w = t at *
   by_cases c2:c = 2/\1<=w.size/\w.size<=16
   . rw [if_pos c2] at ca
     obtain ⟨d1,d2,d3⟩:=c2
     subst d1
     simp -implicitDefEqProofs (disch:=omega) [go_sem,lv,tv,ex,tl]
     refine .inl (call_frz [9] [9] (fun g hg=>?_) ca (fun H' hH'=>?_) ?_)
     . simp only [List.mem_cons,List.not_mem_nil,or_false] at hg
       subst hg;exact ⟨true,_,by simp [Hp.upd,Hp.set];rfl⟩
     . exact frzL_c (frz_aggL (frzL_c (.data _) (frzL_c (.data _) (frzL_c (frz_ref (rw:=false) (cells:=(bys (16 :: (v++t))).map D.data) (by simp [Hp.upd,Hp.set,fz]) (.inr rfl) (by simp [bys_length,hvl,tl];omega) (bys_cells _) (by rw [flat_bys])) frzL_n)))) frzL_n
     simp -implicitDefEqProofs (disch:=omega) [go_sem,lv,tv,ex,tl,emptyS]
     refine eqK_ints arr16 hv.1 hv.1 hv.2 hv.2 ?_
     simp -implicitDefEqProofs (disch:=omega) [go_sem,lv,tv,ex,tl,emptyS,Tryd.f5]
   . rw [if_neg c2] at ca
     have no:∀ b:Bool,b = decide (c = 2/\1<=w.size/\w.size<=16)->b = false:=fun b e=>by rw [e,decide_eq_false c2]
     simp only [zb] at ca
     simp -implicitDefEqProofs (disch:=omega) [go_sem,lv,tv,ex,tl]
     refine .inl (call_frz [9] [9] (fun g hg=>?_) ca (fun H' hH'=>?_) ?_)
     . simp only [List.mem_cons,List.not_mem_nil,or_false] at hg
       subst hg;exact ⟨true,_,by simp [Hp.upd,Hp.set];rfl⟩
     . exact frzL_c (frz_aggL (frzL_c (.data _) (frzL_c (.data _) (frzL_c (frz_ref (rw:=false) (cells:=(bys (16 :: (v++t))).map D.data) (by simp [Hp.upd,Hp.set,fz]) (.inr rfl) (by simp [bys_length,hvl,tl];omega) (bys_cells _) (by rw [flat_bys])) frzL_n)))) frzL_n
     by_cases e1:c = 2
     . subst e1
       by_cases e2:1<=w.size
       . have e3:¬ w.size<=16:=fun e=>c2 ⟨rfl,e2,e⟩
         simp -implicitDefEqProofs (disch:=omega) [go_sem,lv,tv,ex,tl,e2,e3,emptyS]
         refine eqK_ints arr16 (l:=List.replicate 16 0) (m:=List.replicate 16 0) rfl rfl v16_zero.2 v16_zero.2 ?_
         simp -implicitDefEqProofs (disch:=omega) [go_sem,lv,tv,ex,tl,e2,e3,emptyS,Tryd.f5]
       . have e3:w.size = 0:=by omega
         simp -implicitDefEqProofs (disch:=omega) [go_sem,lv,tv,ex,tl,e3,emptyS]
         refine eqK_ints arr16 (l:=List.replicate 16 0) (m:=List.replicate 16 0) rfl rfl v16_zero.2 v16_zero.2 ?_
         simp -implicitDefEqProofs (disch:=omega) [go_sem,lv,tv,ex,tl,e3,emptyS,Tryd.f5]
     . have e4:¬ (c:Int) = 2:=by omega
       simp -implicitDefEqProofs (disch:=omega) [go_sem,lv,tv,ex,tl,e1,e4,emptyS]
       refine eqK_ints arr16 (l:=List.replicate 16 0) (m:=List.replicate 16 0) rfl rfl v16_zero.2 v16_zero.2 ?_
       simp -implicitDefEqProofs (disch:=omega) [go_sem,lv,tv,ex,tl,e1,e4,emptyS,Tryd.f5]
end
end Ch
namespace Ch
open Pa
section
variable (Γ:Nat->Option (List Data))
set_option maxHeartbeats 16000000 in
theorem cgood_pc (hp:ProgC Γ) (a:Ath) (l:List Usr) (n:Nat) (ha:AthW a) (hl:InU l) (hn:n < 256):PC Tryd.prog Γ 8 [ath a,.sl 2 (usrs l),.int .u8 n] (.bool true):=by
 refine pc_by mixed Tryd.func8 rfl (fun args w=>Tryd.call8 args w) ?_
 have f1:=rright15_pc Γ a ha.ty
 obtain ⟨q,hq,f2⟩:=users_at Γ l hl
 have la:=ath_len ha.ty
 have ta:=ath_take ha.ty
 have va:=ath_v ha.ty
 unfold ath at f1 ⊢
 simp -implicitDefEqProofs (disch:=omega) [go_sem,la,ta]
 refine .inl (call_data (shown15_pc Γ hp) (by simp [go_sem]) ?_)
 simp -implicitDefEqProofs (disch:=omega) [go_sem,la,ta]
 refine .inl (call_data f1 rfl ?_)
 by_cases g1:RightT a
 rotate_left
 . rw [decide_eq_false g1]
   simp -implicitDefEqProofs (disch:=omega) [go_sem,Tryd.f8]
 rw [decide_eq_true g1]
 simp -implicitDefEqProofs (disch:=omega) [go_sem,la,ta]
 refine .inl (call_data f2 rfl ?_)
 cases q with
 | false=>simp -implicitDefEqProofs (disch:=omega) [go_sem,Tryd.f8]
 | true =>
 have g2:UsersOk l:=hq.1 rfl
 by_cases g3:l = []
 . subst g3
   simp -implicitDefEqProofs (disch:=omega) [go_sem,la,ta,usrs,Tryd.f8]
 have g4:¬ l.length = 0:=fun e=>g3 (List.eq_nil_of_length_eq_zero e)
 by_cases g5:a.s = 1
 rotate_left
 . simp -implicitDefEqProofs (disch:=omega) [go_sem,la,ta,g3,g4,g5,Tryd.f8]
 have ll:=g2.1
 obtain ⟨i,hi,em⟩:∃ i,i < l.length/\(n:Int) % (l.length:Int) = (i:Int):=⟨n % l.length,Nat.mod_lt _ (by omega),rfl⟩
 have hu:=g2.2.1 _ (List.getElem_mem hi)
 have us:=hu.2.2.2
 have un:=hu.2.1
 have cd:=hp.digest a.id l[i].secret a.v ha.ty.id (by omega) ⟨ha.ty.v,ha.ty.vb⟩
 have rd:=rdigest_pc Γ a.id l[i].secret a.v ha.ty.id (by omega) ha.ty.v ha.ty.vb
 have dt:=dig_lt a.id l[i].secret a.v
 have hj:=fun d hd hl=>good_judge (a:=a) g2 hi g5 (d:=d) hd hl
 have hj:=hj _ rfl dt.1
 generalize digB a.id l[i].secret a.v = dg at *
 have dl:=dt.1
 have tl:=txB_length l[i].name
 have tp:(⟨2,a.id,16 :: (dg++txB l[i].name)⟩:Pk).Ty:=⟨by show 2 < 256;decide,ha.ty.id,fun x hx=>by
  rcases List.mem_cons.1 hx with rfl | hx
  . decide
  . rcases List.mem_append.1 hx with hx | hx
    . exact dt.2 x hx
    . exact txB_lt _ x hx⟩
 have cj:=hp.judge a l ⟨2,a.id,16 :: (dg++txB l[i].name)⟩ ha.ty g1 g2 tp (by show (16 :: (dg++txB l[i].name)).length<=100;simp [tl,dl];omega)
 rw [hj] at cj
 unfold ath Pa.pk at cj
 have ex:=tx_bys l[i].name
 clear hj tp
 generalize txB l[i].name = t at *
 have dbl:(bys dg).length = 16:=by rw [bys_length,dl]
 have d16:dg.take 16 = dg:=List.take_of_length_le (Nat.le_of_eq dl)
 have gv:usr l[i] = .agg [.str l[i].name,.str l[i].secret]:=rfl
 generalize l[i].name = nm at *
 generalize l[i].secret = sc at *
 simp -implicitDefEqProofs (disch:=omega) [go_sem,la,ta,va,g3,g4,g5,em,gv]
 refine .inl (call_data cd rfl ?_)
 simp -implicitDefEqProofs (disch:=omega) [go_sem,la,ta,va,dbl,d16,ex]
 refine .inl (call_frz [53] [53] (fun g hg=>?_) cj (fun H' hH'=>?_) ?_)
 . simp only [List.mem_cons,List.not_mem_nil,or_false] at hg
   subst hg;exact ⟨true,_,by simp [Hp.upd,Hp.set];rfl⟩
 . exact frzL_c (.data _) (frzL_c (.data _) (frzL_c (frz_aggL (frzL_c (.data _) (frzL_c (.data _) (frzL_c (frz_ref (rw:=false) (cells:=.data (.int .u8 16) :: (bys (dg++t)).map D.data) (by simp [Hp.upd,Hp.set,fz]) (.inr rfl) (by simp [bys_length,dl];omega) (bys_cells _) (by rw [flat_bys];rfl)) frzL_n)))) frzL_n))
 simp -implicitDefEqProofs (disch:=omega) [go_sem,la,ta,va,dbl,d16,ex]
 refine side (by kernel_rfl) ?_
 simp -implicitDefEqProofs (disch:=omega) [go_sem,la,ta,va,dbl,d16,ex]
 refine .inl (call_data rd rfl ?_)
 simp -implicitDefEqProofs (disch:=omega) [go_sem,la,ta,va,dbl,d16,ex]
 refine eqK_ints arr16 dl dl dt.2 dt.2 ?_
 simp -implicitDefEqProofs (disch:=omega) [go_sem,la,ta,va,dbl,d16,ex]
 refine side (by kernel_rfl) ?_
 simp -implicitDefEqProofs (disch:=omega) [go_sem,la,ta,va,dbl,d16,ex,Tryd.f8]
end
end Ch
namespace Ch
open Pa
theorem usrs_take (l:List Usr) (n:Nat):(usrs l).take n = usrs (l.take n):=by simp [usrs,List.map_take]
theorem usrs_drop (l:List Usr) (n:Nat):(usrs l).drop n = usrs (l.drop n):=by simp [usrs,List.map_drop]
theorem usrs_two (l:List Usr):∀ x∈usrs l,x.cells.length = 2:=fun x hx=>by
 obtain ⟨u,_,rfl⟩:=List.mem_map.1 hx
 rfl
@[go_sem] theorem usrs_fcell (l:List Usr):(∀ x∈flat (usrs l),x.cell = true) ↔ True:=iff_true_intro fun x hx=>by
 induction l with
 | nil=>cases hx
 | cons u l ih =>
   have e:flat (usrs (u :: l)) = Data.str u.name :: Data.str u.secret :: flat (usrs l):=rfl
   rw [e] at hx
   rcases List.mem_cons.1 hx with rfl | hx
   . rfl
   rcases List.mem_cons.1 hx with rfl | hx
   . rfl
   . exact ih hx
theorem usrs_flen (l:List Usr):(flat (usrs l)).length = 2 * l.length:=by
 rw [flat_length (usrs_two l),usrs_length];omega
theorem usrs_fapp (a b:List Usr):(flat (usrs a)).map D.data++(flat (usrs b)).map D.data = (flat (usrs (a++b))).map D.data:=by
 unfold usrs
 rw [List.map_append,flat_append,List.map_append]
section
variable (Γ:Nat->Option (List Data))
set_option maxHeartbeats 16000000 in
theorem cusers_pc (hp:ProgC Γ) (l:List Usr) (n:Nat) (w:ByteArray) (hl:InU l) (hn:n < 256):PC Tryd.prog Γ 7 [.sl 2 (usrs l),.int .u8 n,.str w] (.bool true):=by
 refine pc_byW Tryd.func7 rfl (fun args w=>Tryd.call7 args w) ?_
 simp only [startK]
 have f1:=few15_pc Γ l hl
 obtain ⟨q,hq,_⟩:=users_at Γ l hl
 refine WP.seq mixed ?_
 simp -implicitDefEqProofs (disch:=omega) [go_sem]
 refine WP.seq mixed ?_
 simp -implicitDefEqProofs (disch:=omega) [go_sem]
 refine .inl (call_data (shown15_pc Γ hp) (by simp [go_sem]) ?_)
 simp -implicitDefEqProofs (disch:=omega) [go_sem]
 have cu:=fun h h2=>hp.users l q h h2 hq
 refine WP.seq mixed ?_
 simp -implicitDefEqProofs (disch:=omega) [go_sem]
 refine .inl (call_data f1 rfl ?_)
 by_cases g1:FewU l
 rotate_left
 . rw [decide_eq_false g1]
   simp -implicitDefEqProofs (disch:=omega) [go_sem,Tryd.f7]
 rw [decide_eq_true g1]
 by_cases g2:50 < w.size
 . simp -implicitDefEqProofs (disch:=omega) [go_sem,g2,Tryd.f7]
 simp -implicitDefEqProofs (disch:=omega) [go_sem,g2]
 have ll:=g1.1
 have cu:=cu (by omega) g1.2
 refine WP.seq mixed ?_
 simp -implicitDefEqProofs (disch:=omega) [go_sem]
 refine .inl (call_data cu rfl ?_)
 cases q with
 | false=>simp -implicitDefEqProofs (disch:=omega) [go_sem,Tryd.f7]
 | true =>
 have h2:UsersOk l:=hq.1 rfl
 by_cases g3:l = []
 . subst g3
   simp -implicitDefEqProofs (disch:=omega) [go_sem,usrs,Tryd.f7]
 have g4:¬ l.length = 0:=fun e=>g3 (List.eq_nil_of_length_eq_zero e)
 simp -implicitDefEqProofs (disch:=omega) [go_sem,g3,g4]
 obtain ⟨i,hi,em⟩:∃ i,i < l.length/\(n:Int) % (l.length:Int) = (i:Int):=⟨n % l.length,Nat.mod_lt _ (by omega),rfl⟩
 refine WP.seq mixed ?_
 simp -implicitDefEqProofs (disch:=omega) [go_sem,em]
 refine WP.seq mixed ?_
 have fl1:(flat (usrs (l.take i))).length = i * 2:=by
  rw [usrs_flen,List.length_take];omega
 simp -implicitDefEqProofs (disch:=omega) [go_sem,em,usrs_take,usrs_drop,fl1,usrs_fapp]
 refine side (by kernel_rfl) ?_
 have less:=users_less h2 i
 have ldrop:(l.drop (i + 1)).length = l.length - (i + 1):=List.length_drop
 refine WP.weak (S:=⟨envL [(0,.data (.sl 2 (usrs l))),(2,.data (.str w)),(7,.data (.bool true)),(8,.data (.int .i64 i)),(9,.data (.sl 2 (usrs (l.take i++l.drop (i + 1)))))],hpL [],0,0,135⟩) (join_ren [34] (rhoL []) ?_) ?_
 . apply ren_lists <;> simp -implicitDefEqProofs [go_sem]
   exact frz_ref (rw:=false) rfl (.inr rfl) (by simp [usrs_length];omega) (usrs_two _) rfl
 have hu:=h2.2.1 _ (List.getElem_mem hi)
 have us:=hu.2.2.2
 have un:=hu.2.1
 have cs1:=hp.secret l l[i].name h2 (by omega)
 rw [secret_at h2 hi] at cs1
 have cs2:=hp.secret _ l[i].name less (by omega)
 have gone:=secret_gone h2 hi
 have cs3:=hp.secret l w h2 (by omega)
 have found:=secret_found l w
 have cu2:=hp.users (l.take i++l.drop (i + 1)) true (by have:=less.1;omega) (fun u hu=>by obtain ⟨a,b,c,d⟩:=less.2.1 u hu;exact ⟨by omega,by omega⟩) (by simp [less])
 have cu3:=hp.users (l++[l[i]]) false (by have:=h2.1;simp;omega) (fun u hu=>by
  rcases List.mem_append.1 hu with hu | hu
  . exact g1.2 u hu
  . rw [List.mem_singleton.1 hu];exact g1.2 _ (List.getElem_mem hi)) (by simp [users_twice hi])
 generalize l.take i++l.drop (i + 1) = ls at *
 generalize secretU ls l[i].name = s2 at *
 generalize secretU l w = s3 at *
 obtain ⟨s2,b2⟩:=s2
 obtain ⟨s3,b3⟩:=s3
 simp only at gone found cs1 cs2 cs3
 subst gone
 have gv:usr l[i] = .agg [.str l[i].name,.str l[i].secret]:=rfl
 refine WP.seq mixed ?_
 simp -implicitDefEqProofs (disch:=omega) [go_sem,gv]
 refine .inl (call_data cs1 rfl ?_)
 simp -implicitDefEqProofs (disch:=omega) [go_sem,gv]
 refine WP.seq mixed ?_
 simp -implicitDefEqProofs (disch:=omega) [go_sem,gv]
 refine .inl (call_data cs2 rfl ?_)
 simp -implicitDefEqProofs (disch:=omega) [go_sem,gv]
 refine WP.seq mixed ?_
 simp -implicitDefEqProofs (disch:=omega) [go_sem,gv]
 refine .inl (call_data cs3 rfl ?_)
 simp -implicitDefEqProofs (disch:=omega) [go_sem,gv]
 refine WP.code mixed ?_
 simp -implicitDefEqProofs (disch:=omega) [go_sem,gv]
 refine loop_ren (σ:={ k:Nat // k<=l.length }) (fun k=>⟨envL [(0,.data (.sl 2 (usrs l))),(2,.data (.str w)),(7,.data (.bool true)),(8,.data (.int .i64 i)),(9,.data (.sl 2 (usrs ls))),(10,.data (.str l[i].secret)),(11,.data (.bool true)),(13,.data (.bool false)),(15,.data (.bool b3)),(16,.data (.bool ((l.take k.1).any fun u=>decide (u.name = w)))),(17,.data (.int .i64 k.1))],hpL [],0,0,135⟩) (fun k=>l.length - k.1) ⟨0,by omega⟩ [] (rhoL []) ?_ ?_
 . apply ren_lists <;> simp -implicitDefEqProofs [go_sem]
 rintro ⟨k,hk⟩
 by_cases h:k < l.length
 . have ea:((l.take (k + 1)).any fun u=>decide (u.name = w)) = (((l.take k).any fun u=>decide (u.name = w)) || decide (l[k].name = w)):=by
    rw [List.take_add_one,List.getElem?_eq_getElem h,Option.toList_some,List.any_append]
    simp
   generalize hb:((l.take k).any fun u=>decide (u.name = w)) = b at *
   have gk:usr l[k] = .agg [.str l[k].name,.str l[k].secret]:=rfl
   cases b with
   | true =>
     rw [Bool.true_or] at ea
     simp -implicitDefEqProofs (disch:=omega) [go_sem,gk,hb]
     refine next_ren ⟨k + 1,by omega⟩ (by simp only;omega) [] (rhoL []) ?_
     simp only [ea]
     apply ren_lists <;> simp -implicitDefEqProofs [go_sem]
   | false =>
     rw [Bool.false_or] at ea
     simp -implicitDefEqProofs (disch:=omega) [go_sem,gk,hb]
     refine next_ren ⟨k + 1,by omega⟩ (by simp only;omega) [] (rhoL []) ?_
     simp only [ea]
     apply ren_lists <;> simp -implicitDefEqProofs [go_sem]
 . have hkk:k = l.length:=by omega
   subst hkk
   rw [List.take_length,<- found]
   have fl2:(flat (usrs l)).length = l.length * 2:=by
    rw [usrs_flen];omega
   simp -implicitDefEqProofs (disch:=omega) [go_sem,gv,fl2]
   refine side (by kernel_rfl) ?_
   simp -implicitDefEqProofs (disch:=omega) [go_sem,gv,fl2]
   refine .inl (call_data cu2 rfl ?_)
   simp -implicitDefEqProofs (disch:=omega) [go_sem,gv,fl2]
   have tw:(flat (usrs (l++[l[i]]))).map D.data = (flat (usrs l)).map D.data++[.data (.str l[i].name),.data (.str l[i].secret)]:=(usrs_fapp l [l[i]]).symm
   refine .inl (call_frz [12] [12] (fun g hg=>?_) cu3 (fun H' hH'=>?_) ?_)
   . simp only [List.mem_cons,List.not_mem_nil,or_false] at hg
     subst hg;exact ⟨true,_,by simp [Hp.upd,Hp.set];rfl⟩
   . exact frzL_c (frz_ref (rw:=false) (cells:=(flat (usrs l)).map D.data++[.data (.str l[i].name),.data (.str l[i].secret)]) (by simp [Hp.upd,Hp.set,fz]) (.inr rfl) (by simp [usrs_length]) (usrs_two _) tw.symm) frzL_n
   cases b3 <;> simp -implicitDefEqProofs (disch:=omega) [go_sem,gv,fl2,Tryd.f7]
end
end Ch
namespace Ch
open Pa
theorem ok_users {n:Nat} {ds:List Data} (h:okD Tryd.prog (n + 3) 25 ds):∃ l:List Usr,InU l/\ds = [.sl 2 (usrs l)]:=by
 obtain ⟨l,rfl,hl,h⟩:=ok_slice Tryd.underlying25 h
 obtain ⟨bs,rfl,hp⟩:=lift_users fun x hx=>arg_user (h x hx)
 exact ⟨bs,⟨by simpa [usrs_length] using hl,hp⟩,by rw [show Tryd.prog.cellsOf 54 = 2 by kernel_rfl]⟩
theorem ok_byte {P:Program} {n:Nat} {t:TypeId} {ds:List Data} (hu:P.underlying t = some (.int .u8)) (h:okD P (n + 1) t ds):∃ c:Nat,c < 256/\ds = [.int .u8 c]:=by
 obtain ⟨i,h0,h1,rfl⟩:=ok_int hu h
 have e1:IntKind.u8.min = 0:=by decide
 have e2:IntKind.u8.max = 255:=by decide
 obtain ⟨c,rfl⟩:=Int.eq_ofNat_of_zero_le (show 0<=i by omega)
 exact ⟨c,by omega,rfl⟩
theorem ok_truth {P:Program} {n:Nat} {t:TypeId} {ds:List Data} (hu:P.underlying t = some .bool) (h:okD P (n + 1) t ds):∃ b:Bool,ds = [.bool b]:=by
 unfold okD at h
 simp only [hu] at h
 obtain ⟨b,rfl⟩:=h
 exact ⟨b,rfl⟩
section
variable (Γ:Nat->Option (List Data))
theorem at_ChapOnce (hp:ProgC Γ) {x0:Data} (a0:argD Tryd.prog 8 49 x0):PC Tryd.prog Γ 6 [x0] (.bool true):=by
 obtain ⟨ds,rfl,h⟩:=arg_struct Tryd.underlying49 a0
 obtain ⟨d1,r1,rfl,h1,h⟩:=okF_cons h
 obtain ⟨d2,r2,rfl,h2,h⟩:=okF_cons h
 obtain ⟨d3,r3,rfl,h3,h⟩:=okF_cons h
 obtain ⟨d4,r4,rfl,h4,h⟩:=okF_cons h
 obtain ⟨d5,r5,rfl,h5,h⟩:=okF_cons h
 obtain rfl:=okF_nil h
 obtain ⟨a,ha,rfl⟩:=okF_auth h1
 obtain ⟨l,hl,rfl⟩:=ok_users h2
 obtain ⟨p,⟨tp,pl⟩,rfl⟩:=ok_pkt h3
 obtain ⟨v,hv,hvb,rfl⟩:=ok_abytes Tryd.underlying22 Tryd.underlying5 h4
 obtain ⟨g,rfl⟩:=ok_truth Tryd.underlying4 h5
 have:=conce_pc Γ hp a l p v g ha hl tp pl ⟨hv,hvb⟩
 simpa [onceC,Pa.pk,Data.cells] using this
theorem at_ChapRead (hp:ProgC Γ) {x0:Data} (a0:argD Tryd.prog 8 46 x0):PC Tryd.prog Γ 5 [x0] (.bool true):=by
 obtain ⟨ds,rfl,h⟩:=arg_struct Tryd.underlying46 a0
 obtain ⟨d1,r1,rfl,h1,h⟩:=okF_cons h
 obtain ⟨d2,r2,rfl,h2,h⟩:=okF_cons h
 obtain ⟨d3,r3,rfl,h3,h⟩:=okF_cons h
 obtain ⟨d4,r4,rfl,h4,h⟩:=okF_cons h
 obtain rfl:=okF_nil h
 obtain ⟨w,hw,rfl⟩:=ok_str Tryd.underlying9 h1
 obtain ⟨v,hv,hvb,rfl⟩:=ok_abytes Tryd.underlying22 Tryd.underlying5 h2
 obtain ⟨c,hc,rfl⟩:=ok_byte Tryd.underlying5 h3
 obtain ⟨i,hi,rfl⟩:=ok_byte Tryd.underlying5 h4
 have:=cread_pc Γ hp w v c i ⟨hv,hvb⟩ hc hi hw
 simpa [readC,Pa.pk,Data.cells] using this
theorem at_ChapProves (hp:ProgC Γ) {x0 x1 x2:Data} (a0:argD Tryd.prog 8 24 x0) (a1:argD Tryd.prog 8 25 x1) (a2:argD Tryd.prog 8 28 x2):PC Tryd.prog Γ 3 [x0,x1,x2] (.bool true):=by
 obtain ⟨a,ha,rfl⟩:=arg_auth a0
 obtain ⟨l,hl,rfl⟩:=arg_users a1
 obtain ⟨p,⟨tp,pl⟩,rfl⟩:=arg_pkt a2
 exact cproves_pc Γ hp a l p ha hl tp pl
theorem at_ChapEnds (hp:ProgC Γ) {x0 x1 x2:Data} (a0:argD Tryd.prog 8 24 x0) (a1:argD Tryd.prog 8 22 x1) (a2:argD Tryd.prog 8 5 x2):PC Tryd.prog Γ 4 [x0,x1,x2] (.bool true):=by
 obtain ⟨a,ha,rfl⟩:=arg_auth a0
 obtain ⟨v,hv,hvb,rfl⟩:=arg_abytes Tryd.underlying22 Tryd.underlying5 a1
 obtain ⟨n,hn,rfl⟩:=arg_nat (k:=.u8) rfl Tryd.underlying5 a2
 exact cends_pc Γ hp a v n ha ⟨hv,hvb⟩ hn
theorem at_ChapUsers (hp:ProgC Γ) {x0 x1 x2:Data} (a0:argD Tryd.prog 8 25 x0) (a1:argD Tryd.prog 8 5 x1) (a2:argD Tryd.prog 8 9 x2):PC Tryd.prog Γ 7 [x0,x1,x2] (.bool true):=by
 obtain ⟨l,hl,rfl⟩:=arg_users a0
 obtain ⟨n,hn,rfl⟩:=arg_nat (k:=.u8) rfl Tryd.underlying5 a1
 obtain ⟨w,hw,rfl⟩:=arg_str Tryd.underlying9 a2
 exact cusers_pc Γ hp l n w hl hn
theorem at_ChapGood (hp:ProgC Γ) {x0 x1 x2:Data} (a0:argD Tryd.prog 8 24 x0) (a1:argD Tryd.prog 8 25 x1) (a2:argD Tryd.prog 8 5 x2):PC Tryd.prog Γ 8 [x0,x1,x2] (.bool true):=by
 obtain ⟨a,ha,rfl⟩:=arg_auth a0
 obtain ⟨l,hl,rfl⟩:=arg_users a1
 obtain ⟨n,hn,rfl⟩:=arg_nat (k:=.u8) rfl Tryd.underlying5 a2
 exact cgood_pc Γ hp a l n ha hl hn
end
end Ch
namespace Ch
open Pa
def names (l:List Usr):List Data:=l.map fun u=>.str u.name
def ones (l:List Usr):List D:=l.map fun _=>.data (.int .i64 1)
theorem ones_length (l:List Usr):(ones l).length = l.length:=by simp [ones]
theorem ones_get (l:List Usr) (i:Nat) (h:i < l.length):(ones l)[i]? = some (.data (.int .i64 1)):=by simp [ones,h]
theorem names_snoc (l:List Usr) (i:Nat) (h:i < l.length):names (l.take i)++[.str l[i].name] = names (l.take (i + 1)):=by
 rw [List.take_add_one,List.getElem?_eq_getElem h,Option.toList_some]
 unfold names
 rw [List.map_append];rfl
theorem ones_snoc (l:List Usr) (i:Nat) (h:i < l.length):ones (l.take i)++[.data (.int .i64 1)] = ones (l.take (i + 1)):=by
 rw [List.take_add_one,List.getElem?_eq_getElem h,Option.toList_some]
 unfold ones
 rw [List.map_append];rfl
theorem ones_plain (l:List Usr):(ones l).all plainD = true:=by
 unfold ones
 rw [List.all_eq_true]
 intro x hx
 obtain ⟨_,_,rfl⟩:=List.mem_map.1 hx
 rfl
theorem beq_bytes (a b:ByteArray):(a == b) = decide (a = b):=by
 cases a;cases b
 show (ByteArray.beq _ _) = _
 unfold ByteArray.beq
 rw [Bool.eq_iff_iff]
 simp
theorem find_step (n:ByteArray) (u:Usr) (l:List Usr) (k:Nat):findD (.str n) (names (u :: l)) k = if n = u.name then some (some k) else findD (.str n) (names l) (k + 1):=by
 show (match some (n == u.name) with | some true=>some (some k) | some false=>findD (.str n) (names l) (k + 1) | none=>none) = _
 rw [beq_bytes]
 by_cases e:n = u.name
 . rw [decide_eq_true e,if_pos e]
 . rw [decide_eq_false e,if_neg e]
theorem find_no (n:ByteArray):∀ (l:List Usr) (k:Nat),(∀ u∈l,u.name≠n)->findD (.str n) (names l) k = some none
 | [],_,_=>rfl
 | u :: l,k,h=>by
   rw [find_step,if_neg fun e=>h u List.mem_cons_self (Eq.symm e)]
   exact find_no n l (k + 1) fun v hv=>h v (List.mem_cons_of_mem _ hv)
theorem find_yes (n:ByteArray):∀ (l:List Usr) (k:Nat),(∃ u∈l,u.name = n)->∃ j,findD (.str n) (names l) k = some (some (k + j))/\j < l.length
 | [],_,h=>by obtain ⟨u,hu,_⟩:=h;cases hu
 | u :: l,k,h=>by
   by_cases e:n = u.name
   . exact ⟨0,by rw [find_step,if_pos e];rfl,by simp⟩
   . obtain ⟨v,hv,hn⟩:=h
     obtain ⟨j,h1,h2⟩:=find_yes n l (k + 1) (by
      rcases List.mem_cons.1 hv with rfl | hv
      . exact absurd hn.symm e
      . exact ⟨v,hv,hn⟩)
     exact ⟨j + 1,by rw [find_step,if_neg e,h1];congr 2;omega,by simpa using h2⟩
def WaitR (a:Ath):Prop:=a.s = 1/\1<=a.l/\a.l<=4/\0 < a.t \/ ¬ a.s = 1/\a.l = 0
instance (a:Ath):Decidable (WaitR a):=by unfold WaitR;infer_instance
def answersA (a:Ath) (l:List Usr) (name:ByteArray) (p:List Nat):Bool:=(secretU l name).2 && decide (p = digB a.id (secretU l name).1 a.v)
section
variable (Γ:Nat->Option (List Data))
theorem within_pc (s:ByteArray) (n:Int):PC Tryd.prog Γ 26 [.str s,.int .i64 n] (.bool (decide (1<=s.size/\(s.size:Int)<=n))):=by
 refine pc_by mixed Tryd.func26 rfl (fun args w=>Tryd.call26 args w) ?_
 by_cases h1:1<=s.size
 . by_cases h2:(s.size:Int)<=n
   . rw [decide_eq_true ⟨h1,h2⟩]
     simp -implicitDefEqProofs (disch:=omega) [go_sem,h2,Tryd.f26]
   . rw [decide_eq_false fun k=>h2 k.2]
     simp -implicitDefEqProofs (disch:=omega) [go_sem,h2,Tryd.f26]
 . rw [decide_eq_false fun k=>h1 k.1]
   simp -implicitDefEqProofs (disch:=omega) [go_sem,Tryd.f26]
set_option maxHeartbeats 4000000 in
theorem waitRight_pc (a:Ath):PC Tryd.prog Γ 30 [ath a] (.bool (decide (WaitR a))):=by
 refine pc_by mixed Tryd.func30 rfl (fun args w=>Tryd.call30 args w) ?_
 have hq:decide (WaitR a) = true ↔ WaitR a:=by simp
 generalize decide (WaitR a) = q at *
 unfold WaitR at hq
 have no:¬ (a.s = 1/\1<=a.l/\a.l<=4/\0 < a.t \/ ¬ a.s = 1/\a.l = 0)->q = false:=fun h=>by
  cases q
  . rfl
  . exact absurd (hq.1 rfl) h
 by_cases s1:a.s = 1
 . by_cases l1:1<=a.l
   . by_cases l4:a.l<=4
     . by_cases t1:0 < a.t
       . rw [hq.2 (.inl ⟨s1,l1,l4,t1⟩)]
         simp -implicitDefEqProofs (disch:=omega) [go_sem,ath,athC,s1,Tryd.f30]
       . rw [no fun k=>by omega]
         simp -implicitDefEqProofs (disch:=omega) [go_sem,ath,athC,s1,Tryd.f30]
     . rw [no fun k=>by omega]
       simp -implicitDefEqProofs (disch:=omega) [go_sem,ath,athC,s1,Tryd.f30]
   . rw [no fun k=>by omega]
     simp -implicitDefEqProofs (disch:=omega) [go_sem,ath,athC,s1,Tryd.f30]
 . by_cases l0:a.l = 0
   . rw [hq.2 (.inr ⟨s1,l0⟩)]
     simp -implicitDefEqProofs (disch:=omega) [go_sem,ath,athC,s1,l0,Tryd.f30]
   . rw [no fun k=>by omega]
     simp -implicitDefEqProofs (disch:=omega) [go_sem,ath,athC,s1,l0,Tryd.f30]
set_option maxHeartbeats 4000000 in
theorem pright15_pc (a:Ath) (h:a.Ty):PC Tryd.prog Γ 23 [ath a] (.bool (decide (RightT a))):=by
 refine pc_by mixed Tryd.func23 rfl (fun args w=>Tryd.call23 args w) ?_
 have hv:=h.v;have hp:=h.p
 have a16:a.v.take 16 = a.v:=List.take_of_length_le (Nat.le_of_eq hv)
 have p16:a.p.take 16 = a.p:=List.take_of_length_le (Nat.le_of_eq hp)
 have c1:=waitRight_pc Γ a
 have hr:RightT a ↔ (0<=a.t/\a.t<=4)/\(0<=a.s/\a.s<=3)/\WaitR a:=by unfold RightT WaitR;omega
 have hq:decide (RightT a) = true ↔ _:=Iff.trans (by simp) hr
 generalize decide (RightT a) = q at *
 have hw:decide (WaitR a) = true ↔ WaitR a:=by simp
 generalize decide (WaitR a) = u at *
 have no:¬ ((0<=a.t/\a.t<=4)/\(0<=a.s/\a.s<=3)/\WaitR a)->q = false:=fun h=>by
  cases q
  . rfl
  . exact absurd (hq.1 rfl) h
 by_cases s0:0<=a.s
 rotate_left
 . rw [no fun k=>by omega]
   simp -implicitDefEqProofs (disch:=omega) [go_sem,ath,athC,Tryd.f23]
 by_cases s3:a.s<=3
 rotate_left
 . rw [no fun k=>by omega]
   simp -implicitDefEqProofs (disch:=omega) [go_sem,ath,athC,Tryd.f23]
 by_cases t0:0<=a.t
 rotate_left
 . rw [no fun k=>by omega]
   simp -implicitDefEqProofs (disch:=omega) [go_sem,ath,athC,Tryd.f23]
 by_cases t4:a.t<=4
 rotate_left
 . rw [no fun k=>by omega]
   simp -implicitDefEqProofs (disch:=omega) [go_sem,ath,athC,Tryd.f23]
 have e:q = u:=by
  cases u
  . exact no fun k=>absurd (hw.2 k.2.2) (by simp)
  . exact hq.2 ⟨⟨t0,t4⟩,⟨s0,s3⟩,hw.1 rfl⟩
 subst e
 unfold ath athC at *
 simp -implicitDefEqProofs (disch:=omega) [go_sem,hv,hp,a16,p16,bys_length,cells_take33,allData_app]
 refine .inl (call_data c1 (by simp [go_sem]) ?_)
 simp -implicitDefEqProofs (disch:=omega) [go_sem,Tryd.f23]
set_option maxHeartbeats 4000000 in
theorem psecret_pc (l:List Usr) (name:ByteArray) (hl:l.length<=1000000000):PC Tryd.prog Γ 20 [.sl 2 (usrs l),.str name] (.tup [.str (secretU l name).1,.bool (secretU l name).2]):=by
 refine pc_by mixed Tryd.func20 rfl (fun args w=>Tryd.call20 args w) ?_
 simp -implicitDefEqProofs (disch:=omega) [go_sem]
 refine loop_ren (σ:={ i:Nat // i<=l.length/\∀ (j:Nat) (k:j < l.length),j < i->l[j].name≠name }) (fun i=>⟨envL [(1,.data (.str name)),(8,.data (.sl 2 (usrs l))),(9,.data (.int .i64 l.length)),(10,.data (.int .i64 i.1))],hpL [],0,0,21⟩) (fun i=>l.length - i.1) ⟨0,by omega,fun j _ k=>absurd k (Nat.not_lt_zero _)⟩ [] (rhoL []) ?_ ?_
 . apply ren_lists <;> simp -implicitDefEqProofs [go_sem]
 rintro ⟨i,hi,hall⟩
 by_cases h:i < l.length
 . by_cases he:l[i].name = name
   . have e:secretU l name = (l[i].secret,true):=by
      unfold secretU
      rw [usr_find l name i h hall he]
     rw [e]
     simp -implicitDefEqProofs (disch:=omega) [go_sem,usr,he,Tryd.f20]
   . simp -implicitDefEqProofs (disch:=omega) [go_sem,usr,he]
     refine next_ren ⟨i + 1,by omega,fun j kj hj=>by
      by_cases e:j = i
      . subst e;exact he
      . exact hall j kj (by omega)⟩ (by simp only;omega) [] (rhoL []) ?_
     apply ren_lists <;> simp -implicitDefEqProofs [go_sem]
 . have e:secretU l name = (emptyS,false):=by
    unfold secretU
    rw [List.find?_eq_none.2 fun u hu=>by
     obtain ⟨j,hj,rfl⟩:=List.getElem_of_mem hu
     simpa using hall j hj (by omega)]
   rw [e]
   simp -implicitDefEqProofs (disch:=omega) [go_sem,emptyS,Tryd.f20]
set_option maxHeartbeats 4000000 in
theorem pusers_pc (l:List Usr) (hl:l.length<=1000000000) {q:Bool} (hq:q = true ↔ UsersOk l):PC Tryd.prog Γ 19 [.sl 2 (usrs l)] (.bool q):=by
 refine pc_by mixed Tryd.func19 rfl (fun args w=>Tryd.call19 args w) ?_
 have no:¬ UsersOk l->q = false:=fun h=>by
  cases q
  . rfl
  . exact absurd (hq.1 rfl) h
 by_cases h8:8 < l.length
 . rw [no fun k=>by have:=k.1;omega]
   simp -implicitDefEqProofs (disch:=omega) [go_sem,Tryd.f19]
 simp -implicitDefEqProofs (disch:=omega) [go_sem]
 refine loop_ren (σ:={ i:Nat // i<=l.length/\(∀ (j:Nat) (k:j < l.length),j < i->okU l[j])/\∀ (a b:Nat) (ha:a < l.length) (hb:b < a),a < i->(l[b]'(by omega)).name≠l[a].name }) (fun i=>⟨envL [(3,.mref 0),(10,.data (.sl 2 (usrs l))),(11,.data (.int .i64 l.length)),(12,.data (.int .i64 i.1))],hpL [(0,.obj (.mp (names (l.take i.1)) (ones (l.take i.1))))],1,0,39⟩) (fun i=>l.length - i.1) ⟨0,by omega,fun j _ k=>absurd k (Nat.not_lt_zero _),fun a b _ _ k=>absurd k (Nat.not_lt_zero _)⟩ [] (rhoL [(0,some 4)]) ?_ ?_
 . apply ren_lists <;> simp -implicitDefEqProofs [go_sem,names,ones]
 rintro ⟨i,hi,hall,hdif⟩
 by_cases h:i < l.length
 rotate_left
 . have hy:UsersOk l:=by
    refine ⟨by omega,fun u hu=>?_,fun a b ha hb=>hdif a b ha hb (by omega)⟩
    obtain ⟨j,hj,rfl⟩:=List.getElem_of_mem hu
    exact hall j hj (by omega)
   rw [hq.2 hy]
   simp -implicitDefEqProofs (disch:=omega) [go_sem,Tryd.f19]
 have h16:=within_pc Γ l[i].name 16
 have h32:=within_pc Γ l[i].secret 32
 by_cases hd:∃ u∈l.take i,u.name = l[i].name
 . obtain ⟨j,hj,hjl⟩:=find_yes l[i].name (l.take i) 0 hd
   have hg:=ones_get (l.take i) j hjl
   have hg2:((ones (l.take i)).set j (.data (.int .i64 2)))[j]? = some (.data (.int .i64 2)):=by
    rw [List.getElem?_set_self (by rw [ones_length];exact hjl)]
   rw [Nat.zero_add] at hj
   rw [no fun k=>by
    obtain ⟨u,hu,hn⟩:=hd
    obtain ⟨b,hb,rfl⟩:=List.getElem_of_mem hu
    rw [List.length_take] at hb
    rw [List.getElem_take] at hn
    exact k.2.2 i b h (by omega) hn]
   generalize names (l.take i) = ns at *
   generalize ones (l.take i) = os at *
   simp -implicitDefEqProofs (disch:=omega) [-List.getElem?_set_self,go_sem,usr,hj,hg,hg2,Tryd.f19]
 have hnd:∀ u∈l.take i,u.name≠l[i].name:=fun u hu e=>hd ⟨u,hu,e⟩
 have hj:=find_no l[i].name (l.take i) 0 hnd
 have hn1:=names_snoc l i h
 have ho1:=ones_snoc l i h
 obtain ⟨k,hk,hkl⟩:=find_yes l[i].name (l.take (i + 1)) 0 ⟨l[i],by rw [List.take_add_one,List.getElem?_eq_getElem h,Option.toList_some];exact List.mem_append_right _ List.mem_cons_self,rfl⟩
 have hg:=ones_get (l.take (i + 1)) k hkl
 rw [Nat.zero_add] at hk
 generalize names (l.take i) = ns at *
 generalize ones (l.take i) = os at *
 generalize en1:names (l.take (i + 1)) = ns1 at *
 generalize eo1:ones (l.take (i + 1)) = os1 at *
 by_cases u1:1<=l[i].name.size/\(l[i].name.size:Int)<=16
 rotate_left
 . rw [no fun k=>u1 (by have:=k.2.1 _ (List.getElem_mem h);unfold okU at this;omega)]
   rw [decide_eq_false u1] at h16
   simp -implicitDefEqProofs (disch:=omega) [go_sem,usr,hj,hn1,ho1,hk,hg]
   refine .inl (call_data h16 (by simp [go_sem]) ?_)
   simp -implicitDefEqProofs (disch:=omega) [go_sem,Tryd.f19]
 rw [decide_eq_true u1] at h16
 by_cases u2:1<=l[i].secret.size/\(l[i].secret.size:Int)<=32
 rotate_left
 . rw [no fun k=>u2 (by have:=k.2.1 _ (List.getElem_mem h);unfold okU at this;omega)]
   rw [decide_eq_false u2] at h32
   simp -implicitDefEqProofs (disch:=omega) [go_sem,usr,hj,hn1,ho1,hk,hg]
   refine .inl (call_data h16 (by simp [go_sem]) ?_)
   simp -implicitDefEqProofs (disch:=omega) [go_sem]
   refine .inl (call_data h32 (by simp [go_sem]) ?_)
   simp -implicitDefEqProofs (disch:=omega) [go_sem,Tryd.f19]
 rw [decide_eq_true u2] at h32
 simp -implicitDefEqProofs (disch:=omega) [go_sem,usr,hj,hn1,ho1,hk,hg]
 refine .inl (call_data h16 (by simp [go_sem]) ?_)
 simp -implicitDefEqProofs (disch:=omega) [go_sem]
 refine .inl (call_data h32 (by simp [go_sem]) ?_)
 simp -implicitDefEqProofs (disch:=omega) [go_sem]
 refine next_ren ⟨i + 1,by omega,fun j kj hj=>by
  by_cases e:j = i
  . subst e;exact ⟨by omega,by omega,by omega,by omega⟩
  . exact hall j kj (by omega),fun a b ha hb hj=>by
  by_cases e:a = i
  . subst e
    have hm:=List.getElem_mem (l:=l.take a) (n:=b) (by rw [List.length_take];omega)
    rw [List.getElem_take] at hm
    exact hnd _ hm
  . exact hdif a b ha hb (by omega)⟩ (by simp only;omega) [] (rhoL [(0,some 0)]) ?_
 apply ren_lists <;> simp -implicitDefEqProofs [go_sem,en1,eo1]
 refine ⟨hn1.symm,by rw [<- ho1];simp,?_⟩
 rw [ho1]
 exact renCells_plain rfl (by rw [<- eo1];exact ones_plain _)
set_option maxHeartbeats 4000000 in
theorem pdigest_pc (hΓ:Tabs Γ) (id:Nat) (s:ByteArray) (v:List Nat) (hi8:id < 256) (hs:s.size<=100000000) (hv:V16 v):PC Tryd.prog Γ 21 [.int .u8 id,.str s,.agg (bys v)] (.agg (bys (digB id s v))):=by
 refine pc_by mixed Tryd.func21 rfl (fun args w=>Tryd.call21 args w) ?_
 have hsz:=txB_length s
 have hlt:=txB_lt s
 have hv1:=hv.1
 have c1:=Sf.concat_pc Γ [[id],txB s,v] (by simp) (by simp;omega) (by simp)
 have c2:=sum_pc Γ hΓ (id :: (txB s++v)) (by simp;omega) (fun x hx=>by
  rcases List.mem_cons.1 hx with h | h
  . omega
  . rcases List.mem_append.1 h with h | h
    . exact hlt x h
    . exact hv.2 x h)
 rw [show [[id],txB s,v].flatten = id :: (txB s++v) by simp] at c1
 unfold digB
 have ex:=tx_bys s
 generalize txB s = t at *
 have hS:=M5.sum_length (id :: (t++v))
 generalize M5.sum (id :: (t++v)) = S at *
 generalize id :: (t++v) = W at *
 simp -implicitDefEqProofs (disch:=omega) [go_sem,ex]
 refine .inl (call_frz [3,0,7] [3,0,7] (fun g hg=>?_) c1 (fun H' hH'=>?_) ?_)
 . simp only [List.mem_cons,List.not_mem_nil,or_false] at hg
   rcases hg with rfl | rfl | rfl <;> exact ⟨true,_,by simp [Hp.upd,Hp.set];rfl⟩
 . refine frzL_c (frz_rows (rw:=false) (cells:=[.ref 3 0 1 1,.data (.sl 1 (bys t)),.ref 0 0 16 1]) (by simp [Hp.upd,Hp.set,fz]) (.inr rfl) rfl (Sf.rws_cells _) ?_) frzL_n
   rw [Sf.flat_rws]
   exact frzL_c (frz_bys (rw:=false) (by simp [Hp.upd,Hp.set,fz,bys,u8]) (.inr rfl) rfl) (frzL_c (.data _) (frzL_c (frz_bys (rw:=false) (by simp [Hp.upd,Hp.set,fz]) (.inr rfl) hv1) frzL_n))
 simp -implicitDefEqProofs (disch:=omega) [go_sem]
 refine .inl (call_data c2 (by simp [go_sem]) ?_)
 simp -implicitDefEqProofs (disch:=omega) [go_sem,hS]
 rw [over_whole _ ((bys S).map D.data) (by simp [hS,bys_length])]
 simp -implicitDefEqProofs (disch:=omega) [go_sem,hS,Tryd.f21]
 rw [List.take_of_length_le (Nat.le_of_eq hS)]
end
end Ch
namespace Ch
open Pa
section
variable (Γ:Nat->Option (List Data))
def askA (a:Ath) (v:List Nat):Ath:=⟨1,a.t + 1,4,(a.id + 1) % 256,v,a.w,a.p⟩
theorem ask_ty {a:Ath} (h:a.Ty) {v:List Nat} (hv:V16 v):(askA a v).Ty:=⟨Nat.mod_lt _ (by decide),hv.1,hv.2,h.p,h.pb⟩
theorem ask_cells (a:Ath) (v:List Nat):athC (askA a v) = .int .i64 1 :: .int .i64 (a.t + 1) :: .int .i64 4 :: .int .u8 ((a.id + 1) % 256:Nat) :: (bys v++.str a.w :: bys a.p):=rfl
set_option maxHeartbeats 8000000 in
theorem ask_pc (a:Ath) (v:List Nat) (h:a.Ty) (ht:0<=a.t/\a.t<=4) (hv:V16 v):PC Tryd.prog Γ 25 [ath a,.agg (bys v)] (.tup [ath (askA a v),Pa.pk (challP ((a.id + 1) % 256) v)]):=by
 refine pc_byW Tryd.func25 rfl (fun args w=>Tryd.call25 args w) ?_
 simp only [startK]
 have av:=h.v;have ap:=h.p;have hid:=h.id;have hv1:=hv.1
 have e1:((a.id:Int) + 1) % 256 = (((a.id + 1) % 256:Nat):Int):=by omega
 have v16:v.take 16 = v:=List.take_of_length_le (Nat.le_of_eq hv1)
 have a16:a.v.take 16 = a.v:=List.take_of_length_le (Nat.le_of_eq av)
 have p16:a.p.take 16 = a.p:=List.take_of_length_le (Nat.le_of_eq ap)
 have c1:=Sf.concat_pc Γ [[16],v,nameV] (by simp) (by simp [nameV];omega) (by simp)
 rw [show [[16],v,nameV].flatten = 16 :: (v++nameV) by simp] at c1
 have hb:=ask_ty h hv
 have hbc:=ask_cells a v
 have lb:=ath_len hb
 have tb:=ath_take hb
 have ob:=over_ath hb
 unfold challP
 unfold Pa.pk at *
 have h3:(askA a v).id = (a.id + 1) % 256:=rfl
 generalize askA a v = b at *
 generalize (a.id + 1) % 256 = m at *
 generalize hW:16 :: (v++nameV) = W at *
 refine WP.seq mixed ?_
 simp -implicitDefEqProofs (disch:=omega) [go_sem,ath,athC]
 refine WP.seq mixed ?_
 simp -implicitDefEqProofs (disch:=omega) [go_sem,av,ap,hv1,v16,a16,p16,bys_length,over_v,allData_app]
 refine side (by kernel_rfl) ?_
 simp -implicitDefEqProofs (disch:=omega) [go_sem]
 refine WP.seq mixed ?_
 simp -implicitDefEqProofs (disch:=omega) [go_sem,e1]
 refine WP.seq mixed ?_
 simp -implicitDefEqProofs (disch:=omega) [go_sem]
 refine WP.weak (S:=⟨envL [(2,.ptr 0 0),(3,.ptr 1 0),(4,.ptr 2 0),(5,.ptr 3 0)],hpL [(0,.blk true ((athC b).map D.data)),(1,.blk true ((bys v).map D.data)),(2,.blk true zeroA),(3,.blk true [.data (.int .u8 0),.data (.int .u8 0),.emp 0])],4,0,30⟩) (join_ren [] (rhoL [(0,some 0),(1,some 1),(2,some 2),(3,some 3)]) ?_) ?_
 . apply ren_lists <;> simp -implicitDefEqProofs [go_sem,hbc,zeroA]
   refine ⟨?_,rfl⟩
   rw [cells_rest _ av]
   exact renCells_plain rfl (by rw [List.all_append,List.all_cons,plainB,plainB];rfl)
 unfold zeroA at *
 refine WP.code mixed ?_
 simp -implicitDefEqProofs (disch:=omega) [go_sem,lb,tb,v16,hv1,bys_length]
 refine .inl (call_frz [4,1,8] [4,1,8] (fun g hg=>?_) c1 (fun H' hH'=>?_) ?_)
 . simp only [List.mem_cons,List.not_mem_nil,or_false] at hg
   rcases hg with rfl | rfl | rfl <;> exact ⟨true,_,by simp [Hp.upd,Hp.set,hpL];rfl⟩
 . refine frzL_c (frz_rows (rw:=false) (cells:=[.ref 4 0 1 1,.ref 1 0 16 1,.data (.sl 1 (bys nameV))]) (by simp [Hp.upd,Hp.set,hpL,fz];rfl) (.inr rfl) rfl (Sf.rws_cells _) ?_) frzL_n
   rw [Sf.flat_rws]
   exact frzL_c (frz_bys (rw:=false) (by simp [Hp.upd,Hp.set,hpL,fz,bys,u8]) (.inr rfl) rfl) (frzL_c (frz_bys (rw:=false) (by simp [Hp.upd,Hp.set,hpL,fz]) (.inr rfl) hv1) (frzL_c (.data _) frzL_n))
 simp -implicitDefEqProofs (disch:=omega) [go_sem,lb,tb,ob]
 refine side (by kernel_rfl) ?_
 simp -implicitDefEqProofs (disch:=omega) [go_sem,lb,tb,ob,Tryd.f25]
 exact ⟨rfl,by rw [h3]⟩
set_option maxHeartbeats 4000000 in
theorem pbegin_pc (a:Ath) (v:List Nat) (h:a.Ty) (hv:V16 v):PC Tryd.prog Γ 16 [ath a,.agg (bys v)] (.tup [ath (beginA a v),Pa.pk (challP ((a.id + 1) % 256) v)]):=by
 refine pc_by mixed Tryd.func16 rfl (fun args w=>Tryd.call16 args w) ?_
 have la:=ath_len h
 have ta:=ath_take h
 have hid:=h.id;have hv1:=hv.1
 have v16:v.take 16 = v:=List.take_of_length_le (Nat.le_of_eq hv1)
 have c1:=ask_pc Γ ⟨0,0,0,a.id,List.replicate 16 0,emptyS,List.replicate 16 0⟩ v ⟨hid,v16_zero.1,v16_zero.2,v16_zero.1,v16_zero.2⟩ ⟨by simp,by simp⟩ hv
 rw [show askA ⟨0,0,0,a.id,List.replicate 16 0,emptyS,List.replicate 16 0⟩ v = beginA a v from rfl] at c1
 have hb:=begin_ty h hv
 have lb:=ath_len hb
 have tb:=ath_take hb
 have ob:=over_ath hb
 unfold zeroA at ob
 have e0:ath ⟨0,0,0,a.id,List.replicate 16 0,emptyS,List.replicate 16 0⟩ = .agg (.int .i64 0 :: .int .i64 0 :: .int .i64 0 :: .int .u8 a.id :: (bys (List.replicate 16 0)++.str emptyS :: bys (List.replicate 16 0))):=rfl
 rw [e0] at c1
 generalize beginA a v = b at *
 simp only at c1
 generalize challP ((a.id + 1) % 256) v = p at *
 unfold Pa.pk ath at *
 simp -implicitDefEqProofs (disch:=omega) [go_sem,la,ta,hv1,v16,bys_length]
 refine .inl (call_data c1 (by simp [go_sem,bys,u8,emptyS];rfl) ?_)
 simp -implicitDefEqProofs (disch:=omega) [go_sem,lb,tb,ob,Tryd.f16]
set_option maxHeartbeats 8000000 in
theorem pend_pc (a:Ath) (who:ByteArray) (proof:List Nat) (good:Bool) (h:a.Ty) (hp:proof.length = 16):PC Tryd.prog Γ 14 [ath a,.str who,.agg (bys proof),.bool good] (.tup [ath (endA a who proof good),Pa.pk (endP a good)]):=by
 refine pc_by mixed Tryd.func14 rfl (fun args w=>Tryd.call14 args w) ?_
 have av:=h.v;have ap:=h.p
 have p16:proof.take 16 = proof:=List.take_of_length_le (Nat.le_of_eq hp)
 have v16:a.v.take 16 = a.v:=List.take_of_length_le (Nat.le_of_eq av)
 have t17:∀ (w:D) (c:List D),((bys a.v).map D.data++w :: c).take 17 = (bys a.v).map D.data++[w]:=fun w c=>by
  rw [List.take_append,List.take_of_length_le (by simp [bys_length,av])]
  simp [bys_length,av]
 have d33:∀ (w:D),((bys a.v).map D.data++w :: (bys a.p).map D.data).drop 33 = []:=fun w=>List.drop_of_length_le (by simp [bys_length,av,ap])
 cases good
 . simp -implicitDefEqProofs (disch:=omega) [go_sem,ath,athC,av,ap,hp,p16,v16,bys_length,cells_at,cells_take,cells_take33,cells_drop,cells_rest,over_v,over_p,set_w,t17,d33,allData_app]
   refine side (by kernel_rfl) ?_
   simp -implicitDefEqProofs (disch:=omega) [go_sem,av,ap,hp,p16,v16,bys_length,cells_at,cells_take,cells_take33,cells_drop,cells_rest,over_v,over_p,set_w,t17,d33,allData_app,Tryd.f14]
   exact ⟨_,⟨_,_,rfl,rfl,_,rfl,frz_aggL (frzL_c (.data _) (frzL_c (.data _) (frzL_c (.emp 0 1) frzL_n)))⟩,rfl⟩
 . simp -implicitDefEqProofs (disch:=omega) [go_sem,ath,athC,av,ap,hp,p16,v16,bys_length,cells_at,cells_take,cells_take33,cells_drop,cells_rest,over_v,over_p,set_w,t17,d33,allData_app]
   refine side (by kernel_rfl) ?_
   simp -implicitDefEqProofs (disch:=omega) [go_sem,av,ap,hp,p16,v16,bys_length,cells_at,cells_take,cells_take33,cells_drop,cells_rest,over_v,over_p,set_w,t17,d33,allData_app]
   refine side (by kernel_rfl) ?_
   simp -implicitDefEqProofs (disch:=omega) [go_sem,av,ap,hp,p16,v16,bys_length,cells_at,cells_take,cells_take33,cells_drop,cells_rest,over_v,over_p,set_w,t17,d33,allData_app,Tryd.f14]
   exact ⟨_,⟨_,_,rfl,rfl,_,rfl,frz_aggL (frzL_c (.data _) (frzL_c (.data _) (frzL_c (.emp 0 1) frzL_n)))⟩,rfl⟩
end
end Ch
namespace Ch
open Pa
theorem ath_p {a:Ath} (h:a.Ty):((athC a).drop 21).take 16 = bys a.p:=by
 unfold athC
 show ((bys a.v++Data.str a.w :: bys a.p).drop 17).take 16 = _
 rw [List.drop_append,List.drop_of_length_le (by rw [bys_length,h.v];decide),bys_length,h.v]
 show (bys a.p).take 16 = _
 rw [List.take_of_length_le (by rw [bys_length,h.p];decide)]
theorem judge_eq (a:Ath) (l:List Usr) (p:Pk) (r:ByteArray × List Nat × Bool):judgeA a l p r = if r.2.2 = true/\a.s = 1/\p.i = a.id then (r.1,answersA a l r.1 r.2.1,true) else (emptyS,false,false):=by
 unfold judgeA answersA
 by_cases h:r.2.2 = true/\a.s = 1/\p.i = a.id
 . rw [if_pos h,if_pos h]
   cases (secretU l r.1).2 <;> simp
 . rw [if_neg h,if_neg h]
theorem proved_eq (a:Ath) (l:List Usr):provedA a l = (decide (a.s = 2) && answersA a l a.w a.p):=by
 unfold provedA answersA
 rw [Bool.and_assoc]
theorem secret_few {l:List Usr} (h:UsersOk l) (name:ByteArray):(secretU l name).1.size<=100000000:=by
 unfold secretU
 split
 . rename_i u hu
   have:=(h.2.1 u (List.mem_of_find?_eq_some hu)).2.2.2
   show u.secret.size<=_
   omega
 . simp [emptyS,ByteArray.size]
section
variable (Γ:Nat->Option (List Data))
set_option maxHeartbeats 8000000 in
theorem ptick_pc (a:Ath) (v:List Nat) (h:a.Ty) (hr:RightT a) (hv:V16 v):PC Tryd.prog Γ 17 [ath a,.agg (bys v)] (.tup [ath (tickT a v).1,.sl 3 ((tickT a v).2.map Pa.pk)]):=by
 refine pc_by mixed Tryd.func17 rfl (fun args w=>Tryd.call17 args w) ?_
 have av:=h.v;have ap:=h.p;have hid:=h.id;have hv1:=hv.1
 have v16:v.take 16 = v:=List.take_of_length_le (Nat.le_of_eq hv1)
 have a16:a.v.take 16 = a.v:=List.take_of_length_le (Nat.le_of_eq av)
 have p16:a.p.take 16 = a.p:=List.take_of_length_le (Nat.le_of_eq ap)
 by_cases s1:a.s = 1
 rotate_left
 . unfold tickT
   rw [if_pos s1]
   simp -implicitDefEqProofs (disch:=omega) [go_sem,ath,athC,s1,av,ap,hv1,v16,a16,p16,bys_length,cells_take33,allData_app,Tryd.f17]
   exact ⟨_,⟨_,_,rfl,rfl,_,rfl,.emp 3 3⟩,rfl⟩
 have hl:1<=a.l/\a.l<=4:=by unfold RightT at hr;omega
 by_cases l1:1 < a.l
 . unfold tickT
   rw [if_neg (by simp [s1]),if_pos l1]
   have hne:¬ a.l - 1 = 0:=by omega
   simp -implicitDefEqProofs (disch:=omega) [go_sem,ath,athC,s1,hne,av,ap,hv1,v16,a16,p16,bys_length,cells_take33,allData_app,Tryd.f17]
   exact ⟨_,⟨_,_,rfl,rfl,_,rfl,.emp 3 3⟩,by simp [ath,athC,s1,tupD]⟩
 have l2:a.l = 1:=by omega
 by_cases t4:a.t = 4
 . unfold tickT
   rw [if_neg (by simp [s1]),if_neg l1,if_pos t4]
   simp -implicitDefEqProofs (disch:=omega) [go_sem,ath,athC,s1,l2,t4,av,ap,hv1,v16,a16,p16,bys_length,cells_take33,allData_app,Tryd.f17]
   exact ⟨_,⟨_,_,rfl,rfl,_,rfl,.emp 3 3⟩,by simp [ath,athC,s1,l2,t4,tupD]⟩
 have eT:tickT a v = (askA a v,[challP ((a.id + 1) % 256) v]):=by
  unfold tickT
  rw [if_neg (by simp [s1]),if_neg l1,if_neg t4]
  show ((⟨a.s,_,_,_,_,_,_⟩:Ath),_) = _
  rw [s1];rfl
 rw [eT]
 have c1:=ask_pc Γ ⟨1,a.t,0,a.id,a.v,a.w,a.p⟩ v ⟨hid,av,h.vb,ap,h.pb⟩ hr.1 hv
 rw [show askA ⟨1,a.t,0,a.id,a.v,a.w,a.p⟩ v = askA a v from rfl] at c1
 have e0:ath ⟨1,a.t,0,a.id,a.v,a.w,a.p⟩ = .agg (.int .i64 1 :: .int .i64 a.t :: .int .i64 0 :: .int .u8 a.id :: (bys a.v++.str a.w :: bys a.p)):=rfl
 rw [e0] at c1
 have hb:=ask_ty h hv
 have lb:=ath_len hb
 have tb:=ath_take hb
 have ob:=over_ath hb
 unfold zeroA at ob
 have oc:over (D.data (.int .i64 1) :: D.data (.int .i64 a.t) :: D.data (.int .i64 0) :: D.data (.int .u8 a.id) :: ((bys a.v).map D.data++D.data (.str a.w) :: (bys a.p).map D.data)) 0 ((athC (askA a v)).map D.data) = (athC (askA a v)).map D.data:=over_whole _ _ (by simp [lb,bys_length,av,ap])
 have oe:athC a = Data.int .i64 a.s :: .int .i64 a.t :: .int .i64 a.l :: .int .u8 a.id :: (bys a.v++.str a.w :: bys a.p):=rfl
 generalize hB:askA a v = b at *
 simp only at c1
 generalize challP ((a.id + 1) % 256) v = p at *
 have ea:ath a = .agg (Data.int .i64 a.s :: .int .i64 a.t :: .int .i64 a.l :: .int .u8 a.id :: (bys a.v++.str a.w :: bys a.p)):=rfl
 rw [ea]
 unfold Pa.pk at *
 unfold ath at *
 simp -implicitDefEqProofs (disch:=omega) [go_sem,s1,l2,t4,av,ap,hv1,v16,a16,p16,bys_length,cells_take33,allData_app]
 refine .inl (call_data c1 (by simp [go_sem]) ?_)
 simp -implicitDefEqProofs (disch:=omega) [go_sem,lb,tb,ob,oc,av,ap,bys_length]
 refine side (by kernel_rfl) ?_
 simp -implicitDefEqProofs (disch:=omega) [go_sem,lb,tb,ob,oc,av,ap,bys_length,Tryd.f17]
 refine ⟨_,⟨_,_,rfl,rfl,_,rfl,frz_ref (rw:=true) (l:=[.agg [.int .u8 p.c,.int .u8 p.i,.sl 1 (bys p.d)]]) (cells:=[.data (.int .u8 p.c),.data (.int .u8 p.i),.data (.sl 1 (bys p.d))]) (by simp [go_sem]) (.inl rfl) rfl (fun x hx=>by simp at hx;subst hx;rfl) rfl⟩,rfl⟩
set_option maxHeartbeats 8000000 in
theorem panswer_pc (p:Pk) (hb:∀ x∈p.d,x < 256) (hl:p.d.length<=1000000000):PC Tryd.prog Γ 13 [Pa.pk p] (.tup [.str (answerP p).1,.agg (bys (answerP p).2.1),.bool (answerP p).2.2]):=by
 refine pc_by mixed Tryd.func13 rfl (fun args w=>Tryd.call13 args w) ?_
 unfold answerP Pa.pk
 by_cases hok:okP p = true
 rotate_left
 . rw [if_neg hok]
   have hc:¬ p.c = 2 \/ (p.c = 2/\p.d.length < 18) \/ (p.c = 2/\18<=p.d.length/\33 < p.d.length) \/ (p.c = 2/\18<=p.d.length/\p.d.length<=33/\∃ x r,p.d = x :: r/\¬ x = 16):=by
    by_cases c:p.c = 2
    rotate_left
    . exact .inl c
    by_cases c1:18<=p.d.length
    rotate_left
    . exact .inr (.inl ⟨c,by omega⟩)
    by_cases c2:p.d.length<=33
    rotate_left
    . exact .inr (.inr (.inl ⟨c,c1,by omega⟩))
    refine .inr (.inr (.inr ⟨c,c1,c2,?_⟩))
    unfold okP at hok
    rcases hd:p.d with _ | ⟨x,r⟩
    . simp [hd] at c1
    . refine ⟨x,r,rfl,fun e=>hok ?_⟩
      simp [c,hd,e] at *
      omega
   rcases hc with c | ⟨c,c1⟩ | ⟨c,c1,c2⟩ | ⟨c,c1,c2,x,r,hd,c3⟩
   . have c':¬ ((p.c:Nat):Int) = 2:=by omega
     simp -implicitDefEqProofs (disch:=omega) [go_sem,c',Tryd.f13]
     exact ⟨rfl,rfl⟩
   . simp -implicitDefEqProofs (disch:=omega) [go_sem,c,Tryd.f13]
     exact ⟨rfl,rfl⟩
   . simp -implicitDefEqProofs (disch:=omega) [go_sem,c,Tryd.f13]
     exact ⟨rfl,rfl⟩
   . have c':¬ ((x:Nat):Int) = 16:=by omega
     have g0:p.d[0]? = some x:=by rw [hd];rfl
     simp -implicitDefEqProofs (disch:=omega) [-getElem?_pos,go_sem,c,g0,c',Tryd.f13]
     exact ⟨rfl,rfl⟩
 rw [if_pos hok]
 have hq:p.c = 2/\18<=p.d.length/\p.d.length<=33/\p.d[0]? = some 16:=by
  unfold okP at hok
  simp only [Bool.and_eq_true,decide_eq_true_eq] at hok
  obtain ⟨a,b,c,d⟩:=hok
  exact ⟨a,b,c,by rw [<- d];cases p.d <;> rfl⟩
 obtain ⟨q1,q2,q3,q4⟩:=hq
 simp -implicitDefEqProofs (disch:=omega) [-getElem?_pos,go_sem,q1,q4]
 refine conv_bys (e:=5) (fun x hx=>hb x (List.mem_of_mem_drop hx)) (by simp [go_sem]) (by simp [go_sem]) (by simp [go_sem]) ?_
 have eV:(bys (p.d.take 17)).tail = bys ((p.d.drop 1).take 16):=by
  unfold bys
  rw [<- List.map_tail,<- List.drop_one,List.drop_take]
 have hVl:((p.d.drop 1).take 16).length = 16:=by rw [List.length_take,List.length_drop];omega
 generalize (p.d.drop 1).take 16 = V at *
 have hVt:V.take 16 = V:=List.take_of_length_le (Nat.le_of_eq hVl)
 simp -implicitDefEqProofs (disch:=omega) [go_sem,eV,hVl,hVt,bys_length]
 rw [over_whole _ ((bys V).map D.data) (by simp [hVl,bys_length])]
 refine side (by kernel_rfl) ?_
 simp -implicitDefEqProofs (disch:=omega) [go_sem,hVl,hVt,bys_length,Tryd.f13]
set_option maxHeartbeats 8000000 in
theorem answers_pc (hΓ:Tabs Γ) (a:Ath) (l:List Usr) (name:ByteArray) (p:List Nat) (h:a.Ty) (hu:UsersOk l) (hp:V16 p):PC Tryd.prog Γ 24 [ath a,.sl 2 (usrs l),.str name,.agg (bys p)] (.bool (answersA a l name p)):=by
 refine pc_by mixed Tryd.func24 rfl (fun args w=>Tryd.call24 args w) ?_
 have la:=ath_len h
 have ta:=ath_take h
 have va:=ath_v h
 have hl1:=hu.1
 have hp1:=hp.1
 have pt:p.take 16 = p:=List.take_of_length_le (Nat.le_of_eq hp.1)
 have c1:=psecret_pc Γ l name (by omega)
 have c2:=pdigest_pc Γ hΓ a.id (secretU l name).1 a.v h.id (secret_few hu name) ⟨h.v,h.vb⟩
 unfold answersA
 have hdl:=dig_length a.id (secretU l name).1 a.v
 have hdb:∀ x∈digB a.id (secretU l name).1 a.v,x < 256:=M5.sum_lt _
 generalize digB a.id (secretU l name).1 a.v = dg at *
 generalize secretU l name = S at *
 obtain ⟨sec,known⟩:=S
 simp only at *
 unfold ath
 cases known
 . simp -implicitDefEqProofs (disch:=omega) [go_sem,la,ta]
   refine .inl (call_data c1 (by simp [go_sem]) ?_)
   simp -implicitDefEqProofs (disch:=omega) [go_sem]
   refine side (by kernel_rfl) ?_
   simp -implicitDefEqProofs (disch:=omega) [go_sem,Tryd.f24]
 . simp -implicitDefEqProofs (disch:=omega) [go_sem,la,ta]
   refine .inl (call_data c1 (by simp [go_sem]) ?_)
   simp -implicitDefEqProofs (disch:=omega) [go_sem,la,ta,va,hp1,pt,bys_length]
   refine .inl (call_data c2 (by simp [go_sem]) ?_)
   simp -implicitDefEqProofs (disch:=omega) [go_sem,hp1,pt,bys_length]
   refine eqK_ints arr16 hp1 hdl hp.2 hdb ?_
   simp -implicitDefEqProofs (disch:=omega) [go_sem]
   refine side (by kernel_rfl) ?_
   simp -implicitDefEqProofs (disch:=omega) [go_sem,Tryd.f24]
set_option maxHeartbeats 8000000 in
theorem pproved_pc (hΓ:Tabs Γ) (a:Ath) (l:List Usr) (h:a.Ty) (hu:UsersOk l):PC Tryd.prog Γ 15 [ath a,.sl 2 (usrs l)] (.bool (provedA a l)):=by
 refine pc_by mixed Tryd.func15 rfl (fun args w=>Tryd.call15 args w) ?_
 have la:=ath_len h
 have ta:=ath_take h
 have pa:=ath_p h
 have wa:=ath_20 h
 have c1:=answers_pc Γ hΓ a l a.w a.p h hu ⟨h.p,h.pb⟩
 rw [proved_eq]
 generalize answersA a l a.w a.p = q at *
 unfold ath at *
 by_cases s2:a.s = 2
 rotate_left
 . rw [decide_eq_false s2]
   simp -implicitDefEqProofs (disch:=omega) [go_sem,la,ta,s2,Tryd.f15]
 rw [decide_eq_true s2]
 simp -implicitDefEqProofs (disch:=omega) [go_sem,la,ta,s2,pa,wa,bys_length]
 refine .inl (call_data c1 (by simp [go_sem]) ?_)
 simp -implicitDefEqProofs (disch:=omega) [go_sem,Tryd.f15]
set_option maxHeartbeats 8000000 in
theorem pjudge_pc (hΓ:Tabs Γ) (a:Ath) (l:List Usr) (p:Pk) (h:a.Ty) (hu:UsersOk l) (tp:p.Ty) (pl:p.d.length<=100):PC Tryd.prog Γ 12 [ath a,.sl 2 (usrs l),Pa.pk p] (.tup [.str (judgeA a l p (answerP p)).1,.bool (judgeA a l p (answerP p)).2.1,.bool (judgeA a l p (answerP p)).2.2]):=by
 refine pc_by mixed Tryd.func12 rfl (fun args w=>Tryd.call12 args w) ?_
 have la:=ath_len h
 have ta:=ath_take h
 have c0:=panswer_pc Γ p tp.d (by omega)
 have hr:=answer_v16 tp
 have c1:=answers_pc Γ hΓ a l (answerP p).1 (answerP p).2.1 h hu hr
 rw [judge_eq]
 generalize answerP p = r at *
 obtain ⟨name,v,is⟩:=r
 simp only at *
 have hr1:=hr.1
 have rt:v.take 16 = v:=List.take_of_length_le (Nat.le_of_eq hr1)
 have zl:(bys (List.replicate 16 0)).map D.data = [.data (.int .u8 0),.data (.int .u8 0),.data (.int .u8 0),.data (.int .u8 0),.data (.int .u8 0),.data (.int .u8 0),.data (.int .u8 0),.data (.int .u8 0),.data (.int .u8 0),.data (.int .u8 0),.data (.int .u8 0),.data (.int .u8 0),.data (.int .u8 0),.data (.int .u8 0),.data (.int .u8 0),.data (.int .u8 0)]:=rfl
 have ov:=over_whole ((bys (List.replicate 16 0)).map D.data) ((bys v).map D.data) (by simp [hr1,bys_length])
 rw [zl] at ov
 generalize answersA a l name v = q at *
 unfold ath Pa.pk at *
 cases is
 . rw [if_neg fun k=>by cases k.1]
   simp -implicitDefEqProofs (disch:=omega) [go_sem,la,ta]
   refine .inl (call_data c0 (by simp [go_sem]) ?_)
   simp -implicitDefEqProofs (disch:=omega) [go_sem,hr1,rt,ov,bys_length,Tryd.f12]
   rfl
 by_cases s1:a.s = 1
 rotate_left
 . rw [if_neg fun k=>s1 k.2.1]
   simp -implicitDefEqProofs (disch:=omega) [go_sem,la,ta]
   refine .inl (call_data c0 (by simp [go_sem]) ?_)
   simp -implicitDefEqProofs (disch:=omega) [go_sem,la,ta,s1,hr1,rt,ov,bys_length,Tryd.f12]
   rfl
 by_cases pi:p.i = a.id
 rotate_left
 . rw [if_neg fun k=>pi k.2.2]
   have pi2:¬ ((p.i:Nat):Int) = a.id:=by omega
   simp -implicitDefEqProofs (disch:=omega) [go_sem,la,ta]
   refine .inl (call_data c0 (by simp [go_sem]) ?_)
   simp -implicitDefEqProofs (disch:=omega) [go_sem,la,ta,s1,pi2,hr1,rt,ov,bys_length,Tryd.f12]
   rfl
 rw [if_pos ⟨rfl,s1,pi⟩]
 simp -implicitDefEqProofs (disch:=omega) [go_sem,la,ta]
 refine .inl (call_data c0 (by simp [go_sem]) ?_)
 simp -implicitDefEqProofs (disch:=omega) [go_sem,la,ta,s1,pi,hr1,rt,ov,bys_length]
 refine .inl (call_data c1 (by simp [go_sem]) ?_)
 simp -implicitDefEqProofs (disch:=omega) [go_sem,Tryd.f12]
theorem progC (hΓ:Tabs Γ):ProgC Γ where
 right a h:=pright15_pc Γ a h
 users l q hl _ hq:=pusers_pc Γ l (by omega) hq
 secret l name hu _:=psecret_pc Γ l name (by have:=hu.1;omega)
 digest id s v hi hs hv:=pdigest_pc Γ hΓ id s v hi (by omega) hv
 begin_ a v h _ hv:=pbegin_pc Γ a v h hv
 tick a v h hr hv:=ptick_pc Γ a v h hr hv
 answer p hp hl:=panswer_pc Γ p hp.d (by omega)
 judge a l p h _ hu hp hl:=pjudge_pc Γ hΓ a l p h hu hp hl
 end_ a who proof good h _ _ hp:=pend_pc Γ a who proof good h hp.1
 proved a l h _ hu:=pproved_pc Γ hΓ a l h hu
end
end Ch
section
variable (Γ:Nat->Option (List Data))
theorem law_ChapOnce (hΓ:Tabs Γ) {x0:Data} (a0:argD Tryd.prog 8 49 x0):PC Tryd.prog Γ 6 [x0] (.bool true):=Ch.at_ChapOnce Γ (Ch.progC Γ hΓ) a0
theorem law_ChapRead (hΓ:Tabs Γ) {x0:Data} (a0:argD Tryd.prog 8 46 x0):PC Tryd.prog Γ 5 [x0] (.bool true):=Ch.at_ChapRead Γ (Ch.progC Γ hΓ) a0
theorem law_ChapProves (hΓ:Tabs Γ) {x0 x1 x2:Data} (a0:argD Tryd.prog 8 24 x0) (a1:argD Tryd.prog 8 25 x1) (a2:argD Tryd.prog 8 28 x2):PC Tryd.prog Γ 3 [x0,x1,x2] (.bool true):=Ch.at_ChapProves Γ (Ch.progC Γ hΓ) a0 a1 a2
theorem law_ChapEnds (hΓ:Tabs Γ) {x0 x1 x2:Data} (a0:argD Tryd.prog 8 24 x0) (a1:argD Tryd.prog 8 22 x1) (a2:argD Tryd.prog 8 5 x2):PC Tryd.prog Γ 4 [x0,x1,x2] (.bool true):=Ch.at_ChapEnds Γ (Ch.progC Γ hΓ) a0 a1 a2
theorem law_ChapUsers (hΓ:Tabs Γ) {x0 x1 x2:Data} (a0:argD Tryd.prog 8 25 x0) (a1:argD Tryd.prog 8 5 x1) (a2:argD Tryd.prog 8 9 x2):PC Tryd.prog Γ 7 [x0,x1,x2] (.bool true):=Ch.at_ChapUsers Γ (Ch.progC Γ hΓ) a0 a1 a2
theorem law_ChapGood (hΓ:Tabs Γ) {x0 x1 x2:Data} (a0:argD Tryd.prog 8 24 x0) (a1:argD Tryd.prog 8 25 x1) (a2:argD Tryd.prog 8 5 x2):PC Tryd.prog Γ 8 [x0,x1,x2] (.bool true):=Ch.at_ChapGood Γ (Ch.progC Γ hΓ) a0 a1 a2
end
end Go.Proofs.YtafcdeegcfmcpaaDoor
