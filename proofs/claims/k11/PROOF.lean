import PyProof.Rows.All
import Wide.All
import OpenK.AllK
import Wide.FinOn
import Lean
import PyProof.EqAt
import PyProof.EqKinds
import PyProof.TupleCall
import PyProof.NeKinds
import PyProof.SumWalk
import PyProof.StrWalks
import PyProof.FString5
import PyProof.StrOps
import PyProof.StrBlock
import PyProof.CallStr
import PyProof.FactsAll.zip_1
import PyProof.AttrMissSeq
import KE.KDictOf
import PyProof.Rows.TupIter
import PyProof.Rows.TopTwo
import KE.KTryDeep
import PyProof.MeetsDict
import PyProof.TupleOfGen
import PyProof.CollectIter
import KE.KRevIter
import PyProof.ZipIter
import PyProof.DictItems
import PyProof.DictWalks
import KE.KPairComp
import KE.KSortTup
import PyProof.Rows.SetFrom
import PyProof.WalksMore
import PySem.Challenge.RW_turtlehouse_k11_good_programs
set_option Elab.async false
set_option linter.all false
set_option maxRecDepth 100000
set_option maxHeartbeats 4000000
set_option hygiene false in
local macro_rules | `(tactic| walk_at "b0") => `(tactic| (
 show wpAny _ _ (field (.ref z) 2 >>= _) _ _ _
 refine wpAny_bind (wpAny_field hz rfl (x:= .bool false) rfl ?_)
 show wpAny _ _ (field (.ref z) 3 >>= _) _ _ _
 refine wpAny_bind (wpAny_field hz rfl (x:= .ref TI) rfl (wpAny_bind (wpAny_seqItems ti rfl ?_)))
 show wpAny _ _ (Builtin.SmallTypes.ownedTupleIsFree (.ref z) >>= _) _ _ _
 refine wpAny_bind ?_
 unfold Builtin.SmallTypes.ownedTupleIsFree
 refine wpAny_bind (wpAny_field hz rfl (x:= .none) rfl (wpAny_pure ?_))
 simp only [if_true]
 refine wpAny_bind (wpAny_rule (wpAny_bind (wpAny_field hz rfl (x:= .ref TO) rfl (wpAny_bind (wpAny_setField_rec hz (by simp) fun g1 z1 e1=> ?_)))))
 replace z1:FD g1 z TI TO .ellipsis (.bool false):=z1
 have e1:=e1.extBut
 refine wpAny_bind ?_
 simp only [List.zipIdx_cons,List.zipIdx_nil,List.forIn_cons,List.forIn_nil]
 refine wpAny_bind (wpAny_bind (wpAny_onRaise ?_))
 show wpAny _ _ (Builtin.SmallTypes.nextOf (.ref i1) >>= _) _ _ _))
set_option hygiene false in
local macro_rules | `(tactic| walk_at "b1") => `(tactic| (
 obtain ⟨it,fp,tn,J,H1,e,I2,T,st2,f2,hW⟩:=h2
 subst e
 refine wpAny_newObj_type (wpAny_newFunctionEnv ok.cell (by intro y hy;simp at hy) (fun h₁ hns₁ hsb₁=> ?_) ok.kind)
 dsimp only at hns₁ hsb₁ ⊢
 have hfr:H1 s2.heap.objs.size=none:=I2.fresh
 have I3:=I2.lnew (ys:=[]) (its:=[]) (t':=s2.toks) .nil (Nat.zero_le _)
 generalize hs3:({ s2 with heap:=s2.heap.push { cls:= .type "list",data:= .seq ([]:List Value).toArray },toks:=s2.toks }:Shared)=s₃ at I3
 have eh:s2.heap.push { cls:= .type "list",dict:=none,data:= .seq ([]:List Value).toArray }=s₃.heap:=by rw [← hs3]
 rw [eh] at hns₁ hsb₁ ⊢
 have k23:∀ b o,s2.heap.get? b=some o→s₃.heap.get? b=some o:=fun b o q=>by rw [← eh];exact Heap.get?_push_of_some _ q))
set_option hygiene false in
local macro_rules | `(tactic| walk_at "b2") => `(tactic| (
 have sz3:s2.heap.objs.size≤s₃.heap.objs.size:=by rw [← eh,Heap.size_push];exact Nat.le_succ _
 have f3:∀ b∈fp,KM X pins (upd H1 s2.heap.objs.size (.lst [])) b:=fun b hb=>⟨by rw [BA (Nat.ne_of_lt (lt2 b hb))];exact (f2 b hb).1,(f2 b hb).2⟩
 have k34:∀ b o,s₃.heap.get? b=some o→h₁.get? b=some o:=fun b o q=>hsb₁.extBut b o (Nat.ne_of_lt (Heap.lt_size q)) (Heap.get?_push_of_some _ q)
 have I4:=RS (t':=s₃.toks) hc hsc hN ok I3 f3 (fun b hb=>Nat.lt_of_lt_of_le (lt2 b hb) sz3) hns₁ k34
 generalize hX':cxC X scope (ES X.env.cells scope.names []) N s₃ (upd H1 s2.heap.objs.size (.lst [])) fp=X' at I4
 obtain ⟨W,⟨m0,w0⟩,turn⟩:=hW _ hfr
 have st4:tn 0 h₁:=T.keep _ _ _ st2 fun b hb o q=>k34 b o (k23 b o q)))
set_option hygiene false in
local macro_rules | `(tactic| walk_at "b3") => `(tactic| (
 have ePr:X'.prog=X.prog:=by subst hX';rfl
 have eW:X'.w=X.w:=by subst hX';rfl
 have eK:X'.K=X.K:=by subst hX';rfl
 have eA:X'.A=X.A:=by subst hX';rfl
 have eE:X'.env=compEnvC scope (ES X.env.cells scope.names []) s₃.heap.objs.size X.env:=by subst hX';rfl
 have eC:X'.calm=true:=by subst hX';rfl
 have eX:X'.xe=fun _ _=>False:=by subst hX';rfl
 have hg':PG X' tg g:=by subst hX';exact hg _ _ _ _
 have ht':XL X' ifs tt:=by subst hX';exact ht _ _ _ _
 have he':PE X' elt te:=by subst hX';exact he _ _ _ _))
set_option hygiene false in
local macro_rules | `(tactic| walk_at "b4") => `(tactic| (
 rw [if_pos rfl] at q9 ⊢
 have e9:=he' _ s9 σ8 H9 _ I9 q9
 rw [eX] at e9
 refine thn e9 fun y s10 ⟨z,H10,I10,r10,ys,hy,hlen,m',hm,w10⟩=> ?_
 have a10:=JT (X:=X') _ s10 σ8 H10 (.ref s2.heap.objs.size) [z] _ _ (fun _ H11=>H11=upd H10 s2.heap.objs.size (.lst (ys++[z]))) I10 rfl (.cons r10 .nil) ⟨_,ys,z,rfl,rfl,hy,hlen,rfl⟩
 rw [eX] at a10
 refine thn a10 fun _ s11 ⟨_,H11,I11,_,e11⟩=> ?_
 subst e11
 exact ⟨m',hm,i+1,σ8,_,I11.unpinned,(again I11).1,(again I11).2,w10⟩))
set_option hygiene false in
local macro_rules | `(tactic| walk_at "b5") => `(tactic| (
 show wpAny _ _ (field (.ref i) 0 >>= _) _ _ _
 refine wpAny_bind (wpAny_field p1 p3 (x:= .ref t) rfl ?_)
 show wpAny _ _ (if (Value.ref t == Value.none)=true then _ else _) _ _ _
 rw [if_neg (show ¬ (Value.ref t == Value.none)=true by simp)]
 show wpAny _ _ (field (.ref i) 1 >>= _) _ _ _
 refine wpAny_bind (wpAny_field p1 p3 (x:= .int k 0) rfl ?_)
 show wpAny _ _ (seqItems? (.ref t) >>= _) _ _ _
 refine wpAny_bind (wpAny_seqItems q1 q2 ?_)
 simp only [Int.toNat_natCast,hx]))
set_option hygiene false in
local macro_rules | `(tactic| walk_at "b6") => `(tactic| (
 rw [eX] at this
 rw [← ePr,← eW] at this
 refine thn this fun r s6 ⟨u,hr,h6⟩=> ?_
 subst hr
 dsimp only
 refine thn h6 fun _ s7 ⟨x,H7,I7,r7,y7,st7,fr7⟩=> ?_
 have I7':=I7.pinned (stat fr7) (T.obj _ _ st7)
 have g7:=hg' _ s7 σ5 H7 x u _ I7' r7 (step x H7 y7)
 rw [eX] at g7
 refine thn g7 fun _ s8 ⟨σ8,H8,I8,q8⟩=> ?_
 have t8:=ht' _ s8 σ8 H8 _ I8 q8
 rw [eX] at t8))
set_option hygiene false in
local macro_rules | `(tactic| walk_at "b7") => `(tactic| (
 intro pins s σ H x y v u Q I rx ry h))
set_option hygiene false in
local macro_rules | `(tactic| walk_at "b8") => `(tactic| (
 obtain ⟨a,xs,rfl,ha,la⟩:=BL.mp hx
 cases rx
 obtain ⟨t,rfl⟩:=ry
 obtain ⟨its,r1,p1,_⟩:=I.tuple ha
 obtain ⟨⟨cls,dd,data,sl⟩,e,hc,n,hd⟩:=id p1
 simp only at hc hd
 subst hc hd))
set_option hygiene false in
local macro_rules | `(tactic| walk_at "b9") => `(tactic| (
 exact ⟨_,hR2,_,hz,by decide,fun p1 hp1=>⟨_,SqL.of ((hR.same s2).same (AI.upd hp1)).h,_,hz,by decide,by decide,fun p2 hp2=>⟨by decide,fun p3 hp3=>ag p1 p2 p3 hp1 hp2 hp3⟩⟩⟩))
set_option hygiene false in
local macro_rules | `(tactic| walk_at "b10") => `(tactic| (
 intro X hP hw hK hc i pins s σ H E I hf st hg
 subst hP hw hK))
set_option hygiene false in
local macro_rules | `(tactic| walk_at "b11") => `(tactic| (
 have es:({ s2 with heap:=h₁,toks:=s2.toks+([]:List (Str×Value)).length }:Shared)={ s₃ with heap:=h₁,toks:=s₃.toks }:=by rw [← hs3];rfl
 rw [show ({ s2 with heap:=h₁,toks:=s2.toks+([]:List (Str×Value)).length }:Shared)={ s₃ with heap:=h₁,toks:=s₃.toks } from es]
 exact codeAny_compStart_list loop (T.self _ 0 _ _ _ st4 loop)))
set_option hygiene false in
local macro_rules | `(tactic| walk_at "b12") => `(tactic| (
 obtain ⟨v,e,r⟩:=h.at (j:=i) (by rw [List.length_map];exact hb)
 rw [hx] at e;cases e
 rw [List.getD_eq_getElem?_getD,List.getElem?_map,List.getElem?_eq_getElem hb] at r))
set_option hygiene false in
local macro_rules | `(tactic| walk_at "b13") => `(tactic| (
 refine ⟨fun i m σ H=>m=xs.length - i∧i≤xs.length∧Pv i σ H,⟨xs.length,by simp,Nat.zero_le _,h0⟩,?_⟩))
set_option hygiene false in
local macro_rules | `(tactic| walk_at "b14") => `(tactic| (
 refine ⟨a,b,fun c1 h1=> ?_⟩
 have:=List.all_eq_true.mp c c1 h1
 rw [Bool.and_eq_true] at this
 exact ⟨of_decide_eq_true this.1,of_decide_eq_true this.2⟩))
set_option hygiene false in
local macro_rules | `(tactic| walk_at "b15") => `(tactic| (
 obtain ⟨p,p1,p2,p3⟩:=id hi
 obtain ⟨q,q1,_,n,q2⟩:=ht
 unfold Builtin.SmallTypes.nextOf
 refine wpAny_bind (wpAny_callSpecial?_slot (name:=Str.ofString "__next__") hi.typeIs slot_tupleiter_next (wpAny_call_entry slot_tupleiter_next hi.typeIs entry_tupleiter_next ?_ (args_tupleiter_next _)))))
set_option hygiene false in
local macro_rules | `(tactic| walk_at "b16") => `(tactic| (
 intro prog w A R s ⟨e,h⟩
 show wpAny _ _ (asIndex (.int k t) >>= _) _ _ s
 refine wpAny_bind ?_
 rw [show asIndex (.int k t)=pure k from rfl]
 refine wpAny_pure ?_
 dsimp only
 rw [if_neg (by simp;omega)]
 refine wpAny_bind (wpAny_tupleItemsOf e rfl ?_)
 try dsimp only))
set_option hygiene false in
local macro_rules | `(tactic| walk_at "b17") => `(tactic| (
 refine ⟨T.keep _ _ _ st7 fun b hb o e=>(I9.pin (b,o) (List.mem_append_right _ (List.mem_append_right _ (EE hb e)))).1,fun b hb=> ?_⟩
 obtain ⟨o,e,d⟩:=T.obj _ _ st7 b hb
 exact (I9.pin (b,o) (List.mem_append_right _ (List.mem_append_right _ (EE hb e)))).2.1))
set_option hygiene false in
local macro_rules | `(tactic| walk_at "b18") => `(tactic| (
 intro pins s σ H Q I h))
set_option hygiene false in
local macro_rules | `(tactic| walk_at "b19") => `(tactic| (
 obtain ⟨f0,f1,f2,f3,f4,f5⟩:=hf it (by simp)))
set_option hygiene false in
local macro_rules | `(tactic| walk_at "b20") => `(tactic| (
 refine OD (fun n s'=>∃ i σ' H',Inv X' [] σ' H' s'∧tn i s'.heap∧(∀ b∈fp,H' b=none)∧W i n σ' H') ?_ m0 ⟨0,_,_,I4,st4,fun b hb=>(f3 b hb).1,w0⟩
 rintro n s5 ⟨i,σ5,H5,I5,st5,fr5,w5⟩
 rw [← ePr,← eW,← eA,← eE]))
set_option hygiene false in
local macro_rules | `(tactic| walk_at "b21") => `(tactic| (
 simp only [Bool.false_eq_true,if_false]
 simp only [List.forIn_toArray,List.forIn_cons,List.forIn_nil]
 refine wpAny_bind (wpAny_bind (wpAny_bind (wpAny_holding ?_)))
 show wpAny _ _ (Builtin.SmallTypes.nextOf (.ref i1) >>= _) _ _ _))
set_option hygiene false in
local macro_rules | `(tactic| walk_at "b22") => `(tactic| (
 unfold Builtin.Tuple.tupleIsExact
 refine wpAny_bind (wpAny_bind (wpAny_typeOf (show s.TypeIs (.ref l) "tuple" from ⟨_,e,rfl⟩) (wpAny_pure ?_)))
 rw [if_pos (by decide)]
 refine wpAny_bind (wpAny_rule ?_)
 exact wpAny_pure h))
set_option hygiene false in
local macro_rules | `(tactic| walk_at "b23") => `(tactic| (
 obtain ⟨rfl,rfl⟩:=hb
 rw [if_neg (by decide)]
 refine wpAny_pure ?_
 dsimp only))
set_option hygiene false in
local macro_rules | `(tactic| walk_at "b24") => `(tactic| (
 have e:b=s1.heap.objs.size:=by simpa using hb
 subst e
 exact I1.fpOk (Nat.le_refl _) (I1.hok.fresh (Nat.le_refl _))))
set_option hygiene false in
local macro_rules | `(tactic| walk_at "b25") => `(tactic| (
 have e:b=it:=by simpa using hb
 subst e
 obtain ⟨o,e,c,d⟩:=st
 exact ⟨o,e,fun v z=>by rw [d] at z;cases z⟩))
set_option hygiene false in
local macro_rules | `(tactic| walk_at "b26") => `(tactic| (
 unfold pyNext
 refine wpAny_bind (wpAny_attempt (wpAny_callSpecial?_slot (name:=Str.ofString "__next__") ty F.slot_zip_next (wpAny_call_entry F.slot_zip_next ty F.entry_zip_next ?_ (F.args_zip_next_1 _))))))
set_option hygiene false in
local macro_rules | `(tactic| walk_at "b27") => `(tactic| (
 refine ⟨fun i m σ H=>m=min xs.length ys.length - i∧i≤min xs.length ys.length∧Pv i σ H,⟨_,rfl,Nat.zero_le _,h0⟩,?_⟩
 rintro i m σ H ⟨rfl,hi,q⟩
 obtain ⟨w1,w2⟩:=hl i σ H hi q))
set_option hygiene false in
local macro_rules | `(tactic| walk_at "b28") => `(tactic| (
 obtain ⟨its,r,ht,hz⟩:=I.tuple hx
 have hlen:its.toArray.size=xs.length:=by rw [List.size_toArray];exact r.length.symm
 refine ⟨"tuple",_,PyProof.Rows.slot_tuple_getitem.lookup,ht.typeIs,?_⟩))
set_option hygiene false in
local macro_rules | `(tactic| walk_at "b29") => `(tactic| (
 rw [show its.toArray.any (eqU x)=its.any (eqU x) by simp,JE r fs]
 exact q))
set_option hygiene false in
local macro_rules | `(tactic| walk_at "b30") => `(tactic| (
 obtain ⟨t,rfl⟩:=rx
 obtain ⟨t',rfl⟩:=ry))
set_option hygiene false in
local macro_rules | `(tactic| walk_at "b31") => `(tactic| (
 have e2:=e2.extBut
 have o2:IsPair g2 TO a b:=e2 _ _ D.TOi1 (e1 _ _ D.TOz tt)
 refine wpAny_bind (wpAny_seqItems o2 rfl (wpAny_bind (wpAny_updateSeq_pair o2 fun g3 o3 e3=> ?_)))))
set_option hygiene false in
local macro_rules | `(tactic| walk_at "b32") => `(tactic| (
 walk_at "ro"
 refine ⟨l,ns,rfl,g.hl,g.d,fun z1 m1 H1 z10 z11 l1 f1=> ?_⟩
 have g1:=g.dkf f1))
set_option hygiene false in
local macro_rules | `(tactic| walk_at "b33") => `(tactic| (
 rw [if_neg (by decide)]
 obtain ⟨o,e,c,n',d⟩:=ht
 rw [seqItems?.eq_1]
 refine wpAny_bind (wpAny_bind (wpAny_load e ?_))
 rw [d]
 refine wpAny_pure ?_
 refine wpAny_bind ?_))
set_option hygiene false in
local macro_rules | `(tactic| walk_at "b34") => `(tactic| (
 have e3:=e3.extBut
 refine wpAny_bind (wpAny_letGo (wpAny_pure (wpAny_bind (wpAny_bind (wpAny_onRaise ?_)))))
 show wpAny _ _ (Builtin.SmallTypes.nextOf (.ref i2) >>= _) _ _ _))
set_option hygiene false in
local macro_rules | `(tactic| walk_at "b35") => `(tactic| (
 show wpAny _ _ (Builtin.Tuple.tupleItemsOf (.ref t) >>= _) _ _ s
 refine wpAny_bind (tupleItemsOf_ ht ?_)
 refine wpAny_bind (wpAny_typeOf hTs ?_)
 rw [if_pos (by decide)]))
set_option hygiene false in
local macro_rules | `(tactic| walk_at "b36") => `(tactic| (
 rw [Rp] at h2
 obtain ⟨p,xs,rfl,hs,_⟩:=h2
 cases r2
 obtain ⟨its,_,ht,_⟩:=I.tuple hs))
set_option hygiene false in
local macro_rules | `(tactic| walk_at "b37") => `(tactic| (
 intro pins s σ H xs us Q I r h))
set_option hygiene false in
local macro_rules | `(tactic| walk_at "b38") => `(tactic| (
 obtain ⟨⟨cls,dd,data,sl⟩,ho,hc,n,hd⟩:=id ht
 obtain ⟨⟨cls2,dd2,data2,sl2⟩,ho2,hc2,n2,hd2⟩:=id hb
 simp only at hc hd hc2 hd2
 subst hc hd hc2 hd2))
set_option hygiene false in
local macro_rules | `(tactic| walk_at "b39") => `(tactic| (
 refine ⟨_,_,_,hp,T.cl_Setting,T.n_Setting_known,_,rfl,_,_,_,hp,T.cl_Setting,T.n_Setting_many,_,rfl,_,_,_,hp,T.cl_Setting,T.n_Setting_depth,_,rfl,?_⟩))
set_option hygiene false in
local macro_rules | `(tactic| walk_at "b40") => `(tactic| (
 obtain ⟨j,h1,h2,h3,h4,h5⟩:=PB he
 obtain ⟨w,ew,rw'⟩:=r.get h2
 have hl:=r.length
 have hn:=KQ
 have fin:EP X pins σ Q w s:=⟨z,H,I,rw',q⟩))
set_option hygiene false in
local macro_rules | `(tactic| walk_at "b41") => `(tactic| (
 obtain ⟨os,hos,hcs,hds⟩:=id hs
 have hTs:s.TypeIs (.ref sl) "slice":=⟨os,hos,hcs⟩
 unfold getItem
 try with_reducible refine wpAny_holding ?_))
set_option hygiene false in
local macro_rules | `(tactic| walk_at "b42") => `(tactic| (
 intro pins s σ H R I h
 refine thn (hl pins s σ H _ I h) fun v s1 ⟨x,H1,I1,r1,q1⟩=> ?_
 obtain ⟨a,e,⟨xs,hq⟩,q⟩:=q1
 subst e
 cases r1))
set_option hygiene false in
local macro_rules | `(tactic| walk_at "b43") => `(tactic| (
 have I1:Inv X pins σ H { s with heap:=h' }:=I.turned (t':=s.toks) (fun b o hb e=>(sb.2 b hb).trans e) f0 f1 f3 f4 f5
 obtain ⟨o,e,c,d⟩:=id st'))
set_option hygiene false in
local macro_rules | `(tactic| walk_at "b44") => `(tactic| (
 rw [eX] at this
 rw [← ePr,← eW] at this
 refine thn this fun r s6 ⟨hr,I6⟩=> ?_
 subst hr
 dsimp only
 rw [ePr,eW,eA]
 exact fin I6 fr5 qn))
set_option hygiene false in
local macro_rules | `(tactic| walk_at "b45") => `(tactic| (
 rw [show GW f v ((k,x)::r)=(if k=f then (k,v)::r else (k,x)::GW f v r) from rfl]))
set_option hygiene false in
local macro_rules | `(tactic| walk_at "b46") => `(tactic| (
 have ex:x= .ref p:=by cases x<;> first | (cases hr;rfl) | (obtain ⟨_,hr⟩:=hr;cases hr) | cases hr
 subst ex
 cases rx
 obtain ⟨t,rfl⟩:=ry))
set_option hygiene false in
local macro_rules | `(tactic| walk_at "b47") => `(tactic| (
 rw [if_neg Bool.false_ne_true] at q9 ⊢
 obtain ⟨m',hm,w9⟩:=q9
 exact ⟨m',hm,i+1,σ8,H9,I9.unpinned,(again I9).1,(again I9).2,w9⟩))
set_option hygiene false in
local macro_rules | `(tactic| walk_at "b48") => `(tactic| (
 cases (show u=Value.ref b from ry)
 obtain ⟨z,hd,xs,rel,dd⟩:=RV I.hok e))
set_option hygiene false in
local macro_rules | `(tactic| walk_at "b49") => `(tactic| (
 subst hX'
 refine ⟨hn b hb,Nat.ne_of_lt (Nat.lt_of_lt_of_le (lt2 b hb) sz3),fun z=> ?_,.inl hb,fun x c e=> ?_,fun p hp=>by cases hp⟩))
set_option hygiene false in
local macro_rules | `(tactic| walk_at "b50") => `(tactic| (
 have nit:∀ b u,H b=some u→b∉fp:=fun b u e z=>by rw [(hf b z).1] at e;cases e
 have hL:X.env.locals∉fp:=fun z=>(hf _ z).2.1 rfl))
set_option hygiene false in
local macro_rules | `(tactic| walk_at "b51") => `(tactic| (
 intro value slice pins s σ H x y v u Q I rx ry h hs
 obtain ⟨p,xs,i,z,rfl,rfl,hq,he,q⟩:=h
 cases rx
 obtain ⟨t,rfl⟩:=ry))
set_option hygiene false in
local macro_rules | `(tactic| walk_at "b52") => `(tactic| (
 refine wpAny_pure (wpAny_bind (wpAny_bind (wpAny_holding ?_)))
 show wpAny _ _ (Builtin.SmallTypes.nextOf (.ref i2) >>= _) _ _ _))
set_option hygiene false in
local macro_rules | `(tactic| walk_at "b53") => `(tactic| (
 have l1:its.length=ds.length:=by rw [← rv.length,hl.length]
 have l2:its'.length=es.length:=by rw [← rv'.length,hl'.length]))
set_option hygiene false in
local macro_rules | `(tactic| walk_at "b54") => `(tactic| (
 have hi:i<xs.length:=(List.getElem?_eq_some_iff.mp hx).1
 have hb:i<as.length:=by rw [h.length,List.length_map] at hi;exact hi))
set_option hygiene false in
local macro_rules | `(tactic| walk_at "b55") => `(tactic| (
 refine wpAny_pure ?_
 dsimp only
 rw [if_neg (by decide)]
 refine wpAny_bind (wpAny_tupleItemsOf e rfl ?_)
 try dsimp only))
set_option hygiene false in
local macro_rules | `(tactic| walk_at "b56") => `(tactic| (
 intro pins s σ H D I h))
set_option hygiene false in
local macro_rules | `(tactic| walk_at "b57") => `(tactic| (
 cases (show u=Value.ref a from rx)))
namespace L2
open PySem PySem.Spec PyProof.Rows
abbrev Key:=Sum Int Str
def OF:Key→Value→Bool
 | .inl k,v=>Value.isInt k v
 | .inr x,v=>Value.isStrOf x v
def keyH (w:World):Key→Int
 | .inl k=>hashInt k
 | .inr x=>hashStr w x
theorem CI:∀ {k:Key} {v:Value},OF k v=true→(∃ i t,k=Sum.inl i∧v=Value.int i t)∨(∃ x t,k=Sum.inr x∧v=Value.str x t)
 | .inl i,v,h=>by
  obtain ⟨t,e⟩:=Value.isInt_shape (k:=i) (v:=v) h
  exact .inl ⟨i,t,rfl,e⟩
 | .inr x,v,h=>by
  obtain ⟨t,e⟩:=Value.isStrOf_shape (x:=x) (v:=v) h
  exact .inr ⟨x,t,rfl,e⟩
theorem XO (i:Int) (t:Tok):OF (.inl i) (.int i t)=true:=by simp [OF,Value.isInt]
theorem WY (x:Str) (t:Tok):OF (.inr x) (.str x t)=true:=by simp [OF,Value.isStrOf]
theorem gH (a b:Int):decide ((Sum.inl a:Key)=Sum.inl b)=(a == b):=by
 by_cases e:a=b
 ·subst e;simp
 ·have h:¬ (Sum.inl a:Key)=Sum.inl b:=fun q=>e (Sum.inl.inj q)
  rw [decide_eq_false h]
  exact (beq_eq_false_iff_ne.mpr e).symm
theorem gB (a b:Str):decide ((Sum.inr a:Key)=Sum.inr b)=decide (a=b):=by
 by_cases e:a=b
 ·subst e;simp
 ·have h:¬ (Sum.inr a:Key)=Sum.inr b:=fun q=>e (Sum.inr.inj q)
  rw [decide_eq_false h,decide_eq_false e]
theorem gZ (a:Int) (b:Str):decide ((Sum.inl a:Key)=Sum.inr b)=false:=decide_eq_false (fun q=>nomatch q)
theorem iM (a:Str) (b:Int):decide ((Sum.inr a:Key)=Sum.inl b)=false:=decide_eq_false (fun q=>nomatch q)
def DB (prog:Program) (w:World):PySem.KeyKind prog w Key where
 is:=OF
 hash:=keyH w
 inj:=fun v a b ha hb=>by
  rcases CI ha with ⟨i,t,rfl,rfl⟩ | ⟨x,t,rfl,rfl⟩
  ·rcases CI hb with ⟨j,u,rfl,e⟩ | ⟨y,u,rfl,e⟩
   ·injection e with e1 _;rw [e1]
   ·exact nomatch e
  ·rcases CI hb with ⟨j,u,rfl,e⟩ | ⟨y,u,rfl,e⟩
   ·exact nomatch e
   ·injection e with e1 _;rw [e1]
 byValue:=fun k v h=>by
  rcases CI h with ⟨i,t,rfl,rfl⟩ | ⟨x,t,rfl,rfl⟩<;> rfl
 pyHash:=fun hv h=>by
  rcases CI hv with ⟨i,t,rfl,rfl⟩ | ⟨x,t,rfl,rfl⟩
  ·exact wpAny_pyHash_int h
  ·exact wpAny_pyHash_str h
 eqBool:=fun hu hv h=>by
  rcases CI hu with ⟨i,t,rfl,rfl⟩ | ⟨x,t,rfl,rfl⟩
  ·rcases CI hv with ⟨j,u,rfl,rfl⟩ | ⟨y,u,rfl,rfl⟩
   ·rw [gH] at h;exact wpAny_eqBool_int h
   ·rw [gZ] at h;exact SeqAt.EqAt.int_str i t y u _ _ _ _ h
  ·rcases CI hv with ⟨j,u,rfl,rfl⟩ | ⟨y,u,rfl,rfl⟩
   ·rw [iM] at h;exact SeqAt.EqAt.str_int x t j u _ _ _ _ h
   ·rw [gB] at h;exact wpAny_eqBool_str h
 «strs» :=fun k x t v h=>by
  rcases CI h with ⟨i,u,rfl,e⟩ | ⟨y,u,rfl,e⟩
  ·exact nomatch e
  ·injection e with e1 _
   subst e1
   cases v<;> rfl
theorem QQ (prog:Program) (w:World) (i:Int) (t:Tok):(DB prog w).is (.inl i) (.int i t)=true:=XO i t
theorem RX (prog:Program) (w:World) (x:Str) (t:Tok):(DB prog w).is (.inr x) (.str x t)=true:=WY x t
inductive V where
 | non | bl (b:Bool) | int (i:Int) | str (x:Str) | byt (b:Array UInt8) | flt (b:UInt64) | ref (a:Addr) | ty (n:String)
 deriving DecidableEq
def AZ:V→Value→Prop
 | .non,u=>u=Value.none
 | .bl b,u=>u=Value.bool b
 | .int i,u=>∃ t,u=Value.int i t
 | .str x,u=>∃ t,u=Value.str x t
 | .byt b,u=>∃ t,u=Value.bytes b t
 | .flt b,u=>∃ t,u=Value.float b t
 | .ref a,u=>u=Value.ref a
 | .ty n,u=>u=Value.type n
abbrev AY:List V→List Value→Prop:=Paired AZ
theorem AY.length {xs:List V} {us:List Value} (r:AY xs us):xs.length=us.length:=Paired.length r
theorem AY.get:∀ {xs:List V} {us:List Value} {i:Nat} {x:V},AY xs us→xs[i]? =some x→∃ u,us[i]? =some u∧AZ x u
 | _,_,_,_,.nil,e=>by simp at e
 | _,_,0,_,.cons r _,e=>by simp at e;subst e;exact ⟨_,rfl,r⟩
 | _,_,i+1,x,.cons _ t,e=>by
  obtain ⟨u,h1,h2⟩:=AY.get (i:=i) (x:=x) t (by simpa using e)
  exact ⟨u,by simpa using h1,h2⟩
theorem AY.set {x:V} {u:Value} (r:AZ x u):∀ {xs:List V} {us:List Value} (i:Nat),AY xs us→AY (xs.set i x) (us.set i u)
 | _,_,_,.nil=> .nil
 | _,_,0,.cons _ t=> .cons r t
 | _,_,i+1,.cons q t=> .cons q (AY.set r i t)
theorem AY.append:∀ {xs ys:List V} {us ws:List Value},AY xs us→AY ys ws→AY (xs++ys) (us++ws)
 | _,_,_,_,.nil,s=>s
 | _,_,_,_,.cons r t,s=> .cons r (AY.append t s)
theorem AY.take:∀ {xs:List V} {us:List Value} (n:Nat),AY xs us→AY (xs.take n) (us.take n)
 | _,_,0,_=> .nil
 | _,_,_+1,.nil=> .nil
 | _,_,n+1,.cons r t=> .cons r (AY.take n t)
theorem AY.drop:∀ {xs:List V} {us:List Value} (n:Nat),AY xs us→AY (xs.drop n) (us.drop n)
 | _,_,0,r=>r
 | _,_,_+1,.nil=> .nil
 | _,_,n+1,.cons _ t=>AY.drop n t
theorem AY.none_of:∀ {xs:List V} {us:List Value} {i:Nat},AY xs us→xs[i]? =none→us[i]? =none:=fun {xs us i} r e=>by
 have h1:=r.length
 have h2:xs.length≤i:=List.getElem?_eq_none_iff.mp e
 exact List.getElem?_eq_none_iff.mpr (by omega)
def IE:Option V→Option Value→Prop
 | some v,some u=>AZ v u
 | none,none=>True
 | _,_=>False
def KV {κ:Type}:List (κ×V)→List (κ×Value)→Prop:=Paired fun (p:κ×V) (q:κ×Value)=>p.1=q.1∧AZ p.2 q.2
def kV:Key→V
 | .inl i=> .int i
 | .inr x=> .str x
inductive HO where
 | lst (xs:List V)
 | tup (xs:List V)
 | dK (kvs:List (Key×V)) | dT (kvs:List (List Key×V))
 | set (S:Int→Bool) (n:Nat)
 | ins (C dx:Addr) (fs:List (Str×V))
 | own (x:Addr)
 | xd (fs:List (Str×V))
 | met (f x:Addr)
 | rng (lo hi:Int)
 | frz (o:Obj) (u:HO)
 | tbl (ps:Array Value)
 | ext (φ:Heap→Prop)
abbrev Hp:=Addr→Option HO
def upd (H:Hp) (a:Addr) (o:HO):Hp:=fun b=>if b=a then some o else H b
theorem AF {H:Hp} {a:Addr} {o:HO}:upd H a o a=some o:=by unfold upd;rw [if_pos rfl]
theorem BA {H:Hp} {a b:Addr} {o:HO} (h:b≠a):upd H a o b=H b:=by unfold upd;rw [if_neg h]
theorem VG {H:Hp} {a:Addr} {o u:HO}:upd (upd H a o) a u=upd H a u:=by
 funext b;unfold upd;split<;> rfl
theorem kQ {H:Hp} {a b:Addr} {o u:HO} (h:H a=some o) (h':H b=some u) (d:o≠u):a≠b:=by
 intro e;subst e;rw [h] at h';exact d (Option.some.inj h')
theorem BZ {H:Hp} {a b:Addr} {o:HO} (h:H a=some o) (h':H b=none):a≠b:=by
 intro e;subst e;rw [h] at h';cases h'
section
variable (P:Program) (w:World)
def CH (H:Hp) (h:Heap) (a:Addr):HO→Prop
 | .lst xs=>xs.length≤sizeLine∧∃ (its:List Value) (n:Nat),AY xs its∧h.get? a=some { cls:= .type "list",data:= .seq its.toArray n }
 | .tup xs=>xs.length≤sizeLine∧∃ its:List Value,AY xs its∧IsTup h a its.toArray
 | .dK kvs=>kvs.length≤sizeLine∧(a == sysModules)=false∧∃ vs,KV kvs vs∧h.DictOf (DB P w) a vs
 | .dT kvs=>kvs.length≤sizeLine∧(a == sysModules)=false∧∃ xs:List (List Key×Addr×Value),
   Paired (fun (p:List Key×V) (q:List Key×Addr×Value)=>p.1=q.1∧H q.2.1=some (.tup (p.1.map kV))∧AZ p.2 q.2.2) kvs xs∧
   ∃ o es ep,h.get? a=some o∧o.ExactDict∧o.data= .dict es ep∧es.toList=xs.map (entryOfKey (tupleKind (DB P w)))∧(xs.map (·.1)).Nodup
 | .set S n=>h.SetOf (intKind P w) a S n
 | .ins C dx fs=>H dx=some (.own a)∧fs.length≤1000∧dx≠a∧h.get? a=some (PySem.W.instObj C dx)∧
   ∃ mA,h.Ns1 dx mA∧(∀ f,IE (fs.lookup f) (mA f))∧PySem.Within mA (fs.map (·.1))
 | .own _=>∃ o,h.get? a=some o
 | .xd fs=>∃ mA,h.Ns1 a mA∧∀ f,IE (fs.lookup f) (mA f)
 | .rng lo hi=>∃ t u v,h.get? a=some { cls:= .type "range",data:= .fields #[.int lo t,.int hi u,.int 1 v] }
 | .frz o u=>h.get? a=some o∧CH H h a u
 | .tbl ps=>h.get? a=some { cls:= .none,data:= .fields ps }
 | .met f x=>h.get? a=some (PySem.W.methodObj (.ref f) (.ref x))
 | .ext φ=>φ h∧(∃ o,h.get? a=some o)∧∀ h1 h2:Heap,φ h1→(∀ o,h1.get? a=some o→h2.get? a=some o)→φ h2
def HOk (H:Hp) (h:Heap):Prop:=∀ a o,H a=some o→CH P w H h a o
end
section
variable {P:Program} {w:World} {H H':Hp} {h h':Heap} {a:Addr} {o:HO}
theorem CH.lt (x:CH P w H h a o):a<h.objs.size:=by
 cases o with
 | lst xs=>obtain ⟨_,_,_,_,e⟩:=x;exact Heap.lt_size e
 | tup xs=>obtain ⟨_,_,_,p⟩:=x;exact p.lt
 | dK kvs=>obtain ⟨_,_,_,_,o,_,_,e,_⟩:=x;exact Heap.lt_size e
 | dT kvs=>obtain ⟨_,_,_,_,o,_,_,e,_⟩:=x;exact Heap.lt_size e
 | set S n=>obtain ⟨o,_,_,_,e,_⟩:=x;exact Heap.lt_size e
 | ins C dx fs=>obtain ⟨_,_,_,e,_⟩:=x;exact Heap.lt_size e
 | own y=>obtain ⟨_,e⟩:=x;exact Heap.lt_size e
 | xd fs=>obtain ⟨_,⟨_,_,_,e,_⟩,_⟩:=x;exact Heap.lt_size e
 | rng lo hi=>obtain ⟨_,_,_,e⟩:=x;exact Heap.lt_size e
 | frz ob u=>obtain ⟨e,_⟩:=x;exact Heap.lt_size e
 | tbl ps=>exact Heap.lt_size (show h.get? a=some _ from x)
 | met f y=>exact Heap.lt_size (show h.get? a=some _ from x)
 | ext φ=>obtain ⟨_,⟨_,e⟩,_⟩:=x;exact Heap.lt_size e
theorem Paired.mapP {α β:Type} {F G:α→β→Prop}:∀ {l₁:List α} {l₂:List β},Paired F l₁ l₂→(∀ a b,F a b→G a b)→Paired G l₁ l₂
 | _,_,.nil,_=> .nil
 | _,_,.cons r t,f=> .cons (f _ _ r) (Paired.mapP t f)
theorem CH.stay (x:CH P w H h a o) (k:∀ b u,(b=a∨H b=some (.own a))→h.get? b=some u→h'.get? b=some u)
  (ho:∀ b,H b=some (.own a)→H' b=some (.own a)) (ht:∀ b xs,H b=some (.tup xs)→H' b=some (.tup xs)):CH P w H' h' a o:=by
 induction o with
 | lst xs=>obtain ⟨z,its,n,r,e⟩:=x;exact ⟨z,its,n,r,k _ _ (.inl rfl) e⟩
 | tup xs=>obtain ⟨z,its,r,ob,e,c⟩:=x;exact ⟨z,its,r,ob,k _ _ (.inl rfl) e,c⟩
 | dK kvs=>obtain ⟨z,y,vs,r,ob,es,ep,e,c⟩:=x;exact ⟨z,y,vs,r,ob,es,ep,k _ _ (.inl rfl) e,c⟩
 | dT kvs=>
  obtain ⟨z,y,xs,r,ob,es,ep,e,c⟩:=x
  exact ⟨z,y,xs,Paired.mapP r fun p q z=>⟨z.1,ht _ _ z.2.1,z.2.2⟩,ob,es,ep,k _ _ (.inl rfl) e,c⟩
 | set S n=>obtain ⟨ob,es,ep,t,e,c⟩:=x;exact ⟨ob,es,ep,t,k _ _ (.inl rfl) e,c⟩
 | ins C dx fs=>
  obtain ⟨d,z,ne,e,mA,⟨od,es,ep,e2,c⟩,r⟩:=x
  exact ⟨ho _ d,z,ne,k _ _ (.inl rfl) e,mA,⟨od,es,ep,k _ _ (.inr d) e2,c⟩,r⟩
 | own y=>obtain ⟨ob,e⟩:=x;exact ⟨ob,k _ _ (.inl rfl) e⟩
 | xd fs=>obtain ⟨mA,⟨od,es,ep,e,c⟩,r⟩:=x;exact ⟨mA,⟨od,es,ep,k _ _ (.inl rfl) e,c⟩,r⟩
 | rng lo hi=>obtain ⟨t,u,v,e⟩:=x;exact ⟨t,u,v,k _ _ (.inl rfl) e⟩
 | frz ob u ih=>obtain ⟨e,q⟩:=x;exact ⟨k _ _ (.inl rfl) e,ih q⟩
 | tbl ps=>
  have e:h.get? a=some { cls:= .none,data:= .fields ps }:=x
  show h'.get? a=some { cls:= .none,data:= .fields ps }
  exact k a _ (.inl rfl) e
 | met f y=>
  have e:h.get? a=some (PySem.W.methodObj (.ref f) (.ref y)):=x
  show h'.get? a=some (PySem.W.methodObj (.ref f) (.ref y))
  exact k a _ (.inl rfl) e
 | ext φ=>obtain ⟨p,⟨o,e⟩,st⟩:=x;exact ⟨st _ _ p fun o q=>k _ _ (.inl rfl) q,⟨o,k _ _ (.inl rfl) e⟩,st⟩
theorem HOk.lt (x:HOk P w H h) (e:H a=some o):a<h.objs.size:=(x a o e).lt
theorem HOk.fresh (x:HOk P w H h) (e:h.objs.size≤a):H a=none:=by
 cases q:H a with
 | none=>rfl
 | some u=>exact absurd (Nat.lt_of_lt_of_le (x.lt q) e) (Nat.lt_irrefl _)
theorem HOk.kept (x:HOk P w H h) (k:∀ b u,h.get? b=some u→h'.get? b=some u):HOk P w H h':=fun a o e=>
 (x a o e).stay (fun b u _ q=>k b u q) (fun _ q=>q) fun _ _ q=>q
theorem HOk.laid (x:HOk P w H h) (k:∀ b u,h.get? b=some u→h'.get? b=some u) (hp:h.objs.size≤a) (new:CH P w (upd H a o) h' a o):HOk P w (upd H a o) h':=fun b u e=>by
 have hn:=x.fresh hp
 by_cases hb:b=a
 ·subst hb;rw [AF] at e;cases e;exact new
 ·rw [BA hb] at e
  exact (x b u e).stay (fun c v _ q=>k c v q) (fun c q=>by rw [BA (BZ q hn)];exact q) fun c xs q=>by rw [BA (BZ q hn)];exact q
end
def Rd (H:Hp) (a:Addr) (u:HO):Prop:=H a=some u∨∃ o,H a=some (.frz o u)
theorem Rd.ok {P:Program} {w:World} {H:Hp} {h:Heap} {a:Addr} {u:HO} (r:Rd H a u) (x:HOk P w H h):CH P w H h a u:=by
 rcases r with r | ⟨o,r⟩
 ·exact x a u r
 ·obtain ⟨_,q⟩:=x a _ r
  exact q
def Mut:Option HO→Prop
 | some (.lst _)=>True
 | some (.dK _)=>True
 | some (.dT _)=>True
 | some (.set _ _)=>True
 | some (.ins _ _ _)=>True
 | some (.ext _)=>True
 | _=>False
section
variable {P:Program} {w:World} {H:Hp} {h h':Heap} {x e:Addr} {o':HO}
theorem HOk.write (ok:HOk P w H h) (mu:Mut (H x)) (he:e=x∨H e=some (.own x)) (k:∀ b u,b≠e→h.get? b=some u→h'.get? b=some u) (heo:∃ u,h'.get? e=some u)
  (new:CH P w (upd H x o') h' x o'):HOk P w (upd H x o') h':=fun b u q=>by
 have nown:∀ c y,H c=some (.own y)→c≠x:=fun c y r z=>by subst z;rw [r] at mu;exact mu
 have ntup:∀ c xs,H c=some (.tup xs)→c≠x:=fun c xs r z=>by subst z;rw [r] at mu;exact mu
 by_cases hb:b=x
 ·subst hb;rw [AF] at q;cases q;exact new
 ·rw [BA hb] at q
  by_cases hbe:b=e
  ·have q':H b=some (.own x):=by
    rcases he with z | z
    ·exact absurd (hbe.trans z) hb
    ·rw [hbe];exact z
   rw [q] at q';cases q'
   obtain ⟨v,hv⟩:=heo
   exact ⟨v,by rw [hbe];exact hv⟩
  ·refine (ok b u q).stay (fun c v hc r=>k c v ?_ r) (fun c r=>by rw [BA (nown c b r)];exact r) fun c xs r=>by rw [BA (ntup c xs r)];exact r
   rcases hc with rfl | hc
   ·exact hbe
   ·rintro rfl
    rcases he with z | z
    ·exact nown c b hc z
    ·rw [hc] at z;cases z;exact hb rfl
end
structure Un (fs ex:List Addr) (H H':Hp) (h h':Heap):Prop where
 keep:∀ b o,h.get? b=some o→H b=none→b∉fs→b∉ex→h'.get? b=some o
 slot:∀ b o,h.get? b=some o→H b=none→b∈fs→b∉ex→∃ sl,h'.get? b=some { o with slots:=sl }
 free:∀ b o,h.get? b=some o→H b=none→b∉ex→H' b=none
 there:∀ b o,h.get? b=some o→b∉ex→∃ o',h'.get? b=some o'
 tups:∀ b xs,H b=some (.tup xs)→H' b=some (.tup xs)
 frzs:∀ b o u,H b=some (.frz o u)→H' b=some (.frz o u)
 tbls:∀ b ps,H b=some (.tbl ps)→∃ more,H' b=some (.tbl (ps++more))
section
variable {fs fs' ex ex':List Addr} {H H1 H2:Hp} {h h1 h2 h':Heap} {a x e:Addr} {o:HO}
theorem Un.any (u:Un fs ex H H1 h h1) {b:Addr} {ob:Obj} (q:h.get? b=some ob) (n:H b=none) (hx:b∉ex):∃ sl,h1.get? b=some { ob with slots:=sl }:=by
 by_cases hb:b∈fs
 ·exact u.slot b ob q n hb hx
 ·exact ⟨ob.slots,u.keep b ob q n hb hx⟩
theorem Un.kept (k:∀ b u,h.get? b=some u→h'.get? b=some u):Un fs ex H H h h':=
 ⟨fun b ob q _ _ _=>k b ob q,fun b ob q _ _ _=>⟨ob.slots,k b ob q⟩,fun _ _ _ n _=>n,fun b ob q _=>⟨ob,k b ob q⟩,fun _ _ q=>q,fun _ _ _ q=>q,fun _ ps q=>⟨#[],by rw [q];simp⟩⟩
theorem Un.refl:Un fs ex H H h h:=Un.kept fun _ _ q=>q
theorem Un.laid (k:∀ b u,h.get? b=some u→h'.get? b=some u) (hp:h.objs.size≤a) (hn:H a=none):Un fs ex H (upd H a o) h h' where
 keep:=fun b u q _ _ _=>k b u q
 slot:=fun b u q _ _ _=>⟨u.slots,k b u q⟩
 free:=fun b u q n _=>by rw [BA (Nat.ne_of_lt (Nat.lt_of_lt_of_le (Heap.lt_size q) hp))];exact n
 there:=fun b u q _=>⟨u,k b u q⟩
 tups:=fun b xs q=>by rw [BA (BZ q hn)];exact q
 frzs:=fun b u xs q=>by rw [BA (BZ q hn)];exact q
 tbls:=fun b ps q=>⟨#[],by rw [BA (BZ q hn),q];simp⟩
theorem Un.write (mu:Mut (H x)) (he:e=x∨H e=some (.own x)) (k:∀ b u,b≠e→h.get? b=some u→h'.get? b=some u) (heo:∃ u,h'.get? e=some u):Un fs ex H (upd H x o) h h':=by
 have hx:∀ b,H b=none→b≠x:=fun b n z=>by subst z;rw [n] at mu;exact mu
 have hb:∀ b,H b=none→b≠e:=fun b n z=>by
  subst z
  rcases he with r | r
  ·exact hx b n r
  ·rw [n] at r;cases r
 have hm:∀ b u,H b=some u→¬ Mut (some u)→b≠x:=fun b u q nm z=>by subst z;rw [q] at mu;exact nm mu
 refine ⟨fun b u q n _ _=>k b u (hb b n) q,fun b u q n _ _=>⟨u.slots,k b u (hb b n) q⟩,fun b u q n _=>by rw [BA (hx b n)];exact n,fun b u q _=> ?_,
  fun b xs q=>by rw [BA (hm b _ q fun z=>z)];exact q,fun b u xs q=>by rw [BA (hm b _ q fun z=>z)];exact q,fun b ps q=>⟨#[],by rw [BA (hm b _ q fun z=>z),q];simp⟩⟩
 by_cases hbe:b=e
 ·subst hbe;exact heo
 ·exact ⟨u,k b u hbe q⟩
end
def trk (h:Heap) (H:Hp):List Addr:=(List.range h.objs.size).filter fun a=>(H a).isSome
def OU (h:Heap) (H:Hp):Heap:=PySem.W.hideAll h (trk h H)
theorem WJ (h:Heap) (H:Hp):(OU h H).objs.size=h.objs.size:=PySem.W.hideAll_size _ _
theorem bA {h:Heap} {H:Hp} {b:Addr} {o:Obj} (e:h.get? b=some o) (n:H b=none):(OU h H).get? b=some o:=
 PySem.W.hideAll_get _ e fun hm=>by
  have q:(H b).isSome=true:=(List.mem_filter.mp hm).2
  rw [n] at q;simp at q
theorem eR {h:Heap} {H:Hp} {b:Addr} {o:Obj} (e:(OU h H).get? b=some o):h.get? b=some o∧H b=none:=by
 have e':h.get? b=some o:=PySem.W.of_hideAll (trk h H) e
 refine ⟨e',?_⟩
 cases q:H b with
 | none=>rfl
 | some x=>
  have hm:b∈trk h H:=List.mem_filter.mpr ⟨List.mem_range.mpr (Heap.lt_size e'),by simp [q]⟩
  have z:(OU h H).get? b=none:=PySem.W.hideAll_none (trk h H) hm
  rw [z] at e;cases e
def dY (g h:Heap) (L:Addr):List (Addr×Obj):=(List.range h.objs.size).filterMap fun a=>if a=L∨(g.get? a).isSome=true then none else (h.get? a).map fun o=>(a,o)
def DM (g h:Heap) (L d:Addr):List (Addr×Obj):=(dY g h L).filter fun p=>decide (p.1≠d)
structure Mod (K:PySem.W.Frag) (mg:Str→Option Value) (base:Heap):Prop where
 kin:K.In base
 glob:base.Ns mainGlobals mg
 blt:∃ mb,base.Ns builtinsNs mb∧∀ x:Str,x≠"__name__"→mb x=bootBuiltins x
 nolimit:base.NoLimit
structure Cx where
 prog:Program
 w:World
 K:PySem.W.Frag
 mg:Str→Option Value
 base:Heap
 A:Around
 N:List Str
 s₀:Shared
 H₀:Hp
 env:Env
 outer:List Env
 stack:List Env
 ex:List Addr
 fn:Str→Bool
 calm:Bool
 pn:List (Addr×Obj)
 xe:Value→Shared→Prop
def frs (l:List Env):List Addr:=l.filterMap (·.frame)
abbrev Cx.fs (X:Cx):List Addr:=frs X.outer
def Vis (sc:Scope) (x:Str):Prop:=sc.names.lookup x=some .local∨sc.names.lookup x=some .cell∨sc.names.lookup x=some .free
def Loc (sc:Scope) (x:Str):Prop:=sc.names.lookup x=some .local∨sc.names.lookup x=some .cell
def Look (env:Env) (h:Heap) (m:Str→Option Value) (x:Str) (u:Value):Prop:=
 (env.kindOf x=some .local∧m x=some u)∨((env.kindOf x=some .cell∨env.kindOf x=some .free)∧∃ c,env.cells.lookup x=some c∧h.IsCell c (some u))
structure Cx.Ok (X:Cx):Prop where
 mod:Mod X.K X.mg X.base
 kind:X.env.scope.kind= .function
 glob:X.env.globals=mainGlobals
 blt:X.env.builtins=builtinsNs
 above:X.s₀.heap.objs.size≤X.env.locals
 inj:∀ x y c,X.env.cells.lookup x=some c→X.env.cells.lookup y=some c→x=y
 has:∀ x,(X.env.kindOf x=some .cell∨X.env.kindOf x=some .free)→∃ c,X.env.cells.lookup x=some c
 cab:∀ x c,X.fn x=true→X.env.cells.lookup x=some c→X.s₀.heap.objs.size≤c
 hd:X.calm=true→X.A.handled=none
 frames:X.A.frames=some X.stack
 stk:X.stack=X.outer∨(X.stack=X.env::X.outer∧X.env.frame=some X.env.locals)
 exf:∀ b∈X.ex,b≠X.env.locals∧∀ x c,X.env.cells.lookup x=some c→c≠b
 bs:∀ b o,X.base.get? b=some o→X.s₀.heap.get? b=some o∧X.H₀ b=none
 bsz:X.base.objs.size≤X.s₀.heap.objs.size
 noex:∀ b o,X.base.get? b=some o→b∉X.ex
 exfs:∀ b∈X.ex,b∉X.fs
 funs:X.s₀.heap.FunFrames X.base X.outer
 frf:∀ b∈X.fs,X.H₀ b=none
structure Inv (X:Cx) (pins:List (Addr×Obj)) (σ:List (Option V)) (H:Hp) (s:Shared):Prop where
 ok:X.Ok
 os:s.os=X.s₀.os
 bare:AllBare s.gens
 base:Un X.fs X.ex X.H₀ H X.s₀.heap s.heap
 loc:∃ m,s.heap.Ns X.env.locals m∧∀ (i:Nat) (x:Str) (v:V),X.N[i]? =some x→σ[i]? =some (some v)→Vis X.env.scope x→∃ u,AZ v u∧Look X.env s.heap m x u
 cell:∀ x c,X.env.cells.lookup x=some c→∃ v,s.heap.IsCell c v
 free:H X.env.locals=none
 freeC:∀ x c,X.env.cells.lookup x=some c→H c=none
 pin:∀ p∈X.pn++pins,s.heap.get? p.1=some p.2∧H p.1=none∧p.1≠X.env.locals∧p.1∉X.fs∧∀ v,p.2.data≠ .cell v
 hok:HOk X.prog X.w H s.heap
 len:σ.length=X.N.length
section
variable {X:Cx} {pins:List (Addr×Obj)} {σ:List (Option V)} {H H':Hp} {s:Shared} {h':Heap}
theorem Cx.Ok.nofr (ok:X.Ok) {b:Addr} {o:Obj} (e:X.base.get? b=some o):b∉X.fs:=fun hb=>by
 have:=(ok.funs.mem hb).1
 rw [e] at this;cases this
theorem Inv.bs (I:Inv X pins σ H s):∀ b o,X.base.get? b=some o→s.heap.get? b=some o∧H b=none:=fun b o e=>
 ⟨I.base.keep b o (I.ok.bs b o e).1 (I.ok.bs b o e).2 (I.ok.nofr e) (I.ok.noex b o e),I.base.free b o (I.ok.bs b o e).1 (I.ok.bs b o e).2 (I.ok.noex b o e)⟩
theorem Inv.bk (I:Inv X pins σ H s):∀ b o,X.base.get? b=some o→s.heap.get? b=some o:=fun b o e=>(I.bs b o e).1
theorem Inv.mod (I:Inv X pins σ H s):Mod X.K X.mg X.base:=I.ok.mod
theorem Inv.kIn (I:Inv X pins σ H s):X.K.In s.heap:=I.ok.mod.kin.keeps I.bk
theorem Inv.lt (I:Inv X pins σ H s):X.env.locals<s.heap.objs.size:=let ⟨_,hn,_⟩:=I.loc;hn.lt
theorem Inv.sz (I:Inv X pins σ H s):X.s₀.heap.objs.size≤s.heap.objs.size:=Nat.le_trans I.ok.above (Nat.le_of_lt I.lt)
theorem Inv.nofs (I:Inv X pins σ H s) {a:Addr} (h:s.heap.objs.size≤a):a∉X.fs:=fun hb=>by
 obtain ⟨_,o,ho,_⟩:=I.ok.funs.mem hb
 exact absurd (Nat.lt_of_lt_of_le (Heap.lt_size ho) (Nat.le_trans I.sz h)) (Nat.lt_irrefl _)
theorem Inv.cne (I:Inv X pins σ H s):∀ x c,X.env.cells.lookup x=some c→c≠X.env.locals:=fun x c e z=>by
 obtain ⟨v,o,ho,hd⟩:=I.cell x c e
 obtain ⟨m,⟨o',es,ep,ho',hd',_⟩,_⟩:=I.loc
 rw [z,ho'] at ho;cases ho;rw [hd'] at hd;cases hd
theorem Inv.funs (I:Inv X pins σ H s):s.heap.FunFrames X.base X.outer:=by
 have all:∀ (l:List Env),(∀ b∈frs l,b∈X.fs)→X.s₀.heap.FunFrames X.base l→s.heap.FunFrames X.base l:=by
  intro l
  induction l with
  | nil=>intro _ _;trivial
  | cons env r ih=>
   intro hs hl
   obtain ⟨hk,⟨L,o,hf,hn,ho,hd⟩,hr⟩:=hl
   have hL:L∈X.fs:=hs L (by unfold frs;rw [List.filterMap_cons,hf];exact List.mem_cons_self)
   obtain ⟨sl,e⟩:=I.base.slot L o ho (I.ok.frf L hL) hL fun z=>I.ok.exfs L z hL
   exact ⟨hk,⟨L,_,hf,hn,e,hd⟩,ih (fun b hb=>hs b (by unfold frs;rw [List.filterMap_cons,hf];exact List.mem_cons_of_mem _ hb)) hr⟩
 exact all X.outer (fun _ hb=>hb) I.ok.funs
theorem Inv.stack (I:Inv X pins σ H s):s.heap.FunFrames X.base X.stack:=by
 rcases I.ok.stk with e | ⟨e,hf⟩
 ·rw [e];exact I.funs
 ·rw [e]
  obtain ⟨m,hn,_⟩:=I.loc
  refine .cons (by rw [I.ok.kind];decide) hf hn ?_ I.funs
  exact Heap.get?_none_of_le (Nat.le_trans I.ok.bsz I.ok.above)
theorem Inv.stkSub (I:Inv X pins σ H s):∀ b∈frs X.stack,b∈X.env.locals::X.fs:=fun b hb=>by
 rcases I.ok.stk with e | ⟨e,hf⟩
 ·rw [e] at hb;exact List.mem_cons_of_mem _ hb
 ·rw [e] at hb
  unfold frs at hb
  rw [List.filterMap_cons,hf] at hb
  exact hb
theorem Inv.stkFree (I:Inv X pins σ H s):∀ b∈frs X.stack,H b=none:=fun b hb=>by
 rcases List.mem_cons.mp (I.stkSub b hb) with e | hb
 ·rw [e];exact I.free
 ·obtain ⟨_,o,ho,_⟩:=I.ok.funs.mem hb
  exact I.base.free b o ho (I.ok.frf b hb) fun z=>I.ok.exfs b z hb
theorem Inv.step {g':Array GenState} {t':Nat} {d':Drawn} {ch:List Addr} (I:Inv X pins σ H s)
  (hch:∀ b∈ch,(b∈X.ex∨X.s₀.heap.objs.size≤b)∧b≠X.env.locals∧(∀ x c,X.env.cells.lookup x=some c→c≠b)∧∀ p∈X.pn++pins,p.1≠b)
  (keep:∀ b o,b≠X.env.locals→b∉X.fs→b∉ch→s.heap.get? b=some o→H b=none→h'.get? b=some o)
  (slot:∀ b o,b≠X.env.locals→b∈X.fs→b∉ch→s.heap.get? b=some o→H b=none→∃ sl,h'.get? b=some { o with slots:=sl }) (free:∀ b o,b∉ch→s.heap.get? b=some o→H b=none→H' b=none)
  (there:∀ b o,b∉ch→s.heap.get? b=some o→∃ o',h'.get? b=some o')
  (tups:∀ b xs,H b=some (.tup xs)→H' b=some (.tup xs)) (frzs:∀ b o u,H b=some (.frz o u)→H' b=some (.frz o u)) (tbls:∀ b ps,H b=some (.tbl ps)→∃ more,H' b=some (.tbl (ps++more)))
  (ns:∀ m,s.heap.Ns X.env.locals m→h'.Ns X.env.locals m) (hok:HOk X.prog X.w H' h') (hg:AllBare g'):
  Inv X pins σ H' { s with heap:=h',gens:=g',drawn:=d',toks:=t' }:=by
 have neL:∀ b o,X.s₀.heap.get? b=some o→b≠X.env.locals:=fun b o e=>Nat.ne_of_lt (Nat.lt_of_lt_of_le (Heap.lt_size e) I.ok.above)
 have neC:∀ b o,X.s₀.heap.get? b=some o→b∉X.ex→b∉ch:=fun b o e hx hb=>by
  rcases (hch b hb).1 with z | z
  ·exact hx z
  ·exact absurd (Nat.lt_of_lt_of_le (Heap.lt_size e) z) (Nat.lt_irrefl _)
 have cellK:∀ x c,X.env.cells.lookup x=some c→∀ v,s.heap.IsCell c v→h'.IsCell c v:=fun x c e v ⟨o,ho,hd⟩=>by
  have nch:c∉ch:=fun z=>(hch c z).2.2.1 x c e rfl
  by_cases hc:c∈X.fs
  ·obtain ⟨sl,q⟩:=slot c o (I.cne x c e) hc nch ho (I.freeC x c e)
   exact ⟨_,q,hd⟩
  ·exact ⟨o,keep c o (I.cne x c e) hc nch ho (I.freeC x c e),hd⟩
 refine ⟨I.ok,I.os,hg,⟨fun b o e n hb hx=> ?_,fun b o e n hb hx=> ?_,fun b o e n hx=> ?_,fun b o e hx=> ?_,fun b xs e=>tups b xs (I.base.tups b xs e),fun b o xs e=>frzs b o xs (I.base.frzs b o xs e),fun b ps e=> ?_⟩,?_,fun x c e=> ?_,?_,fun x c e=> ?_,fun p hp=> ?_,hok,I.len⟩
 ·exact keep b o (neL b o e) hb (neC b o e hx) (I.base.keep b o e n hb hx) (I.base.free b o e n hx)
 ·obtain ⟨sl,e1⟩:=I.base.slot b o e n hb hx
  obtain ⟨sl',e2⟩:=slot b _ (neL b o e) hb (neC b o e hx) e1 (I.base.free b o e n hx)
  exact ⟨sl',e2⟩
 ·obtain ⟨o',e1⟩:=I.base.there b o e hx
  exact free b o' (neC b o e hx) e1 (I.base.free b o e n hx)
 ·obtain ⟨o',e1⟩:=I.base.there b o e hx
  exact there b o' (neC b o e hx) e1
 ·obtain ⟨m1,e1⟩:=I.base.tbls b ps e
  obtain ⟨m2,e2⟩:=tbls b _ e1
  exact ⟨m1++m2,by rw [e2,Array.append_assoc]⟩
 ·obtain ⟨m,hn,hl⟩:=I.loc
  refine ⟨m,ns m hn,fun i x v e1 e2 e3=> ?_⟩
  obtain ⟨u,r,l⟩:=hl i x v e1 e2 e3
  refine ⟨u,r,?_⟩
  rcases l with l | ⟨k,c,e,z⟩
  ·exact .inl l
  ·exact .inr ⟨k,c,e,cellK x c e _ z⟩
 ·obtain ⟨v,z⟩:=I.cell x c e
  exact ⟨v,cellK x c e v z⟩
 ·obtain ⟨m,⟨o,_,_,ho,_⟩,_⟩:=I.loc
  exact free _ o (fun z=>(hch _ z).2.1 rfl) ho I.free
 ·obtain ⟨v,o,ho,hd⟩:=I.cell x c e
  exact free c o (fun z=>(hch c z).2.2.1 x c e rfl) ho (I.freeC x c e)
 ·obtain ⟨e,n,ne,nf,d⟩:=I.pin p hp
  have nch:p.1∉ch:=fun z=>(hch p.1 z).2.2.2 p hp rfl
  exact ⟨keep p.1 p.2 ne nf nch e n,free p.1 p.2 nch e n,ne,nf,d⟩
theorem Inv.un {t':Nat} (I:Inv X pins σ H s) (u:Un X.fs [] H H' s.heap h') (hok:HOk X.prog X.w H' h'):Inv X pins σ H' { s with heap:=h',toks:=t' }:=by
 obtain ⟨m,⟨o,es,ep,ho,r⟩,_⟩:=id I.loc
 obtain ⟨sl,hL⟩:=u.any ho I.free (by simp)
 exact I.step (g':=s.gens) (d':=s.drawn) (ch:=[]) (fun _ z=>nomatch z) (fun b o _ hb _ e n=>u.keep b o e n hb (by simp)) (fun b o _ hb _ e n=>u.slot b o e n hb (by simp)) (fun b o _ e n=>u.free b o e n (by simp)) (fun b o _ e=>u.there b o e (by simp)) u.tups u.frzs u.tbls (fun m' hm=>by
  obtain ⟨o',es',ep',ho',r'⟩:=hm
  rw [ho] at ho';cases ho'
  exact ⟨_,es',ep',hL,r'⟩) hok I.bare
theorem Inv.call {g':Array GenState} {t':Nat} {d':Drawn} {ch:List Addr} (I:Inv X pins σ H s) (u:Un (frs X.stack) ch H H' s.heap h') (hok:HOk X.prog X.w H' h') (hg:AllBare g')
  (hch:∀ b∈ch,(b∈X.ex∨X.s₀.heap.objs.size≤b)∧b≠X.env.locals∧(∀ x c,X.env.cells.lookup x=some c→c≠b)∧∀ p∈X.pn++pins,p.1≠b):
  Inv X pins σ H' { s with heap:=h',gens:=g',drawn:=d',toks:=t' }:=by
 obtain ⟨m,⟨o,es,ep,ho,r⟩,_⟩:=id I.loc
 obtain ⟨sl,hL⟩:=u.any ho I.free fun z=>(hch _ z).2.1 rfl
 exact I.step (ch:=ch) hch (fun b o hL hb hc e n=>u.keep b o e n (fun z=>(List.mem_cons.mp (I.stkSub b z)).elim hL hb) hc) (fun b o _ _ hc e n=>u.any e n hc) (fun b o hc e n=>u.free b o e n hc) (fun b o hc e=>u.there b o e hc) u.tups u.frzs u.tbls (fun m' hm=>by
  obtain ⟨o',es',ep',ho',r'⟩:=hm
  rw [ho] at ho';cases ho'
  exact ⟨_,es',ep',hL,r'⟩) hok hg
theorem Inv.turned {t':Nat} {it:Addr} (I:Inv X pins σ H s) (k:∀ b o,b≠it→s.heap.get? b=some o→h'.get? b=some o) (hn:H it=none) (hL:it≠X.env.locals)
  (h1:it∈X.ex∨X.s₀.heap.objs.size≤it) (h2:∀ x c,X.env.cells.lookup x=some c→c≠it) (h3:∀ p∈X.pn++pins,p.1≠it):Inv X pins σ H { s with heap:=h',toks:=t' }:=by
 have nit:∀ b u,H b=some u→b≠it:=fun b u e z=>by rw [z,hn] at e;cases e
 refine I.step (g':=s.gens) (d':=s.drawn) (ch:=[it]) (fun b hb=> ?_) (fun b o _ _ hc e _=>k b o (fun z=>hc (by simp [z])) e) (fun b o _ _ hc e _=>⟨o.slots,k b o (fun z=>hc (by simp [z])) e⟩) (fun _ _ _ _ n=>n)
  (fun b o hc e=>⟨o,k b o (fun z=>hc (by simp [z])) e⟩) (fun _ _ e=>e) (fun _ _ _ e=>e) (fun b ps e=>⟨#[],by rw [e];simp⟩) (fun m hm=> ?_) (fun b u e=> ?_) I.bare
 ·have e:b=it:=by simpa using hb
  subst e
  exact ⟨h1,hL,h2,h3⟩
 ·obtain ⟨o,es,ep,ho,r⟩:=hm
  exact ⟨o,es,ep,k _ o (Ne.symm hL) ho,r⟩
 ·refine (I.hok b u e).stay (fun c v hc q=>k c v ?_ q) (fun _ q=>q) fun _ _ q=>q
  rcases hc with z | z
  ·rw [z];exact nit b u e
  ·exact nit c _ z
theorem Inv.tok (I:Inv X pins σ H s) (t:Nat):Inv X pins σ H { s with toks:=t }:=I.un (h':=s.heap) (t':=t) Un.refl I.hok
theorem Inv.kept {t':Nat} (I:Inv X pins σ H s) (k:∀ b u,s.heap.get? b=some u→h'.get? b=some u):Inv X pins σ H { s with heap:=h',toks:=t' }:=I.un (Un.kept k) (I.hok.kept k)
theorem Inv.laid {a:Addr} {o:HO} {t':Nat} (I:Inv X pins σ H s) (k:∀ b u,s.heap.get? b=some u→h'.get? b=some u) (hp:s.heap.objs.size≤a) (new:CH X.prog X.w (upd H a o) h' a o):
  Inv X pins σ (upd H a o) { s with heap:=h',toks:=t' }:=I.un (Un.laid k hp (I.hok.fresh hp)) (I.hok.laid k hp new)
theorem Inv.write {x e:Addr} {o:HO} {t':Nat} (I:Inv X pins σ H s) (mu:Mut (H x)) (he:e=x∨H e=some (.own x)) (k:∀ b u,b≠e→s.heap.get? b=some u→h'.get? b=some u) (heo:∃ u,h'.get? e=some u)
  (new:CH X.prog X.w (upd H x o) h' x o):Inv X pins σ (upd H x o) { s with heap:=h',toks:=t' }:=I.un (Un.write mu he k heo) (I.hok.write mu he k heo new)
theorem Inv.pins_of {pins':List (Addr×Obj)} (I:Inv X pins σ H s) (h:∀ p∈pins',s.heap.get? p.1=some p.2∧H p.1=none∧p.1≠X.env.locals∧p.1∉X.fs∧∀ v,p.2.data≠ .cell v):Inv X pins' σ H s:=
 ⟨I.ok,I.os,I.bare,I.base,I.loc,I.cell,I.free,I.freeC,fun p hp=>(List.mem_append.mp hp).elim (fun z=>I.pin p (List.mem_append_left _ z)) (h p),I.hok,I.len⟩
theorem QO {N:List Str} (hN:N.Nodup) {i j:Nat} {x:Str} (a:N[i]? =some x) (b:N[j]? =some x):i=j:=by
 obtain ⟨h1,e1⟩:=List.getElem?_eq_some_iff.mp a
 obtain ⟨h2,e2⟩:=List.getElem?_eq_some_iff.mp b
 exact (List.getElem_inj hN).mp (e1.trans e2.symm)
theorem OE {M:Model} {A:Around} {E:Value→Shared→Prop} {i:Nat} {x:Str} {v:V} {u:Value} {Q:Unit→Shared→Prop} (I:Inv X pins σ H s) (hN:X.N.Nodup) (hi:X.N[i]? =some x) (hx:Loc X.env.scope x) (r:AZ v u)
  (h:∀ s',Inv X pins (σ.set i (some v)) H s'→(∃ a,Heap.SameBut a s.heap s'.heap∧(a=X.env.locals∨X.env.cells.lookup x=some a))→Q () s') (hf:X.fn x=true∨X.env.scope.names.lookup x=some .local:=by first | exact .inl rfl | exact .inr rfl | assumption):wpAny M A (storeName X.env x u) Q E s:=by
 obtain ⟨m,hn,hl⟩:=id I.loc
 have hcls:(X.env.scope.kind == .class || (X.env.scope.kind == .module && X.env.locals != X.env.globals))=false:=by rw [I.ok.kind];rfl
 have hiσ:i<σ.length:=by rw [I.len];exact (List.getElem?_eq_some_iff.mp hi).1
 have cne:=I.cne
 have tracked:∀ {a:Addr} {h':Heap},(∃ o,s.heap.get? a=some o∧H a=none)→Heap.SameBut a s.heap h'→HOk X.prog X.w H h':=fun {a h'} ha hs b ob e=>by
  obtain ⟨_,_,hfree⟩:=ha
  refine (I.hok b ob e).stay (fun c w' hc q=>(hs.2 c ?_).trans q) (fun _ q=>q) fun _ _ q=>q
  rintro rfl
  rcases hc with rfl | hc
  ·rw [hfree] at e;cases e
  ·rw [hfree] at hc;cases hc
 rcases hx with hk | hk
 ·refine wpAny_storeName_local hk hn (fun h' hn' hs=> ?_) hcls
  obtain ⟨oL,_,_,hoL,_⟩:=id hn
  refine h _ ⟨I.ok,I.os,I.bare,⟨fun b o e n hb hx=> ?_,fun b o e n hb hx=> ?_,I.base.free,fun b o e hx=> ?_,I.base.tups,I.base.frzs,I.base.tbls⟩,⟨_,hn',fun j y v' e1 e2 e3=> ?_⟩,fun y c e=> ?_,I.free,I.freeC,fun p hp=> ?_,tracked ⟨oL,hoL,I.free⟩ hs,by simpa using I.len⟩ ⟨_,hs,.inl rfl⟩
  ·exact (hs.2 b (Nat.ne_of_lt (Nat.lt_of_lt_of_le (Heap.lt_size e) I.ok.above))).trans (I.base.keep b o e n hb hx)
  ·obtain ⟨sl,e1⟩:=I.base.slot b o e n hb hx
   exact ⟨sl,(hs.2 b (Nat.ne_of_lt (Nat.lt_of_lt_of_le (Heap.lt_size e) I.ok.above))).trans e1⟩
  ·obtain ⟨o',e1⟩:=I.base.there b o e hx
   exact ⟨o',(hs.2 b (Nat.ne_of_lt (Nat.lt_of_lt_of_le (Heap.lt_size e) I.ok.above))).trans e1⟩
  ·by_cases hj:j=i
   ·subst hj
    rw [hi] at e1;cases e1
    rw [List.getElem?_set_self hiσ] at e2
    cases e2
    exact ⟨u,r,.inl ⟨hk,by simp⟩⟩
   ·rw [List.getElem?_set_ne (Ne.symm hj)] at e2
    obtain ⟨u',r',q⟩:=hl j y v' e1 e2 e3
    refine ⟨u',r',?_⟩
    rcases q with ⟨k,e⟩ | ⟨k,c,e,z⟩
    ·refine .inl ⟨k,?_⟩
     have:y≠x:=fun e=>hj (QO hN e1 (e ▸ hi))
     simp [this,e]
    ·exact .inr ⟨k,c,e,z.sameBut hs (cne y c e)⟩
  ·obtain ⟨w',z⟩:=I.cell y c e
   exact ⟨w',z.sameBut hs (cne y c e)⟩
  ·obtain ⟨e,n,ne,nf,d⟩:=I.pin p hp
   exact ⟨(hs.2 p.1 ne).trans e,n,ne,nf,d⟩
 ·have hfn:X.fn x=true:=by
   rcases hf with z | z
   ·exact z
   ·rw [z] at hk;cases hk
  obtain ⟨c,hc⟩:=I.ok.has x (.inl hk)
  obtain ⟨w',z⟩:=I.cell x c hc
  refine wpAny_storeName_cell I.ok.kind hk hc z (fun h' hc' hs=> ?_)
  obtain ⟨oc,hoc,hocd⟩:=id z
  refine h { s with heap:=h' } ⟨I.ok,I.os,I.bare,⟨fun b o e n hb hx=> ?_,fun b o e n hb hx=> ?_,I.base.free,fun b o e hx=> ?_,I.base.tups,I.base.frzs,I.base.tbls⟩,⟨m,hn.sameBut hs (Ne.symm (cne x c hc)),fun j y v' e1 e2 e3=> ?_⟩,fun y c' e=> ?_,I.free,I.freeC,fun p hp=> ?_,tracked ⟨oc,hoc,I.freeC x c hc⟩ hs,by simpa using I.len⟩ ⟨c,hs,.inr hc⟩
  ·exact (hs.2 b (Nat.ne_of_lt (Nat.lt_of_lt_of_le (Heap.lt_size e) (I.ok.cab x c hfn hc)))).trans (I.base.keep b o e n hb hx)
  ·obtain ⟨sl,e1⟩:=I.base.slot b o e n hb hx
   exact ⟨sl,(hs.2 b (Nat.ne_of_lt (Nat.lt_of_lt_of_le (Heap.lt_size e) (I.ok.cab x c hfn hc)))).trans e1⟩
  ·obtain ⟨o',e1⟩:=I.base.there b o e hx
   exact ⟨o',(hs.2 b (Nat.ne_of_lt (Nat.lt_of_lt_of_le (Heap.lt_size e) (I.ok.cab x c hfn hc)))).trans e1⟩
  ·by_cases hj:j=i
   ·subst hj
    rw [hi] at e1;cases e1
    rw [List.getElem?_set_self hiσ] at e2
    cases e2
    exact ⟨u,r,.inr ⟨.inl hk,c,hc,hc'⟩⟩
   ·rw [List.getElem?_set_ne (Ne.symm hj)] at e2
    obtain ⟨u',r',q⟩:=hl j y v' e1 e2 e3
    refine ⟨u',r',?_⟩
    rcases q with q | ⟨k,c',e,z'⟩
    ·exact .inl q
    ·refine .inr ⟨k,c',e,z'.sameBut hs ?_⟩
     rintro rfl
     exact hj (QO hN e1 (I.ok.inj _ _ _ e hc ▸ hi))
  ·by_cases hcc:c'=c
   ·subst hcc;exact ⟨_,hc'⟩
   ·obtain ⟨w2,z2⟩:=I.cell y c' e
    exact ⟨w2,z2.sameBut hs hcc⟩
  ·obtain ⟨e,n,ne,nf,d⟩:=I.pin p hp
   refine ⟨(hs.2 p.1 ?_).trans e,n,ne,nf,d⟩
   intro q
   rw [q,hoc] at e
   have q':oc=p.2:=Option.some.inj e
   exact d w' (by rw [← q'];exact hocd)
theorem MB {M:Model} {A:Around} {E:Value→Shared→Prop} {i:Nat} {x:Str} {v:V} {u:Value} {Q:Unit→Shared→Prop} (I:Inv X pins σ H s) (hN:X.N.Nodup) (hi:X.N[i]? =some x) (hx:Loc X.env.scope x) (r:AZ v u)
  (h:∀ s',Inv X pins (σ.set i (some v)) H s'→Q () s') (hf:X.fn x=true∨X.env.scope.names.lookup x=some .local:=by first | exact .inl rfl | exact .inr rfl | assumption):wpAny M A (storeName X.env x u) Q E s:=
 OE I hN hi hx r (fun s' I' _=>h s' I') hf
theorem Inv.call' {s':Shared} {ch:List Addr} (I:Inv X pins σ H s) (ho:s'.os=s.os) (u:Un (frs X.stack) ch H H' s.heap s'.heap) (hok:HOk X.prog X.w H' s'.heap) (hg:AllBare s'.gens)
  (hch:∀ b∈ch,(b∈X.ex∨X.s₀.heap.objs.size≤b)∧b≠X.env.locals∧(∀ x c,X.env.cells.lookup x=some c→c≠b)∧∀ p∈X.pn++pins,p.1≠b):Inv X pins σ H' s':=by
 obtain ⟨h',g',d',t',o'⟩:=s'
 have e:o'=s.os:=ho
 subst e
 exact I.call (g':=g') (t':=t') (d':=d') u hok hg hch
end
abbrev XK:=Value→Option Addr→Hp→Prop
abbrev St:=List (Option V)
abbrev VK:=V→Hp→Prop
abbrev TE:=St→Hp→VK→Prop
abbrev TT:=St→Hp→(Bool→Hp→Prop)→Prop
abbrev TA:=St→Hp→(List V→Hp→Prop)→Prop
structure GI where
 nx:St→Hp→Prop
 rt:VK
 bk:St→Hp→Prop:=fun _ _=>False
 ct:St→Hp→Prop:=fun _ _=>False
abbrev TS:=GI→St→Hp→Prop
def EP (X:Cx) (pins:List (Addr×Obj)) (σ:St) (Q:VK) (u:Value) (s':Shared):Prop:=∃ v H',Inv X pins σ H' s'∧AZ v u∧Q v H'
def TP (X:Cx) (pins:List (Addr×Obj)) (σ:St) (Q:Bool→Hp→Prop) (b:Bool) (s':Shared):Prop:=∃ H',Inv X pins σ H' s'∧Q b H'
def AP (X:Cx) (pins:List (Addr×Obj)) (σ:St) (Q:List V→Hp→Prop) (us:List Value) (s':Shared):Prop:=∃ vs H',Inv X pins σ H' s'∧AY vs us∧Q vs H'
def SP (X:Cx) (pins:List (Addr×Obj)) (D:GI) (f:Flow) (s':Shared):Prop:=
 match f with
 | .next=>∃ σ' H',Inv X pins σ' H' s'∧D.nx σ' H'
 | .brk=>∃ σ' H',Inv X pins σ' H' s'∧D.bk σ' H'
 | .cont=>∃ σ' H',Inv X pins σ' H' s'∧D.ct σ' H'
 | .ret u=>∃ v σ' H',Inv X pins σ' H' s'∧AZ v u∧D.rt v H'
def PE (X:Cx) (e:Expr) (t:TE):Prop:=
 ∀ (pins:List (Addr×Obj)) (s:Shared) (σ:St) (H:Hp) (Q:VK),Inv X pins σ H s→t σ H Q→wpAny (model X.prog X.w) X.A (eval e X.env) (EP X pins σ Q) X.xe s
def PT (X:Cx) (e:Expr) (t:TT):Prop:=
 ∀ (pins:List (Addr×Obj)) (s:Shared) (σ:St) (H:Hp) (Q:Bool→Hp→Prop),Inv X pins σ H s→t σ H Q→wpAny (model X.prog X.w) X.A (isTrue e X.env (eval e X.env)) (TP X pins σ Q) X.xe s
def PW (X:Cx) (e:Expr) (t:TT):Prop:=
 ∀ (whole:Sem Value) (pins:List (Addr×Obj)) (s:Shared) (σ:St) (H:Hp) (Q:Bool→Hp→Prop),Inv X pins σ H s→t σ H Q→wpAny (model X.prog X.w) X.A (isTrue e X.env whole) (TP X pins σ Q) X.xe s
theorem PW.pt {X:Cx} {e:Expr} {t:TT} (h:PW X e t):PT X e t:=h _
def PA (X:Cx) (es:List Expr) (t:TA):Prop:=
 ∀ (pos:Pos) (pins:List (Addr×Obj)) (s:Shared) (σ:St) (H:Hp) (Q:List V→Hp→Prop),Inv X pins σ H s→t σ H Q→wpAny (model X.prog X.w) X.A (spliced (backTo pos (starEach es X.env))) (AP X pins σ Q) X.xe s
def PS (X:Cx) (st:Stmt) (t:TS):Prop:=
 ∀ (pins:List (Addr×Obj)) (s:Shared) (σ:St) (H:Hp) (D:GI),Inv X pins σ H s→t D σ H→wpAny (model X.prog X.w) X.A (exec st X.env) (SP X pins D) X.xe s
def PSs (X:Cx) (st:List Stmt) (t:TS):Prop:=
 ∀ (pins:List (Addr×Obj)) (s:Shared) (σ:St) (H:Hp) (D:GI),Inv X pins σ H s→t D σ H→wpAny (model X.prog X.w) X.A (execs st X.env) (SP X pins D) X.xe s
theorem thn {α:Type} {t:Sem α} {Q Q':α→Shared→Prop} {M:Model} {A:Around} {E:Value→Shared→Prop} {s:Shared} (h:wpAny M A t Q E s) (hQ:∀ a s,Q a s→Q' a s):wpAny M A t Q' E s:=wpAny_mono h hQ fun _ _ x=>x
section
variable {X:Cx}
def XW (i:Nat):TE:=fun σ H Q=>∃ v,σ[i]? =some (some v)∧Q v H
def tC (v:V):TE:=fun _ H Q=>Q v H
theorem gA {i:Nat} {x:Str} {pos:Pos} (hN:X.N[i]? =some x) (hv:Vis X.env.scope x) (hd:(x == ("__debug__":Str))=false:=by decide) (hcd:(x == ("__classdict__":Str))=false:=by decide):PE X (.Name x pos) (XW i):=by
 walk_at "b18"
 obtain ⟨v,e,h⟩:=h
 obtain ⟨m,hn,hl⟩:=I.loc
 obtain ⟨u,r,l⟩:=hl i x v hN e hv
 have fin:EP X pins σ Q u s:=⟨v,H,I,r,h⟩
 rcases l with ⟨hk,hm⟩ | ⟨hk,c,hc,hcell⟩
 ·exact wpAny_Name (wpAny_loadName_local I.ok.kind hk hn hm fin) hd
 ·rcases hk with hk | hk
  ·exact wpAny_Name (wpAny_loadName_cell I.ok.kind hk hc hcell fin) hd
  ·exact wpAny_Name (wpAny_loadName_free I.ok.kind hk hc hcell fin hcd) hd
theorem AC {i j pos}:PE X (.Constant (.int i) j pos) (tC (.int i)):=fun _ _ _ H _ I h=>wpAny_Constant_int ⟨.int i,H,I.tok _,⟨_,rfl⟩,h⟩
theorem GU {b j pos}:PE X (.Constant (.bool b) j pos) (tC (.bl b)):=fun _ _ _ H _ I h=>Constant_bool ⟨.bl b,H,I,rfl,h⟩
theorem AK {x j pos}:PE X (.Constant (.str x) j pos) (tC (.str x)):=fun _ _ _ H _ I h=>Calls.Constant_str ⟨.str x,H,I.tok _,⟨_,rfl⟩,h⟩
def Gl (X:Cx) (x:Str):Prop:=X.env.kindOf x=some .globalImplicit
theorem PU {E:Value→Shared→Prop} {pins:List (Addr×Obj)} {s:Shared} {σ:St} {H:Hp} {x:Str} {u:Value} {pos:Pos} {Q:Value→Shared→Prop} (I:Inv X pins σ H s) (hg:Gl X x) (hm:X.mg x=some u) (h:Q u s)
  (hd:(x == ("__debug__":Str))=false:=by decide):wpAny (model X.prog X.w) X.A (eval (.Name x pos) X.env) Q E s:=
 Calls.Name_function_global I.ok.kind hg (Calls.loadGlobal_global (by rw [I.ok.glob];exact I.mod.glob.keeps I.bk) hm h) hd
theorem HH {E:Value→Shared→Prop} {pins:List (Addr×Obj)} {s:Shared} {σ:St} {H:Hp} {x:Str} {u:Value} {pos:Pos} {Q:Value→Shared→Prop} (I:Inv X pins σ H s) (hg:Gl X x) (hm:X.mg x=none) (hv:bootBuiltins x=some u) (h:Q u s)
  (hn:x≠"__name__":=by decide) (hd:(x == ("__debug__":Str))=false:=by decide):wpAny (model X.prog X.w) X.A (eval (.Name x pos) X.env) Q E s:=by
 obtain ⟨mb,h1,h2⟩:=I.mod.blt
 exact Calls.Name_function_global I.ok.kind hg (Calls.loadGlobal_builtin (by rw [I.ok.glob];exact I.mod.glob.keeps I.bk) hm (by rw [I.ok.blt];exact h1.keeps I.bk) ((h2 x hn).trans hv) h) hd
theorem DD {x:Str} {v:V} {u:Value} {pos:Pos} (hg:Gl X x) (hm:X.mg x=some u) (r:AZ v u) (hd:(x == ("__debug__":Str))=false:=by decide):PE X (.Name x pos) (tC v):=
 fun _ _ _ H _ I h=>PU I hg hm ⟨v,H,I,r,h⟩ hd
theorem DE {x:Str} {v:V} {u:Value} {pos:Pos} (hg:Gl X x) (hm:X.mg x=none) (hv:bootBuiltins x=some u) (r:AZ v u) (hn:x≠"__name__":=by decide) (hd:(x == ("__debug__":Str))=false:=by decide):PE X (.Name x pos) (tC v):=
 fun _ _ _ H _ I h=>HH I hg hm hv ⟨v,H,I,r,h⟩ hn hd
variable {a b:Expr} {ta tb:TE} {pos:Pos}
def tB (t:TE):TT:=fun σ H Q=>t σ H fun x H1=>∃ c,x= .bl c∧Q c H1
theorem gF {e:Expr} {t:TE} (h:PE X e t) (he:∀ whole,isTrue e X.env whole=(do let v ← whole;standAt e.pos;holding [v] (truthy v)):=by intro _;rfl):PT X e (tB t):=by
 intro pins s σ H Q I hw
 refine isTrue_plain (thn (h pins s σ H _ I hw) fun v s1 ⟨x,H1,I1,r1,q1⟩=> ?_) (he _)
 obtain ⟨d,rfl,q⟩:=q1
 cases r1
 exact wpAny_truthy_bool ⟨H1,I1,q⟩
variable {tA tB':TT} {DM:List Expr}
def ZR (t u:TT):TT:=fun σ H Q=>t σ H fun c H1=>if c=true then u σ H1 Q else Q false H1
def tOr (t u:TT):TT:=fun σ H Q=>t σ H fun c H1=>if c=true then Q true H1 else u σ H1 Q
def YO (t:TT):TT:=fun σ H Q=>t σ H fun c H1=>Q (!c) H1
theorem GD (ha:PT X a tA):PW X (.BoolOp .And [a] pos) tA:=by
 intro wh pins s σ H Q I h
 refine isTrue_and (thn (ha pins s σ H Q I h) fun c s1 e=> ?_)
 cases c with
 | true=>exact isTrue_and_nil e
 | false=>exact e
theorem TU (ha:PT X a tA):PW X (.BoolOp .Or [a] pos) tA:=by
 intro wh pins s σ H Q I h
 refine isTrue_or (thn (ha pins s σ H Q I h) fun c s1 e=> ?_)
 cases c with
 | false=>exact isTrue_or_nil e
 | true=>exact e
theorem IL (ha:PT X a tA) (hb:PW X (.BoolOp .And (b::DM) pos) tB'):PW X (.BoolOp .And (a::b::DM) pos) (ZR tA tB'):=by
 intro wh pins s σ H Q I h
 refine isTrue_and (thn (ha pins s σ H _ I h) fun c s1 ⟨H1,I1,q1⟩=> ?_)
 cases c with
 | true=>exact hb wh pins s1 σ H1 Q I1 q1
 | false=>exact ⟨H1,I1,q1⟩
theorem VR (ha:PT X a tA) (hb:PW X (.BoolOp .Or (b::DM) pos) tB'):PW X (.BoolOp .Or (a::b::DM) pos) (tOr tA tB'):=by
 intro wh pins s σ H Q I h
 refine isTrue_or (thn (ha pins s σ H _ I h) fun c s1 ⟨H1,I1,q1⟩=> ?_)
 cases c with
 | true=>exact ⟨H1,I1,q1⟩
 | false=>exact hb wh pins s1 σ H1 Q I1 q1
theorem JV (ha:PT X a tA):PT X (.UnaryOp .Not a pos) (YO tA):=by
 walk_at "b18"
 exact isTrue_not (ha pins s σ H (fun c H1=>Q (!c) H1) I h)
def RH (ta tb:TE):TE:=fun σ H Q=>ta σ H fun x H1=>∃ c,x= .bl c∧if c=true then tb σ H1 Q else Q (.bl false) H1
def bY (ta tb:TE):TE:=fun σ H Q=>ta σ H fun x H1=>∃ c,x= .bl c∧if c=true then Q (.bl true) H1 else tb σ H1 Q
def RM (ta:TE):TE:=fun σ H Q=>ta σ H fun x H1=>∃ c,x= .bl c∧Q (.bl (!c)) H1
theorem GQ {op} {t:TE} (h:PE X a t):PE X (.BoolOp op [a] pos) t:=fun pins s σ H Q I hw=>BoolOp_one (h pins s σ H Q I hw)
theorem hU (ha:PE X a ta) (hb:PE X (.BoolOp .And (b::DM) pos) tb):PE X (.BoolOp .And (a::b::DM) pos) (RH ta tb):=by
 walk_at "b18"
 refine BoolOp_and (thn (ha pins s σ H _ I h) fun v s1 ⟨x,H1,I1,r1,q1⟩=> ?_)
 obtain ⟨c,rfl,q1⟩:=q1
 cases r1
 refine wpAny_truthy_bool ?_
 cases c with
 | true=>exact hb pins s1 σ H1 Q I1 q1
 | false=>exact ⟨.bl false,H1,I1,rfl,q1⟩
theorem lD (ha:PE X a ta) (hb:PE X (.BoolOp .Or (b::DM) pos) tb):PE X (.BoolOp .Or (a::b::DM) pos) (bY ta tb):=by
 walk_at "b18"
 refine BoolOp_or (thn (ha pins s σ H _ I h) fun v s1 ⟨x,H1,I1,r1,q1⟩=> ?_)
 obtain ⟨c,rfl,q1⟩:=q1
 cases r1
 refine wpAny_truthy_bool ?_
 cases c with
 | false=>exact hb pins s1 σ H1 Q I1 q1
 | true=>exact ⟨.bl true,H1,I1,rfl,q1⟩
theorem iQ (ha:PE X a ta):PE X (.UnaryOp .Not a pos) (RM ta):=by
 walk_at "b18"
 refine UnaryOp_ (thn (ha pins s σ H _ I h) fun v s1 ⟨x,H1,I1,r1,q1⟩=> ?_)
 obtain ⟨c,rfl,q1⟩:=q1
 cases r1
 exact not_of (wpAny_truthy_bool ⟨.bl (!c),H1,I1,rfl,q1⟩)
end
def SqL (K:PySem.W.Frag) (H:Hp) (a:Addr) (xs:List V):Prop:=
 Rd H a (.lst xs)∨
  ∃ (o:Obj) (its:Array Value) (n:Nat),K.lookup a=some o∧o.cls= .type "list"∧o.dict=none∧o.data= .seq its n∧its.size≤sizeLine∧AY xs its.toList
def SqT (K:PySem.W.Frag) (H:Hp) (a:Addr) (xs:List V):Prop:=
 Rd H a (.tup xs)∨
  ∃ (o:Obj) (its:Array Value) (n:Nat),K.lookup a=some o∧o.cls= .type "tuple"∧o.data= .seq its n∧its.size≤sizeLine∧AY xs its.toList
def absV:Value→Option V
 | .none=>some .non
 | .bool b=>some (.bl b)
 | .int i _=>some (.int i)
 | .str x _=>some (.str x)
 | .bytes b _=>some (.byt b)
 | .float b _=>some (.flt b)
 | .ref a=>some (.ref a)
 | .type n=>some (.ty n)
 | _=>none
theorem AZ.abs {x:V} {u:Value} (r:AZ x u):absV u=some x:=by
 cases x with
 | non=>cases r;rfl
 | bl _=>cases r;rfl
 | int _=>obtain ⟨t,rfl⟩:=r;rfl
 | str _=>obtain ⟨t,rfl⟩:=r;rfl
 | byt _=>obtain ⟨t,rfl⟩:=r;rfl
 | flt _=>obtain ⟨t,rfl⟩:=r;rfl
 | ref _=>cases r;rfl
 | ty _=>cases r;rfl
theorem AZ.inj {x y:V} {u:Value} (r:AZ x u) (q:AZ y u):x=y:=Option.some.inj (r.abs.symm.trans q.abs)
theorem AY.inj:∀ {xs ys:List V} {us:List Value},AY xs us→AY ys us→xs=ys
 | _,_,_,.nil,.nil=>rfl
 | _,_,_,.cons r t,.cons r' t'=>by rw [r.inj r',AY.inj t t']
section
variable {X:Cx} {pins:List (Addr×Obj)} {σ:St} {H:Hp} {s:Shared} {a:Addr} {xs ys:List V}
theorem SqL.of {K:PySem.W.Frag} (h:H a=some (.lst xs)):SqL K H a xs:= .inl (.inl h)
theorem SqT.of {K:PySem.W.Frag} (h:H a=some (.tup xs)):SqT K H a xs:= .inl (.inl h)
theorem Inv.list (I:Inv X pins σ H s) (h:SqL X.K H a xs):∃ its:List Value,AY xs its∧PlainL s.heap a its.toArray∧xs.length≤sizeLine:=by
 rcases h with h | ⟨o,its,n,hk,hc,hd,hs,hz,r⟩
 ·obtain ⟨z,its,n,r,e⟩:=h.ok I.hok
  exact ⟨its,r,⟨_,n,e,rfl,rfl,rfl⟩,z⟩
 ·refine ⟨its.toList,r,⟨o,n,I.kIn a o hk,hc,hd,by simpa using hs⟩,?_⟩
  have e:=r.length
  simp only [Array.length_toList] at e
  omega
theorem Inv.tuple (I:Inv X pins σ H s) (h:SqT X.K H a xs):∃ its:List Value,AY xs its∧IsTup s.heap a its.toArray∧xs.length≤sizeLine:=by
 rcases h with h | ⟨o,its,n,hk,hc,hs,hz,r⟩
 ·obtain ⟨z,its,r,p⟩:=h.ok I.hok
  exact ⟨its,r,p,z⟩
 ·refine ⟨its.toList,r,⟨o,I.kIn a o hk,hc,n,by simpa using hs⟩,?_⟩
  have e:=r.length
  simp only [Array.length_toList] at e
  omega
theorem Inv.list_inj (I:Inv X pins σ H s) (h:SqL X.K H a xs) (h':SqL X.K H a ys):xs=ys:=by
 obtain ⟨its,r,⟨o,n,e,_,_,d⟩,_⟩:=I.list h
 obtain ⟨its',r',⟨o',n',e',_,_,d'⟩,_⟩:=I.list h'
 rw [e] at e';cases e'
 rw [d] at d'
 injection d' with d1 _
 have:its=its':=by simpa using congrArg Array.toList d1
 subst this
 exact r.inj r'
theorem Inv.tuple_inj (I:Inv X pins σ H s) (h:SqT X.K H a xs) (h':SqT X.K H a ys):xs=ys:=by
 obtain ⟨its,r,⟨o,e,_,n,d⟩,_⟩:=I.tuple h
 obtain ⟨its',r',⟨o',e',_,n',d'⟩,_⟩:=I.tuple h'
 rw [e] at e';cases e'
 rw [d] at d'
 injection d' with d1 _
 have:its=its':=by simpa using congrArg Array.toList d1
 subst this
 exact r.inj r'
end
abbrev Cx.wish (X:Cx) (E:Value→Shared→Prop):Cx:={ X with xe:=E }
abbrev Cx.nox (X:Cx):Cx:=X.wish fun _ _=>False
theorem Cx.Ok.wish {X:Cx} (ok:X.Ok) (E:Value→Shared→Prop):(X.wish E).Ok:=
 ⟨ok.mod,ok.kind,ok.glob,ok.blt,ok.above,ok.inj,ok.has,ok.cab,ok.hd,ok.frames,ok.stk,ok.exf,ok.bs,ok.bsz,ok.noex,ok.exfs,ok.funs,ok.frf⟩
theorem Cx.Ok.unwish {X:Cx} {E:Value→Shared→Prop} (ok:(X.wish E).Ok):X.Ok:=
 ⟨ok.mod,ok.kind,ok.glob,ok.blt,ok.above,ok.inj,ok.has,ok.cab,ok.hd,ok.frames,ok.stk,ok.exf,ok.bs,ok.bsz,ok.noex,ok.exfs,ok.funs,ok.frf⟩
section
variable {X:Cx} {pins:List (Addr×Obj)} {σ:St} {H:Hp} {s:Shared} {E:Value→Shared→Prop}
theorem Inv.wish (I:Inv X pins σ H s) (E:Value→Shared→Prop):Inv (X.wish E) pins σ H s:=⟨I.ok.wish E,I.os,I.bare,I.base,I.loc,I.cell,I.free,I.freeC,I.pin,I.hok,I.len⟩
theorem Inv.unwish (I:Inv (X.wish E) pins σ H s):Inv X pins σ H s:=⟨I.ok.unwish,I.os,I.bare,I.base,I.loc,I.cell,I.free,I.freeC,I.pin,I.hok,I.len⟩
theorem SP.unwish {D:GI} {f:Flow} {s':Shared} (h:SP (X.wish E) pins D f s'):SP X pins D f s':=by
 cases f with
 | next=>obtain ⟨σ',H',I,q⟩:=h;exact ⟨σ',H',I.unwish,q⟩
 | brk=>obtain ⟨σ',H',I,q⟩:=h;exact ⟨σ',H',I.unwish,q⟩
 | cont=>obtain ⟨σ',H',I,q⟩:=h;exact ⟨σ',H',I.unwish,q⟩
 | ret u=>obtain ⟨v,σ',H',I,r,q⟩:=h;exact ⟨v,σ',H',I.unwish,r,q⟩
theorem PSs.nox {st:List Stmt} {t:TS} (h:PSs X.nox st t):PSs X st t:=fun pins s σ H D I hw=>
 wpAny_mono (h pins s σ H D (I.wish _) hw) (fun _ _ q=>q.unwish) fun _ _ z=>False.elim z
end
section
variable {X:Cx} {st:Stmt} {DM:List Stmt} {t u:TS} {e:Expr} {te:TE} {pos:Pos}
def QW:TS:=fun D σ H=>D.nx σ H
def bQ (t u:TS):TS:=fun D σ H=>t { D with nx:=u D } σ H
theorem BF:PSs X [] QW:=fun _ _ σ H _ I h=>wpAny_execs_nil ⟨σ,H,I,h⟩
theorem AD (h1:PS X st t) (h2:PSs X DM u):PSs X (st::DM) (bQ t u):=by
 walk_at "b56"
 refine wpAny_execs_cons (thn (h1 pins s σ H { D with nx:=u D } I h) fun f s1 q=> ?_)
 cases f with
 | next=>
  obtain ⟨σ',H',I',q⟩:=q
  exact h2 pins s1 σ' H' D I' q
 | ret v=>exact q
 | brk=>exact q
 | cont=>exact q
theorem AG (h1:PS X st t):PSs X [st] t:=by
 walk_at "b56"
 refine wpAny_execs_cons (thn (h1 pins s σ H D I h) fun f s1 q=> ?_)
 cases f with
 | next=>exact wpAny_execs_nil q
 | ret v=>exact q
 | brk=>exact q
 | cont=>exact q
theorem Inv.quiet {pins:List (Addr×Obj)} {σ:St} {H:Hp} {s:Shared} (I:Inv X pins σ H s):interactive X.env=false:=by simp [interactive,I.ok.kind]
def SG (te:TE):TS:=fun D σ H=>te σ H fun _ H1=>D.nx σ H1
theorem BD (he:PE X e te) (hs:swapsWith e none pos.line X.env=pure false:=by rfl):PS X (.Expr e pos) (SG te):=by
 walk_at "b56"
 exact wpAny_Expr_any (thn (he pins s σ H _ I h) fun v s1 ⟨x,H1,I1,r1,q1⟩=>⟨σ,H1,I1,q1⟩) I.quiet hs
def aI (te:TE):TS:=fun D σ H=>te σ H D.rt
theorem AU (he:PE X e te):PS X (.Return (some e) pos) (aI te):=by
 walk_at "b56"
 exact wpAny_Return_some (thn (he pins s σ H _ I h) fun v s1 ⟨x,H1,I1,r1,q1⟩=>⟨x,σ,H1,I1,r1,q1⟩)
def RN:TS:=fun D _ H=>D.rt .non H
theorem cQ:PS X (.Return none pos) RN:=fun _ _ σ H _ I h=>wpAny_Return_none ⟨.non,σ,H,I,rfl,h⟩
def bK (c:TT) (t u:TS):TS:=fun D σ H=>c σ H fun b H1=>if b=true then t D σ H1 else u D σ H1
theorem BV {c:Expr} {a b:List Stmt} {tc:TT} (hc:PT X c tc) (ha:PSs X a t) (hb:PSs X b u):PS X (.If c a b pos) (bK tc t u):=by
 walk_at "b56"
 refine wpAny_If (thn (hc pins s σ H _ I h) fun d s1 ⟨H1,I1,q1⟩=> ?_)
 cases d with
 | true=>exact ha pins s1 σ H1 D I1 q1
 | false=>exact hb pins s1 σ H1 D I1 q1
def MH:TS:=fun _ _ _=>False
theorem cB:PS X st MH:=fun _ _ _ _ _ _ h=>h.elim
end
abbrev TG:=V→St→Hp→(St→Hp→Prop)→Prop
abbrev TGs:=List V→St→Hp→(St→Hp→Prop)→Prop
def PG (X:Cx) (target:Expr) (t:TG):Prop:=
 ∀ (pins:List (Addr×Obj)) (s:Shared) (σ:St) (H:Hp) (v:V) (u:Value) (Q:St→Hp→Prop),Inv X pins σ H s→AZ v u→t v σ H Q→
  wpAny (model X.prog X.w) X.A (assign target X.env u) (fun _ s'=>∃ σ' H',Inv X pins σ' H' s'∧Q σ' H') X.xe s
def PGs (X:Cx) (ts:List Expr) (t:TGs):Prop:=
 ∀ (pins:List (Addr×Obj)) (s:Shared) (σ:St) (H:Hp) (vs:List V) (us:List Value) (Q:St→Hp→Prop),Inv X pins σ H s→AY vs us→t vs σ H Q→
  wpAny (model X.prog X.w) X.A (assignInOrder ((assignEach ts X.env).map (·.2)) us) (fun _ s'=>∃ σ' H',Inv X pins σ' H' s'∧Q σ' H') X.xe s
abbrev lA:=V→V→V→Hp→(Hp→Prop)→Prop
def jH (X:Cx) (t:lA):Prop:=
 ∀ (pins:List (Addr×Obj)) (s:Shared) (σ:St) (H:Hp) (o i v:V) (ov iv u:Value) (Q:Hp→Prop),Inv X pins σ H s→AZ o ov→AZ i iv→AZ v u→t o i v H Q→
  wpAny (model X.prog X.w) X.A (setItem ov iv u) (fun _ s'=>∃ H',Inv X pins σ H' s'∧Q H') X.xe s
abbrev TIp:=V→V→Hp→VK→Prop
def PIp (X:Cx) (op:Operator) (t:TIp):Prop:=
 ∀ (pins:List (Addr×Obj)) (s:Shared) (σ:St) (H:Hp) (x y:V) (v u:Value) (Q:VK),Inv X pins σ H s→AZ x v→AZ y u→t x y H Q→
  wpAny (model X.prog X.w) X.A (inplaceOp op v u) (EP X pins σ Q) X.xe s
section
variable {X:Cx} {pos:Pos}
def LD (i:Nat):TG:=fun v σ H Q=>Q (σ.set i (some v)) H
theorem AQ {i:Nat} {x:Str} (hN:X.N.Nodup) (hi:X.N[i]? =some x) (hx:Loc X.env.scope x) (hf:X.fn x=true∨X.env.scope.names.lookup x=some .local:=by first | exact .inl rfl | exact .inr rfl | assumption):PG X (.Name x pos) (LD i):=by
 intro pins s σ H v u Q I r h
 exact wpAny_assign_Name (MB I hN hi hx r (fun s' I'=>⟨_,H,I',h⟩) hf)
def aA:TGs:=fun vs σ H Q=>vs=[]∧Q σ H
def RY (t:TG) (u:TGs):TGs:=fun vs σ H Q=>∃ v r,vs=v::r∧t v σ H fun σ' H'=>u r σ' H' Q
theorem cV:PGs X [] aA:=by
 intro pins s σ H vs us Q I r h
 obtain ⟨e,h⟩:=h
 subst e
 cases r
 exact assignInOrder_nil ⟨σ,H,I,h⟩
theorem bW {e:Expr} {es:List Expr} {t:TG} {u:TGs} (h1:PG X e t) (h2:PGs X es u)
  (hs:(assignEach (e::es) X.env).map (·.2)=assign e X.env::(assignEach es X.env).map (·.2):=by rfl):PGs X (e::es) (RY t u):=by
 intro pins s σ H vs us Q I r h
 obtain ⟨v,vr,e1,h⟩:=h
 subst e1
 cases r with
 | cons r rr=>
  rw [hs]
  refine assignInOrder_cons (thn (h1 pins s σ H _ _ _ I r h) fun _ s1 ⟨σ1,H1,I1,q1⟩=> ?_)
  exact h2 pins s1 σ1 H1 _ _ Q I1 rr q1
def bM (K:PySem.W.Frag) (n:Nat) (t:TGs):TG:=fun v σ H Q=>∃ a xs,v= .ref a∧SqT K H a xs∧xs.length=n∧t xs σ H Q
theorem gP {es:List Expr} {k:Nat} {t:TGs} {n:Nat} (hc:X.calm=true) (h:PGs X es t)
  (hn:(assignEach es X.env).length=n:=by rfl) (hst:(assignEach es X.env).findIdx? (·.1)=none:=by rfl):PG X (.Tuple es k pos) (bM X.K n t):=by
 intro pins s σ H v u Q I r hw
 obtain ⟨a,xs,e1,hq,hl,hw⟩:=hw
 subst e1
 cases r
 obtain ⟨its,rv,ht,hz⟩:=I.tuple hq
 refine assign_Tuple_tuple (I.ok.hd hc) ht (by simp [hn,← hl,rv.length]) hst fun h' hx=> ?_
 have I1:Inv X pins σ H { s with heap:=h' }:=I.kept (t':=s.toks) fun b o e=>hx b o (Nat.ne_of_lt (Heap.lt_size e)) e
 exact h pins _ σ H xs _ Q I1 (by simpa using rv) hw
def TN (te:TE) (g:TG):TS:=fun D σ H=>te σ H fun x H1=>g x σ H1 D.nx
theorem MC {tg e:Expr} {te:TE} {g:TG} (he:PE X e te) (hg:PG X tg g) (hs:swapsWithSole [tg] e pos.line X.env=pure false:=by rfl) (hw:swappedStores [tg] e X.env=pure none:=by rfl)
  (h1:(assignEach [tg] X.env).map (·.2)=[assign tg X.env]:=by rfl):PS X (.Assign [tg] e pos) (TN te g):=by
 walk_at "b56"
 refine wpAny_Assign_stores (thn (he pins s σ H _ I h) fun v s1 ⟨x,H1,I1,r1,q1⟩=> ?_) hs hw
 rw [h1]
 exact thn (hg pins s1 σ H1 x v _ I1 r1 q1) fun _ s2 q=>q
theorem AN {i:Nat} {x:Str} {e:Expr} {te:TE} {pos':Pos} (hN:X.N.Nodup) (hi:X.N[i]? =some x) (hx:Loc X.env.scope x) (he:PE X e te) (hs:swapsWith e (some (.Name x pos')) pos.line X.env=pure false:=by rfl) (hf:X.fn x=true∨X.env.scope.names.lookup x=some .local:=by first | exact .inl rfl | exact .inr rfl | assumption):
  PS X (.Assign [.Name x pos'] e pos) (TN te (LD i)):=by
 walk_at "b56"
 refine wpAny_Assign_Name (thn (he pins s σ H _ I h) fun v s1 ⟨y,H1,I1,r1,q1⟩=> ?_) hs
 exact MB I1 hN hi hx r1 (fun s2 I2=>⟨_,H1,I2,q1⟩) hf
def ZW (i:Nat) (te:TE) (ti:TIp):TS:=fun D σ H=>∃ x,σ[i]? =some (some x)∧te σ H fun y H1=>ti x y H1 fun z H2=>D.nx (σ.set i (some z)) H2
theorem LS {i:Nat} {x:Str} {e:Expr} {te:TE} {op:Operator} {ti:TIp} {pos':Pos} (hN:X.N.Nodup) (hi:X.N[i]? =some x) (hx:Loc X.env.scope x) (he:PE X e te) (ho:PIp X op ti) (hf:X.fn x=true∨X.env.scope.names.lookup x=some .local:=by first | exact .inl rfl | exact .inr rfl | assumption):
  PS X (.AugAssign (.Name x pos') op e pos) (ZW i te ti):=by
 walk_at "b56"
 obtain ⟨v,e1,h⟩:=h
 obtain ⟨m,hn,hl⟩:=I.loc
 have vis:Vis X.env.scope x:=by rcases hx with k | k;exact .inl k;exact .inr (.inl k)
 obtain ⟨u,r,l⟩:=hl i x v hi e1 vis
 refine wpAny_AugAssign_Name ?_
 have go:wpAny (model X.prog X.w) X.A (eval e X.env) (fun w s₂=>wpAny (model X.prog X.w) X.A (inplaceOp op u w) (fun r s₃=>wpAny (model X.prog X.w) X.A (storeName X.env x r) (fun _=>SP X pins D .next) X.xe s₃) X.xe s₂) X.xe s:=by
  refine thn (he pins s σ H _ I h) fun w s1 ⟨y,H1,I1,r1,q1⟩=> ?_
  refine thn (ho pins s1 σ H1 v y u w _ I1 r r1 q1) fun z s2 ⟨zv,H2,I2,r2,q2⟩=> ?_
  exact MB I2 hN hi hx r2 (fun s3 I3=>⟨_,H2,I3,q2⟩) hf
 rcases l with ⟨hk,hm⟩ | ⟨hk,c,hc,hcell⟩
 ·exact wpAny_loadName_local I.ok.kind hk hn hm go
 ·rcases hk with hk | hk
  ·exact wpAny_loadName_cell I.ok.kind hk hc hcell go
  ·rcases hx with k | k
   ·have:X.env.scope.names.lookup x=some .free:=hk
    rw [k] at this;cases this
   ·have:X.env.scope.names.lookup x=some .free:=hk
    rw [k] at this;cases this
def ipI (f:Int→Int→Int):TIp:=fun x y H Q=>∃ i j,x= .int i∧y= .int j∧Q (.int (f i j)) H
theorem MQ:PIp X .Add (ipI fun i j=>i+j):=by
 intro pins s σ H x y v u Q I r1 r2 h
 obtain ⟨i,j,e1,e2,q⟩:=h
 subst e1;subst e2
 obtain ⟨t,rfl⟩:=r1
 obtain ⟨t',rfl⟩:=r2
 exact iadd_int ⟨.int _,H,I.tok _,⟨_,rfl⟩,q⟩
end
section
variable {X:Cx} {pos:Pos}
def TF (c:TT) (tb:TS):TS:=fun D σ H=>∃ W:Nat→St→Hp→Prop,(∃ m,W m σ H)∧∀ m σ H,W m σ H→
 c σ H fun b H1=>if b=true then ∃ N:St→Hp→Prop,(∀ σ' H',N σ' H'→∃ m',m'<m∧W m' σ' H')∧tb { D with nx:=N,ct:=N,bk:=D.nx } σ H1 else D.nx σ H1
theorem NF {c:Expr} {body:List Stmt} {tc:TT} {tb:TS} (hp:PassesOwn (model X.prog X.w) X.A X.env X.xe) (hc:PT X c tc) (hb:PSs X body tb):PS X (.While c body [] pos) (TF tc tb):=by
 walk_at "b56"
 obtain ⟨W,⟨m0,w0⟩,turn⟩:=h
 refine wpAny_While (codeAny_whileLoop (fun n s'=>∃ σ' H',Inv X pins σ' H' s'∧W n σ' H') ?_ m0 ⟨σ,H,I,w0⟩)
 rintro n s1 ⟨σ1,H1,I1,w1⟩
 refine wpAny_passesOwn hp (thn (hc pins s1 σ1 H1 _ I1 (turn n σ1 H1 w1)) fun b s2 ⟨H2,I2,q2⟩=> ?_)
 cases b with
 | true=>
  obtain ⟨N,hN,q2⟩:=q2
  rw [if_pos rfl]
  refine wpAny_passesOwn hp (thn (hb pins s2 σ1 H2 _ I2 q2) fun f s3 q3=> ?_)
  cases f with
  | next=>
   obtain ⟨σ3,H3,I3,n3⟩:=q3
   obtain ⟨m',hm,w3⟩:=hN σ3 H3 n3
   exact ⟨m',hm,σ3,H3,I3,w3⟩
  | cont=>
   obtain ⟨σ3,H3,I3,n3⟩:=q3
   obtain ⟨m',hm,w3⟩:=hN σ3 H3 n3
   exact ⟨m',hm,σ3,H3,I3,w3⟩
  | brk=>exact q3
  | ret v=>exact q3
 | false=>
  rw [if_neg Bool.false_ne_true]
  exact wpAny_execs_nil ⟨σ1,H2,I2,q2⟩
end
structure It where
 go:Nat→Hp→Prop
 yld:Nat→Hp→V→Hp→Prop
 stop:Nat→Hp→Prop
def KM (X:Cx) (pins:List (Addr×Obj)) (H:Hp) (b:Addr):Prop:=
 H b=none∧b≠X.env.locals∧b∉X.fs∧(b∈X.ex∨X.s₀.heap.objs.size≤b)∧(∀ x c,X.env.cells.lookup x=some c→c≠b)∧∀ p∈X.pn++pins,p.1≠b
theorem Inv.fpOk {X:Cx} {pins:List (Addr×Obj)} {σ:St} {H H':Hp} {s:Shared} {b:Addr} (I:Inv X pins σ H s) (hb:s.heap.objs.size≤b) (hn:H' b=none):KM X pins H' b:=by
 refine ⟨hn,Nat.ne_of_gt (Nat.lt_of_lt_of_le I.lt hb),I.nofs hb,.inr (Nat.le_trans I.sz hb),fun x c e z=> ?_,fun p hp z=> ?_⟩
 ·obtain ⟨v,q⟩:=I.cell x c e
  exact absurd (Nat.lt_of_lt_of_le q.lt (by rw [z];exact hb)) (Nat.lt_irrefl _)
 ·exact absurd (Nat.lt_of_lt_of_le (Heap.lt_size (I.pin p hp).1) (by rw [z];exact hb)) (Nat.lt_irrefl _)
structure WG (P:Program) (w:World) (K:PySem.W.Frag) (tg:Expr) (J:It) (fp:List Addr) (it:Addr) (tn:Nat→Heap→Prop):Prop where
 mem:it∈fp
 obj:∀ i h,tn i h→∀ b∈fp,∃ o,h.get? b=some o∧∀ v,o.data≠ .cell v
 keep:∀ i h h',tn i h→(∀ b∈fp,∀ o,h.get? b=some o→h'.get? b=some o)→tn i h'
 item:∀ (X:Cx),X.prog=P→X.w=w→X.K=K→X.calm=true→∀ (i:Nat) (pins:List (Addr×Obj)) (s:Shared) (σ:St) (H:Hp) (E:Value→Shared→Prop),Inv X pins σ H s→(∀ b∈fp,KM X pins H b)→tn i s.heap→J.go i H→
  wpAny (model P w) X.A (pyNext (.ref it)) (fun r s1=>∃ u,r=some u∧
   wpAny (model P w) X.A (letOwnedTupleGo tg (.ref it) u) (fun _ s2=>∃ x H',Inv X pins σ H' s2∧AZ x u∧J.yld i H x H'∧tn (i+1) s2.heap∧∀ b∈fp,H' b=none) E s1) E s
 done:∀ (X:Cx),X.prog=P→X.w=w→X.K=K→X.calm=true→∀ (i:Nat) (pins:List (Addr×Obj)) (s:Shared) (σ:St) (H:Hp) (E:Value→Shared→Prop),Inv X pins σ H s→(∀ b∈fp,KM X pins H b)→tn i s.heap→J.stop i H→
  wpAny (model P w) X.A (pyNext (.ref it)) (fun r s1=>r=none∧Inv X pins σ H s1) E s
 self:∀ (A:Around) (i:Nat) (s:Shared) (Q:Value→Shared→Prop) (E:Value→Shared→Prop),tn i s.heap→Q (.ref it) s→wpAny (model P w) A (pyIter (.ref it)) Q E s
abbrev TI:=St→Hp→(It→Hp→Prop)→Prop
def PIE (X:Cx) (pins:List (Addr×Obj)) (σ:St) (tg:Expr) (R:It→Hp→Prop) (itv:Value) (s2:Shared):Prop:=
 ∃ (it:Addr) (fp:List Addr) (tn:Nat→Heap→Prop) (J:It) (H':Hp),itv= .ref it∧Inv X pins σ H' s2∧WG X.prog X.w X.K tg J fp it tn∧tn 0 s2.heap∧(∀ b∈fp,KM X pins H' b)∧R J H'
def PI (X:Cx) (tg iter:Expr) (wi:TI):Prop:=
 ∀ (pins:List (Addr×Obj)) (s:Shared) (σ:St) (H:Hp) (R:It→Hp→Prop),Inv X pins σ H s→wi σ H R→
  wpAny (model X.prog X.w) X.A (eval iter X.env) (fun v s1=>wpAny (model X.prog X.w) X.A (pyIter v) (PIE X pins σ tg R) X.xe s1) X.xe s
theorem VC {M:Model} {A:Around} {E:Value→Shared→Prop} {s:Shared} {tg:Expr} {it:Addr} {u:Value} {o:Obj} {n:String} {vs:Array Value} {Q:Unit→Shared→Prop} (ho:s.heap.get? it=some o) (hc:o.cls= .type n) (hd:o.data= .fields vs)
  (hn:["enumerate","zip","dict_itemiterator","dict_reverseitemiterator","odict_iterator","itertools.zip_longest","itertools.pairwise"].contains n=false) (hQ:Q () s):wpAny M A (letOwnedTupleGo tg (.ref it) u) Q E s:=by
 unfold letOwnedTupleGo
 cases tg<;> first
  | exact wpAny_pure hQ
  | (cases u<;> first
    | exact wpAny_pure hQ
    | (refine wpAny_bind (wpAny_load ho ?_)
       rw [hc,hd]
       show wpAny M A (if (["enumerate","zip","dict_itemiterator","dict_reverseitemiterator","odict_iterator","itertools.zip_longest","itertools.pairwise"].contains n && vs[0]? == some (rawInt _))=true then _ else _) Q E s
       rw [if_neg (by intro h;rw [hn,Bool.false_and] at h;cases h)]
       exact wpAny_pure hQ))
def Itl (K:PySem.W.Frag) (a:Addr):It:=
 ⟨fun i H=>∃ xs x,SqL K H a xs∧xs[i]? =some x,fun i H x H'=>H'=H∧∀ xs,SqL K H a xs→xs[i]? =some x,fun i H=>∃ xs,SqL K H a xs∧xs.length≤i⟩
def Itt (K:PySem.W.Frag) (a:Addr):It:=
 ⟨fun i H=>∃ xs x,SqT K H a xs∧xs[i]? =some x,fun i H x H'=>H'=H∧∀ xs,SqT K H a xs→xs[i]? =some x,fun i H=>∃ xs,SqT K H a xs∧xs.length≤i⟩
def Itr (lo:Int) (n:Nat):It:=⟨fun i _=>i<n,fun i H x H'=>H'=H∧x= .int (lo+i),fun i _=>n≤i⟩
theorem XJ {P:Program} {w:World} {K:PySem.W.Frag} {tg:Expr} (a it:Addr):WG P w K tg (Itl K a) [it] it (fun i h=>h.IsListIter it a i) where
 mem:=by simp
 obj:=fun i h st b hb=>by
  walk_at "b25"
 keep:=fun i h h' st k=>st.at fun o e=>k it (by simp) o e
 item:=by
  walk_at "b10"
  obtain ⟨xs,x,hq,hx⟩:=hg
  obtain ⟨its,rv,p,hz⟩:=I.list hq
  obtain ⟨u,hu,ru⟩:=rv.get hx
  walk_at "b19"
  refine wpAny_pyNext_list_item st p.isList (x:=u) (by simpa using hu) fun h' st' sb=> ?_
  walk_at "b43"
  exact ⟨u,rfl,VC (s:={ s with heap:=h' }) e c d (by decide) ⟨x,H,I1,ru,⟨rfl,fun ys hy=>by rw [I.list_inj hy hq];exact hx⟩,st',fun b hb=>(hf b hb).1⟩⟩
 done:=by
  walk_at "b10"
  obtain ⟨xs,hq,hx⟩:=hg
  obtain ⟨its,rv,p,hz⟩:=I.list hq
  walk_at "b19"
  have hl:=rv.length
  exact wpAny_pyNext_list_end (I.ok.hd hc) st p.isList (by simp;omega) fun h' eb=>⟨rfl,I.turned (t':=s.toks) (fun b o hb e=>eb b o hb e) f0 f1 f3 f4 f5⟩
 self:=fun _ _ _ _ _ st h=>wpAny_pyIter_listiter st h
theorem UD {P:Program} {w:World} {K:PySem.W.Frag} {tg:Expr} (a it:Addr):WG P w K tg (Itt K a) [it] it (fun i h=>h.IsTupleIter it a i) where
 mem:=by simp
 obj:=fun i h st b hb=>by
  walk_at "b25"
 keep:=fun i h h' st k=>st.at fun o e=>k it (by simp) o e
 item:=by
  walk_at "b10"
  obtain ⟨xs,x,hq,hx⟩:=hg
  obtain ⟨its,rv,p,hz⟩:=I.tuple hq
  obtain ⟨u,hu,ru⟩:=rv.get hx
  walk_at "b19"
  refine wpAny_pyNext_tuple_item st (show s.heap.IsTuple a its.toArray from p) (x:=u) (by simpa using hu) fun h' st' sb=> ?_
  walk_at "b43"
  exact ⟨u,rfl,VC (s:={ s with heap:=h' }) e c d (by decide) ⟨x,H,I1,ru,⟨rfl,fun ys hy=>by rw [I.tuple_inj hy hq];exact hx⟩,st',fun b hb=>(hf b hb).1⟩⟩
 done:=by
  walk_at "b10"
  obtain ⟨xs,hq,hx⟩:=hg
  obtain ⟨its,rv,p,hz⟩:=I.tuple hq
  walk_at "b19"
  have hl:=rv.length
  exact wpAny_pyNext_tuple_end (I.ok.hd hc) st (show s.heap.IsTuple a its.toArray from p) (by simp;omega) fun h' eb=>⟨rfl,I.turned (t':=s.toks) (fun b o hb e=>eb b o hb e) f0 f1 f3 f4 f5⟩
 self:=fun _ _ _ _ _ st h=>wpAny_pyIter_tupleiter st h
theorem TK {P:Program} {w:World} {K:PySem.W.Frag} {tg:Expr} (it:Addr) (lo:Int) (n:Nat):WG P w K tg (Itr lo n) [it] it (fun i h=>IsRangeIter h it (lo+(i:Nat) * 1) ((n:Int) - (i:Nat)) 1) where
 mem:=by simp
 obj:=fun i h st b hb=>by
  have e:b=it:=by simpa using hb
  subst e
  exact ⟨_,st,fun v z=>by
   have z':Data.fields _=Data.cell v:=z
   cases z'⟩
 keep:=fun i h h' st k=>k it (by simp) _ st
 item:=by
  walk_at "b10"
  walk_at "b19"
  have W:=Walks.range (prog:=X.prog) (w:=X.w) (I.ok.hd hc) it lo 1 n
  refine W.item i s _ _ hg st fun v h' tk hv st' kk=> ?_
  obtain ⟨t,rfl⟩:=hv
  have I1:Inv X pins σ H { s with heap:=h',toks:=tk }:=I.turned (fun b o hb e=>kk b o (by simpa using hb) e) f0 f1 f3 f4 f5
  refine ⟨_,rfl,VC (s:={ s with heap:=h',toks:=tk }) (n:="range_iterator") st' rfl rfl (by decide) ⟨.int (lo+i),H,I1,⟨t,?_⟩,⟨rfl,rfl⟩,st',fun b hb=>(hf b hb).1⟩⟩
  rw [Int.mul_one]
 done:=by
  walk_at "b10"
  walk_at "b19"
  exact wpAny_pyNext_range_end (I.ok.hd hc) st (by have:n≤i:=hg;omega) fun h' eb=>⟨rfl,I.turned (t':=s.toks) (fun b o hb e=>eb b o hb e) f0 f1 f3 f4 f5⟩
 self:=fun _ _ _ _ _ st h=>wpAny_pyIter_rangeiter st h
section
variable {X:Cx} {tg:Expr}
def RT (K:PySem.W.Frag) (tl:TE):TI:=fun σ H R=>tl σ H fun x H1=>∃ a,x= .ref a∧(∃ xs,SqL K H1 a xs)∧R (Itl K a) H1
def aN (K:PySem.W.Frag) (tl:TE):TI:=fun σ H R=>tl σ H fun x H1=>∃ a,x= .ref a∧(∃ xs,SqT K H1 a xs)∧R (Itt K a) H1
theorem cN {l:Expr} {tl:TE} (hl:PE X l tl):PI X tg l (RT X.K tl):=by
 walk_at "b42"
 obtain ⟨its,rv,p,hz⟩:=I1.list hq
 refine wpAny_pyIter_list p.isList ?_
 refine ⟨s1.heap.objs.size,[s1.heap.objs.size],_,_,H1,rfl,I1.kept (t':=s1.toks) fun b o e=>Heap.get?_push_of_some _ e,XJ a _,⟨_,Heap.get?_push_size _ rfl,rfl,rfl⟩,fun b hb=> ?_,q⟩
 walk_at "b24"
theorem gQ {l:Expr} {tl:TE} (hl:PE X l tl):PI X tg l (aN X.K tl):=by
 walk_at "b42"
 obtain ⟨its,rv,p,hz⟩:=I1.tuple hq
 refine wpAny_pyIter_tuple (show s1.heap.IsTuple a its.toArray from p) ?_
 refine ⟨s1.heap.objs.size,[s1.heap.objs.size],_,_,H1,rfl,I1.kept (t':=s1.toks) fun b o e=>Heap.get?_push_of_some _ e,UD a _,⟨_,Heap.get?_push_size _ rfl,rfl,rfl⟩,fun b hb=> ?_,q⟩
 walk_at "b24"
theorem QM {pins:List (Addr×Obj)} {σ:St} {H:Hp} {s:Shared} {R:It→Hp→Prop} {E:Value→Shared→Prop} {lo hi:Int} {t u v:Tok} {tk:Nat} (I:Inv X pins σ H s) (h1: -(2 ^ 62)≤lo) (h2:lo<2 ^ 62) (h3: -(2 ^ 62)≤hi) (h4:hi<2 ^ 62)
  (q:R (Itr lo (hi - lo).toNat) H):wpAny (model X.prog X.w) X.A (pyIter (.ref s.heap.objs.size)) (PIE X pins σ tg R) E { s with heap:=s.heap.push { cls:= .type "range",data:= .fields #[.int lo t,.int hi u,.int 1 v] },toks:=tk }:=by
 refine wpAny_pyIter_range (IsRange.new ..) (small_one h1 h2 h3 h4) ?_
 have I1:Inv X pins σ H { s with heap:=s.heap.push { cls:= .type "range",data:= .fields #[.int lo t,.int hi u,.int 1 v] },toks:=tk }:=I.kept fun b o e=>Heap.get?_push_of_some _ e
 refine ⟨(s.heap.push { cls:= .type "range",data:= .fields #[.int lo t,.int hi u,.int 1 v] }).objs.size,[(s.heap.push { cls:= .type "range",data:= .fields #[.int lo t,.int hi u,.int 1 v] }).objs.size],_,_,H,rfl,
  I1.kept (t':=tk) fun b o e=>Heap.get?_push_of_some _ e,TK _ lo (hi - lo).toNat,?_,fun b hb=> ?_,q⟩
 ·have e1:lo+((0:Nat):Int) * 1=lo:=by simp
  have e2:(((hi - lo).toNat:Nat):Int) - ((0:Nat):Int)=Builtin.Range.rangeSize lo hi 1:=by rw [rangeSize_one];split<;> omega
  show IsRangeIter _ _ (lo+((0:Nat):Int) * 1) ((((hi - lo).toNat:Nat):Int) - ((0:Nat):Int)) 1
  rw [e1,e2]
  exact Heap.get?_push_size _ rfl
 ·have e:b=(s.heap.push { cls:= .type "range",data:= .fields #[.int lo t,.int hi u,.int 1 v] }).objs.size:=by simpa using hb
  subst e
  exact I1.fpOk (Nat.le_refl _) (I1.hok.fresh (Nat.le_refl _))
def RI (ta:TA):TI:=fun σ H R=>ta σ H fun vs H1=>∃ j:Int,vs=[.int j]∧ -(2 ^ 62)≤j∧j<2 ^ 62∧R (Itr 0 j.toNat) H1
def RZ (ta:TA):TI:=fun σ H R=>ta σ H fun vs H1=>∃ i j:Int,vs=[.int i,.int j]∧(-(2 ^ 62)≤i∧i<2 ^ 62∧ -(2 ^ 62)≤j∧j<2 ^ 62)∧R (Itr i (j - i).toNat) H1
theorem CS {a:Expr} {ta:TA} {p pos:Pos} (hg:Gl X "range") (hm:X.mg "range"=none) (ha:PA X [a] ta) (hs:starEach [a] X.env=[(false,eval a X.env)]:=by rfl):PI X tg (.Call (.Name "range" p) [a] [] pos) (RI ta):=by
 intro pins s σ H R I h
 refine Call_ (HH I hg hm boot_range (PyProof.Rows.callWith_type1 (thn (ha pos pins s σ H _ I h) fun us s1 ⟨vs,H1,I1,r1,q1⟩=> ?_) hs rfl))
 obtain ⟨j,e,q1,q2,q⟩:=q1
 subst e
 cases r1 with
 | cons r rr=>
  cases rr
  obtain ⟨t,rfl⟩:=r
  exact call_range_1 (QM I1 (by omega) (by omega) q1 q2 (by simpa using q))
theorem XQ {a b:Expr} {ta:TA} {p pos:Pos} (hg:Gl X "range") (hm:X.mg "range"=none) (ha:PA X [a,b] ta) (hs:starEach [a,b] X.env=[(false,eval a X.env),(false,eval b X.env)]:=by rfl) (hs2:starEach [b] X.env=[(false,eval b X.env)]:=by rfl):
  PI X tg (.Call (.Name "range" p) [a,b] [] pos) (RZ ta):=by
 intro pins s σ H R I h
 refine Call_ (HH I hg hm boot_range (PyProof.Rows.callWith_type1 (thn (ha pos pins s σ H _ I h) fun us s1 ⟨vs,H1,I1,r1,q1⟩=> ?_) (by rw [hs,hs2]) (by rw [hs2];rfl)))
 obtain ⟨i,j,e,⟨q1,q2,q3,q4⟩,q⟩:=q1
 subst e
 cases r1 with
 | cons r rr=>
  cases rr with
  | cons r' rr=>
   cases rr
   obtain ⟨t,rfl⟩:=r
   obtain ⟨t',rfl⟩:=r'
   exact call_range_2 (QM I1 q1 q2 q3 q4 q)
def jX (wi:TI) (g:TG) (tb:TS):TS:=fun D σ H=>wi σ H fun J H1=>∃ W:Nat→Nat→St→Hp→Prop,(∃ m,W 0 m σ H1)∧∀ i m σ H,W i m σ H→
 (J.stop i H∧D.nx σ H)∨(J.go i H∧∃ N:St→Hp→Prop,(∀ σ' H',N σ' H'→∃ m',m'<m∧W (i+1) m' σ' H')∧∀ x H',J.yld i H x H'→g x σ H' fun σ2 H2=>tb { D with nx:=N,ct:=N,bk:=D.nx } σ2 H2)
def KK (fp:List Addr) (h:Heap):List (Addr×Obj):=fp.filterMap fun b=>(h.get? b).map fun o=>(b,o)
theorem EE {fp:List Addr} {h:Heap} {b:Addr} {o:Obj} (hb:b∈fp) (e:h.get? b=some o):(b,o)∈KK fp h:=List.mem_filterMap.mpr ⟨b,hb,by rw [e];rfl⟩
theorem XC {fp:List Addr} {h:Heap} {p:Addr×Obj} (hp:p∈KK fp h):p.1∈fp∧h.get? p.1=some p.2:=by
 obtain ⟨b,hb,e⟩:=List.mem_filterMap.mp hp
 cases q:h.get? b with
 | none=>rw [q] at e;cases e
 | some o=>
  rw [q] at e
  have e':(b,o)=p:=Option.some.inj e
  subst e'
  exact ⟨hb,q⟩
theorem Inv.pinned {pins:List (Addr×Obj)} {σ:St} {H:Hp} {s:Shared} {fp:List Addr} (I:Inv X pins σ H s) (hf:∀ b∈fp,KM X pins H b) (ho:∀ b∈fp,∃ o,s.heap.get? b=some o∧∀ v,o.data≠ .cell v):Inv X (pins++KK fp s.heap) σ H s:=
 I.pins_of fun p hp=>(List.mem_append.mp hp).elim (fun z=>I.pin p (List.mem_append_right _ z)) fun z=>by
  obtain ⟨hb,e⟩:=XC z
  obtain ⟨f0,f1,f2,_⟩:=hf p.1 hb
  obtain ⟨o,e',d⟩:=ho p.1 hb
  rw [e] at e';cases e'
  exact ⟨e,f0,f1,f2,d⟩
theorem Inv.unpinned {pins pl:List (Addr×Obj)} {σ:St} {H:Hp} {s:Shared} (I:Inv X (pins++pl) σ H s):Inv X pins σ H s:=I.pins_of fun p hp=>I.pin p (List.mem_append_right _ (List.mem_append_left _ hp))
theorem DP {iter:Expr} {body:List Stmt} {wi:TI} {g:TG} {tb:TS} {pos:Pos} (hp:PassesOwn (model X.prog X.w) X.A X.env X.xe) (hc:X.calm=true) (hi:PI X tg iter wi) (hg:PG X tg g) (hb:PSs X body tb)
  (hs:∀ x,foldedSetIterable iter X.env x=pure x:=by intro _;rfl):PS X (.For tg iter body [] pos) (jX wi g tb):=by
 walk_at "b56"
 refine wpAny_For (thn (hi pins s σ H _ I h) fun v s1 h1=>thn h1 fun itv s2 h2=> ?_) hs
 obtain ⟨it,fp,tn,J,H2,e,I2,T,st2,f2,W,⟨m0,w0⟩,turn⟩:=h2
 subst e
 have stat:∀ {H':Hp},(∀ b∈fp,H' b=none)→∀ b∈fp,KM X pins H' b:=fun hn b hb=>⟨hn b hb,(f2 b hb).2⟩
 refine codeAny_forLoop_any (fun n s'=>∃ i σ' H',Inv X pins σ' H' s'∧tn i s'.heap∧(∀ b∈fp,H' b=none)∧W i n σ' H') ?_ m0 ⟨0,σ,H2,I2,st2,fun b hb=>(f2 b hb).1,w0⟩
 rintro n s3 ⟨i,σ3,H3,I3,st3,fr3,w3⟩
 rcases turn i n σ3 H3 w3 with ⟨stop,qn⟩ | ⟨go,N,hN,step⟩
 ·refine wpAny_passesOwn hp (thn (T.done X rfl rfl rfl hc i pins s3 σ3 H3 X.xe I3 (stat fr3) st3 stop) fun r s4 ⟨hr,I4⟩=> ?_)
  subst hr
  exact wpAny_execs_nil ⟨σ3,H3,I4,qn⟩
 ·refine wpAny_passesOwn hp (thn (T.item X rfl rfl rfl hc i pins s3 σ3 H3 X.xe I3 (stat fr3) st3 go) fun r s4 ⟨u,hr,h4⟩=> ?_)
  subst hr
  refine wpAny_passesOwn hp (thn h4 fun _ s5 ⟨x,H5,I5,r5,y5,st5,fr5⟩=> ?_)
  have I5':=I5.pinned (stat fr5) (T.obj _ _ st5)
  refine wpAny_passesOwn hp (thn (hg _ s5 σ3 H5 x u _ I5' r5 (step x H5 y5)) fun _ s6 ⟨σ6,H6,I6,q6⟩=> ?_)
  refine wpAny_passesOwn hp (thn (hb _ s6 σ6 H6 _ I6 q6) fun f s7 q7=> ?_)
  have again:∀ {σ7:St} {H7:Hp},Inv X (pins++KK fp s5.heap) σ7 H7 s7→N σ7 H7→∃ m,m<n∧∃ i σ' H',Inv X pins σ' H' s7∧tn i s7.heap∧(∀ b∈fp,H' b=none)∧W i m σ' H':=fun {σ7 H7} I7 n7=>by
   obtain ⟨m',hm,w7⟩:=hN σ7 H7 n7
   refine ⟨m',hm,i+1,σ7,H7,I7.unpinned,T.keep _ _ _ st5 fun b hb o e=>(I7.pin (b,o) (List.mem_append_right _ (List.mem_append_right _ (EE hb e)))).1,fun b hb=> ?_,w7⟩
   obtain ⟨o,e,d⟩:=T.obj _ _ st5 b hb
   exact (I7.pin (b,o) (List.mem_append_right _ (List.mem_append_right _ (EE hb e)))).2.1
  cases f with
  | next=>obtain ⟨σ7,H7,I7,n7⟩:=q7;exact again I7 n7
  | cont=>obtain ⟨σ7,H7,I7,n7⟩:=q7;exact again I7 n7
  | brk=>obtain ⟨σ7,H7,I7,q7⟩:=q7;exact ⟨σ7,H7,I7.unpinned,q7⟩
  | ret v=>obtain ⟨x7,σ7,H7,I7,r7,q7⟩:=q7;exact ⟨x7,σ7,H7,I7.unpinned,r7,q7⟩
end
theorem aB {K:PySem.W.Frag} {a:Addr} {xs:List V} {g:TG} {tb:TS} {D:GI} {σ:St} {H:Hp} (Pv:Nat→St→Hp→Prop) (h0:Pv 0 σ H) (hl:∀ i σ H,i≤xs.length→Pv i σ H→SqL K H a xs)
  (hs:∀ i x σ H,xs[i]? =some x→Pv i σ H→g x σ H fun σ2 H2=>tb { D with nx:=Pv (i+1),ct:=Pv (i+1),bk:=D.nx } σ2 H2) (hd:∀ σ H,Pv xs.length σ H→D.nx σ H):
  ∃ W:Nat→Nat→St→Hp→Prop,(∃ m,W 0 m σ H)∧∀ i m σ H,W i m σ H→
   ((Itl K a).stop i H∧D.nx σ H)∨((Itl K a).go i H∧∃ N:St→Hp→Prop,(∀ σ' H',N σ' H'→∃ m',m'<m∧W (i+1) m' σ' H')∧∀ x H',(Itl K a).yld i H x H'→g x σ H' fun σ2 H2=>tb { D with nx:=N,ct:=N,bk:=D.nx } σ2 H2):=by
 walk_at "b13"
 rintro i m σ H ⟨rfl,hi,p⟩
 have q:=hl i σ H hi p
 by_cases hlt:i<xs.length
 ·refine .inr ⟨⟨xs,xs[i],q,by simp [hlt]⟩,Pv (i+1),fun σ' H' p'=>⟨xs.length - (i+1),by omega,rfl,hlt,p'⟩,fun x H' y=> ?_⟩
  obtain ⟨e,y⟩:=y
  subst e
  exact hs i x σ _ (y xs q) p
 ·have e:i=xs.length:=by omega
  subst e
  exact .inl ⟨⟨xs,q,Nat.le_refl _⟩,hd σ H p⟩
theorem cW {K:PySem.W.Frag} {a:Addr} {xs:List V} {g:TG} {tb:TS} {D:GI} {σ:St} {H:Hp} (Pv:Nat→St→Hp→Prop) (h0:Pv 0 σ H) (hl:∀ i σ H,i≤xs.length→Pv i σ H→SqT K H a xs)
  (hs:∀ i x σ H,xs[i]? =some x→Pv i σ H→g x σ H fun σ2 H2=>tb { D with nx:=Pv (i+1),ct:=Pv (i+1),bk:=D.nx } σ2 H2) (hd:∀ σ H,Pv xs.length σ H→D.nx σ H):
  ∃ W:Nat→Nat→St→Hp→Prop,(∃ m,W 0 m σ H)∧∀ i m σ H,W i m σ H→
   ((Itt K a).stop i H∧D.nx σ H)∨((Itt K a).go i H∧∃ N:St→Hp→Prop,(∀ σ' H',N σ' H'→∃ m',m'<m∧W (i+1) m' σ' H')∧∀ x H',(Itt K a).yld i H x H'→g x σ H' fun σ2 H2=>tb { D with nx:=N,ct:=N,bk:=D.nx } σ2 H2):=by
 walk_at "b13"
 rintro i m σ H ⟨rfl,hi,p⟩
 have q:=hl i σ H hi p
 by_cases hlt:i<xs.length
 ·refine .inr ⟨⟨xs,xs[i],q,by simp [hlt]⟩,Pv (i+1),fun σ' H' p'=>⟨xs.length - (i+1),by omega,rfl,hlt,p'⟩,fun x H' y=> ?_⟩
  obtain ⟨e,y⟩:=y
  subst e
  exact hs i x σ _ (y xs q) p
 ·have e:i=xs.length:=by omega
  subst e
  exact .inl ⟨⟨xs,q,Nat.le_refl _⟩,hd σ H p⟩
theorem VW {lo:Int} {n:Nat} {g:TG} {tb:TS} {D:GI} {σ:St} {H:Hp} (Pv:Nat→St→Hp→Prop) (h0:Pv 0 σ H)
  (hs:∀ i σ H,i<n→Pv i σ H→g (.int (lo+i)) σ H fun σ2 H2=>tb { D with nx:=Pv (i+1),ct:=Pv (i+1),bk:=D.nx } σ2 H2) (hd:∀ σ H,Pv n σ H→D.nx σ H):
  ∃ W:Nat→Nat→St→Hp→Prop,(∃ m,W 0 m σ H)∧∀ i m σ H,W i m σ H→
   ((Itr lo n).stop i H∧D.nx σ H)∨((Itr lo n).go i H∧∃ N:St→Hp→Prop,(∀ σ' H',N σ' H'→∃ m',m'<m∧W (i+1) m' σ' H')∧∀ x H',(Itr lo n).yld i H x H'→g x σ H' fun σ2 H2=>tb { D with nx:=N,ct:=N,bk:=D.nx } σ2 H2):=by
 refine ⟨fun i m σ H=>m=n - i∧i≤n∧Pv i σ H,⟨n,by simp,Nat.zero_le _,h0⟩,?_⟩
 rintro i m σ H ⟨rfl,hi,p⟩
 by_cases hlt:i<n
 ·refine .inr ⟨hlt,Pv (i+1),fun σ' H' p'=>⟨n - (i+1),by omega,rfl,hlt,p'⟩,fun x H' y=> ?_⟩
  obtain ⟨e,y⟩:=y
  subst e y
  exact hs i σ _ hlt p
 ·have e:i=n:=by omega
  subst e
  exact .inl ⟨Nat.le_refl _,hd σ H p⟩
abbrev R2:=V→V→Hp→VK→Prop
def OpR (X:Cx) (f:Value→Value→Sem Value) (r:R2):Prop:=
 ∀ (pins:List (Addr×Obj)) (s:Shared) (σ:St) (H:Hp) (x y:V) (v u:Value) (Q:VK),Inv X pins σ H s→AZ x v→AZ y u→r x y H Q→
  wpAny (model X.prog X.w) X.A (f v u) (EP X pins σ Q) X.xe s
def UnR (X:Cx) (f:Value→Sem Value) (r:V→Hp→VK→Prop):Prop:=
 ∀ (pins:List (Addr×Obj)) (s:Shared) (σ:St) (H:Hp) (x:V) (v:Value) (Q:VK),Inv X pins σ H s→AZ x v→r x H Q→
  wpAny (model X.prog X.w) X.A (f v) (EP X pins σ Q) X.xe s
def DI (X:Cx) (f:Value) (r:List V→Hp→VK→Prop):Prop:=
 ∀ (pins:List (Addr×Obj)) (s:Shared) (σ:St) (H:Hp) (xs:List V) (us:List Value) (Q:VK),Inv X pins σ H s→AY xs us→r xs H Q→
  wpAny (model X.prog X.w) X.A (call f us) (EP X pins σ Q) X.xe s
def TruR (X:Cx) (r:V→Hp→(Bool→Hp→Prop)→Prop):Prop:=
 ∀ (pins:List (Addr×Obj)) (s:Shared) (σ:St) (H:Hp) (x:V) (v:Value) (Q:Bool→Hp→Prop),Inv X pins σ H s→AZ x v→r x H Q→
  wpAny (model X.prog X.w) X.A (truthy v) (TP X pins σ Q) X.xe s
def tOp (r:R2) (ta tb:TE):TE:=fun σ H Q=>ta σ H fun x H1=>tb σ H1 fun y H2=>r x y H2 Q
def tUn (r:V→Hp→VK→Prop) (ta:TE):TE:=fun σ H Q=>ta σ H fun x H1=>r x H1 Q
def rI (C:Int→Int→Prop) (g:Int→Int→V):R2:=fun x y H Q=>∃ i j,x= .int i∧y= .int j∧C i j∧Q (g i j) H
def rI0 (g:Int→Int→V):R2:=fun x y H Q=>∃ i j,x= .int i∧y= .int j∧Q (g i j) H
def rU (g:Int→V):V→Hp→VK→Prop:=fun x H Q=>∃ i,x= .int i∧Q (g i) H
section
variable {X:Cx} {a b c:Expr} {ta tb tc:TE} {pos:Pos}
theorem gK (ha:PE X a ta) (hb:PE X b tb) {pins:List (Addr×Obj)} {s:Shared} {σ:St} {H:Hp} {R:V→V→Hp→Prop} (I:Inv X pins σ H s)
  (h:ta σ H fun x H1=>tb σ H1 fun y H2=>R x y H2) {Q:Value→Shared→Prop} {f:Value→Value→Sem Value}
  (hf:∀ v u s2 x y H2,Inv X pins σ H2 s2→AZ x v→AZ y u→R x y H2→wpAny (model X.prog X.w) X.A (f v u) Q X.xe s2):
  wpAny (model X.prog X.w) X.A (eval a X.env) (fun v s₁=>wpAny (model X.prog X.w) X.A (eval b X.env) (fun u s₂=>wpAny (model X.prog X.w) X.A (f v u) Q X.xe s₂) X.xe s₁) X.xe s:=by
 refine thn (ha pins s σ H _ I h) fun v s1 ⟨x,H1,I1,r1,q1⟩=> ?_
 refine thn (hb pins s1 σ H1 _ I1 q1) fun u s2 ⟨y,H2,I2,r2,q2⟩=> ?_
 exact hf v u s2 x y H2 I2 r1 r2 q2
theorem AJ {op:Operator} {r:R2} (ho:OpR X (binaryOp op) r) (ha:PE X a ta) (hb:PE X b tb):PE X (.BinOp a op b pos) (tOp r ta tb):=by
 walk_at "b18"
 exact wpAny_BinOp (gK ha hb I h fun v u s2 x y H2 I2 rx ry q=>ho pins s2 σ H2 x y v u Q I2 rx ry q)
theorem UP {op:UnaryOp} {r:V→Hp→VK→Prop} (ho:UnR X (unaryOp op) r) (ha:PE X a ta):PE X (.UnaryOp op a pos) (tUn r ta):=by
 walk_at "b18"
 exact UnaryOp_ (thn (ha pins s σ H _ I h) fun v s1 ⟨x,H1,I1,r1,q1⟩=>ho pins s1 σ H1 x v Q I1 r1 q1)
theorem opI {f:Value→Value→Sem Value} {C:Int→Int→Prop} {g:Int→Int→Int}
  (rule:∀ (i j:Int) (t u:Tok) (s:Shared) (Q:Value→Shared→Prop) (E:Value→Shared→Prop),C i j→Q (.int (g i j) s.toks) { s with toks:=s.toks+1 }→wpAny (model X.prog X.w) X.A (f (.int i t) (.int j u)) Q E s):
  OpR X f (rI C fun i j=> .int (g i j)):=by
 walk_at "b7"
 obtain ⟨i,j,rfl,rfl,hc,q⟩:=h
 walk_at "b30"
 exact rule i j t t' s _ _ hc ⟨.int (g i j),H,I.tok _,⟨_,rfl⟩,q⟩
theorem kI {f:Value→Value→Sem Value} {g:Int→Int→Int}
  (rule:∀ (i j:Int) (t u:Tok) (s:Shared) (Q:Value→Shared→Prop) (E:Value→Shared→Prop),Q (.int (g i j) s.toks) { s with toks:=s.toks+1 }→wpAny (model X.prog X.w) X.A (f (.int i t) (.int j u)) Q E s):
  OpR X f (rI0 fun i j=> .int (g i j)):=by
 walk_at "b7"
 obtain ⟨i,j,rfl,rfl,q⟩:=h
 walk_at "b30"
 exact rule i j t t' s _ _ ⟨.int (g i j),H,I.tok _,⟨_,rfl⟩,q⟩
theorem hC {f:Value→Value→Sem Value} {g:Int→Int→Bool}
  (rule:∀ (i j:Int) (t u:Tok) (s:Shared) (Q:Value→Shared→Prop) (E:Value→Shared→Prop),Q (.bool (g i j)) s→wpAny (model X.prog X.w) X.A (f (.int i t) (.int j u)) Q E s):
  OpR X f (rI0 fun i j=> .bl (g i j)):=by
 walk_at "b7"
 obtain ⟨i,j,rfl,rfl,q⟩:=h
 walk_at "b30"
 exact rule i j t t' s _ _ ⟨.bl (g i j),H,I,rfl,q⟩
def jY (i j:Int):Prop:=0≤j∧j≤1000000∧i.natAbs<2 ^ 64
theorem iN:OpR X (binaryOp .Add) (rI0 fun i j=> .int (i+j)):=kI fun _ _ _ _ _ _ _ q=>add_int q
theorem iG:OpR X (binaryOp .Sub) (rI0 fun i j=> .int (i - j)):=kI fun _ _ _ _ _ _ _ q=>sub_int q
theorem iU:OpR X (binaryOp .Mod) (rI (fun _ j=>0<j) fun i j=> .int (i % j)):=opI fun i j _ _ _ _ _ hc q=>by
 have h1:(0:Int)<j:=hc
 exact mod_int' (by omega) (by rw [Int.fmod_eq_emod_of_nonneg i (by omega)];exact q)
theorem fY:OpR X (binaryOp .Pow) (rI jY fun i j=> .int (i ^ j.toNat)):=opI fun _ _ _ _ _ _ _ hc q=>pow_int_small hc.1 hc.2.1 hc.2.2 q
theorem unI {f:Value→Sem Value} {g:Int→Int}
  (rule:∀ (i:Int) (t:Tok) (s:Shared) (Q:Value→Shared→Prop) (E:Value→Shared→Prop),Q (.int (g i) s.toks) { s with toks:=s.toks+1 }→wpAny (model X.prog X.w) X.A (f (.int i t)) Q E s):
  UnR X f (rU fun i=> .int (g i)):=by
 intro pins s σ H x v Q I rx h
 obtain ⟨i,rfl,q⟩:=h
 obtain ⟨t,rfl⟩:=rx
 exact rule i t s _ _ ⟨.int (g i),H,I.tok _,⟨_,rfl⟩,q⟩
theorem aZ:UnR X (unaryOp .USub) (rU fun i=> .int (-i)):=unI fun _ _ _ _ _ q=>neg_int q
end
def fZ:V→V→Bool
 | .non,.non=>true | .non,.int _=>true | .int _,.non=>true | .non,.bl _=>true | .bl _,.non=>true | .non,.str _=>true | .str _,.non=>true
 | .int _,.int _=>true | .bl _,.bl _=>true | .str _,.str _=>true | .byt _,.byt _=>true
 | .int _,.str _=>true | .str _,.int _=>true | .bl _,.str _=>true | .str _,.bl _=>true
 | _,_=>false
def rEq:R2:=fun x y H Q=>fZ x y=true∧Q (.bl (decide (x=y))) H
def rNe:R2:=fun x y H Q=>fZ x y=true∧Q (.bl (!decide (x=y))) H
theorem UH {i j:Int}:decide (V.int i=V.int j)=(i == j):=by
 rw [Bool.eq_iff_iff]
 simp
theorem ZN {i j:Bool}:decide (V.bl i=V.bl j)=(i == j):=by
 rw [Bool.eq_iff_iff]
 simp
theorem UV {i j:Str}:decide (V.str i=V.str j)=(i == j):=by
 rw [Bool.eq_iff_iff]
 simp
theorem VN {i j:Array UInt8}:decide (V.byt i=V.byt j)=(i.toList == j.toList):=by
 rw [Bool.eq_iff_iff]
 cases i
 cases j
 simp
section
variable {X:Cx} {a b c:Expr} {ta tb tc:TE} {pos:Pos}
theorem BH {pins:List (Addr×Obj)} {σ:St} {H:Hp} {s:Shared} {Q:VK} {k k':Bool} (I:Inv X pins σ H s) (q:Q (.bl k) H) (e:k=k'):EP X pins σ Q (.bool k') s:=by
 subst e
 exact ⟨.bl k,H,I,rfl,q⟩
theorem jK:OpR X (compareOp .Eq) rEq:=by
 walk_at "b7"
 obtain ⟨hs,q⟩:=h
 cases x with
 | non=>
  cases rx
  cases y with
  | non=>cases ry;exact PySem.EqNone.eq_none_none (BH I q (by simp))
  | bl j=>cases ry;exact PySem.EqNone.eq_none_bool (BH I q (by simp))
  | int j=>obtain ⟨t',rfl⟩:=ry;exact PySem.EqNone.eq_none_int (BH I q (by simp))
  | str j=>obtain ⟨t',rfl⟩:=ry;exact PySem.EqNone.eq_none_str (BH I q (by simp))
  | _=>exact absurd (show false=true from hs) Bool.false_ne_true
 | bl i=>
  cases rx
  cases y with
  | non=>cases ry;exact PySem.EqNone.eq_bool_none (BH I q (by simp))
  | bl j=>cases ry;exact eq_bool (BH I q ZN)
  | str j=>obtain ⟨t',rfl⟩:=ry;exact PySem.EqMixed.eq_bool_str (BH I q (by simp))
  | _=>exact absurd (show false=true from hs) Bool.false_ne_true
 | int i=>
  obtain ⟨t,rfl⟩:=rx
  cases y with
  | non=>cases ry;exact PySem.EqNone.eq_int_none (BH I q (by simp))
  | int j=>obtain ⟨t',rfl⟩:=ry;exact eq_int (BH I q UH)
  | str j=>obtain ⟨t',rfl⟩:=ry;exact PySem.EqMixed.eq_int_str (BH I q (by simp))
  | _=>exact absurd (show false=true from hs) Bool.false_ne_true
 | str i=>
  obtain ⟨t,rfl⟩:=rx
  cases y with
  | non=>cases ry;exact PySem.EqNone.eq_str_none (BH I q (by simp))
  | bl j=>cases ry;exact PySem.EqMixed.eq_str_bool (BH I q (by simp))
  | int j=>obtain ⟨t',rfl⟩:=ry;exact PySem.EqMixed.eq_str_int (BH I q (by simp))
  | str j=>obtain ⟨t',rfl⟩:=ry;exact eq_str (BH I q UV)
  | _=>exact absurd (show false=true from hs) Bool.false_ne_true
 | byt i=>
  obtain ⟨t,rfl⟩:=rx
  cases y with
  | byt j=>obtain ⟨t',rfl⟩:=ry;exact PySem.W.eq_bytes (BH I q VN)
  | _=>exact absurd (show false=true from hs) Bool.false_ne_true
 | _=>cases y<;> exact absurd (show false=true from hs) Bool.false_ne_true
theorem kU:OpR X (compareOp .NotEq) rNe:=by
 walk_at "b7"
 obtain ⟨hs,q⟩:=h
 cases x with
 | non=>
  cases rx
  cases y with
  | non=>cases ry;exact PySem.EqNone.ne_none_none (BH I q (by simp))
  | bl j=>cases ry;exact PySem.EqNone.ne_none_bool (BH I q (by simp))
  | int j=>obtain ⟨t',rfl⟩:=ry;exact PySem.EqNone.ne_none_int (BH I q (by simp))
  | str j=>obtain ⟨t',rfl⟩:=ry;exact PySem.EqNone.ne_none_str (BH I q (by simp))
  | _=>exact absurd (show false=true from hs) Bool.false_ne_true
 | bl i=>
  cases rx
  cases y with
  | non=>cases ry;exact PySem.EqNone.ne_bool_none (BH I q (by simp))
  | bl j=>cases ry;exact ne_bool (BH I q (congrArg not ZN))
  | str j=>obtain ⟨t',rfl⟩:=ry;exact PySem.EqMixed.ne_bool_str (BH I q (by simp))
  | _=>exact absurd (show false=true from hs) Bool.false_ne_true
 | int i=>
  obtain ⟨t,rfl⟩:=rx
  cases y with
  | non=>cases ry;exact PySem.EqNone.ne_int_none (BH I q (by simp))
  | int j=>obtain ⟨t',rfl⟩:=ry;exact ne_int (BH I q (congrArg not UH))
  | str j=>obtain ⟨t',rfl⟩:=ry;exact PySem.EqMixed.ne_int_str (BH I q (by simp))
  | _=>exact absurd (show false=true from hs) Bool.false_ne_true
 | str i=>
  obtain ⟨t,rfl⟩:=rx
  cases y with
  | non=>cases ry;exact PySem.EqNone.ne_str_none (BH I q (by simp))
  | bl j=>cases ry;exact PySem.EqMixed.ne_str_bool (BH I q (by simp))
  | int j=>obtain ⟨t',rfl⟩:=ry;exact PySem.EqMixed.ne_str_int (BH I q (by simp))
  | str j=>obtain ⟨t',rfl⟩:=ry;exact ne_str (BH I q (congrArg not UV))
  | _=>exact absurd (show false=true from hs) Bool.false_ne_true
 | byt i=>
  obtain ⟨t,rfl⟩:=rx
  cases y with
  | byt j=>obtain ⟨t',rfl⟩:=ry;exact PySem.W.ne_bytes (BH I q (congrArg not VN))
  | _=>exact absurd (show false=true from hs) Bool.false_ne_true
 | _=>cases y<;> exact absurd (show false=true from hs) Bool.false_ne_true
theorem kP:OpR X (compareOp .Lt) (rI0 fun i j=> .bl (decide (i<j))):=hC fun _ _ _ _ _ _ _ q=>lt_int q
theorem jS:OpR X (compareOp .LtE) (rI0 fun i j=> .bl (decide (i≤j))):=hC fun _ _ _ _ _ _ _ q=>le_int q
theorem lH:OpR X (compareOp .Gt) (rI0 fun i j=> .bl (decide (j<i))):=hC fun _ _ _ _ _ _ _ q=>gt_int q
theorem AW (b:Expr) {op:CmpOp} (h:op≠ .In:=by decide) (h2:op≠ .NotIn:=by decide):behindInMarks op b=false:=by
 have e1:(op == CmpOp.In)=false:=by cases op<;> first | rfl | exact absurd rfl h
 have e2:(op == CmpOp.NotIn)=false:=by cases op<;> first | rfl | exact absurd rfl h2
 cases b<;> simp [behindInMarks,e1,e2]
theorem CL {op:CmpOp} {r:R2} (ho:OpR X (compareOp op) r) (ha:PE X a ta) (hb:PE X b tb) (hm:behindInMarks op b=false):PE X (.Compare a [op] [b] pos) (tOp r ta tb):=by
 walk_at "b18"
 exact wpAny_Compare1 (gK ha hb I h fun v u s2 x y H2 I2 rx ry q=>ho pins s2 σ H2 x y v u Q I2 rx ry q) hm
def NW (t:TE):TT:=fun σ H Q=>t σ H fun x H'=>∃ k,x= .bl k∧Q k H'
theorem eG {op:CmpOp} {r:R2} (ho:OpR X (compareOp op) r) (ha:PE X a ta) (hb:PE X b tb) (hm:behindInMarks op b=false):PT X (.Compare a [op] [b] pos) (NW (tOp r ta tb)):=by
 walk_at "b18"
 refine wpAny_isTrue_Compare1 (thn (ha pins s σ H _ I h) fun v s1 ⟨x,H1,I1,r1,q1⟩=>thn (hb pins s1 σ H1 _ I1 q1) fun u s2 ⟨y,H2,I2,r2,q2⟩=>
  thn (ho pins s2 σ H2 x y v u _ I2 r1 r2 q2) fun c s3 ⟨z,H3,I3,r3,k,e,q3⟩=> ?_) hm
 subst e
 cases r3
 exact wpAny_truthy_bool ⟨H3,I3,q3⟩
def KF (r r':R2) (ta tb tc:TE):TE:=fun σ H Q=>ta σ H fun x H1=>tb σ H1 fun y H2=>r x y H2 fun z H3=>∃ k,z= .bl k∧
 (if k=true then tc σ H3 fun w' H4=>r' y w' H4 Q else Q (.bl false) H3)
theorem RD {op op':CmpOp} {r r':R2} (ho:OpR X (compareOp op) r) (ho':OpR X (compareOp op') r') (ha:PE X a ta) (hb:PE X b tb) (hc:PE X c tc)
  (hm:lastMarks [op,op'] [b,c]=false:=by with_unfolding_all rfl):PE X (.Compare a [op,op'] [b,c] pos) (KF r r' ta tb tc):=by
 walk_at "b18"
 refine Compare_chain (thn (ha pins s σ H _ I h) fun v s1 ⟨x,H1,I1,r1,q1⟩=>chain_link (thn (hb pins s1 σ H1 _ I1 q1) fun u s2 ⟨y,H2,I2,r2,q2⟩=>
  thn (ho pins s2 σ H2 x y v u _ I2 r1 r2 q2) fun d s3 ⟨z,H3,I3,r3,k,e,q3⟩=> ?_)) hm
 subst e
 cases r3
 refine wpAny_truthy_bool ?_
 cases k with
 | false=>exact ite_ff ⟨.bl false,H3,I3,rfl,q3⟩
 | true=>exact ite_tt (chain_last (thn (hc pins s3 σ H3 _ I3 q3) fun w' s4 ⟨z',H4,I4,r4,q4⟩=>ho' pins s4 σ H4 y z' u w' Q I4 r2 r4 q4))
theorem bR {op op':CmpOp} {r r':R2} (ho:OpR X (compareOp op) r) (ho':OpR X (compareOp op') r') (ha:PE X a ta) (hb:PE X b tb) (hc:PE X c tc)
  (hm:lastMarks [op,op'] [b,c]=false:=by with_unfolding_all rfl):PT X (.Compare a [op,op'] [b,c] pos) (NW (KF r r' ta tb tc)):=by
 walk_at "b18"
 refine isTrue_chain (thn (ha pins s σ H _ I h) fun v s1 ⟨x,H1,I1,r1,q1⟩=>test_link (thn (hb pins s1 σ H1 _ I1 q1) fun u s2 ⟨y,H2,I2,r2,q2⟩=>
  thn (ho pins s2 σ H2 x y v u _ I2 r1 r2 q2) fun d s3 ⟨z,H3,I3,r3,k,e,q3⟩=> ?_)) hm
 subst e
 cases r3
 refine wpAny_truthy_bool ?_
 cases k with
 | false=>
  obtain ⟨k',e',q'⟩:=q3
  cases e'
  exact ite_ff ⟨H3,I3,q'⟩
 | true=>
  refine ite_tt (test_last (thn (hc pins s3 σ H3 _ I3 q3) fun w' s4 ⟨z',H4,I4,r4,q4⟩=>thn (ho' pins s4 σ H4 y z' u w' _ I4 r2 r4 q4) fun d' s5 ⟨z2,H5,I5,r5,k2,e2,q5⟩=> ?_))
  subst e2
  cases r5
  exact wpAny_truthy_bool ⟨H5,I5,q5⟩
def kH (K:PySem.W.Frag) (x:V) (H:Hp) (k:Bool):Prop:=
 match x with
 | .non=>k=false
 | .bl b=>k=b
 | .int i=>k=(i != 0)
 | .str y=>y.length≤sizeLine∧k=((y.length:Int) != 0)
 | .byt y=>y.size≤sizeLine∧k=((y.size:Int) != 0)
 | .ref p=>(∃ xs,SqL K H p xs∧k= !xs.isEmpty)∨(∃ xs,SqT K H p xs∧k= !xs.isEmpty)∨∃ kvs,H p=some (.dK kvs)∧k= !kvs.isEmpty
 | _=>False
theorem SL {κ:Type} {kvs:List (κ×V)} {vs:List (κ×Value)} (r:KV kvs vs):(!vs.isEmpty)= !kvs.isEmpty:=by
 cases r<;> rfl
theorem MS {xs:List V} {its:List Value} (r:AY xs its):(!its.toArray.isEmpty)= !xs.isEmpty:=by
 cases r<;> simp
theorem KQ:(sizeLine:Nat)<2 ^ 63:=by rw [sizeLine_eq];decide
theorem gY:TruR X (fun x H Q=>∃ k,kH X.K x H k∧Q k H):=by
 intro pins s σ H x v Q I rx h
 obtain ⟨k,e,q⟩:=h
 have hl:=KQ
 have hs:sizeLine=16777216:=sizeLine_eq
 cases x with
 | non=>
  cases rx
  have e':k=false:=e
  subst e'
  exact truthy_none ⟨H,I,q⟩
 | bl b=>
  cases rx
  have e':k=b:=e
  subst e'
  exact wpAny_truthy_bool ⟨H,I,q⟩
 | int i=>
  obtain ⟨t,rfl⟩:=rx
  have e':k=(i != 0):=e
  subst e'
  exact PySem.P.truthy_int ⟨H,I,q⟩
 | str y=>
  obtain ⟨t,rfl⟩:=rx
  obtain ⟨hy,e'⟩:y.length≤sizeLine∧k=((y.length:Int) != 0):=e
  subst e'
  exact PySem.P.truthy_str (by omega) ⟨H,I.tok _,q⟩
 | byt y=>
  obtain ⟨t,rfl⟩:=rx
  obtain ⟨hy,e'⟩:y.size≤sizeLine∧k=((y.size:Int) != 0):=e
  subst e'
  exact PySem.W.truthy_bytes (by omega) ⟨H,I.tok _,q⟩
 | ref p=>
  cases rx
  have e':(∃ xs,SqL X.K H p xs∧k= !xs.isEmpty)∨(∃ xs,SqT X.K H p xs∧k= !xs.isEmpty)∨∃ kvs,H p=some (.dK kvs)∧k= !kvs.isEmpty:=e
  rcases e' with ⟨xs,hx,e'⟩ | ⟨xs,hx,e'⟩ | ⟨kvs,hx,e'⟩
  ·subst e'
   obtain ⟨its,r,pl,hz⟩:=I.list hx
   have hlen:=r.length
   exact wpAny_truthy_list pl.isList (by simp only [List.size_toArray];omega) ⟨H,I.tok _,by rw [MS r];exact q⟩
  ·subst e'
   obtain ⟨its,r,pl,hz⟩:=I.tuple hx
   have hlen:=r.length
   exact truthy_tuple pl (by simp only [List.size_toArray];omega) ⟨H,I.tok _,by rw [MS r];exact q⟩
  ·subst e'
   obtain ⟨hz,hS,vs,r,m⟩:kvs.length≤sizeLine∧(p == sysModules)=false∧∃ vs,KV kvs vs∧s.heap.DictOf (DB X.prog X.w) p vs:=I.hok p _ hx
   have hlen:kvs.length=vs.length:=Paired.length r
   exact wpAny_truthy_dict hS m (by omega) ⟨H,I.tok _,by rw [SL r];exact q⟩
 | _=>exact (show False from e).elim
theorem cC (ha:PE X a ta) (he:∀ whole,isTrue a X.env whole=(do let v ← whole;standAt a.pos;holding [v] (truthy v))):
  PT X a (fun σ H Q=>ta σ H fun x H'=>∃ k,kH X.K x H' k∧Q k H'):=by
 walk_at "b18"
 exact isTrue_plain (thn (ha pins s σ H _ I h) fun v s1 ⟨x,H1,I1,r1,q1⟩=>gY pins s1 σ H1 x v Q I1 r1 q1) (he _)
theorem KS {x:V} {us:List Value} (r:AY [x] us):∃ u,us=[u]∧AZ x u:=by
 cases r with
 | cons r1 r2=>cases r2;exact ⟨_,rfl,r1⟩
theorem fU {x y:V} {us:List Value} (r:AY [x,y] us):∃ u w',us=[u,w']∧AZ x u∧AZ y w':=by
 cases r with
 | cons r1 r2=>
  cases r2 with
  | cons r3 r4=>cases r4;exact ⟨_,_,rfl,r1,r3⟩
theorem XA (hc:X.calm=true):DI X (.builtin "max") (fun xs H Q=>∃ i j,xs=[.int i,.int j]∧Q (.int (if j > i then j else i)) H):=by
 walk_at "b37"
 obtain ⟨i,j,rfl,q⟩:=h
 obtain ⟨u,w',rfl,⟨t,rfl⟩,⟨t',rfl⟩⟩:=fU r
 refine max_two_ints (I.ok.hd hc) fun h' tk k=>⟨_,H,I.kept k,?_,q⟩
 by_cases hj:j > i
 ·rw [if_pos hj,if_pos hj];exact ⟨_,rfl⟩
 ·rw [if_neg hj,if_neg hj];exact ⟨_,rfl⟩
theorem WU (hc:X.calm=true):DI X (.builtin "min") (fun xs H Q=>∃ i j,xs=[.int i,.int j]∧Q (.int (if j<i then j else i)) H):=by
 walk_at "b37"
 obtain ⟨i,j,rfl,q⟩:=h
 obtain ⟨u,w',rfl,⟨t,rfl⟩,⟨t',rfl⟩⟩:=fU r
 refine min_two_ints (I.ok.hd hc) fun h' tk k=>⟨_,H,I.kept k,?_,q⟩
 by_cases hj:j<i
 ·rw [if_pos hj,if_pos hj];exact ⟨_,rfl⟩
 ·rw [if_neg hj,if_neg hj];exact ⟨_,rfl⟩
theorem NX:DI X (.type "int") (fun xs H Q=>(∃ i,xs=[.int i]∧Q (.int i) H)∨∃ k,xs=[.bl k]∧Q (.int (if k then 1 else 0)) H):=by
 walk_at "b37"
 rcases h with ⟨i,rfl,q⟩ | ⟨k,rfl,q⟩
 ·obtain ⟨u,rfl,t,rfl⟩:=KS r
  exact call_int_int ⟨.int i,H,I,⟨_,rfl⟩,q⟩
 ·obtain ⟨u,rfl,r1⟩:=KS r
  cases r1
  exact call_int_bool ⟨.int (if k then 1 else 0),H,I.tok _,⟨_,rfl⟩,q⟩
end
structure SW (h:Heap) (x dx C:Addr) (mA:Str→Option Value):Prop where
 obj:h.get? x=some (PySem.W.instObj C dx)
 ns:h.Ns1 dx mA
 ne:dx≠x
theorem WM {h:Heap} {dx:Addr} {mA:Str→Option Value} (n:h.Ns1 dx mA):∃ od,h.get? dx=some od∧∀ name,PySem.W.lookIn name od=some (mA name):=by
 obtain ⟨o,es,ep,ho,hd,hk,_,hm⟩:=n
 refine ⟨o,ho,fun name=> ?_⟩
 have e:=hm name
 unfold nsFind findBy at e
 rw [← Array.find?_toList] at e
 unfold PySem.W.lookIn
 rw [hd]
 dsimp only
 split
 ·rename_i y q
  rw [q] at e
  exact congrArg some e
 ·rename_i q
  rw [q] at e
  have a:es.toList.any (·.refKey)=false:=by
   rw [List.any_eq_false]
   intro y hy
   obtain ⟨z,t,hkey⟩:=hk y (Array.mem_toList_iff.mp hy)
   simp [DictEntry.refKey,hkey]
  have a':¬ es.toList.any (·.refKey)=true:=by rw [a];exact Bool.false_ne_true
  rw [if_neg a']
  exact congrArg some e
theorem SW.look {h:Heap} {x dx C:Addr} {mA:Str→Option Value} (I:SW h x dx C mA):∃ od,PySem.W.InstAt h x (PySem.W.instObj C dx) C (some od)∧∀ name,PySem.W.lookIn name od=some (mA name):=
 let ⟨od,ho,hl⟩:=WM I.ns
 ⟨od,⟨I.obj,rfl,rfl,ho⟩,hl⟩
section
variable {prog:Program} {w:World} {A:Around} {E:Value→Shared→Prop} {s:Shared} {K:PySem.W.Frag} {x dx C f:Addr} {mA:Str→Option Value} {name:Str} {v:Value}
theorem eJ {expr:Bool} {Q:Value→Shared→Prop} (X:K.In s.heap) (I:SW s.heap x dx C mA) (hg:PySem.W.plainGet K C name=true) (hh:PySem.W.hasDictIn K C=true)
  (ha:PySem.W.findIn K (.ref C) name=some none) (hv:mA name=some v) (hv':PySem.W.handedIn v=true) (h:Q v { s with toks:=s.toks+1 }):
  wpAny (model prog w) A (getAttr (.ref x) name expr) Q E s:=by
 obtain ⟨od,J,hl⟩:=I.look
 exact PySem.W.get_value X J (PySem.W.plainGet_of hg).1 (PySem.W.findObj_own hh ha rfl (by rw [hl,hv])) hv' h
theorem ZB {pl:Sem Bool} {Q:Value×List Value→Shared→Prop} (X:K.In s.heap) (I:SW s.heap x dx C mA) (hg:PySem.W.plainGet K C name=true)
  (hf:PySem.W.findIn K (.ref C) name=some (some (.ref f))) (ht:PySem.W.isFn K (.ref f)=true) (hv:mA name=none) (h:Q (.ref f,[.ref x]) s):
  wpAny (model prog w) A (getMethod (.ref x) name pl) Q E s:=by
 obtain ⟨od,J,hl⟩:=I.look
 exact PySem.W.method_fn X J (PySem.W.plainGet_of hg).1 (PySem.W.plainGet_of hg).2 hf (beq_iff_eq.mp ht) (by show (PySem.W.lookIn name od).map (·.isSome)=some false;rw [hl,hv];rfl) h
theorem dB {ns:List Str} {Q:Unit→Shared→Prop} (X:K.In s.heap) (I:SW s.heap x dx C mA)
  (hs:PySem.W.findIn K (.ref C) "__setattr__"=some (some (.builtin "object.__setattr__"))) (hp:PySem.W.plainOver K C=true) (ht:PySem.W.takerIn K C name=some none) (hh:PySem.W.hasDictIn K C=true)
  (hw:PySem.Within mA ns) (hsz:ns.length≤sizeLine)
  (h:∀ h',SW h' x dx C (fun y=>if y=name then some v else mA y)→Heap.SameBut dx s.heap h'→Q () { s with heap:=h',toks:=s.toks+2 }):
  wpAny (model prog w) A (setAttr (.ref x) name v) Q E s:=by
 obtain ⟨od,J,hl⟩:=I.look
 refine PySem.W.set_plain X J hs (PySem.W.osa_open (s:={ s with toks:=s.toks+1 }) (r:=none) X J hp ht fun b=> ?_)
 obtain ⟨cd,hc,hd'⟩:=PySem.W.any_some hh
 have hx:s.heap.get? x=some ⟨.ref C,some dx,.plain,#[]⟩:=I.obj
 refine wpAny_bind (wpAny_pure (wpAny_bind (wpAny_bind (wpAny_loadPart hx (wpAny_bind (PySem.W.Looks.here (s:={ s with toks:=s.toks+1 }) (PySem.W.looks_clsIn X hc) ?_))))))
 rw [hd']
 refine wpAny_pure (a:=some dx) (wpAny_bind (wpAny_pure (wpAny_bind ?_)))
 refine wpAny_nsSet1 (s:={ s with toks:=s.toks+1 }) I.ns fun h' hn2 hs2=> ?_
 obtain ⟨oD,esD,epD,hoD,hdD,hcD⟩:=hn2.count (PySem.Within.cons name v hw)
 refine wpAny_bind (wpAny_lookBehind hoD (by rw [hdD];exact pastItsLine_dict (Nat.le_trans hcD (by rw [List.length_cons];omega))) ?_)
 exact wpAny_pure (h _ ⟨(hs2.2 _ (Ne.symm I.ne)).trans I.obj,hn2,I.ne⟩ hs2)
theorem ZZ {R:Result→Shared→Prop} {vs:List Value} {kw:List (Str×Value)} (X:K.In s.heap) (hm:PySem.W.makesIn K C=true)
  (hi:PySem.W.findIn K (.ref C) "__init__"=some (some (.ref f))) (hf:PySem.W.typeIn K (.ref f)=some (.type "function"))
  (h:codeAny (model prog w) (A.under (.builtin "type.__call__" ⟨.ref C::vs,kw⟩)) (.call (.ref f) ⟨.ref (s.heap.objs.size+1)::vs,kw⟩) (PySem.W.InitBack (s.heap.objs.size+1) R)
   { s with heap:=(s.heap.push PySem.W.emptyDict).push (PySem.W.instObj C s.heap.objs.size) }):
  codeAny (model prog w) A (.call (.ref C) ⟨vs,kw⟩) R s:=by
 obtain ⟨hh,g,d,t,os⟩:=s
 exact PySem.W.make_core (PySem.W.makes_of X hm) (PySem.W.looks_findIn X hi) (fun self=>PySem.W.bind_fn X self hf) (.inl rfl) h
end
def GW (f:Str) (v:V):List (Str×V)→List (Str×V)
 | []=>[(f,v)]
 | (g,x)::r=>if g=f then (g,v)::r else (g,x)::GW f v r
theorem LC (f g:Str) (v:V):∀ fs:List (Str×V),(GW f v fs).lookup g=if g=f then some v else fs.lookup g
 | []=>by
  show List.lookup g [(f,v)]=_
  by_cases h:g=f
  ·have hb:(g == f)=true:=beq_iff_eq.mpr h
   simp only [List.lookup,hb,if_pos h]
  ·have hb:(g == f)=false:=beq_eq_false_iff_ne.mpr h
   simp only [List.lookup,hb,if_neg h]
 | (k,x)::r=>by
  have ih:=LC f g v r
  walk_at "b45"
  by_cases hk:k=f
  ·rw [if_pos hk]
   by_cases h:g=k
   ·have hb:(g == k)=true:=beq_iff_eq.mpr h
    simp only [List.lookup,hb,if_pos (h.trans hk)]
   ·have hb:(g == k)=false:=beq_eq_false_iff_ne.mpr h
    simp only [List.lookup,hb,if_neg (fun e:g=f=>h (e.trans hk.symm))]
  ·rw [if_neg hk]
   by_cases h:g=k
   ·have hb:(g == k)=true:=beq_iff_eq.mpr h
    simp only [List.lookup,hb,if_neg (fun e:g=f=>hk (h.symm.trans e))]
   ·have hb:(g == k)=false:=beq_eq_false_iff_ne.mpr h
    simp only [List.lookup,hb]
    exact ih
theorem KO (f:Str) (v:V):∀ fs:List (Str×V),f∈(GW f v fs).map (·.1)∧∀ g,g∈fs.map (·.1)→g∈(GW f v fs).map (·.1)
 | []=>⟨by simp [GW],fun g h=>by simp at h⟩
 | (k,x)::r=>by
  obtain ⟨i1,i2⟩:=KO f v r
  walk_at "b45"
  by_cases hk:k=f
  ·rw [if_pos hk]
   subst hk
   exact ⟨by simp,fun g h=>by simpa using h⟩
  ·rw [if_neg hk]
   refine ⟨?_,fun g h=> ?_⟩
   ·rw [List.map_cons]
    exact List.mem_cons_of_mem _ i1
   ·rw [List.map_cons] at h ⊢
    rcases List.mem_cons.mp h with e | e
    ·exact List.mem_cons.mpr (.inl e)
    ·exact List.mem_cons_of_mem _ (i2 g e)
theorem KR (f:Str) (v:V):∀ fs:List (Str×V),(GW f v fs).length≤fs.length+1
 | []=>by simp [GW]
 | (k,x)::r=>by
  have ih:=KR f v r
  walk_at "b45"
  by_cases hk:k=f
  ·rw [if_pos hk,List.length_cons,List.length_cons];omega
  ·rw [if_neg hk,List.length_cons,List.length_cons];omega
theorem IE.some_of {v:V} {o:Option Value} (r:IE (some v) o):∃ u,o=some u∧AZ v u:=by
 cases o with
 | none=>exact (show False from r).elim
 | some u=>exact ⟨u,rfl,r⟩
theorem IE.none_of {o:Option Value} (r:IE none o):o=none:=by
 cases o with
 | none=>rfl
 | some u=>exact (show False from r).elim
theorem XV {v:V} {u:Value} (r:AZ v u):PySem.W.handedIn u=true:=by
 cases v with
 | non=>cases (show u=Value.none from r);rfl
 | bl b=>cases (show u=Value.bool b from r);rfl
 | int i=>obtain ⟨t,e⟩:=(show ∃ t,u=Value.int i t from r);cases e;rfl
 | str x=>obtain ⟨t,e⟩:=(show ∃ t,u=Value.str x t from r);cases e;rfl
 | byt b=>obtain ⟨t,e⟩:=(show ∃ t,u=Value.bytes b t from r);cases e;rfl
 | flt b=>obtain ⟨t,e⟩:=(show ∃ t,u=Value.float b t from r);cases e;rfl
 | ref a=>cases (show u=Value.ref a from r);rfl
 | ty n=>cases (show u=Value.type n from r);rfl
section
variable {P:Program} {w:World} {H H':Hp} {h h':Heap} {a C dx:Addr} {fs fs':List (Str×V)}
theorem LR (hok:HOk P w H h) (e:H a=some (.ins C dx fs)):∃ mA,SW h a dx C mA∧(∀ f,IE (fs.lookup f) (mA f))∧PySem.Within mA (fs.map (·.1))∧fs.length≤1000∧H dx=some (.own a):=by
 obtain ⟨d,z,ne,ob,mA,n,r,q⟩:=(show CH P w H h a (.ins C dx fs) from hok a _ e)
 exact ⟨mA,⟨ob,n,ne⟩,r,q,z,d⟩
end
structure Cls (K:PySem.W.Frag) (C:Addr):Prop where
 pg:PySem.W.plainGet K C Str.empty=true
 hd:PySem.W.hasDictIn K C=true
 po:PySem.W.plainOver K C=true
 sa:PySem.W.findIn K (.ref C) "__setattr__"=some (some (.builtin "object.__setattr__"))
theorem Cls.get {K:PySem.W.Frag} {C:Addr} (c:Cls K C) (f:Str):PySem.W.plainGet K C f=true:=c.pg
def EJ (K:PySem.W.Frag) (C:Addr) (f:Str):Prop:=PySem.W.findIn K (.ref C) f=some none
theorem EJ.taker {K:PySem.W.Frag} {C:Addr} {f:Str} (n:EJ K C f):PySem.W.takerIn K C f=some none:=by
 unfold PySem.W.takerIn
 rw [show PySem.W.findIn K (.ref C) f=some none from n]
 rfl
structure Con (K:PySem.W.Frag) (C:Addr) (f:Str) (v:V) (u:Value):Prop where
 at_:PySem.W.findIn K (.ref C) f=some (some u)
 rel:AZ v u
 get:PySem.W.specialIn K u "__get__"=some none
 cp:PySem.W.copiedNames.contains f=false
structure gG (K:PySem.W.Frag) (C:Addr) (m:Str) (f:Addr):Prop where
 at_:PySem.W.findIn K (.ref C) m=some (some (.ref f))
 fn:PySem.W.isFn K (.ref f)=true
 kp:PySem.W.keepIn K (.ref f)=true
section
variable {X:Cx} {pins:List (Addr×Obj)} {σ:St} {H:Hp} {s:Shared} {a C dx:Addr} {fs:List (Str×V)} {f:Str} {v:V} {A:Around} {E:Value→Shared→Prop}
theorem SX {b:Bool} {Q:Value→Shared→Prop} (I:Inv X pins σ H s) (e:H a=some (.ins C dx fs)) (c:Cls X.K C) (n:EJ X.K C f) (l:fs.lookup f=some v)
  (h:∀ u s',Inv X pins σ H s'→AZ v u→Q u s'):wpAny (model X.prog X.w) A (getAttr (.ref a) f b) Q E s:=by
 obtain ⟨mA,O,r,_,_,_⟩:=LR I.hok e
 obtain ⟨u,hu,ru⟩:=IE.some_of (v:=v) (o:=mA f) (by rw [← l];exact r f)
 exact eJ I.kIn O (c.get f) c.hd n hu (XV ru) (h u _ (I.tok _) ru)
theorem SQ {m:Str} {g:Addr} {pl:Sem Bool} {Q:Value×List Value→Shared→Prop} (I:Inv X pins σ H s) (e:H a=some (.ins C dx fs)) (c:Cls X.K C) (k:gG X.K C m g) (l:fs.lookup m=none)
  (h:Q (.ref g,[.ref a]) s):wpAny (model X.prog X.w) A (getMethod (.ref a) m pl) Q E s:=by
 obtain ⟨mA,O,r,_,_,_⟩:=LR I.hok e
 have hn:mA m=none:=IE.none_of (by rw [← l];exact r m)
 exact ZB I.kIn O (c.get m) k.at_ k.fn hn h
theorem UB {y:V} {u:Value} {Q:Unit→Shared→Prop} (I:Inv X pins σ H s) (e:H a=some (.ins C dx fs)) (c:Cls X.K C) (n:EJ X.K C f) (hl:fs.length<1000) (ry:AZ y u)
  (h:∀ s',Inv X pins σ (upd H a (.ins C dx (GW f y fs))) s'→Q () s'):wpAny (model X.prog X.w) A (setAttr (.ref a) f u) Q E s:=by
 obtain ⟨mA,O,r,wi,_,ho⟩:=LR I.hok e
 have hz:(fs.map (·.1)).length≤sizeLine:=by rw [List.length_map,sizeLine_eq];omega
 refine dB I.kIn O c.sa c.po n.taker c.hd wi hz fun h' O' sb=>h _ ?_
 have hd:∃ o,h'.get? dx=some o:=let ⟨o,_,_,e',_⟩:=O'.ns;⟨o,e'⟩
 refine I.write (x:=a) (e:=dx) (by rw [e];exact True.intro) (.inr ho) (fun b q hb z=>(sb.2 b hb).trans z) hd ?_
 refine ⟨by rw [BA O.ne];exact ho,?_,O.ne,O'.obj,_,O'.ns,fun g=> ?_,fun g hg=> ?_⟩
 ·have:=KR f y fs;omega
 ·show IE ((GW f y fs).lookup g) (if g=f then some u else mA g)
  rw [LC]
  by_cases q:g=f
  ·rw [if_pos q,if_pos q];exact ry
  ·rw [if_neg q,if_neg q];exact r g
 ·by_cases q:g=f
  ·rw [q];exact (KO f y fs).1
  ·refine (KO f y fs).2 g (wi g fun z=>hg ?_)
   show (if g=f then some u else mA g)=none
   rw [if_neg q];exact z
theorem Inv.made (I:Inv X pins σ H s):Inv X pins σ (upd (upd H s.heap.objs.size (.own (s.heap.objs.size+1))) (s.heap.objs.size+1) (.ins C s.heap.objs.size []))
  { s with heap:=(s.heap.push PySem.W.emptyDict).push (PySem.W.instObj C s.heap.objs.size) }:=by
 have e1:(s.heap.push PySem.W.emptyDict).get? s.heap.objs.size=some PySem.W.emptyDict:=Heap.get?_push_size s.heap rfl
 have e2:((s.heap.push PySem.W.emptyDict).push (PySem.W.instObj C s.heap.objs.size)).get? (s.heap.objs.size+1)=some (PySem.W.instObj C s.heap.objs.size):=by
  have:=Heap.get?_push_size (s.heap.push PySem.W.emptyDict) (o:=PySem.W.instObj C s.heap.objs.size) rfl
  rwa [Heap.size_push] at this
 have e3:(s.heap.push PySem.W.emptyDict).Ns s.heap.objs.size (fun _=>none):=⟨PySem.W.emptyDict,#[],_,e1,rfl,(fun e he=>absurd he (by simp)),fun _=>rfl⟩
 have I1:=I.laid (a:=s.heap.objs.size) (o:= .own (s.heap.objs.size+1)) (h':=s.heap.push PySem.W.emptyDict) (t':=s.toks) (fun b u q=>Heap.get?_push_of_some _ q) (Nat.le_refl _) ⟨_,e1⟩
 refine I1.laid (a:=s.heap.objs.size+1) (o:= .ins C s.heap.objs.size []) (t':=s.toks) (fun b u q=>Heap.get?_push_of_some _ q) (Nat.le_of_eq (Heap.size_push _ _)) ?_
 have ne:s.heap.objs.size≠s.heap.objs.size+1:=Nat.ne_of_lt (Nat.lt_succ_self _)
 refine ⟨by rw [BA ne,AF],Nat.zero_le _,ne,e2,fun _=>none,(Heap.Ns1.of_empty e3).at fun o q=>Heap.get?_push_of_some _ q,fun _=>True.intro,fun y hy=>absurd rfl hy⟩
theorem fF {prog:Program} {w:World} {env:Env} {e:Expr} {f:Str} {pos:Pos} {s:Shared} {Q:Value→Shared→Prop} (hb:attributeBase e f env (eval e env)=eval e env)
  (h:wpAny (model prog w) A (eval e env) (fun o s₁=>wpAny (model prog w) A (getAttr o f true) Q E s₁) E s):wpAny (model prog w) A (eval (.Attribute e f pos) env) Q E s:=
 Attribute_any_ h (by rw [arm_eval_Attribute,hb])
end
def YL (K:PySem.W.Frag) (ta:TE) (f:Str):TE:=fun σ H Q=>ta σ H fun x H1=>∃ a C dx fs v,x= .ref a∧H1 a=some (.ins C dx fs)∧Cls K C∧EJ K C f∧fs.lookup f=some v∧Q v H1
def cE (K:PySem.W.Frag) (ta tv:TE) (f:Str):TS:=fun D σ H=>tv σ H fun y H1=>ta σ H1 fun x H2=>∃ a C dx fs,x= .ref a∧H2 a=some (.ins C dx fs)∧Cls K C∧EJ K C f∧fs.length<1000∧
 D.nx σ (upd H2 a (.ins C dx (GW f y fs)))
section
variable {X:Cx} {o e value:Expr} {f:Str} {pos pos' tpos:Pos} {ta tv:TE}
theorem gE (he:PE X e ta) (hb:attributeBase e f X.env (eval e X.env)=eval e X.env):PE X (.Attribute e f pos) (YL X.K ta f):=by
 walk_at "b18"
 refine fF hb (thn (he pins s σ H _ I h) fun u s1 ⟨x,H1,I1,rx,a,C,dx,fs,v,ex,ea,c,n,l,q⟩=> ?_)
 subst ex
 obtain rfl:u=Value.ref a:=rx
 exact SX I1 ea c n l fun u' s2 I2 ru=>⟨v,H1,I2,ru,q⟩
theorem jF (ha:PE X o ta) (hv:PE X value tv) (hs:swapsWith value (some (.Attribute o f pos')) pos.line X.env=pure false):PS X (.Assign [.Attribute o f pos'] value pos) (cE X.K ta tv f):=by
 walk_at "b56"
 refine plainObj_wpAny_Assign_Attribute (thn (hv pins s σ H _ I h) fun u s1 ⟨y,H1,I1,ry,q⟩=>thn (ha pins s1 σ H1 _ I1 q) fun ov s2 ⟨x,H2,I2,rx,a,C,dx,fs,ex,ea,c,n,l,q2⟩=> ?_) hs
 subst ex
 obtain rfl:ov=Value.ref a:=rx
 exact UB I2 ea c n l ry fun s3 I3=>⟨σ,_,I3,q2⟩
end
section
variable {X:Cx} {pins:List (Addr×Obj)} {σ:St} {H:Hp} {s:Shared} {A:Around} {E:Value→Shared→Prop} {Q:Value→Shared→Prop} {c:Value} {b:Bool}
inductive IM (K:PySem.W.Frag) (H:Hp):V→Value→Prop where
 | non:IM K H .non (.type "NoneType")
 | bl (x:Bool):IM K H (.bl x) (.type "bool")
 | int (i:Int):IM K H (.int i) (.type "int")
 | str (x:Str):IM K H (.str x) (.type "str")
 | flt (x:UInt64):IM K H (.flt x) (.type "float")
 | lst {a:Addr} {xs:List V} (e:H a=some (.lst xs)):IM K H (.ref a) (.type "list")
 | frz {a:Addr} {o:Obj} {xs:List V} (e:H a=some (.frz o (.lst xs))):IM K H (.ref a) (.type "list")
 | tup {a:Addr} {xs:List V} (e:H a=some (.tup xs)):IM K H (.ref a) (.type "tuple")
 | dK {a:Addr} {kvs:List (Key×V)} (e:H a=some (.dK kvs)):IM K H (.ref a) (.type "dict")
 | dT {a:Addr} {kvs:List (List Key×V)} (e:H a=some (.dT kvs)):IM K H (.ref a) (.type "dict")
 | ins {a C dx:Addr} {fs:List (Str×V)} (e:H a=some (.ins C dx fs)) (cl:Cls K C) (ha:PySem.W.findIn K (.ref C) "__class__"=some (some (.builtin "object.__class__")))
   (hn:PySem.W.specialIn K (.builtin "object.__class__") "__get__"=some (some (.builtin "getset_descriptor.__get__"))) (htk:PySem.W.takesIn K (.builtin "object.__class__")=some true)
   (hm:PySem.W.mroIn K C (.type "object")=some true):IM K H (.ref a) (.ref C)
theorem WB {x:V} {u t:Value} (I:Inv X pins σ H s) (rx:AZ x u) (ty:IM X.K H x t) (e:PySem.W.kitOne X.K t c=some b) (h:∀ tk,Q (.bool b) { s with toks:=tk }):
  wpAny (model X.prog X.w) A (call (.builtin "isinstance") [u,c]) Q E s:=by
 cases ty with
 | non=>cases (show u=Value.none from rx);exact PySem.W.kia_one PySem.W.kitx_none I.kIn True.intro e (fun z=>nomatch z) h
 | bl y=>cases (show u=Value.bool y from rx);exact PySem.W.kia_one PySem.W.kitx_bool I.kIn True.intro e (fun z=>nomatch z) h
 | int i=>obtain ⟨t,q⟩:=(show ∃ t,u=Value.int i t from rx);cases q;exact PySem.W.kia_one PySem.W.kitx_int I.kIn True.intro e (fun z=>nomatch z) h
 | str y=>obtain ⟨t,q⟩:=(show ∃ t,u=Value.str y t from rx);cases q;exact PySem.W.kia_one PySem.W.kitx_str I.kIn True.intro e (fun z=>nomatch z) h
 | flt y=>obtain ⟨t,q⟩:=(show ∃ t,u=Value.float y t from rx);cases q;exact PySem.W.kia_one PySem.W.kitx_float I.kIn True.intro e (fun z=>nomatch z) h
 | @lst a xs ea=>
  walk_at "b57"
  obtain ⟨_,_,n,_,h1⟩:=(show CH X.prog X.w H s.heap a (.lst xs) from I.hok a _ ea)
  exact PySem.W.kia_one PySem.W.kitx_list I.kIn ⟨_,h1,rfl⟩ e (fun z=>nomatch z) h
 | @frz a ob xs ea=>
  walk_at "b57"
  obtain ⟨_,_,_,n,_,h1⟩:=(show CH X.prog X.w H s.heap a (.frz ob (.lst xs)) from I.hok a _ ea)
  exact PySem.W.kia_one PySem.W.kitx_list I.kIn ⟨_,h1,rfl⟩ e (fun z=>nomatch z) h
 | @tup a xs ea=>
  walk_at "b57"
  obtain ⟨_,_,_,p⟩:=(show CH X.prog X.w H s.heap a (.tup xs) from I.hok a _ ea)
  obtain ⟨o,h1,h2,_⟩:=p
  exact PySem.W.kia_one PySem.W.kitx_tuple I.kIn ⟨o,h1,h2⟩ e (fun z=>nomatch z) h
 | @dK a kvs ea=>
  walk_at "b57"
  obtain ⟨_,_,vs,_,p⟩:=(show CH X.prog X.w H s.heap a (.dK kvs) from I.hok a _ ea)
  obtain ⟨o,es,ep,h1,h2,_⟩:=p
  exact PySem.W.kia_one PySem.W.kitx_dict I.kIn ⟨o,h1,h2.1⟩ e (fun z=>nomatch z) h
 | @dT a kvs ea=>
  walk_at "b57"
  obtain ⟨_,_,xs,_,o,es,ep,h1,h2,_⟩:=(show CH X.prog X.w H s.heap a (.dT kvs) from I.hok a _ ea)
  exact PySem.W.kia_one PySem.W.kitx_dict I.kIn ⟨o,h1,h2.1⟩ e (fun z=>nomatch z) h
 | @ins a C dx fs ea cl ha hn htk hm=>
  walk_at "b57"
  obtain ⟨mA,O,_⟩:=LR I.hok ea
  obtain ⟨od,J,_⟩:=O.look
  exact PySem.W.kia_one (PySem.W.kitx_own (cl.get _) cl.hd ha hn htk hm) I.kIn J e (fun z=>nomatch z) h
end
structure EU (k:Nat) (A:Around):Prop where
 hd:A.handled=none
 dp:A.depth+3 * k+5<recursionLimit
 un:A.units+16 * k+200<cLine
theorem EU.mono {j k:Nat} {A:Around} (r:EU k A) (h:j≤k):EU j A:=⟨r.hd,by have:=r.dp;omega,by have:=r.un;omega⟩
theorem EU.deeper {k:Nat} {A:Around} (r:EU (k+1) A) (env:Env):EU k (A.deeper env):=
 ⟨r.hd,by have:=r.dp;show A.depth+1+3 * k+5<_;omega,by have:=r.un;show A.units+3+16 * k+200<_;omega⟩
theorem SS {A:Around} {C:Addr} {us:List Value} {kw:List (Str×Value)}:(A.under (.builtin "type.__call__" ⟨.ref C::us,kw⟩)).depth=A.depth+1:=by
 first | rfl | simp [Around.under,Code.weight,Code.isCreation,Code.isGuard,Code.isCaller,Code.frames,Code.isFrame,guardIds]
theorem SU {A:Around} {C:Addr} {us:List Value} {kw:List (Str×Value)}:(A.under (.builtin "type.__call__" ⟨.ref C::us,kw⟩)).units=A.units+1:=by
 first | rfl | simp [Around.under,Code.cUnits,Code.frames,Code.isFrame]
theorem EU.make {k:Nat} {A:Around} (r:EU (k+1) A) (C:Addr) (us:List Value) (kw:List (Str×Value)):EU k (A.under (.builtin "type.__call__" ⟨.ref C::us,kw⟩)):=
 ⟨r.hd,by have:=r.dp;rw [SS];omega,by have:=r.un;rw [SU];omega⟩
theorem EU.depth {k:Nat} {A:Around} (r:EU k A):A.depth<recursionLimit:=by have:=r.dp;omega
theorem EU.units {k:Nat} {A:Around} (r:EU k A):A.units+64<cLine:=by have:=r.un;omega
def cD:TA:=fun _ H Q=>Q [] H
def NU (ta:TE) (tr:TA):TA:=fun σ H Q=>ta σ H fun x H1=>tr σ H1 fun xs H2=>Q (x::xs) H2
section
variable {X:Cx} {e:Expr} {es:List Expr} {te:TE} {t:TA} {pos:Pos}
theorem AB:PA X [] cD:=fun _ _ _ _ H Q I h=>Calls.spliced_nil ⟨[],H,I,.nil,h⟩
theorem AA (ha:PE X e te) (hr:PA X es t) (hs:starEach (e::es) X.env=(false,eval e X.env)::starEach es X.env:=by rfl):PA X (e::es) (NU te t):=by
 intro pos pins s σ H Q I h
 rw [hs]
 show wpAny _ _ (spliced ((false,eval e X.env)::backTo pos (starEach es X.env))) _ _ s
 refine Calls.spliced_cons (thn (ha pins s σ H _ I h) fun u s1 ⟨x,H1,I1,r1,q1⟩=> ?_)
 exact thn (hr pos pins s1 σ H1 _ I1 q1) fun us s2 ⟨xs,H2,I2,r2,q2⟩=>⟨x::xs,H2,I2,.cons r1 r2,q2⟩
def bP (t:TA):TE:=fun σ H Q=>t σ H fun xs H1=>xs.length≤sizeLine∧∀ p,H1 p=none→Q (.ref p) (upd H1 p (.tup xs))
def YQ (t:TA):TE:=fun σ H Q=>t σ H fun xs H1=>xs.length≤sizeLine∧∀ p,H1 p=none→Q (.ref p) (upd H1 p (.lst xs))
theorem BE {x1} (h:PA X es t):PE X (.Tuple es x1 pos) (bP t):=by
 intro pins s σ H Q I hq
 refine wpAny_Tuple_spliced (thn (h pos pins s σ H _ I hq) fun us s1 ⟨xs,H1,I1,r,z,q⟩=>⟨by rw [← r.length];exact z,?_⟩)
 have hf:H1 s1.heap.objs.size=none:=I1.hok.fresh (Nat.le_refl _)
 refine ⟨.ref s1.heap.objs.size,upd H1 s1.heap.objs.size (.tup xs),I1.laid (t':=s1.toks) (fun b u e=>Heap.get?_push_of_some _ e) (Nat.le_refl _) ?_,rfl,q _ hf⟩
 exact ⟨z,us,r,⟨_,Heap.get?_push_size _ rfl,rfl,_,rfl⟩⟩
theorem DJ (h:PA X es t):PE X (.List es pos) (YQ t):=by
 intro pins s σ H Q I hq
 refine wpAny_List_spliced (thn (h pos pins s σ H _ I hq) fun us s1 ⟨xs,H1,I1,r,z,q⟩=>⟨by rw [← r.length];exact z,?_⟩)
 have hf:H1 s1.heap.objs.size=none:=I1.hok.fresh (Nat.le_refl _)
 refine ⟨.ref s1.heap.objs.size,upd H1 s1.heap.objs.size (.lst xs),I1.laid (t':=s1.toks) (fun b u e=>Heap.get?_push_of_some _ e) (Nat.le_refl _) ?_,rfl,q _ hf⟩
 exact ⟨z,us,0,r,Heap.get?_push_size _ rfl⟩
end
abbrev Sp:=List V→Hp→VK→XK→Prop
abbrev CXT:=List Env→Hp→Shared→XK→Value→Shared→Prop
structure SK (P:Program) (w:World) (K:PySem.W.Frag) (mg:Str→Option Value) (base:Heap) (A:Around) (outer:List Env) (s:Shared) (H:Hp):Prop where
 frames:A.frames=some outer
 mod:Mod K mg base
 bs:∀ b o,base.get? b=some o→s.heap.get? b=some o∧H b=none
 bsz:base.objs.size≤s.heap.objs.size
 funs:s.heap.FunFrames base outer
 frf:∀ b∈frs outer,H b=none
 hok:HOk P w H s.heap
 bare:AllBare s.gens
def CE (outer:List Env) (P:Program) (w:World) (H:Hp) (s:Shared) (Q:VK) (u:Value) (s':Shared):Prop:=
 ∃ v H',s'.os=s.os∧AllBare s'.gens∧Un (frs outer) [] H H' s.heap s'.heap∧HOk P w H' s'.heap∧AZ v u∧Q v H'
def CR (CX:CXT) (outer:List Env) (P:Program) (w:World) (H:Hp) (s:Shared) (Q:VK) (E:XK) (r:Result) (s':Shared):Prop:=
 match r with
 | .ok (.ret u)=>CE outer P w H s Q u s'
 | .ok _=>False
 | .error e=>CX outer H s E e s'
structure BY (P:Program) (w:World) (K:PySem.W.Frag) (mg:Str→Option Value) (base:Heap) (CX:CXT) (k:Nat) (f:Addr) (fd:FuncData) (ps:List Str) (sp:Sp):Prop where
 len:∀ vs H Q E,sp vs H Q E→vs.length=ps.length
 run:∀ (A:Around) (outer:List Env) (s:Shared) (H:Hp) (args:Args) (us:List Value) (vs:List V) (Q:VK) (E:XK),EU k A→SK P w K mg base A outer s H→BindsTo s fd args (ps.zip us)→AY vs us→sp vs H Q E→
  codeAny (model P w) A (.call (.ref f) args) (CR CX outer P w H s Q E) s
theorem SK.make {P:Program} {w:World} {K:PySem.W.Frag} {mg:Str→Option Value} {base:Heap} {A:Around} {outer:List Env} {s:Shared} {H:Hp} (e:SK P w K mg base A outer s H) (C:Addr) (us:List Value) (kw:List (Str×Value)):
  SK P w K mg base (A.under (.builtin "type.__call__" ⟨.ref C::us,kw⟩)) outer s H:=⟨by first | exact e.frames | (simpa [Around.under,Code.envs,Code.isFrame,pushEnvs] using e.frames),e.mod,e.bs,e.bsz,e.funs,e.frf,e.hok,e.bare⟩
section
variable {X:Cx} {pins:List (Addr×Obj)} {σ:St} {H:Hp} {s s':Shared}
theorem Inv.env0 (I:Inv X pins σ H s):SK X.prog X.w X.K X.mg X.base X.A X.stack s H:=
 ⟨I.ok.frames,I.ok.mod,I.bs,Nat.le_trans I.ok.bsz I.sz,I.stack,I.stkFree,I.hok,I.bare⟩
theorem Inv.after {Q:VK} {u:Value} (I:Inv X pins σ H s) (h:CE X.stack X.prog X.w H s Q u s'):EP X pins σ Q u s':=by
 obtain ⟨v,H',os,bare,un,hok,r,q⟩:=h
 obtain ⟨hh,g,d,t,os'⟩:=s'
 obtain rfl:os'=s.os:=os
 exact ⟨v,H',I.call (h':=hh) (g':=g) (d':=d) (t':=t) (ch:=[]) un hok bare (fun b z=>absurd z (by simp)),r,q⟩
end
def RP (sp:Sp) (dvs:List V) (E:XK) (t:TA):TE:=fun σ H Q=>t σ H fun vs H1=>sp (vs++dvs) H1 Q E
def QU (C:Addr) (m:Str) (sp:Sp) (dvs:List V) (E:XK) (ta:TE) (t:TA):TE:=fun σ H Q=>ta σ H fun x H1=>∃ a dx fs,x= .ref a∧H1 a=some (.ins C dx fs)∧fs.lookup m=none∧
 t σ H1 fun vs H2=>sp (x::(vs++dvs)) H2 Q E
def QI (C:Addr) (sp:Sp) (dvs:List V) (E:XK) (t:TA):TE:=fun σ H Q=>t σ H fun vs H1=>∀ x dx,H1 x=none→H1 dx=none→dx≠x→
 sp (.ref x::(vs++dvs)) (upd (upd H1 dx (.own x)) x (.ins C dx [])) (fun v H2=>v= .non∧Q (.ref x) H2) E
def HI (K:PySem.W.Frag) (fd:FuncData) (ps:List Str) (ds:List Value):Prop:=
 ∀ (s:Shared) (us:List Value),K.In s.heap→(us++ds).length=ps.length→BindsTo s fd ⟨us,[]⟩ (ps.zip (us++ds))
theorem HI.all {K:PySem.W.Frag} {fd:FuncData} {ps:List Str} (h:∀ us:List Value,us.length=ps.length→bindArgs fd ⟨us,[]⟩=pure (ps.zip us)):HI K fd ps []:=fun s us _ hl=>by
 rw [List.append_nil] at hl ⊢
 exact .of_eq (h us hl)
def JX (CX:CXT) (X:Cx) (E:XK):Prop:=∀ (pins:List (Addr×Obj)) (σ:St) (H:Hp) (s:Shared) (e:Value) (s':Shared),Inv X pins σ H s→CX X.stack H s E e s'→X.xe e s'
section
variable {X:Cx} {CX:CXT} {k:Nat} {f C:Addr} {fd:FuncData} {ps:List Str} {sp:Sp} {dvs:List V} {ds:List Value} {E:XK} {x m:Str} {p pos apos:Pos} {e o:Expr} {es:List Expr} {ta:TE} {t:TA}
theorem bE {pins:List (Addr×Obj)} {σ:St} {H:Hp} {s:Shared} {Q:VK} {us:List Value} {vs:List V} (F:BY X.prog X.w X.K X.mg X.base CX k f fd ps sp) (hr:EU k X.A) (hb:HI X.K fd ps ds) (hd:AY dvs ds) (hx:JX CX X E)
  (I:Inv X pins σ H s) (r:AY vs us) (h:sp (vs++dvs) H Q E):wpAny (model X.prog X.w) X.A (call (.ref f) us) (EP X pins σ Q) X.xe s:=by
 have r2:AY (vs++dvs) (us++ds):=r.append hd
 have hl:(us++ds).length=ps.length:=by rw [← r2.length];exact F.len _ _ _ _ h
 refine wpAny_call (codeAny_mono (F.run X.A X.stack s H ⟨us,[]⟩ (us++ds) (vs++dvs) Q E hr I.env0 (hb s us I.kIn hl) r2 h) fun r s' hq=> ?_)
 cases r with
 | error e=>exact hx pins σ H s e s' I hq
 | ok fl=>
  cases fl with
  | ret u=>exact I.after hq
  | next=>exact False.elim hq
  | brk=>exact False.elim hq
  | cont=>exact False.elim hq
theorem AH (F:BY X.prog X.w X.K X.mg X.base CX k f fd ps sp) (hr:EU k X.A) (hg:Gl X x) (hm:X.mg x=some (.ref f)) (hk:PySem.W.keepIn X.K (.ref f)=true) (hb:HI X.K fd ps ds) (hd:AY dvs ds) (hx:JX CX X E)
  (ha:PA X (e::es) t) (hdb:(x == ("__debug__":Str))=false:=by decide) (he:starEach (e::es) X.env=(false,eval e X.env)::starEach es X.env:=by rfl) (hpl:(backTo pos (starEach es X.env)).any (·.1)=false:=by rfl):
  PE X (.Call (.Name x p) (e::es) [] pos) (RP sp dvs E t):=by
 walk_at "b18"
 refine wpAny_Call_Name_kw (PU I hg hm ?_ hdb)
 refine PySem.W.callWith_K (h₀:=X.base) I.ok.mod.kin hk (thn (ha pos pins s σ H _ I h) fun us s1 ⟨vs,H1,I1,r,q⟩=>⟨I1.kIn,?_⟩) he hpl
 exact bE F hr hb hd hx I1 r q
theorem UQ {pl:Sem Bool} (he:PE X o ta) (c:Cls X.K C) (hm:gG X.K C m f) (F:BY X.prog X.w X.K X.mg X.base CX k f fd ps sp) (hr:EU k X.A) (hb:HI X.K fd ps ds) (hd:AY dvs ds) (hx:JX CX X E) (ha:PA X (e::es) t)
  (hst:starEach (e::es) X.env=(false,eval e X.env)::starEach es X.env:=by rfl) (hpl:(backTo pos (starEach es X.env)).any (·.1)=false:=by rfl)
  (ht:eval (.Call (.Attribute o m apos) (e::es) [] pos) X.env=(do
   let ov ← eval o X.env
   standAt apos.atName
   let (f,first) ← holding [ov] (getMethod ov m pl)
   callWith pos f first (backTo pos (starEach (e::es) X.env)) (backToKw pos (keywordEach [] X.env))):=by rfl):
  PE X (.Call (.Attribute o m apos) (e::es) [] pos) (QU C m sp dvs E ta t):=by
 walk_at "b18"
 refine PySem.W.methodCall_KW (pl:=pl) (thn (he pins s σ H _ I h) fun u s1 ⟨x,H1,I1,rx,a,dx,fs,ex,ea,l,q⟩=> ?_) ht
 subst ex
 obtain rfl:u=Value.ref a:=rx
 refine SQ I1 ea c hm l ?_
 refine PySem.W.callWith_K (first:=[.ref a]) (h₀:=X.base) I.ok.mod.kin hm.kp (thn (ha pos pins s1 σ H1 _ I1 q) fun us s2 ⟨vs,H2,I2,r,q2⟩=>⟨I2.kIn,?_⟩) hst hpl
 exact bE (us:= .ref a::us) (vs:= .ref a::vs) F hr hb hd hx I2 (.cons rfl r) q2
structure Mk (K:PySem.W.Frag) (C f:Addr):Prop where
 makes:PySem.W.makesIn K C=true
 init:PySem.W.findIn K (.ref C) "__init__"=some (some (.ref f))
 fn:PySem.W.isFn K (.ref f)=true
 kp:PySem.W.keepIn K (.ref C)=true
theorem aL {pins:List (Addr×Obj)} {σ:St} {H:Hp} {s:Shared} {Q:VK} {us:List Value} {vs:List V} (M:Mk X.K C f) (F:BY X.prog X.w X.K X.mg X.base CX k f fd ps sp) (hr:EU (k+1) X.A) (hb:HI X.K fd ps ds) (hd:AY dvs ds)
  (hx:JX CX X E) (I:Inv X pins σ H s) (r:AY vs us)
  (h:∀ x dx,H x=none→H dx=none→dx≠x→sp (.ref x::(vs++dvs)) (upd (upd H dx (.own x)) x (.ins C dx [])) (fun v H2=>v= .non∧Q (.ref x) H2) E):
  wpAny (model X.prog X.w) X.A (call (.ref C) us) (EP X pins σ Q) X.xe s:=by
 have hq:=h (s.heap.objs.size+1) s.heap.objs.size (I.hok.fresh (Nat.le_succ _)) (I.hok.fresh (Nat.le_refl _)) (Nat.ne_of_lt (Nat.lt_succ_self _))
 have I2:=Inv.made (C:=C) I
 have r2:AY (V.ref (s.heap.objs.size+1)::(vs++dvs)) (Value.ref (s.heap.objs.size+1)::(us++ds)):= .cons rfl (r.append hd)
 have hl:(Value.ref (s.heap.objs.size+1)::us++ds).length=ps.length:=by
  have e:=r2.length
  rw [F.len _ _ _ _ hq] at e
  exact e.symm
 refine wpAny_call (ZZ (f:=f) I.kIn M.makes M.init (beq_iff_eq.mp M.fn) (codeAny_mono (F.run _ X.stack _ _ ⟨Value.ref (s.heap.objs.size+1)::us,[]⟩ (Value.ref (s.heap.objs.size+1)::(us++ds)) _ _ E (hr.make C us [])
  (I2.env0.make C us []) (hb _ (Value.ref (s.heap.objs.size+1)::us) I2.kIn hl) r2 hq) fun r s' hq'=> ?_))
 cases r with
 | error e=>exact hx pins σ _ _ e s' I2 hq'
 | ok fl=>
  cases fl with
  | ret u=>
   obtain ⟨v,H',I3,rv,ev,q3⟩:=I2.after hq'
   subst ev
   exact ⟨rv,⟨V.ref (s.heap.objs.size+1),H',I3,rfl,q3⟩⟩
  | next=>exact False.elim hq'
  | brk=>exact False.elim hq'
  | cont=>exact False.elim hq'
theorem QA (M:Mk X.K C f) (F:BY X.prog X.w X.K X.mg X.base CX k f fd ps sp) (hr:EU (k+1) X.A) (hg:Gl X x) (hm:X.mg x=some (.ref C)) (hb:HI X.K fd ps ds) (hd:AY dvs ds) (hx:JX CX X E)
  (ha:PA X (e::es) t) (hdb:(x == ("__debug__":Str))=false:=by decide) (he:starEach (e::es) X.env=(false,eval e X.env)::starEach es X.env:=by rfl) (hpl:(backTo pos (starEach es X.env)).any (·.1)=false:=by rfl):
  PE X (.Call (.Name x p) (e::es) [] pos) (QI C sp dvs E t):=by
 walk_at "b18"
 refine wpAny_Call_Name_kw (PU I hg hm ?_ hdb)
 refine PySem.W.callWith_K (h₀:=X.base) I.ok.mod.kin M.kp (thn (ha pos pins s σ H _ I h) fun us s1 ⟨vs,H1,I1,r,q⟩=>⟨I1.kIn,?_⟩) he hpl
 exact aL M F hr hb hd hx I1 r q
end
section
variable {X:Cx} {CX:CXT} {k:Nat} {f C:Addr} {fd:FuncData} {ps ks:List Str} {sp:Sp} {E:XK} {x m:Str} {p pos apos kpos:Pos} {e o:Expr} {es:List Expr} {kws:List Keyword} {te ta:TE} {t tk:TA} {nm:Option Str}
structure KBinds (K:PySem.W.Frag) (fd:FuncData) (ps ks:List Str) (g:List Value→List Value→List Value) (gV:List V→List V→List V):Prop where
 to:∀ (s:Shared) (us ws:List Value),K.In s.heap→(g us ws).length=ps.length→BindsTo s fd ⟨us,ks.zip ws⟩ (ps.zip (g us ws))
 rel:∀ {vs:List V} {us:List Value} {zs:List V} {ws:List Value},AY vs us→AY zs ws→AY (gV vs zs) (g us ws)
variable {g:List Value→List Value→List Value} {gV:List V→List V→List V}
end
structure AX (N P:List Str) (sc:Scope):Prop where
 kind:sc.kind= .function
 co:sc.isCoroutine=false
 gen:sc.isGenerator=false
 nd:N.Nodup
 pre:N.take P.length=P
 par:∀ x∈P,sc.names.lookup x=some .local∨sc.names.lookup x=some .cell
 nofree:∀ y∈sc.names,y.2≠ .free
theorem NV {kindOf:Str→Option NameKind} {x:Str}:∀ {binds:List (Str×Value)} {m:Str→Option Value},(∀ v,(x,v)∉binds)→bindL kindOf binds m x=m x
 | [],_,_=>rfl
 | (n,v)::r,m,h=>by
  unfold bindL
  rw [NV fun w hw=>h w (List.mem_cons_of_mem _ hw)]
  split
  ·have:x≠n:=by rintro rfl;exact h v List.mem_cons_self
   simp [this]
  ·rfl
theorem OK {kindOf:Str→Option NameKind} {x:Str}:∀ {binds:List (Str×Value)} {m:Str→Option Value},(∀ v,(x,v)∉binds)→bindC kindOf binds m x=m x
 | [],_,_=>rfl
 | (n,v)::r,m,h=>by
  unfold bindC
  rw [OK fun w hw=>h w (List.mem_cons_of_mem _ hw)]
  split
  ·rfl
  ·have:x≠n:=by rintro rfl;exact h v List.mem_cons_self
   simp [this]
theorem OP {kindOf:Str→Option NameKind} {x:Str} {v:Value}:∀ {P:List Str} {vs:List Value} {i:Nat} {m:Str→Option Value},P.Nodup→P[i]? =some x→vs[i]? =some v→kindOf x=some .local→
  bindL kindOf (P.zip vs) m x=some v
 | [],_,_,_,_,h,_,_=>by simp at h
 | _::_,[],_,_,_,_,h,_=>by simp at h
 | p::P,w::vs,0,m,nd,h1,h2,hk=>by
  simp at h1 h2;subst h1;subst h2
  show bindL kindOf ((p,w)::P.zip vs) m p=_
  unfold bindL
  rw [NV fun v hv=>(List.nodup_cons.mp nd).1 (List.of_mem_zip hv).1,if_pos hk]
  simp
 | p::P,w::vs,i+1,m,nd,h1,h2,hk=>by
  show bindL kindOf ((p,w)::P.zip vs) m x=_
  unfold bindL
  exact OP (i:=i) (List.nodup_cons.mp nd).2 (by simpa using h1) (by simpa using h2) hk
theorem OG {kindOf:Str→Option NameKind} {x:Str} {v:Value}:∀ {P:List Str} {vs:List Value} {i:Nat} {m:Str→Option Value},P.Nodup→P[i]? =some x→vs[i]? =some v→kindOf x≠some .local→
  bindC kindOf (P.zip vs) m x=some v
 | [],_,_,_,_,h,_,_=>by simp at h
 | _::_,[],_,_,_,_,h,_=>by simp at h
 | p::P,w::vs,0,m,nd,h1,h2,hk=>by
  simp at h1 h2;subst h1;subst h2
  show bindC kindOf ((p,w)::P.zip vs) m p=_
  unfold bindC
  rw [OK fun v hv=>(List.nodup_cons.mp nd).1 (List.of_mem_zip hv).1,if_neg hk]
  simp
 | p::P,w::vs,i+1,m,nd,h1,h2,hk=>by
  show bindC kindOf ((p,w)::P.zip vs) m x=_
  unfold bindC
  exact OG (i:=i) (List.nodup_cons.mp nd).2 (by simpa using h1) (by simpa using h2) hk
def start (N:List Str) (vs:List V):St:=vs.map some++List.replicate (N.length - vs.length) none
def TY (CX:CXT) (P:Program) (w:World) (K:PySem.W.Frag) (mg:Str→Option Value) (base:Heap) (N:List Str) (qual:Str) (scope:Scope) (f:Addr) (cd:Value) (A:Around) (outer:List Env) (s:Shared) (H:Hp) (E:XK):Cx where
 prog:=P
 w:=w
 K:=K
 mg:=mg
 base:=base
 A:=A.deeper (envOfC qual scope s.heap.objs.size f cd)
 N:=N
 s₀:=s
 H₀:=H
 env:=envOfC qual scope s.heap.objs.size f cd
 outer:=outer
 stack:=envOfC qual scope s.heap.objs.size f cd::outer
 ex:=[]
 calm:=true
 fn:=fun _=>true
 pn:=[]
 xe:=fun e s'=>wpAny (model P w) (A.deeper (envOfC qual scope s.heap.objs.size f cd)) (leaving (envOfC qual scope s.heap.objs.size f cd) e) (fun _ s''=>CX outer H s E e s'') (fun e' s''=>CX outer H s E e' s'') s'
theorem QT {sc:Scope} {n:Nat} {x:Str} (h:sc.names.lookup x=some .cell):∃ c,(cellsFrom n sc.names []).lookup x=some c:=by
 have q:=PySem.W.cellsFrom_some sc.names n [] (.inl h)
 exact Option.isSome_iff_exists.mp q
theorem XS {CX:CXT} {P:Program} {w:World} {K:PySem.W.Frag} {mg:Str→Option Value} {base:Heap} {N ps:List Str} {qual:Str} {scope:Scope} {f:Addr} {cd:Value} {A:Around} {outer:List Env} {s s1:Shared} {H:Hp} {E:XK} {us:List Value} {vs:List V}
  (S:AX N ps scope) (hd:A.handled=none) (e0:SK P w K mg base A outer s H) (hl:vs.length=ps.length) (r:AY vs us)
  (x:InCallC s s.heap.objs.size (bindL (envOfC qual scope s.heap.objs.size f cd).kindOf (ps.zip us) fun _=>none) (cellsFrom (s.heap.objs.size+1) scope.names []) (bindC (envOfC qual scope s.heap.objs.size f cd).kindOf (ps.zip us) fun _=>none) s1):
  Inv (TY CX P w K mg base N qual scope f cd A outer s H E) [] (start N vs) H s1:=by
 have hpl:ps.length≤N.length:=by have:=congrArg List.length S.pre;rw [List.length_take] at this;omega
 obtain ⟨h1,tk,rfl,hk⟩:=x.done
 have noA:∀ b:Addr,b∉(TY CX P w K mg base N qual scope f cd A outer s H E).ex:=fun b z=>absurd (show b∈([]:List Addr) from z) (by simp)
 refine ⟨⟨e0.mod,S.kind,rfl,rfl,Nat.le_refl _,fun y z c h1 h2=> ?_,fun y hy=> ?_,fun y c _ h=> ?_,fun _=>hd,Around.frames_deeper e0.frames,.inr ⟨rfl,rfl⟩,fun b z=>absurd z (noA b),e0.bs,e0.bsz,fun b _ _=>noA b,fun b z=>absurd z (noA b),e0.funs,e0.frf⟩,
  rfl,e0.bare,Un.kept hk,⟨_,x.toInCall.ns,fun i y v h1 h2 h3=> ?_⟩,fun y c h=>⟨_,x.cell y c h⟩,e0.hok.fresh (Nat.le_refl _),fun y c h=> ?_,fun p hp=>absurd (show p∈([]:List (Addr×Obj)) from hp) (by simp),e0.hok.kept hk,?_⟩
 ·exact name_of_addr x.apart (PySem.mem_of_lookup h1) (PySem.mem_of_lookup h2)
 ·have hy:scope.names.lookup y=some .cell∨scope.names.lookup y=some .free:=hy
  rcases hy with hy | hy
  ·exact QT hy
  ·exact absurd rfl (S.nofree _ (PySem.mem_of_lookup hy))
 ·exact Nat.le_of_lt (x.above y c (PySem.mem_of_lookup h))
 ·have hi:i<vs.length:=by
   unfold start at h2
   by_cases hi:i<vs.length
   ·exact hi
   ·rw [List.getElem?_append_right (by simpa using hi)] at h2
    rw [List.getElem?_replicate] at h2
    split at h2<;> cases h2
  have ha:vs[i]? =some v:=by
   unfold start at h2
   rw [List.getElem?_append_left (by simpa using hi),List.getElem?_map] at h2
   cases e:vs[i]? with
   | none=>rw [e] at h2;cases h2
   | some a=>rw [e] at h2;cases h2;rfl
  obtain ⟨u,hu,rv⟩:=r.get ha
  have hp:ps[i]? =some y:=by
   rw [← S.pre,List.getElem?_take_of_lt (by omega)];exact h1
  have ndP:ps.Nodup:=by rw [← S.pre];exact S.nd.sublist (List.take_sublist _ _)
  refine ⟨u,rv,?_⟩
  rcases S.par y (List.mem_of_getElem? hp) with k | k
  ·exact .inl ⟨k,OP ndP hp hu k⟩
  ·obtain ⟨c,e⟩:=QT (n:=s.heap.objs.size+1) k
   refine .inr ⟨.inl k,c,e,?_⟩
   have q:=x.cell y c e
   rw [OG ndP hp hu (by show scope.names.lookup y≠_;rw [k];decide)] at q
   exact q
 ·exact e0.hok.fresh (Nat.le_of_lt (x.above y c (PySem.mem_of_lookup h)))
 ·unfold start
  show _=N.length
  rw [List.length_append,List.length_map,List.length_replicate]
  omega
theorem jP {CX:CXT} {P:Program} {w:World} {K:PySem.W.Frag} {mg:Str→Option Value} {base:Heap} {k:Nat} {f:Addr} {name qual:Str} {params:Arguments} {body:List Stmt} {scope:Scope} {dV kV doc pm cdv ct oc:Value} {an od:Option Addr}
  {osl:Array (Option Value)} {N ps:List Str} {sp:Sp} (lk:K.lookup f=some ⟨oc,od,.func (PySem.W.fnOf name qual params body scope dV kV doc pm an cdv ct),osl⟩) (hcd:PySem.W.codeIn K cdv qual=true) (S:AX N ps scope)
  (len:∀ vs H Q E,sp vs H Q E→vs.length=ps.length)
  (hbody:∀ (A:Around) (outer:List Env) (s:Shared) (H:Hp) (vs:List V) (Q:VK) (E:XK),EU k (A.deeper (envOfC qual scope s.heap.objs.size f cdv))→sp vs H Q E→
   ∃ t,PSs (TY CX P w K mg base N qual scope f cdv A outer s H E) body t∧t { nx:=fun _ H'=>Q .non H',rt:=Q } (start N vs) H):
  BY P w K mg base CX (k+1) f (PySem.W.fnOf name qual params body scope dV kV doc pm an cdv ct) ps sp:=by
 refine ⟨len,fun A outer s H args us vs Q E hr e0 hb r hsp=> ?_⟩
 have hl:=len _ _ _ _ hsp
 have KX:K.In s.heap:=e0.mod.kin.keeps fun b o e=>(e0.bs b o e).1
 have lim:s.heap.NoLimit:=e0.mod.nolimit.keeps fun b o e=>(e0.bs b o e).1
 have hkind:∀ y∈ps.zip us,scope.names.lookup y.1=some .local∨(scope.names.lookup y.1=some .cell∧((cellsFrom (s.heap.objs.size+1) scope.names []).lookup y.1).isSome=true):=fun ⟨n,v⟩ hy=>by
  rcases S.par n (List.of_mem_zip hy).1 with q | q
  ·exact .inl q
  ·exact .inr ⟨q,PySem.W.cellsFrom_some _ _ _ (.inl q)⟩
 refine codeAny_call_function hr.depth (KX _ _ lk) rfl S.co S.gen rfl (PySem.W.codeRec_of KX hcd) (hb _ _ _ _ ?_)
 refine wpAny_newFunctionEnv_cells S.kind hkind fun env he s1 x=> ?_
 subst he
 refine ⟨lim.keeps x.toInCall.keep,codeAny_func ?_⟩
 obtain ⟨t,ht,hq⟩:=hbody A outer s H vs Q E (hr.deeper _) hsp
 have I:Inv (TY CX P w K mg base N qual scope f cdv A outer s H E) [] (start N vs) H s1:=XS S hr.hd e0 hl r x
 refine wpAny_mono (ht [] s1 (start N vs) H _ I hq) (fun fl s' hs=> ?_) fun e s' hs=>hs
 have fin:∀ {σ':St} {H':Hp} {v:V} {u:Value},Inv (TY CX P w K mg base N qual scope f cdv A outer s H E) [] σ' H' s'→AZ v u→Q v H'→CE outer P w H s Q u s':=
  fun {σ' H' v u} J rv q=>⟨v,H',J.os,J.bare,J.base,J.hok,rv,q⟩
 cases fl with
 | ret u=>
  obtain ⟨v,σ',H',J,rv,q⟩:=hs
  exact fin J rv q
 | next=>
  obtain ⟨σ',H',J,q⟩:=hs
  exact fin (v:=V.non) (u:=Value.none) J rfl q
 | brk=>
  obtain ⟨_,_,_,q⟩:=hs
  exact False.elim q
 | cont=>
  obtain ⟨_,_,_,q⟩:=hs
  exact False.elim q
section
variable {X:Cx} {x:Str} {p pos:Pos} {e:Expr} {es:List Expr} {t:TA} {id T:String} {r:List V→Hp→VK→Prop}
def tCB (r:List V→Hp→VK→Prop) (t:TA):TE:=fun σ H Q=>t σ H fun vs H1=>r vs H1 Q
theorem AO (hc:DI X (.builtin id) r) (hg:Gl X x) (hm:X.mg x=none) (hv:bootBuiltins x=some (.builtin id)) (ha:PA X (e::es) t) (hn:x≠"__name__":=by decide) (hdb:(x == ("__debug__":Str))=false:=by decide)
  (he:starEach (e::es) X.env=(false,eval e X.env)::starEach es X.env:=by rfl) (hpl:(backTo pos (starEach es X.env)).any (·.1)=false:=by rfl):PE X (.Call (.Name x p) (e::es) [] pos) (tCB r t):=by
 walk_at "b18"
 refine wpAny_Call_Name_kw (HH I hg hm hv ?_ hn hdb)
 exact PyProof.Rows.callWith_builtin1 (thn (ha pos pins s σ H _ I h) fun us s1 ⟨vs,H1,I1,r1,q1⟩=>hc pins s1 σ H1 vs us Q I1 r1 q1) he hpl
theorem CP (hc:DI X (.type T) r) (hg:Gl X x) (hm:X.mg x=none) (hv:bootBuiltins x=some (.type T)) (ha:PA X (e::es) t) (hn:x≠"__name__":=by decide) (hdb:(x == ("__debug__":Str))=false:=by decide)
  (he:starEach (e::es) X.env=(false,eval e X.env)::starEach es X.env:=by rfl) (hpl:(backTo pos (starEach es X.env)).any (·.1)=false:=by rfl):PE X (.Call (.Name x p) (e::es) [] pos) (tCB r t):=by
 walk_at "b18"
 refine wpAny_Call_Name_kw (HH I hg hm hv ?_ hn hdb)
 exact PyProof.Rows.callWith_type1 (thn (ha pos pins s σ H _ I h) fun us s1 ⟨vs,H1,I1,r1,q1⟩=>hc pins s1 σ H1 vs us Q I1 r1 q1) he hpl
end
end L2
namespace HT
open PySem PyProof.Rows
section
open PySem.SeqAt
open PySem.AutoSeq1 (wpAny_loadPart')
open PySem.MeetsSeq PySem.MeetsSeq2 PySem.MeetsSeq3
end
section
variable {prog:Program} {w:World} {A:Around} {E:Value→Shared→Prop} {s:Shared}
theorem cat_tup {t b:Addr} {vs ws:List Value} {Q:Value→Shared→Prop} (ht:IsTup s.heap t vs.toArray) (hb:IsTup s.heap b ws.toArray) (hv:vs≠[])
  (h1:ws=[]→Q (.ref t) s) (h2:ws≠[]→Q (.ref s.heap.objs.size) { s with heap:=s.heap.push { cls:= .type "tuple",data:= .seq (vs++ws).toArray } })
  (hsz:vs.length+ws.length≤sizeLine):wpAny (model prog w) A (binaryOp .Add (.ref t) (.ref b)) Q E s:=by
 walk_at "b38"
 have e:vs.toArray++ws.toArray=(vs++ws).toArray:=by simp
 by_cases hw:ws=[]
 ·exact concat_meets ⟨_,ho,rfl⟩ ⟨_,ho2,rfl⟩ noFill_tuple_add seq_tuple_add PySem.F.slot_tuple_add PySem.F.entry_tuple_add (PySem.F.args_tuple_add_2 _ _)
   (tuple_addW1 t b vs.toArray ws.toArray n n2 dd dd2 sl sl2 (by simpa using hv) (by simp [hw])) ⟨ho,ho2,h1 hw⟩
 ·refine concat_meets ⟨_,ho,rfl⟩ ⟨_,ho2,rfl⟩ noFill_tuple_add seq_tuple_add PySem.F.slot_tuple_add PySem.F.entry_tuple_add (PySem.F.args_tuple_add_2 _ _)
   (tuple_addW2 t b vs.toArray ws.toArray n n2 dd dd2 sl sl2 (by simpa using hv) (by simpa using hw) (by rw [List.size_toArray,List.size_toArray];exact hsz)) ⟨ho,ho2,?_⟩
  rw [e]
  exact h2 hw
def sIx (n d:Nat):Option Int→Nat
 | none=>d
 | some v=>if v<0 then (v+(n:Int)).toNat else min v.toNat n
theorem sIx_none (n d:Nat):sIx n d none=d:=rfl
theorem sIx_nat (n d k:Nat):sIx n d (some (k:Int))=min k n:=by
 show (if (k:Int)<0 then ((k:Int)+(n:Int)).toNat else min (k:Int).toNat n)=min k n
 rw [if_neg (by omega),Int.toNat_natCast]
theorem gD (n d:Nat) (hd:d≤n) (o:Option Int):sIx n d o≤n:=by
 cases o with
 | none=>exact hd
 | some v=>
  show (if v<0 then (v+(n:Int)).toNat else min v.toNat n)≤n
  by_cases hv:v<0
  ·rw [if_pos hv];omega
  ·rw [if_neg hv];exact Nat.min_le_right _ _
theorem UJ (v:Int) (n d:Nat):(if v<0 then max (v+(n:Int)) 0 else min v (n:Int))=((sIx n d (some v):Nat):Int):=by
 show (if v<0 then max (v+(n:Int)) 0 else min v (n:Int))=(((if v<0 then (v+(n:Int)).toNat else min v.toNat n):Nat):Int)
 by_cases hv:v<0
 ·simp only [if_pos hv];omega
 ·simp only [if_neg hv];omega
theorem UF (lo hi:Option Int) (n:Nat):Builtin.Slice.sliceAdjust lo hi 1 (n:Int)=(((sIx n 0 lo:Nat):Int),((sIx n n hi:Nat):Int)):=by
 have h1:¬ ((1:Int)<0):=by omega
 unfold Builtin.Slice.sliceAdjust
 simp only [h1,if_false]
 refine Prod.ext ?_ ?_
 ·cases lo with
  | none=>rfl
  | some v=>exact UJ v n 0
 ·cases hi with
  | none=>rfl
  | some v=>exact UJ v n n
theorem SO (i j:Nat):Builtin.Slice.slicePlaces (i:Int) (j:Int) 1=j - i:=by
 unfold Builtin.Slice.slicePlaces
 have h1:(1:Int) > 0:=by omega
 simp only [h1,if_true,Int.ediv_one]
 split<;> omega
theorem ND {v:Value} {o:Option Int} {Q:Option Int→Shared→Prop} (p:IsPart v o) (h:Q o s):wpAny (model prog w) A (Builtin.Slice.slicePartIndex v) Q E s:=by
 cases p with
 | none=>exact slicePart_none h
 | int i t=>exact slicePart_int h
theorem sliceApplied_gen {sl:Addr} {vl vu:Value} {lo hi:Option Int} {n:Nat} {Q:Int×Int×Nat→Shared→Prop} (hs:s.heap.IsSliceOf sl vl vu .none) (pl:IsPart vl lo) (pu:IsPart vu hi)
  (h:Q (((sIx n 0 lo:Nat):Int),1,sIx n n hi - sIx n 0 lo) s):wpAny (model prog w) A (Builtin.Slice.sliceApplied (.ref sl) (pure (n:Int))) Q E s:=by
 obtain ⟨os,hos,hcs,hds⟩:=id hs
 unfold Builtin.Slice.sliceApplied Builtin.Slice.sliceFields
 refine wpAny_bind (wpAny_bind (wpAny_field hos hds (x:=vl) rfl (wpAny_bind (wpAny_field hos hds (x:=vu) rfl (wpAny_bind (wpAny_field hos hds (x:= .none) rfl (wpAny_pure ?_)))))))
 refine wpAny_bind (slicePart_none ?_)
 show wpAny _ _ (if ((1:Int) == 0)=true then _ else _) _ _ s
 rw [if_neg (by decide)]
 refine wpAny_bind (ND pl (wpAny_bind (ND pu (wpAny_bind (wpAny_pure ?_)))))
 show wpAny _ _ (match Builtin.Slice.sliceAdjust lo hi 1 (n:Int) with | (lo,hi)=>pure (lo,(1:Int),Builtin.Slice.slicePlaces lo hi 1)) _ _ s
 rw [UF lo hi n]
 show wpAny _ _ (pure (((sIx n 0 lo:Nat):Int),(1:Int),Builtin.Slice.slicePlaces ((sIx n 0 lo:Nat):Int) ((sIx n n hi:Nat):Int) 1)) _ _ s
 rw [SO]
 exact wpAny_pure h
theorem cG (xs:Array Value) (i k:Nat):((List.range k).filterMap fun (m:Nat)=>xs[((i:Int)+(m:Int) * 1).toNat]?).toArray=((xs.toList.drop i).take k).toArray:=by
 have e:(fun (m:Nat)=>xs[((i:Int)+(m:Int) * 1).toNat]?)=fun m=>xs[i+m]? :=by
  funext m
  have:((i:Int)+(m:Int) * 1).toNat=i+m:=by omega
  rw [this]
 rw [e]
 have:=pick_run xs i k
 rw [List.filterMap_map] at this
 have e2:((fun x=>xs[x]?) ∘ fun x=>i+x)=fun m=>xs[i+m]? :=rfl
 rw [e2] at this
 rw [this]
theorem getItem_tuple_cut {t sl:Addr} {items:Array Value} {vl vu:Value} {lo hi:Option Int} {Q:Value→Shared→Prop} (ht:IsTup s.heap t items) (hs:s.heap.IsSliceOf sl vl vu .none) (pl:IsPart vl lo) (pu:IsPart vu hi)
  (hw:¬ (sIx items.size 0 lo=0∧sIx items.size items.size hi=items.size))
  (h:Q (.ref s.heap.objs.size) { s with heap:=s.heap.push { cls:= .type "tuple",data:= .seq ((items.toList.drop (sIx items.size 0 lo)).take (sIx items.size items.size hi - sIx items.size 0 lo)).toArray } })
  (hsz:items.size≤sizeLine):wpAny (model prog w) A (getItem (.ref t) (.ref sl)) Q E s:=by
 have htake:sizeOk (.seq ((items.toList.drop (sIx items.size 0 lo)).take (sIx items.size items.size hi - sIx items.size 0 lo)).toArray):=by
  show ((items.toList.drop (sIx items.size 0 lo)).take (sIx items.size items.size hi - sIx items.size 0 lo)).toArray.size≤sizeLine
  rw [List.size_toArray,List.length_take,List.length_drop,Array.length_toList]
  omega
 have hj:sIx items.size items.size hi≤items.size:=gD _ _ (Nat.le_refl _) hi
 walk_at "b41"
 first | refine wpAny_bind (wpAny_pure ?_) | skip
 refine wpAny_bind (wpAny_sequenceKey ht.typeIs (by decide) ?_)
 refine wpAny_bind (wpAny_callSpecial?_slot (name:=Str.ofString "__getitem__") ht.typeIs PyProof.Rows.slot_tuple_getitem
  (wpAny_call_entry PyProof.Rows.slot_tuple_getitem ht.typeIs entry_tuple_getitem ?_ (args_tuple_getitem _ _)))
 walk_at "b35"
 refine wpAny_bind (sliceApplied_gen hs pl pu ?_)
 have hno:¬ ((((sIx items.size 0 lo:Nat):Int) == 0 && (1:Int) == 1 && (sIx items.size items.size hi - sIx items.size 0 lo) == items.size)=true):=by
  intro q
  rw [Bool.and_eq_true,Bool.and_eq_true] at q
  have q1:((sIx items.size 0 lo:Nat):Int)=0:=eq_of_beq q.1.1
  have q2:sIx items.size items.size hi - sIx items.size 0 lo=items.size:=eq_of_beq q.2
  exact hw ⟨by omega,by omega⟩
 show wpAny _ _ (if (((sIx items.size 0 lo:Nat):Int) == 0 && (1:Int) == 1 && (sIx items.size items.size hi - sIx items.size 0 lo) == items.size)=true then _ else _) _ _ s
 rw [if_neg hno,cG]
 first
  | exact wpAny_bind (m:=Builtin.Tuple.tupleExact _) (wpAny_newObj_type (wpAny_pure ⟨_,rfl,wpAny_pure h⟩) htake)
  | exact wpAny_bind (m:=Builtin.Tuple.tupleExact _) (wpAny_newObj_type (wpAny_bind (wpAny_pure (wpAny_pure ⟨_,rfl,wpAny_pure h⟩))) htake)
  | exact wpAny_bind (wpAny_bind (m:=Builtin.Tuple.tupleExact _) (wpAny_newObj_type (wpAny_pure (wpAny_pure ⟨_,rfl,wpAny_pure h⟩)) htake))
  | exact wpAny_bind (wpAny_bind (m:=Builtin.Tuple.tupleExact _) (wpAny_newObj_type (wpAny_pure ⟨_,rfl,wpAny_pure h⟩) htake))
end
end HT
namespace L2
open PySem PySem.Spec PyProof.Rows
abbrev TO:=St→Hp→(Option Int→Hp→Prop)→Prop
def PO (X:Cx) (e:Option Expr) (t:TO):Prop:=
 ∀ (pins:List (Addr×Obj)) (s:Shared) (σ:St) (H:Hp) (Q:Option Int→Hp→Prop),Inv X pins σ H s→t σ H Q→
  wpAny (model X.prog X.w) X.A (evalPart e X.env) (fun u s'=>∃ o H',Inv X pins σ H' s'∧IsPart u o∧Q o H') X.xe s
def IS:TO:=fun _ H Q=>Q none H
def QN (t:TE):TO:=fun σ H Q=>t σ H fun x H1=>∃ i,x= .int i∧Q (some i) H1
section
variable {X:Cx} {e:Expr} {te:TE} {lo hi:Option Expr} {tl th:TO} {pos p2:Pos}
theorem LL:PO X none IS:=by
 walk_at "b18"
 rw [evalPart_none]
 exact wpAny_pure ⟨none,H,I,.none,h⟩
theorem eP (h:PE X e te):PO X (some e) (QN te):=by
 intro pins s σ H Q I hw
 rw [evalPart_some]
 refine thn (h pins s σ H _ I hw) fun u s1 ⟨x,H1,I1,r1,q1⟩=> ?_
 obtain ⟨i,rfl,q⟩:=q1
 obtain ⟨t,rfl⟩:=r1
 exact ⟨some i,H1,I1,.int i t,q⟩
def SlR (X:Cx) (r:V→Option Int→Option Int→Hp→VK→Prop):Prop:=
 ∀ (pins:List (Addr×Obj)) (s:Shared) (σ:St) (H:Hp) (x:V) (v vl vu:Value) (lo hi:Option Int) (sl:Addr) (Q:VK),Inv X pins σ H s→AZ x v→s.heap.IsSliceOf sl vl vu .none→IsPart vl lo→IsPart vu hi→r x lo hi H Q→
  ∃ T id,typeLookup (.type T) "__getitem__"=pure (some (.builtin id))∧s.TypeIs v T∧wpAny (model X.prog X.w) X.A (getItem v (.ref sl)) (EP X pins σ Q) X.xe s
def tSl (r:V→Option Int→Option Int→Hp→VK→Prop) (te:TE) (tl th:TO):TE:=fun σ H Q=>te σ H fun x H1=>tl σ H1 fun l H2=>th σ H2 fun u H3=>r x l u H3 Q
theorem IZ {r:V→Option Int→Option Int→Hp→VK→Prop} (hr:SlR X r) (he:PE X e te) (hl:PO X lo tl) (hu:PO X hi th):PE X (.Subscript e (.Slice lo hi none p2) pos) (tSl r te tl th):=by
 walk_at "b18"
 refine Subscript_ (thn (he pins s σ H _ I h) fun v s1 ⟨x,H1,I1,r1,q1⟩=> ?_)
 refine wpAny_Slice (thn (hl pins s1 σ H1 _ I1 q1) fun vl s2 ⟨l,H2,I2,pl,q2⟩=>thn (hu pins s2 σ H2 _ I2 q2) fun vu s3 ⟨u,H3,I3,pu,q3⟩=> ?_)
 rw [evalPart_none]
 refine wpAny_pure ?_
 have I4:Inv X pins σ H3 { s3 with heap:=s3.heap.push { cls:= .type "slice",data:= .fields #[vl,vu,.none] } }:=I3.kept (t':=s3.toks) fun b ob q=>Heap.get?_push_of_some _ q
 obtain ⟨T,id,hT,ht,hg⟩:=hr pins { s3 with heap:=s3.heap.push { cls:= .type "slice",data:= .fields #[vl,vu,.none] } } σ H3 x v vl vu l u s3.heap.objs.size Q I4 r1 (Heap.IsSliceOf.new ..) pl pu q3
 show wpAny (model X.prog X.w) X.A (subscriptTail e (.Slice lo hi none p2) v (.ref s3.heap.objs.size)) (EP X pins σ Q) X.xe { s3 with heap:=s3.heap.push { cls:= .type "slice",data:= .fields #[vl,vu,.none] } }
 exact tail_any (ops:=[.ref s3.heap.objs.size,v]) ht hT hg (by with_unfolding_all rfl)
def ID (xs:List V) (lo hi:Option Int):List V:=(xs.drop (HT.sIx xs.length 0 lo)).take (HT.sIx xs.length xs.length hi - HT.sIx xs.length 0 lo)
theorem QJ (xs:List V) (lo hi:Option Int):(ID xs lo hi).length≤xs.length:=by
 unfold ID
 rw [List.length_take,List.length_drop]
 omega
def ZP (K:PySem.W.Frag):V→Option Int→Option Int→Hp→VK→Prop:=fun x lo hi H Q=>∃ a xs,x= .ref a∧SqT K H a xs∧
 ¬ (HT.sIx xs.length 0 lo=0∧HT.sIx xs.length xs.length hi=xs.length)∧∀ p,H p=none→Q (.ref p) (upd H p (.tup (ID xs lo hi)))
theorem jD:SlR X (ZP X.K):=by
 intro pins s σ H x v vl vu lo hi sl Q I rx hs pl pu h
 obtain ⟨a,xs,rfl,hx,hw,q⟩:=h
 cases rx
 walk_at "b28"
 refine HT.getItem_tuple_cut ht hs pl pu (by rw [hlen];exact hw) ?_ (by rw [hlen];exact hz)
 rw [hlen]
 refine ⟨.ref s.heap.objs.size,_,I.laid (t':=s.toks) (o:= .tup (ID xs lo hi)) (fun b ob q=>Heap.get?_push_of_some _ q) (Nat.le_refl _) ?_,rfl,q _ (I.hok.fresh (Nat.le_refl _))⟩
 exact ⟨Nat.le_trans (QJ xs lo hi) hz,_,(r.drop (HT.sIx xs.length 0 lo)).take (HT.sIx xs.length xs.length hi - HT.sIx xs.length 0 lo),IsTup.new _ _⟩
def RB (K:PySem.W.Frag):R2:=fun x y H Q=>∃ a b xs ys,x= .ref a∧y= .ref b∧SqT K H a xs∧SqT K H b ys∧xs≠[]∧xs.length+ys.length≤sizeLine∧
 (ys=[]→Q (.ref a) H)∧(ys≠[]→∀ p,H p=none→Q (.ref p) (upd H p (.tup (xs++ys))))
theorem AY.nil_iff {xs:List V} {us:List Value} (r:AY xs us):us=[]↔xs=[]:=by
 cases r with
 | nil=>simp
 | cons _ _=>simp
theorem eB:OpR X (binaryOp .Add) (RB X.K):=by
 walk_at "b7"
 obtain ⟨a,b,xs,ys,rfl,rfl,ha,hb,hx,hz,q1,q2⟩:=h
 cases rx
 cases ry
 obtain ⟨its,r1,p1,_⟩:=I.tuple ha
 obtain ⟨its2,r2,p2,_⟩:=I.tuple hb
 refine HT.cat_tup p1 p2 (fun z=>hx (r1.nil_iff.mp z)) (fun z=>⟨.ref a,H,I,rfl,q1 (r2.nil_iff.mp z)⟩) (fun z=> ?_) (by rw [← r1.length,← r2.length];exact hz)
 refine ⟨.ref s.heap.objs.size,_,I.laid (t':=s.toks) (o:= .tup (xs++ys)) (fun b ob q=>Heap.get?_push_of_some _ q) (Nat.le_refl _) ?_,rfl,q2 (fun w=>z (r2.nil_iff.mpr w)) _ (I.hok.fresh (Nat.le_refl _))⟩
 exact ⟨by rw [List.length_append];exact hz,_,r1.append r2,IsTup.new _ _⟩
end
def ixN (n:Nat) (i:Int):Option Nat:=if 0≤i then (if i<n then some i.toNat else none) else if -(n:Int)≤i then some (i+n).toNat else none
def atI {α:Type} (xs:List α) (i:Int):Option α:=(ixN xs.length i).bind fun j=>xs[j]?
theorem dF {n:Nat} {i:Int} {j:Nat} (h:ixN n i=some j):seqIndex? i n=some j∧j<n∧ -(n:Int)≤i∧i<n:=by
 unfold ixN at h
 by_cases h0:0≤i
 ·rw [if_pos h0] at h
  by_cases h1:i<n
  ·rw [if_pos h1] at h
   have e:i.toNat=j:=Option.some.inj h
   exact ⟨by rw [seqIndex_of h0 h1,e],by omega,by omega,h1⟩
  ·rw [if_neg h1] at h;cases h
 ·rw [if_neg h0] at h
  by_cases h1: -(n:Int)≤i
  ·rw [if_pos h1] at h
   have e:(i+n).toNat=j:=Option.some.inj h
   exact ⟨by rw [seqIndex_neg (by omega) h1,e],by omega,h1,by omega⟩
  ·rw [if_neg h1] at h;cases h
theorem PB {α:Type} {xs:List α} {i:Int} {v:α} (h:atI xs i=some v):∃ j,seqIndex? i xs.length=some j∧xs[j]? =some v∧j<xs.length∧ -(xs.length:Int)≤i∧i<xs.length:=by
 unfold atI at h
 cases e:ixN xs.length i with
 | none=>rw [e] at h;cases h
 | some j=>
  rw [e] at h
  obtain ⟨h1,h2,h3,h4⟩:=dF e
  exact ⟨j,h1,h,h2,h3,h4⟩
theorem BN {α:Type} {xs:List α} {j:Nat} {v:α} (h:xs[j]? =some v):atI xs (j:Int)=some v:=by
 have hj:j<xs.length:=(List.getElem?_eq_some_iff.mp h).1
 have e:ixN xs.length (j:Int)=some j:=by
  unfold ixN
  rw [if_pos (by omega),if_pos (by omega)];simp
 unfold atI;rw [e];exact h
def dD (b:Expr):Prop:=∀ o i,subscripted b false o i=operate [o,i] (getItem o i)
def IxR (X:Cx) (r:R2):Prop:=
 ∀ (value slice:Expr) (pins:List (Addr×Obj)) (s:Shared) (σ:St) (H:Hp) (x y:V) (v u:Value) (Q:VK),Inv X pins σ H s→AZ x v→AZ y u→r x y H Q→
  subscripted slice false v u=operate [v,u] (getItem v u)→wpAny (model X.prog X.w) X.A (subscriptTail value slice v u) (EP X pins σ Q) X.xe s
def MtR (X:Cx) (id:String) (r:V→List V→Hp→VK→Prop):Prop:=
 ∀ (pins:List (Addr×Obj)) (s:Shared) (σ:St) (H:Hp) (x:V) (xs:List V) (v:Value) (us:List Value) (Q:VK),Inv X pins σ H s→AZ x v→AY xs us→r x xs H Q→
  wpAny (model X.prog X.w) X.A (call (.builtin id) (v::us)) (EP X pins σ Q) X.xe s
section
variable {X:Cx} {a b:Expr} {ta tb:TE} {pos:Pos}
theorem BM {r:R2} (hr:IxR X r) (ha:PE X a ta) (hb:PE X b tb) (hs:dD b):PE X (.Subscript a b pos) (tOp r ta tb):=by
 walk_at "b18"
 exact Subscript_ (gK ha hb I h fun v u s2 x y H2 I2 rx ry q=>hr a b pins s2 σ H2 x y v u Q I2 rx ry q (hs _ _))
def ZH (K:PySem.W.Frag):R2:=fun x y H Q=>∃ p xs i v,x= .ref p∧y= .int i∧SqL K H p xs∧atI xs i=some v∧Q v H
def bN (K:PySem.W.Frag):R2:=fun x y H Q=>∃ p xs i v,x= .ref p∧y= .int i∧SqT K H p xs∧atI xs i=some v∧Q v H
def ZV:R2:=fun x y H Q=>∃ z i c,x= .str z∧y= .int i∧z.length≤sizeLine∧atI z.cps.toList i=some c∧Q (.str ⟨#[c]⟩) H
theorem cS:IxR X (ZH X.K):=by
 walk_at "b51"
 obtain ⟨its,r,pl,hz⟩:=I.list hq
 walk_at "b40"
 by_cases h0:0≤i
 ·have hj:i.toNat=j:=by
   rw [seqIndex_of h0 h5] at h1
   exact Option.some.inj h1
  exact item_listR pl.isList h0 (by omega) (by rw [hj];simpa using ew) fin hs
 ·have hj:(i+(its.toArray.size:Int)).toNat=j:=by
   rw [seqIndex_neg (by omega) h4] at h1
   rw [List.size_toArray,← hl]
   exact Option.some.inj h1
  exact subscriptTail_builtinR (x:=w) pl.isList.typeIs slot_list_getitem.lookup
   (wpAny_getItem_list_neg (Q:=fun r s'=>r=w∧EP X pins σ Q r s') pl.isList (by omega) (by rw [List.size_toArray]<;> omega) (by omega) (by rw [hj];simpa using ew) ⟨rfl,fin⟩) hs
theorem gR:IxR X (bN X.K):=by
 walk_at "b51"
 obtain ⟨its,r,pl,hz⟩:=I.tuple hq
 walk_at "b40"
 exact subscriptTail_builtinR (x:=w) pl.typeIs slot_tuple_getitem.lookup
  (getItem_tuple (j:=j) (Q:=fun r s'=>r=w∧EP X pins σ Q r s') pl (by omega) (by omega) (by rw [List.size_toArray,← hl];exact h1) (by simpa using ew) ⟨rfl,fin⟩) hs
theorem gL:IxR X ZV:=by
 intro value slice pins s σ H x y v u Q I rx ry h hs
 obtain ⟨z,i,c,rfl,rfl,hz,he,q⟩:=h
 walk_at "b30"
 obtain ⟨j,h1,h2,h3,h4,h5⟩:=PB he
 have hl:z.cps.toList.length=z.length:=by simp [Str.length]
 rw [hl] at h1 h4 h5
 have hn:=KQ
 exact tail_any (typeIs_str s z t) slot_str_getitem.lookup (getItem_str (c:=c) (by
  have e1:decide (i< -(2 ^ 63:Int))=false:=decide_eq_false (by omega)
  have e2:decide (i≥2 ^ 63)=false:=decide_eq_false (by omega)
  rw [e1,e2,Bool.or_false]) (by rw [h1];simpa using h2) ⟨.str ⟨#[c]⟩,H,I.tok _,⟨_,rfl⟩,q⟩) hs
theorem Inv.lst {pins:List (Addr×Obj)} {σ:St} {H:Hp} {s:Shared} {p:Addr} {xs:List V} (I:Inv X pins σ H s) (h:H p=some (.lst xs)):
  ∃ (its:List Value) (n:Nat),AY xs its∧s.heap.get? p=some { cls:= .type "list",data:= .seq its.toArray n }∧xs.length≤sizeLine:=by
 obtain ⟨z,its,n,r,e⟩:=I.hok p _ h
 exact ⟨its,n,r,e,z⟩
def HM:V→Bool
 | .non=>true
 | .bl _=>true
 | .int _=>true
 | .str _=>true
 | _=>false
def eqV:V→V→Bool
 | .non,.non=>true
 | .bl a,.bl b=>a == b
 | .bl a,.int b=>(if a then 1 else 0) == b
 | .int a,.bl b=>a == (if b then 1 else 0)
 | .int a,.int b=>a == b
 | .str a,.str b=>a == b
 | _,_=>false
theorem iF {A:Around} {s:Shared} {y x:V} {u v:Value} (ry:AZ y u) (rx:AZ x v) (fy:HM y=true) (fx:HM x=true):SeqAt.EqAt A s u v (eqV y x):=by
 cases y with
 | non=>
  cases ry
  cases x with
  | non=>cases rx;exact SeqAt.EqAt.same _
  | bl b=>cases rx;exact SeqAt.EqAt.none_bool b
  | int b=>obtain ⟨t,rfl⟩:=rx;exact SeqAt.EqAt.none_int b t
  | str b=>obtain ⟨t,rfl⟩:=rx;exact SeqAt.EqAt.none_str b t
  | _=>exact absurd (show false=true from fx) Bool.false_ne_true
 | bl a=>
  cases ry
  cases x with
  | non=>cases rx;exact SeqAt.EqAt.bool_none a
  | bl b=>cases rx;exact SeqAt.EqAt.bool_bool a b
  | int b=>obtain ⟨t,rfl⟩:=rx;exact SeqAt.EqAt.bool_int a b t
  | str b=>obtain ⟨t,rfl⟩:=rx;exact SeqAt.EqAt.bool_str a b t
  | _=>exact absurd (show false=true from fx) Bool.false_ne_true
 | int a=>
  obtain ⟨t',rfl⟩:=ry
  cases x with
  | non=>cases rx;exact SeqAt.EqAt.int_none a t'
  | bl b=>cases rx;exact SeqAt.EqAt.int_bool a t' b
  | int b=>obtain ⟨t,rfl⟩:=rx;exact SeqAt.EqAt.int_int a t' b t
  | str b=>obtain ⟨t,rfl⟩:=rx;exact SeqAt.EqAt.int_str a t' b t
  | _=>exact absurd (show false=true from fx) Bool.false_ne_true
 | str a=>
  obtain ⟨t',rfl⟩:=ry
  cases x with
  | non=>cases rx;exact SeqAt.EqAt.str_none a t'
  | bl b=>cases rx;exact SeqAt.EqAt.str_bool a t' b
  | int b=>obtain ⟨t,rfl⟩:=rx;exact SeqAt.EqAt.str_int a t' b t
  | str b=>obtain ⟨t,rfl⟩:=rx;exact SeqAt.EqAt.str_str a t' b t
  | _=>exact absurd (show false=true from fx) Bool.false_ne_true
 | _=>exact absurd (show false=true from fy) Bool.false_ne_true
def eqU (x:V) (u:Value):Bool:=match u with
 | .none=>eqV .non x
 | .bool b=>eqV (.bl b) x
 | .int i _=>eqV (.int i) x
 | .str z _=>eqV (.str z) x
 | _=>false
theorem cH {x y:V} {u:Value} (r:AZ y u) (f:HM y=true):eqU x u=eqV y x:=by
 cases y with
 | non=>cases r;rfl
 | bl b=>cases r;rfl
 | int i=>obtain ⟨t,rfl⟩:=r;rfl
 | str z=>obtain ⟨t,rfl⟩:=r;rfl
 | _=>exact absurd (show false=true from f) Bool.false_ne_true
theorem JE {x:V}:∀ {xs:List V} {us:List Value},AY xs us→xs.all HM=true→us.any (eqU x)=xs.any fun y=>eqV y x
 | _,_,.nil,_=>rfl
 | y::xs,u::us,.cons r t,f=>by
  rw [List.all_cons,Bool.and_eq_true] at f
  rw [List.any_cons,List.any_cons,cH r f.1,JE t f.2]
theorem HD {A:Around} {s:Shared} {x:V} {v:Value} (rx:AZ x v) (fx:HM x=true):∀ {xs:List V} {us:List Value},AY xs us→xs.all HM=true→∀ u∈us,SeqAt.EqAt A s u v (eqU x u)
 | _,_,.nil,_=>fun u hu=>by cases hu
 | y::xs,u::us,.cons r t,f=>fun u' hu=>by
  rw [List.all_cons,Bool.and_eq_true] at f
  rcases List.mem_cons.mp hu with rfl | hu
  ·rw [cH r f.1];exact iF r rx f.1 fx
  ·exact HD rx fx t f.2 u' hu
def inV (x:V) (xs:List V):Bool:=xs.any fun y=>eqV y x
def rIn (K:PySem.W.Frag) (neg:Bool):R2:=fun x y H Q=>∃ p xs,y= .ref p∧(SqL K H p xs∨SqT K H p xs)∧HM x=true∧xs.all HM=true∧Q (.bl (if neg then !inV x xs else inV x xs)) H
theorem XD:OpR X (compareOp .In) (rIn X.K false):=by
 walk_at "b7"
 obtain ⟨p,xs,rfl,hq,fx,fs,q⟩:=h
 cases ry
 rcases hq with hq | hq
 ·obtain ⟨its,r,pl,hz⟩:=I.list hq
  refine SeqAt.in_listAt (eqU x) pl.isList (fun w hw=>HD rx fx r fs w (by simpa using hw)) ⟨.bl _,H,I,rfl,?_⟩
  walk_at "b29"
 ·obtain ⟨its,r,pl,hz⟩:=I.tuple hq
  refine SeqAt.in_tupleAt (eqU x) pl (fun w hw=>HD rx fx r fs w (by simpa using hw)) ⟨.bl _,H,I,rfl,?_⟩
  walk_at "b29"
theorem PK:OpR X (compareOp .NotIn) (rIn X.K true):=by
 walk_at "b7"
 obtain ⟨p,xs,rfl,hq,fx,fs,q⟩:=h
 cases ry
 rcases hq with hq | hq
 ·obtain ⟨its,r,pl,hz⟩:=I.list hq
  refine SeqAt.notIn_listAt (eqU x) pl.isList (fun w hw=>HD rx fx r fs w (by simpa using hw)) ⟨.bl _,H,I,rfl,?_⟩
  walk_at "b29"
 ·obtain ⟨its,r,pl,hz⟩:=I.tuple hq
  refine SeqAt.notIn_tupleAt (eqU x) pl (fun w hw=>HD rx fx r fs w (by simpa using hw)) ⟨.bl _,H,I,rfl,?_⟩
  walk_at "b29"
theorem OQ:DI X (.builtin "len") (fun xs H Q=>∃ p ys,xs=[.ref p]∧(SqL X.K H p ys∨SqT X.K H p ys)∧Q (.int ys.length) H):=by
 walk_at "b37"
 obtain ⟨p,ys,rfl,hq,q⟩:=h
 obtain ⟨u,rfl,rx⟩:=KS r
 cases rx
 have hn:=KQ
 rcases hq with hq | hq
 ·obtain ⟨its,r',pl,hz⟩:=I.list hq
  have hlen:=r'.length
  exact Calls.call_len_list pl.isList (by simp only [List.size_toArray]<;> omega) ⟨.int ys.length,H,I.tok _,⟨s.toks+1,by rw [List.size_toArray,hlen]⟩,q⟩
 ·obtain ⟨its,r',pl,hz⟩:=I.tuple hq
  have hlen:=r'.length
  exact len_tuple pl (by simp only [List.size_toArray]<;> omega) ⟨.int ys.length,H,I.tok _,⟨s.toks+1,by rw [List.size_toArray,hlen]⟩,q⟩
theorem NI:DI X (.type "tuple") (fun xs H Q=>∃ p ys,xs=[.ref p]∧((SqL X.K H p ys∧∀ l,H l=none→Q (.ref l) (upd H l (.tup ys)))∨(SqT X.K H p ys∧Q (.ref p) H))):=by
 walk_at "b37"
 obtain ⟨p,ys,rfl,h⟩:=h
 obtain ⟨u,rfl,rx⟩:=KS r
 cases rx
 rcases h with ⟨hq,q⟩ | ⟨hq,q⟩
 ·obtain ⟨its,r',pl,hz⟩:=I.list hq
  have hlen:=r'.length
  refine call_tuple_list pl.isList (fun h' kp=> ?_) (by simp only [List.size_toArray]<;> omega)
  have I1:Inv X pins σ H { s with heap:=h' }:=I.kept (t':=s.toks) kp
  have I2:Inv X pins σ (upd H h'.objs.size (.tup ys)) { s with heap:=h'.push { cls:= .type "tuple",data:= .seq its.toArray } }:=
   I1.laid (t':=s.toks) (fun b o e=>Heap.get?_push_of_some _ e) (Nat.le_refl _) (show CH X.prog X.w _ _ _ (.tup ys) from ⟨hz,its,r',IsTup.new _ _⟩)
  exact ⟨.ref h'.objs.size,_,I2,rfl,q _ (I1.hok.fresh (Nat.le_refl _))⟩
 ·obtain ⟨its,r',pl,hz⟩:=I.tuple hq
  exact call_tuple_same pl ⟨.ref p,H,I,rfl,q⟩
def tyV (K:PySem.W.Frag) (T:String) (x:V) (H:Hp):Prop:=match x with
 | .str _=>T="str"
 | .int _=>T="int"
 | .ref p=>(T="list"∧∃ xs,SqL K H p xs)∨(T="tuple"∧∃ o,K.lookup p=some o∧o.cls= .type "tuple"∧o.dict=none)∨
   (T="dict"∧((∃ kvs,H p=some (.dK kvs))∨∃ kvs,H p=some (.dT kvs)))∨(T="set"∧∃ S n,H p=some (.set S n))
 | _=>False
theorem YD {pins:List (Addr×Obj)} {σ:St} {H:Hp} {s:Shared} {T:String} {x:V} {v:Value} (I:Inv X pins σ H s) (r:AZ x v) (ty:tyV X.K T x H):
  s.TypeIs v T∧∀ a,v= .ref a→∃ ob,s.heap.get? a=some ob∧ob.dict=none:=by
 cases x with
 | str z=>
  obtain ⟨t,rfl⟩:=r
  cases (show T="str" from ty)
  exact ⟨typeIs_str s z t,fun _ e=>nomatch e⟩
 | int i=>
  obtain ⟨t,rfl⟩:=r
  cases (show T="int" from ty)
  exact ⟨typeIs_int s i t,fun _ e=>nomatch e⟩
 | ref p=>
  cases r
  rcases ty with ⟨rfl,xs,hq⟩ | ⟨rfl,o,hk,hc,hd⟩ | ⟨rfl,hk⟩ | ⟨rfl,S,n,hk⟩
  ·obtain ⟨its,_,pl,_⟩:=I.list hq
   refine ⟨pl.isList.typeIs,fun a e=> ?_⟩
   cases e
   obtain ⟨o,n,e,c,hd,_⟩:=pl
   exact ⟨o,e,hd⟩
  ·refine ⟨⟨o,I.kIn p o hk,hc⟩,fun a e=> ?_⟩
   cases e
   exact ⟨o,I.kIn _ o hk,hd⟩
  ·have z:∃ o,s.heap.get? p=some o∧o.ExactDict:=by
    rcases hk with ⟨kvs,hk⟩ | ⟨kvs,hk⟩
    ·obtain ⟨_,_,_,_,o,_,_,e,ex,_⟩:=I.hok p _ hk
     exact ⟨o,e,ex⟩
    ·obtain ⟨_,_,_,_,o,_,_,e,ex,_⟩:=I.hok p _ hk
     exact ⟨o,e,ex⟩
   obtain ⟨o,e,ex⟩:=z
   refine ⟨⟨o,e,ex.1⟩,fun a e2=> ?_⟩
   cases e2
   exact ⟨o,e,ex.2.1⟩
  ·obtain ⟨o,_,_,_,e,ex,_⟩:=I.hok p _ hk
   refine ⟨⟨o,e,ex.1⟩,fun a e2=> ?_⟩
   cases e2
   exact ⟨o,e,ex.2.1⟩
 | _=>exact False.elim ty
def ZY (K:PySem.W.Frag) (T:String) (r:V→List V→Hp→VK→Prop) (to:TE):TE:=fun σ H Q=>to σ H fun x H1=>tyV K T x H1∧r x [] H1 Q
def tBM (K:PySem.W.Frag) (T:String) (r:V→List V→Hp→VK→Prop) (to:TE) (t:TA):TE:=fun σ H Q=>to σ H fun x H1=>tyV K T x H1∧t σ H1 fun xs H2=>r x xs H2 Q
variable {o e:Expr} {es:List Expr} {to:TE} {t:TA} {name:Str} {apos cpos:Pos} {T id:String} {r:V→List V→Hp→VK→Prop}
theorem TJ (pa:PlainAttrs T) (slot:Slot T name id) (hty:typeOf (.builtin id)=pure (.type "method_descriptor")) (hm:MtR X id r) (ho:PE X o to)
  (hbase:attributeBase o name X.env (eval o X.env)=eval o X.env:=by rfl) (hline:(apos.endLine == cpos.line)=true:=by rfl):PE X (.Call (.Attribute o name apos) [] [] cpos) (ZY X.K T r to):=by
 walk_at "b18"
 refine wpAny_Call_method0_late hbase hline (thn (ho pins s σ H _ I h) fun v s1 ⟨x,H1,I1,r1,ty,q1⟩=> ?_)
 obtain ⟨h1,h2⟩:=YD I1 r1 ty
 exact ⟨T,id,pa,slot,hty,h1,h2,Calls.callWith_builtin rfl (PySem.evalArgs_none (hm pins s1 σ H1 x [] v [] Q I1 r1 .nil q1))⟩
theorem LF (pa:PlainAttrs T) (slot:Slot T name id) (hty:typeOf (.builtin id)=pure (.type "method_descriptor")) (hm:MtR X id r) (ho:PE X o to) (ha:PA X (e::es) t)
  (hbase:attributeBase o name X.env (eval o X.env)=eval o X.env:=by rfl)
  (hfew:((backTo cpos (starEach (e::es) X.env)).all (fun x=> !x.1) && (backToKw cpos (keywordEach [] X.env)).all (fun x=>x.1.isSome)
   && decide ((e::es).length+([]:List Keyword).length+(if ([]:List Keyword).isEmpty then 0 else 1)<30))=true:=by rfl)
  (hline:(apos.endLine == cpos.line)=true:=by rfl) (hs:starEach (e::es) X.env=(false,eval e X.env)::starEach es X.env:=by rfl) (hplain:(backTo cpos (starEach es X.env)).any (·.1)=false:=by rfl):
  PE X (.Call (.Attribute o name apos) (e::es) [] cpos) (tBM X.K T r to t):=by
 walk_at "b18"
 refine wpAny_Call_method_late hbase hfew hline rfl (thn (ho pins s σ H _ I h) fun v s1 ⟨x,H1,I1,r1,ty,q1⟩=> ?_)
 obtain ⟨h1,h2⟩:=YD I1 r1 ty
 refine ⟨T,id,pa,slot,hty,h1,h2,?_⟩
 have hA:=ha cpos pins s1 σ H1 _ I1 q1
 rw [hs] at hA ⊢
 refine Calls.callWith_builtin (by show (false || (backTo cpos (starEach es X.env)).any (·.1))=false;rw [hplain]<;> rfl) (Calls.evalArgs_plain ?_)
 exact thn hA fun us s2 ⟨vs,H2,I2,r2,q2⟩=>hm pins s2 σ H2 x vs v us Q I2 r1 r2 q2
end
def MtM (X:Cx) (id:String) (r:V→List V→Hp→VK→Prop):Prop:=
 ∀ (pins:List (Addr×Obj)) (s:Shared) (σ:St) (H:Hp) (x:V) (xs:List V) (v:Value) (us:List Value) (Q:VK),Inv X pins σ H s→AZ x v→AY xs us→r x xs H Q→
  wpAny (model X.prog X.w) X.A (call (.builtin id) (v::us)) (EP X pins σ Q) X.xe s
theorem AY.one:∀ {x:V} {us:List Value},AY [x] us→∃ u,us=[u]∧AZ x u
 | _,_,.cons r .nil=>⟨_,rfl,r⟩
theorem unP {α β:Type} {R:α→β→Prop} {x:α} {xs:List α} {us:List β} (h:Paired R (x::xs) us):∃ u vs,us=u::vs∧R x u∧Paired R xs vs:=by
 cases h with
 | cons r h=>exact ⟨_,_,rfl,r,h⟩
theorem unP0 {α β:Type} {R:α→β→Prop} {us:List β} (h:Paired R [] us):us=[]:=by
 cases h;rfl
theorem AY.two {x y:V} {us:List Value} (h:AY [x,y] us):∃ u v,us=[u,v]∧AZ x u∧AZ y v:=by
 obtain ⟨u,vs,rfl,r,h⟩:=unP h
 obtain ⟨v,vs,rfl,q,h⟩:=unP h
 obtain rfl:=unP0 h
 exact ⟨_,_,rfl,r,q⟩
theorem AY.zero:∀ {us:List Value},AY [] us→us=[]
 | _,.nil=>rfl
theorem AY.dropLast {xs:List V} {us:List Value} (h:AY xs us):AY xs.dropLast us.dropLast:=by
 induction h with
 | nil=>exact .nil
 | cons r t ih=>
  cases t with
  | nil=>exact .nil
  | cons q t'=>exact .cons r ih
theorem AY.eraseIdx:∀ {xs:List V} {us:List Value} (i:Nat),AY xs us→AY (xs.eraseIdx i) (us.eraseIdx i)
 | _,_,_,.nil=> .nil
 | _,_,0,.cons _ t=>t
 | _,_,i+1,.cons r t=> .cons r (AY.eraseIdx i t)
theorem AY.reverse {xs:List V} {us:List Value} (h:AY xs us):AY xs.reverse us.reverse:=by
 induction h with
 | nil=>exact .nil
 | cons r t ih=>rw [List.reverse_cons,List.reverse_cons];exact AY.append ih (.cons r .nil)
theorem AY.rep {xs:List V} {us:List Value} (h:AY xs us):∀ k:Nat,AY (List.replicate k xs).flatten (List.replicate k us).flatten
 | 0=> .nil
 | k+1=>by
  rw [List.replicate_succ,List.replicate_succ,List.flatten_cons,List.flatten_cons]
  exact AY.append h (AY.rep h k)
theorem TB {α:Type} (l:List α):l.eraseIdx (l.length - 1)=l.dropLast:=by
 induction l with
 | nil=>rfl
 | cons a r ih=>
  cases r with
  | nil=>rfl
  | cons b r=>
   have e:(a::b::r).length - 1=((b::r).length - 1)+1:=by
    have h1:(a::b::r).length=r.length+2:=rfl
    have h2:(b::r).length=r.length+1:=rfl
    omega
   rw [e,List.eraseIdx_cons_succ,ih]
   all_goals rfl
theorem KG (its:List Value):∀ (k:Nat) (acc:List Value),
  List.foldl (fun x1 x2=>x1++x2) acc.toArray (List.replicate k its.toArray)=(acc++(List.replicate k its).flatten).toArray
 | 0,acc=>by simp
 | k+1,acc=>by
  have e:acc.toArray++its.toArray=(acc++its).toArray:=by simp
  have e2:(acc++its)++(List.replicate k its).flatten=acc++(List.replicate (k+1) its).flatten:=by
   rw [List.replicate_succ,List.flatten_cons,List.append_assoc]
  rw [← e2,← KG its k (acc++its),← e,List.replicate_succ,List.foldl_cons]
section
variable {X:Cx} {pins:List (Addr×Obj)} {σ:St} {H:Hp} {s:Shared} {l b:Addr} {xs ys zs:List V}
theorem Inv.lset {its its':List Value} {n:Nat} {f:Array Value→Array Value} {t':Nat} (I:Inv X pins σ H s) (hH:H l=some (.lst xs))
  (e:s.heap.get? l=some { cls:= .type "list",data:= .seq its.toArray n }) (hf:f its.toArray=its'.toArray) (hv:AY ys its') (hz:ys.length≤sizeLine):
  Inv X pins σ (upd H l (.lst ys)) { s with heap:=s.heap.update l (Obj.mapSeq f),toks:=t' }:=by
 have q:=PySem.IsL.update e f
 rw [hf] at q
 refine I.write (x:=l) (e:=l) (by rw [hH];exact trivial) (.inl rfl) (fun b' u hb hu=>(Heap.get?_update_other s.heap (Obj.mapSeq f) (Ne.symm hb)).trans hu) ⟨_,q⟩ ?_
 exact ⟨hz,its',_,hv,q⟩
theorem Inv.lnew {its:List Value} {t':Nat} (I:Inv X pins σ H s) (hv:AY ys its) (hz:ys.length≤sizeLine):
  Inv X pins σ (upd H s.heap.objs.size (.lst ys)) { s with heap:=s.heap.push { cls:= .type "list",data:= .seq its.toArray },toks:=t' }:=
 I.laid (fun _ _ q=>Heap.get?_push_of_some _ q) (Nat.le_refl _) ⟨hz,its,0,hv,Heap.get?_push_size _ rfl⟩
theorem Inv.fresh (I:Inv X pins σ H s):H s.heap.objs.size=none:=I.hok.fresh (Nat.le_refl _)
theorem Inv.lstM (I:Inv X pins σ H s) (hH:H l=some (.lst xs)):xs.length≤sizeLine∧∃ (its:List Value) (n:Nat),AY xs its∧xs.length=its.length∧s.heap.get? l=some { cls:= .type "list",data:= .seq its.toArray n }:=by
 obtain ⟨z,its,n,r,e⟩:=I.hok l _ hH
 exact ⟨z,its,n,r,r.length,e⟩
theorem ZT {n:Nat} (h:n≤sizeLine):Builtin.List.listTooLong n=false:=by
 unfold Builtin.List.listTooLong
 exact decide_eq_false (by omega)
end
section
variable {X:Cx}
def IU:V→List V→Hp→VK→Prop:=fun x vs H Q=>∃ l xs y,x= .ref l∧vs=[y]∧H l=some (.lst xs)∧xs.length<sizeLine∧Q .non (upd H l (.lst (xs++[y])))
theorem JT:MtM X "list.append" IU:=by
 intro pins s σ H x vs v us Q I rx rv h
 obtain ⟨l,xs,y,rfl,rfl,hH,hz,q⟩:=h
 cases rx
 obtain ⟨u,rfl,ru⟩:=rv.one
 obtain ⟨z,its,n,r,hl,e⟩:=I.lstM hH
 refine call_meets F.slot_list_append ⟨_,e,rfl⟩ F.entry_list_append (F.args_list_append_2 _ _) (PySem.list_append l its.toArray n u (by rw [List.size_toArray];omega)) ⟨e,?_⟩
 refine ⟨.non,_,I.lset (its':=its++[u]) hH e (by simp) (r.append (.cons ru .nil)) ?_,rfl,q⟩
 rw [List.length_append,List.length_singleton]
 omega
def JR:V→List V→Hp→VK→Prop:=fun x vs H Q=>∃ l b xs zs,x= .ref l∧vs=[.ref b]∧H l=some (.lst xs)∧H b=some (.lst zs)∧xs.length+zs.length≤sizeLine∧Q .non (upd H l (.lst (xs++zs)))
theorem WT:MtM X "list.extend" JR:=by
 intro pins s σ H x vs v us Q I rx rv h
 obtain ⟨l,b,xs,zs,rfl,rfl,hH,hB,hz,q⟩:=h
 cases rx
 obtain ⟨u,rfl,ru⟩:=rv.one
 cases ru
 obtain ⟨z,its,n,r,hl,e⟩:=I.lstM hH
 obtain ⟨z2,its2,n2,r2,hl2,e2⟩:=I.lstM hB
 have hsz:its.toArray.size+its2.toArray.size≤sizeLine:=by rw [List.size_toArray,List.size_toArray];omega
 have hlong:¬ (!its.toArray.isEmpty && Builtin.List.listTooLong (its.toArray.size+its2.toArray.size))=true:=by
  rw [ZT hsz,Bool.and_false]
  exact Bool.false_ne_true
 refine call_meets F.slot_list_extend ⟨_,e,rfl⟩ F.entry_list_extend (F.args_list_extend_2 _ _)
  (AutoSeq1.list_extend_list_list_0 l its.toArray n b its2.toArray n2 hlong (by rw [List.size_toArray];omega) (by omega)) ⟨e,e2,?_⟩
 refine ⟨.non,_,I.lset (its':=its++its2) hH e (by simp) (r.append r2) ?_,rfl,q⟩
 rw [List.length_append]
 omega
def bG:V→List V→Hp→VK→Prop:=fun x vs H Q=>∃ l xs y,x= .ref l∧vs=[]∧H l=some (.lst xs)∧xs[xs.length - 1]? =some y∧Q y (upd H l (.lst xs.dropLast))
theorem SY:MtM X "list.pop" bG:=by
 intro pins s σ H x vs v us Q I rx rv h
 obtain ⟨l,xs,y,rfl,rfl,hH,hy,q⟩:=h
 cases rx
 have hus:=rv.zero
 subst hus
 obtain ⟨z,its,n,r,hl,e⟩:=I.lstM hH
 obtain ⟨u,hu,ru⟩:=r.get hy
 have hy':its.toArray[its.toArray.size - 1]? =some u:=by
  show its.toArray[its.length - 1]? =some u
  rw [← Array.getElem?_toList,← hl]
  exact hu
 refine call_meets F.slot_list_pop ⟨_,e,rfl⟩ F.entry_list_pop (F.args_list_pop_1 _) (MeetsSeq.list_pop_last l its.toArray n u hy' (by rw [List.size_toArray];omega)) ⟨e,?_⟩
 refine ⟨y,_,I.lset (its':=its.dropLast) hH e ?_ r.dropLast ?_,ru,q⟩
 ·show its.toArray.eraseIdxIfInBounds (its.toArray.size - 1)=its.dropLast.toArray
  rw [List.size_toArray,List.eraseIdxIfInBounds_toArray,TB]
 ·rw [List.length_dropLast]
  omega
def bU:R2:=fun x y H Q=>∃ l b xs zs,x= .ref l∧y= .ref b∧H l=some (.lst xs)∧H b=some (.lst zs)∧xs.length+zs.length≤sizeLine∧∀ p,H p=none→Q (.ref p) (upd H p (.lst (xs++zs)))
theorem gS:OpR X (binaryOp .Add) bU:=by
 walk_at "b7"
 obtain ⟨l,b,xs,zs,rfl,rfl,hH,hB,hz,q⟩:=h
 cases rx
 cases ry
 obtain ⟨z,its,n,r,hl,e⟩:=I.lstM hH
 obtain ⟨z2,its2,n2,r2,hl2,e2⟩:=I.lstM hB
 refine PySem.P.add_list e e2 ?_ (by rw [List.size_toArray,List.size_toArray];omega)
 have ea:its.toArray++its2.toArray=(its++its2).toArray:=by simp
 rw [ea]
 exact ⟨.ref _,_,I.lnew (t':=s.toks) (r.append r2) (by rw [List.length_append];omega),rfl,q _ I.fresh⟩
theorem VV {α:Type} (xs:List α) (k:Nat):(List.replicate k xs).flatten.length=k * xs.length:=by
 induction k with
 | zero=>simp
 | succ k ih=>rw [List.replicate_succ,List.flatten_cons,List.length_append,ih,Nat.succ_mul,Nat.add_comm]
end
section
variable {prog:Program} {w:World} {A:Around} {E:Value→Shared→Prop} {s:Shared}
end
section
variable {X:Cx}
end
end L2
namespace Att
open PySem PySem.W PySem.Calls PyProof.Rows
theorem LI {P:Params} {h:Heap}:∀ (ns:List Int) (vs:List Value),WellAll P h vs (ns.map WData.int)→IntsAre vs ns:=by
 intro ns
 induction ns with
 | nil=>
  intro vs w
  rw [List.map_nil] at w
  cases w
  exact .nil
 | cons n ns ih=>
  intro vs w
  rw [List.map_cons] at w
  cases w with
  | cons a b=>
   cases a
   exact .cons _ _ (ih _ b)
theorem WA {l:OpenLaw} {n:Nat} (hn:l.most=some n) {P:Params} {h:Heap} {args:List WData} {vals:List Value}
  (hpre:l.row.toRowW.claim.pre args=true) (hwl:WellAll P h vals args):
  ∃ a vs ns,vals=[Value.ref a]∧args=[WData.list (ns.map WData.int)]∧h.get? a=some { cls:= .type "list",data:= .seq vs.toArray }∧IntsAre vs ns∧ns.length≤n:=by
 have hsh:WShape.hasAll [] args [.list .int]=true:=(pre_splitW hpre).1
 have hc:l.pre.holds [] { args:=args }=true:=(pre_splitW hpre).2
 obtain ⟨d,r,rfl,h1,h2⟩:=hasAllW_cons hsh
 obtain rfl:=hasAllW_nil h2
 obtain ⟨xs,rfl,h3⟩:=hasW_list h1
 obtain ⟨ns,rfl⟩:=items_int h3
 have hlen:ns.length≤n:=by
  unfold OpenLaw.pre at hc
  have h4:(WTm.not (.lt (.lit (.int (n:Int))) (.len (.arg 0)))).holds [] { args:=[.list (ns.map .int)] }=true:=by
   have h4:=(holds_andW hc).1
   rw [hn] at h4
   exact h4
  have h5:=condW_of h4 (w_not (w_lt w_lit (w_len_list (w_arg rfl))))
  rw [List.length_map] at h5
  refine Nat.le_of_not_lt fun q=> ?_
  have q':(n:Int)<((ns.length:Nat):Int):=by omega
  first
   | (rw [decide_eq_true q'] at h5;exact absurd h5 (by decide))
   | (simp at h5;omega)
 cases hwl with
 | cons w1 w2=>
  cases w2
  cases w1 with
  | list ho hall=>exact ⟨_,_,ns,rfl,rfl,ho,LI ns _ hall,hlen⟩
theorem WW (l:OpenLaw) (args:List WData):l.row.toRowW.claim.post args (.bool true) args=true:=
 postW_of (r:=l.row.toRowW) (X:=(true == true))
  (show WShape.has [] (.bool true) .bool=true by first | rfl | decide | simp [WShape.has,WShape.arms,WShape.armsAll])
  (show (WTm.eq .res (.lit (.bool true))).value [] { args:=args,res:=some (.bool true),after:=args }=some (.bool (true == true)) from w_eq_bool (w_res rfl) w_lit) rfl
theorem attach_call {l:OpenLaw} {n:Nat} {q:Program} {loose:List Str} {XP:(Str→Option Value)→Heap→Prop} {YP:World→Heap→Prop} {d:DefRec}
  (hn:l.most=some n) (hdf:d.params.defaults=[])
  (call:∀ (w:World) (s₀ s₁:Shared) (mg mb:Str→Option Value) (fa:Addr) (o:Obj) (pm cd doc:Value) (a:Addr) (vs:List Value) (ns:List Int),
   Ground q loose [] XP w s₀ mg mb s₁.heap→YP w s₁.heap→
   s₁.heap.get? fa=some o→o.data= .func (docDef d.name d.params d.body d.scope pm cd doc)→s₁.heap.CodeRec cd d.name→mg d.name=some (.ref fa)→
   s₁.heap.get? a=some { cls:= .type "list",data:= .seq vs.toArray }→IntsAre vs ns→ns.length≤n→s₁.gens= #[]→
   codeAny (model l.prog w) callerA (.call (.ref fa) ⟨[.ref a],[]⟩) (fun r s'=>r= .ok (.ret (.bool true))∧OldK s₁.heap s'.heap∧s'.os=s₁.os∧AllBare s'.gens) s₁):
  WalkO q loose XP YP l.row.toRowW d [] (fun f vs=>PySem.call f vs):=by
 intro w s₀ s₁ mg mb G Y fa o pm cd doc dV kV ho hd hcd hD hmg hg args vals as hpre hlay hrd hwl hlo
 obtain rfl:dV= .none:=Dflts.none hD hdf
 obtain rfl:kV= .none:=Dflts.noKw hD
 obtain ⟨a,vs,ns,rfl,rfl,hobj,hints,hlen⟩:=WA hn hpre hwl
 refine enter_call (codeAny_mono (call w s₀ s₁ mg mb fa o pm cd doc a vs ns G Y ho (fd_plain hd) hcd hmg hobj hints hlen hg) fun r s' hq=> ?_)
 obtain ⟨rfl,h2,h3,h4⟩:=hq
 exact ⟨.inl ⟨.bool true,.bool true,[],rfl,fun _=>rfl,.bool true,WW l _,fun _=>⟨List.Pairwise.nil,fun _ hm=>(nomatch hm)⟩⟩,h2,h3,h4⟩
section
variable {prog:Program} {w:World} {A:Around} {E:Value→Shared→Prop} {s:Shared} {K:Frag}
def ledger (h:Heap) (L d:Addr):List (Addr×Obj):=(List.range h.objs.size).filterMap fun a=>if a=L∨a=d then none else (h.get? a).map fun o=>(a,o)
end
end Att
namespace L2
open PySem PySem.Spec PyProof.Rows
theorem NZ:∀ {vs:List Value} {ns:List Int},IntsAre vs ns→AY (ns.map V.int) vs
 | _,_,.nil=> .nil
 | _,_,.cons n t h=> .cons ⟨t,rfl⟩ (NZ h)
def iV (H:Hp):Prop:=∀ b,H b=none∨∃ o xs,H b=some (.frz o (.lst xs))
theorem bB {P:Program} {w:World} {K:PySem.W.Frag} {mg mb:Str→Option Value} {CX:CXT} {k:Nat} {fa a:Addr} {fd:FuncData} {x:Str} {sp:Sp} {s₁:Shared} {vs:List Value} {ns:List Int}
  (KX:K.In s₁.heap) (hns:s₁.heap.Ns mainGlobals mg) (hb:s₁.heap.Ns builtinsNs mb) (hbb:∀ x:Str,x≠"__name__"→mb x=bootBuiltins x) (hlim:s₁.heap.NoLimit) (hg:s₁.gens= #[])
  (ha:s₁.heap.get? a=some { cls:= .type "list",data:= .seq vs.toArray }) (hi:IntsAre vs ns) (hl:ns.length≤sizeLine) (hr:EU k callerA)
  (F:∀ base:Heap,K.In base→base.Ns mainGlobals mg→BY P w K mg base CX k fa fd [x] sp) (hbind:∀ (s:Shared) (u:Value),BindsTo s fd ⟨[u],[]⟩ [(x,u)])
  (hsp:∀ H:Hp,iV H→SqL K H a (ns.map V.int)→sp [.ref a] H (fun v _=>v= .bl true) fun _ _ _=>False)
  (hCX:∀ H e s',CX [] H s₁ (fun _ _ _=>False) e s'→False):
  codeAny (model P w) callerA (.call (.ref fa) ⟨[.ref a],[]⟩) (fun r s'=>r= .ok (.ret (.bool true))∧OldK s₁.heap s'.heap∧s'.os=s₁.os∧AllBare s'.gens) s₁:=by
 have rv:=NZ hi
 have lenV:=hi.length
 have core:∀ H:Hp,iV H→SqL K H a (ns.map V.int)→HOk P w H s₁.heap→(∀ b,H b≠none→b=a)→(H a≠none→K.lookup a=none)→
   codeAny (model P w) callerA (.call (.ref fa) ⟨[.ref a],[]⟩) (fun r s'=>r= .ok (.ret (.bool true))∧OldK s₁.heap s'.heap∧s'.os=s₁.os∧AllBare s'.gens) s₁:=by
  intro H hO hS hok hA hK
  have base_of:∀ {b:Addr} {o:Obj},s₁.heap.get? b=some o→H b=none→(OU s₁.heap H).get? b=some o:=fun e n=>bA e n
  have noA:∀ {b:Addr} {o:Obj} {es:Array DictEntry} {ep:Nat},s₁.heap.get? b=some o→o.data= .dict es ep→H b=none:=fun {b o es ep} e d=>by
   cases q:H b with
   | none=>rfl
   | some u=>
    have e':b=a:=hA b (by rw [q];simp)
    subst e'
    rw [ha] at e;cases e
    have d':Data.seq vs.toArray _=Data.dict es ep:=d
    cases d'
  have nsK:∀ {b:Addr} {m:Str→Option Value},s₁.heap.Ns b m→(OU s₁.heap H).Ns b m:=fun {b m} ⟨o,es,ep,e,d,r⟩=>⟨o,es,ep,base_of e (noA e d),d,r⟩
  have hKb:K.In (OU s₁.heap H):=fun b o e=>base_of (KX b o e) (by
   cases q:H b with
   | none=>rfl
   | some u=>
    have e':b=a:=hA b (by rw [q];simp)
    subst e'
    rw [hK (by rw [q];simp)] at e;cases e)
  have hM:Mod K mg (OU s₁.heap H):=⟨hKb,nsK hns,⟨mb,nsK hb,hbb⟩,let ⟨mc,h1,h2⟩:=hlim;⟨mc,nsK h1,h2⟩⟩
  have e0:SK P w K mg (OU s₁.heap H) callerA [] s₁ H:=⟨rfl,hM,fun b o e=>eR e,Nat.le_of_eq (WJ _ _),trivial,fun b hb=>absurd (show b∈([]:List Addr) from hb) (by simp),hok,.of_eq hg⟩
  refine codeAny_mono ((F _ hKb (nsK hns)).run callerA [] s₁ H ⟨[.ref a],[]⟩ [.ref a] [.ref a] _ _ hr e0 (hbind s₁ (.ref a)) (.cons rfl .nil) (hsp H hO hS)) fun r s' h=> ?_
  cases r with
  | error e=>exact (hCX H e s' h).elim
  | ok fl=>
   cases fl with
   | next=>exact False.elim h
   | brk=>exact False.elim h
   | cont=>exact False.elim h
   | ret u=>
    obtain ⟨v,H',os,bare,un,hok',r',q⟩:=h
    have q':v= .bl true:=q
    subst q'
    obtain rfl:u=Value.bool true:=r'
    refine ⟨rfl,OldK.of_keep fun b o e=> ?_,os,bare⟩
    cases q:H b with
    | none=>exact un.keep b o e q (by intro z;exact absurd (show b∈([]:List Addr) from z) (by simp)) (by simp)
    | some u=>
     rcases hO b with z | ⟨ob,xs,z⟩
     ·rw [q] at z;cases z
     ·have z2:=un.frzs b ob _ z
      obtain ⟨e1,_⟩:=hok b _ z
      obtain ⟨e2,_⟩:=hok' b _ z2
      rw [e] at e1;cases e1
      exact e2
 cases hk:K.lookup a with
 | some o=>
  have e:=KX a o hk
  rw [ha] at e
  cases e
  refine core (fun _=>none) (fun _=> .inl rfl) (.inr ⟨_,vs.toArray,_,hk,rfl,rfl,rfl,by rw [List.size_toArray,lenV];exact hl,by simpa using rv⟩) (fun b u z=>by have z':(none:Option HO)=some u:=z;cases z') (fun b z=>absurd rfl z) fun z=>absurd rfl z
 | none=>
  refine core (fun b=>if b=a then some (.frz { cls:= .type "list",data:= .seq vs.toArray } (.lst (ns.map V.int))) else none) (fun b=> ?_) (.inl (.inr ⟨{ cls:= .type "list",data:= .seq vs.toArray },if_pos rfl⟩)) (fun b u z=> ?_) (fun b z=> ?_) fun _=>hk
  ·by_cases hb:b=a
   ·exact .inr ⟨_,_,if_pos hb⟩
   ·exact .inl (if_neg hb)
  ·by_cases hb:b=a
   ·have z':=(if_pos hb).symm.trans z
    cases z'
    subst hb
    exact ⟨ha,by rw [List.length_map];exact hl,vs,_,rv,ha⟩
   ·have z':=(if_neg hb).symm.trans z
    cases z'
  ·by_cases hb:b=a
   ·exact hb
   ·exact absurd (if_neg hb) z
abbrev KOf {K:PySem.W.Frag} {h:Heap} (_:K.In h):PySem.W.Frag:=K
theorem walk_of {l:PySem.W.OpenLaw} {n k:Nat} {q:Program} {loose:List Str} {XP:(Str→Option Value)→Heap→Prop} {YP:World→Heap→Prop} {d:DefRec} {K:Params→PySem.W.Frag} {CX:World→CXT} {sp:World→Sp} {x:Str}
  (hn:l.most=some n) (hn2:n≤sizeLine) (hdf:d.params.defaults=[]) (hr:EU k callerA)
  (hY:∀ (w:World) (h:Heap),YP w h→(K w.params).In h)
  (F:∀ (w:World) (mg:Str→Option Value) (fa:Addr) (h:Heap),(K w.params).In h→h.Ns mainGlobals mg→mg d.name=some (.ref fa)→
   ∃ fd:FuncData,(∀ (s:Shared) (u:Value),BindsTo s fd ⟨[u],[]⟩ [(x,u)])∧
    ∀ base:Heap,(K w.params).In base→base.Ns mainGlobals mg→BY l.prog w (K w.params) mg base (CX w) k fa fd [x] (sp w))
  (hsp:∀ (w:World) (H:Hp) (a:Addr) (ns:List Int),ns.length≤n→iV H→SqL (K w.params) H a (ns.map V.int)→sp w [.ref a] H (fun v _=>v= .bl true) fun _ _ _=>False)
  (hCX:∀ (w:World) (H:Hp) (s:Shared) (e:Value) (s':Shared),CX w [] H s (fun _ _ _=>False) e s'→False):
  PySem.W.WalkO q loose XP YP l.row.toRowW d [] (fun f vs=>PySem.call f vs):=by
 refine Att.attach_call hn hdf fun w s₀ s₁ mg mb fa o pm cd doc a vs ns G Y ho hd hcd hmg hobj hints hlen hg=> ?_
 have KX:=hY w _ Y
 obtain ⟨fd,hb,hF⟩:=F w mg fa _ KX G.T.g hmg
 exact bB KX G.T.g G.T.b G.T.builtins G.T.nolimit hg hobj hints (Nat.le_trans hlen hn2) hr hF hb (fun H hO hS=>hsp w H a ns hlen hO hS) fun H e s'=>hCX w H s₁ e s'
def HS (s:Stmt) (j:Nat):Stmt:=match s with
 | .ClassDef _ _ _ body _ _ _ _ _ _ _=>body.getD j (.Pass ⟨0,0,0,0⟩)
 | _=> .Pass ⟨0,0,0,0⟩
def AT (s:Stmt):Arguments:=match s with
 | .FunctionDef _ a _ _ _ _ _ _ _ _=>a
 | _=>{ posonlyargs:=[],args:=[],vararg:=none,kwonlyargs:=[],kw_defaults:=[],kwarg:=none,defaults:=[] }
def AR (s:Stmt):List Stmt:=match s with
 | .FunctionDef _ _ b _ _ _ _ _ _ _=>b
 | _=>[]
def AE (s:Stmt):Scope:=match s with
 | .FunctionDef _ _ _ _ _ _ sc _ _ _=>sc
 | _=>{ kind:= .function,names:=[],isGenerator:=false,isCoroutine:=false }
abbrev CX0:CXT:=fun _ _ _ _ _ _=>False
abbrev E0:XK:=fun _ _ _=>False
theorem AL {X:Cx}:JX CX0 X E0:=fun _ _ _ _ _ _ _ h=>h.elim
structure Fun (K:PySem.W.Frag) (x qual:Str) (st:Stmt) (f:Addr) (fd:FuncData):Prop where
 ex:∃ (oc:Value) (od:Option Addr) (kV doc pm:Value) (an:Option Addr) (cdv ct:Value) (osl:Array (Option Value)),
  fd=PySem.W.fnOf x qual (AT st) (AR st) (AE st) .none kV doc pm an cdv ct∧K.lookup f=some ⟨oc,od,.func fd,osl⟩∧PySem.W.codeIn K cdv qual=true
 kp:PySem.W.keepIn K (.ref f)=true
section
variable {P:Program} {w:World} {K:PySem.W.Frag} {mg:Str→Option Value} {base:Heap}
theorem Fun.ok {x qual:Str} {st:Stmt} {f:Addr} {fd:FuncData} {N ps:List Str} {k:Nat} {sp:Sp} (F:Fun K x qual st f fd) (S:AX N ps (AE st)) (len:∀ vs H Q E,sp vs H Q E→vs.length=ps.length)
  (hbody:∀ (cdv:Value) (A:Around) (outer:List Env) (s:Shared) (H:Hp) (vs:List V) (Q:VK) (E:XK),EU k (A.deeper (envOfC qual (AE st) s.heap.objs.size f cdv))→sp vs H Q E→
   ∃ t,PSs (TY CX0 P w K mg base N qual (AE st) f cdv A outer s H E).nox (AR st) t∧t { nx:=fun _ H'=>Q .non H',rt:=Q } (start N vs) H):BY P w K mg base CX0 (k+1) f fd ps sp:=by
 obtain ⟨oc,od,kV,doc,pm,an,cdv,ct,osl,rfl,lk,hcd⟩:=F.ex
 refine jP lk hcd S len fun A outer s H vs Q E hr hsp=> ?_
 obtain ⟨t,h,q⟩:=hbody cdv A outer s H vs Q E hr hsp
 exact ⟨t,h.nox,q⟩
theorem Fun.binds {x qual:Str} {st:Stmt} {f:Addr} {fd:FuncData} {ps:List Str} (F:Fun K x qual st f fd)
  (h:∀ (kV doc pm:Value) (an:Option Addr) (cdv ct:Value) (us:List Value),us.length=ps.length→bindArgs (PySem.W.fnOf x qual (AT st) (AR st) (AE st) .none kV doc pm an cdv ct) ⟨us,[]⟩=pure (ps.zip us)):HI K fd ps []:=by
 obtain ⟨oc,od,kV,doc,pm,an,cdv,ct,osl,rfl,lk,hcd⟩:=F.ex
 exact .all (h kV doc pm an cdv ct)
theorem BI {x qual:Str} {st:Stmt} {f:Addr} {oc:Value} {od an:Option Addr} {osl:Array (Option Value)} {kV doc pm cdv ct:Value} (l:K.lookup f=some ⟨oc,od,.func (PySem.W.fnOf x qual (AT st) (AR st) (AE st) .none kV doc pm an cdv ct),osl⟩)
  (c:PySem.W.codeIn K cdv qual=true) (k:PySem.W.keepIn K (.ref f)=true):Fun K x qual st f (PySem.W.fnOf x qual (AT st) (AR st) (AE st) .none kV doc pm an cdv ct):=⟨⟨oc,od,kV,doc,pm,an,cdv,ct,osl,rfl,l,c⟩,k⟩
end
theorem VF {A:Around} {k:Nat} (hr:EU k A):A.units+1<cLine:=Nat.lt_of_le_of_lt (Nat.add_le_add_left (by decide:1≤64) _) hr.units
theorem KA {n:Nat} (h:n≤1000):n<sizeLine:=Nat.lt_of_le_of_lt h (by decide)
section
variable {X:Cx}
theorem pv (i:Nat) {x:Str} {pos:Pos} (hN:X.N[i]? =some x:=by rfl) (hv:Vis X.env.scope x:=by first | exact Or.inl rfl | exact Or.inr (Or.inl rfl) | exact Or.inr (Or.inr rfl)) (hd:(x == ("__debug__":Str))=false:=by decide)
  (hcd:(x == ("__classdict__":Str))=false:=by decide):PE X (.Name x pos) (XW i):=gA hN hv hd hcd
end
def AI (H H':Hp):Prop:=∀ b o,H b=some o→H' b=some o
theorem AI.refl (H:Hp):AI H H:=fun _ _ h=>h
theorem AI.trans {H H1 H2:Hp} (a:AI H H1) (b:AI H1 H2):AI H H2:=fun c o h=>b c o (a c o h)
theorem AI.free {H H':Hp} (e:AI H H') {l:Addr} (h:H' l=Option.none):H l=Option.none:=by
 cases q:H l with
 | none=>rfl
 | some o=>
  rw [e l o q] at h
  cases h
theorem AI.seq {K:PySem.W.Frag} {H H':Hp} {a:Addr} {xs:List V} (e:AI H H') (h:SqL K H a xs):SqL K H' a xs:=by
 rcases h with (h | ⟨o,h⟩) | h
 ·exact .inl (.inl (e _ _ h))
 ·exact .inl (.inr ⟨o,e _ _ h⟩)
 ·exact .inr h
theorem OD {prog:Program} {w:World} {A:Around} {R:Result→Shared→Prop} {s:Shared} {elt target iter:Expr} {ifs:List Expr} {scope:Scope} {pos:Pos} {it acc:Value} {env:Env} (I:Nat→Shared→Prop)
  (turn:∀ n s,I n s→wpAny (model prog w) A (pyNext it) (fun r s₁=>match r with
   | none=>R (.ok .next) s₁
   | some v=>wpAny (model prog w) A (letOwnedTupleGo target it v) (fun _ s₁'=>wpAny (model prog w) A (assign target env v) (fun _ s₂=>
     wpAny (model prog w) A (forIn ifs true fun c r=>if r=true then do let ok ← isTrue c env (eval c env);pure (ForInStep.yield ok) else pure (ForInStep.yield r)) (fun ok s₃=>
      if ok=true then wpAny (model prog w) A (eval elt env) (fun x s₄=>
       wpAny (model prog w) A (call (.builtin "list.append") [acc,x]) (fun _ s₅=>∃ m,m<n∧I m s₅) (fun _ _=>False) s₄) (fun _ _=>False) s₃
      else ∃ m,m<n∧I m s₃) (fun _ _=>False) s₂) (fun _ _=>False) s₁') (fun _ _=>False) s₁) (fun _ _=>False) s)
  (n:Nat) (h:I n s):
  codeAny (model prog w) A (.compLoop (.ListComp elt [⟨target,iter,ifs,0⟩] scope pos) 0 it acc env) R s:=by
 refine codeAny_loop rfl I (fun n s hI=> ?_) n h
 show wpAny _ A ((compTurn (.ListComp elt [⟨target,iter,ifs,0⟩] scope pos) 0 it acc env).onRaise (fun x=>do noteFrame x env;theTreesLotGoes x)) _ _ s
 refine wpAny_noted ?_
 rw [compTurn_list]
 refine wpAny_bind (wpAny_standAt (wpAny_bind (wpAny_mono (turn n s hI) (fun r s₁ h₁=> ?_) fun _ _ z=>False.elim z)))
 cases r with
 | none=>exact wpAny_pure h₁
 | some v=>
  refine wpAny_bind (wpAny_mono h₁ (fun _ s₁' h₁'=> ?_) fun _ _ z=>False.elim z)
  refine wpAny_bind (wpAny_mono h₁' (fun _ s₂ h₂=>wpAny_bind (wpAny_mono h₂ (fun ok s₃ h₃=> ?_) fun _ _ z=>False.elim z)) fun _ _ z=>False.elim z)
  cases ok with
  | false=>exact wpAny_pure ⟨rfl,h₃⟩
  | true=>
   exact wpAny_bind (wpAny_bind (wpAny_mono h₃ (fun x s₄ h₄=>wpAny_bind (wpAny_mono h₄ (fun _ s₅ h₅=>wpAny_pure (wpAny_pure ⟨rfl,h₅⟩)) fun _ _ z=>False.elim z)) fun _ _ z=>False.elim z))
def ES (cells:List (Str×Addr)):List (Str×NameKind)→List (Str×Addr)→List (Str×Addr)
 | [],acc=>acc
 | (n,k)::r,acc=>if k == .free then ES cells r ((n,(cells.lookup n).getD 0)::acc) else ES cells r acc
theorem PD {env:Env}:∀ (names:List (Str×NameKind)) (acc:List (Str×Addr)),(∀ y∈names,y.2= .free→∃ c,env.cells.lookup y.1=some c)→
  (forIn names acc fun x r=>if (x.snd == NameKind.free)=true then do let a ← cellOf env x.fst;pure (ForInStep.yield ((x.fst,a)::r)) else pure (ForInStep.yield r))=(pure (ES env.cells names acc):Sem _)
 | [],acc,_=>rfl
 | (n,k)::r,acc,h=>by
  rw [List.forIn_cons]
  have hr:∀ y∈r,y.2= .free→∃ c,env.cells.lookup y.1=some c:=fun y hy=>h y (List.mem_cons_of_mem _ hy)
  by_cases hk:k= .free
  ·subst hk
   obtain ⟨c,hc⟩:=h (n,.free) List.mem_cons_self rfl
   have ih:=PD r ((n,c)::acc) hr
   simp only [ES,beq_self_eq_true,if_true,cellOf,hc,Option.getD_some,pure_bind]
   exact ih
  ·have hb:(k == NameKind.free)=false:=by simpa using hk
   have ih:=PD r acc hr
   simp only [ES,hb,Bool.false_eq_true,if_false,pure_bind]
   exact ih
theorem VS {scope:Scope} {env:Env} (h:∀ y∈scope.names,y.2= .free→∃ c,env.cells.lookup y.1=some c):closureFor scope env=pure (ES env.cells scope.names []):=by
 have e:=PD (env:=env) scope.names [] h
 simp only [closureFor]
 rw [e]
 rfl
theorem HK {cells:List (Str×Addr)}:∀ (names:List (Str×NameKind)) (acc:List (Str×Addr)),(∀ y∈names,y.2= .free→∃ c,cells.lookup y.1=some c)→(∀ y c,acc.lookup y=some c→cells.lookup y=some c)→
  ∀ y c,(ES cells names acc).lookup y=some c→cells.lookup y=some c
 | [],acc,_,ha,y,c,e=>ha y c e
 | (n,k)::r,acc,h,ha,y,c,e=>by
  have hr:∀ y∈r,y.2= .free→∃ c,cells.lookup y.1=some c:=fun y hy=>h y (List.mem_cons_of_mem _ hy)
  by_cases hk:k= .free
  ·subst hk
   obtain ⟨d,hd⟩:=h (n,.free) List.mem_cons_self rfl
   simp only [ES,beq_self_eq_true,if_true] at e
   refine HK r _ hr (fun z b q=> ?_) y c e
   rw [List.lookup_cons] at q
   cases hz:z == n with
   | true=>
    rw [hz] at q
    have:z=n:=by simpa using hz
    subst this
    rw [hd] at q ⊢
    exact q
   | false=>rw [hz] at q;exact ha z b q
  ·have hb:(k == NameKind.free)=false:=by simpa using hk
   simp only [ES,hb,Bool.false_eq_true,if_false] at e
   exact HK r acc hr ha y c e
theorem MW {cells:List (Str×Addr)}:∀ (names:List (Str×NameKind)) (acc:List (Str×Addr)) (y:Str),(∃ c,acc.lookup y=some c)→∃ c,(ES cells names acc).lookup y=some c
 | [],acc,y,h=>h
 | (n,k)::r,acc,y,h=>by
  by_cases hk:(k == NameKind.free)=true
  ·simp only [ES,hk,if_true]
   refine MW r _ y ?_
   rw [List.lookup_cons]
   cases hz:y == n with
   | true=>exact ⟨_,rfl⟩
   | false=>exact h
  ·simp only [ES,hk,if_false]
   exact MW r acc y h
theorem MN {cells:List (Str×Addr)}:∀ (names:List (Str×NameKind)) (acc:List (Str×Addr)) (y:Str),(y,NameKind.free)∈names→∃ c,(ES cells names acc).lookup y=some c
 | (n,k)::r,acc,y,h=>by
  rcases List.mem_cons.mp h with e | h
  ·cases e
   simp only [ES,beq_self_eq_true,if_true]
   refine MW r _ _ ?_
   rw [List.lookup_cons]
   simp
  ·by_cases hk:(k == NameKind.free)=true
   ·simp only [ES,hk,if_true]
    exact MN r _ y h
   ·simp only [ES,hk,if_false]
    exact MN r _ y h
theorem FJ {β:Type}:∀ {l:List (Str×β)} {y:Str} {b:β},l.lookup y=some b→(y,b)∈l
 | [],_,_,e=>by cases e
 | (n,k)::r,y,b,e=>by
  rw [List.lookup_cons] at e
  cases hz:y == n with
  | true=>
   rw [hz] at e
   have:y=n:=by simpa using hz
   subst this
   cases e
   exact List.mem_cons_self
  | false=>rw [hz] at e;exact List.mem_cons_of_mem _ (FJ e)
theorem PJ {scope:Scope} {env:Env} {y:Str} (hc:∀ z∈scope.names,z.2≠ .cell) (h:(relabel scope env).names.lookup y=some .cell∨(relabel scope env).names.lookup y=some .free):(y,NameKind.free)∈scope.names:=by
 have key:∀ k,(relabel scope env).names.lookup y=some k→(k= .cell∨k= .free)→(y,NameKind.free)∈scope.names:=fun k e hk=>by
  have m:=FJ e
  obtain ⟨⟨n,k0⟩,hm,e0⟩:=List.mem_map.mp m
  dsimp only at e0
  split at e0
  ·rename_i hh
   cases e0
   have:k0= .free:=by
    simp only [Bool.and_eq_true,beq_iff_eq] at hh
    exact hh.1.1
   subst this
   exact hm
  ·cases e0
   rcases hk with rfl | rfl
   ·exact absurd rfl (hc _ hm)
   ·exact hm
 rcases h with h | h
 ·exact key _ h (.inl rfl)
 ·exact key _ h (.inr rfl)
theorem KW {env:Env}:∀ {names:List (Str×NameKind)} {y:Str},names.lookup y=some .free→
  (names.map fun (n,k)=>if (k == NameKind.free && env.scope.kind == .function && env.kindOf n == some .cell) then (n,NameKind.cell) else (n,k)).lookup y=some .cell∨
  (names.map fun (n,k)=>if (k == NameKind.free && env.scope.kind == .function && env.kindOf n == some .cell) then (n,NameKind.cell) else (n,k)).lookup y=some .free
 | [],_,h=>by simp at h
 | (n,k)::r,y,h=>by
  have ih:= @KW env r y
  simp only [List.map_cons]
  cases hx:y == n with
  | true=>
   simp only [List.lookup_cons,hx] at h
   cases h
   by_cases hc:(NameKind.free == NameKind.free && env.scope.kind == .function && env.kindOf n == some .cell)=true
   ·rw [if_pos hc];left;simp only [List.lookup_cons,hx]
   ·rw [if_neg hc];right;simp only [List.lookup_cons,hx]
  | false=>
   simp only [List.lookup_cons,hx] at h
   by_cases hc:(k == NameKind.free && env.scope.kind == .function && env.kindOf n == some .cell)=true
   ·rw [if_pos hc];simp only [List.lookup_cons,hx];exact ih h
   ·rw [if_neg hc];simp only [List.lookup_cons,hx];exact ih h
def cxC (X:Cx) (scope:Scope) (cl:List (Str×Addr)) (N:List Str) (s₃:Shared) (H₃:Hp) (fp:List Addr):Cx where
 prog:=X.prog
 w:=X.w
 K:=X.K
 mg:=X.mg
 base:=X.base
 A:=X.A
 N:=N
 s₀:=s₃
 H₀:=H₃
 env:=compEnvC scope cl s₃.heap.objs.size X.env
 outer:=X.stack
 stack:=X.stack
 ex:=fp
 fn:=fun _=>false
 calm:=true
 pn:=[]
 xe:=fun _ _=>False
structure TR (scope sc:Scope) (N0:List Str) (js:List Nat) (os N:List Str):Prop where
 kind:scope.kind= .function
 cell:∀ y∈scope.names,y.2≠ .cell
 names:∀ y∈scope.names,y.2= .local→scope.names.lookup y.1=some .local
 free:∀ y∈scope.names,y.2= .free→(sc.names.lookup y.1=some .cell∨sc.names.lookup y.1=some .free)
 slots:∀ j∈js,((N0[j]?).bind fun y=>scope.names.lookup y)=some .free
 eq:N.map some=js.map (N0[·]?)++os.map some
def stC (js:List Nat) (os:List Str) (σ:St):St:=js.map (fun j=>(σ[j]?).join)++List.replicate os.length none
def XL (X:Cx) (ifs:List Expr) (t:TT):Prop:=
 ∀ (pins:List (Addr×Obj)) (s:Shared) (σ:St) (H:Hp) (Q:Bool→Hp→Prop),Inv X pins σ H s→t σ H Q→
  wpAny (model X.prog X.w) X.A (forIn ifs true fun c r=>if r=true then do let ok ← isTrue c X.env (eval c X.env);pure (ForInStep.yield ok) else pure (ForInStep.yield r)) (TP X pins σ Q) X.xe s
def VX:TT:=fun _ H Q=>Q true H
theorem EC {X:Cx}:XL X [] VX:=fun _ _ _ H _ I h=>wpAny_pure ⟨H,I,h⟩
theorem YT {X:Cx} {c:Expr} {t:TT} (h:PT X c t):XL X [c] t:=fun pins s σ H Q I q=>by
 simp only [List.forIn_cons,List.forIn_nil,if_true]
 exact wpAny_bind (wpAny_bind (wpAny_mono (h pins s σ H Q I q) (fun b s' hb=>wpAny_pure (wpAny_pure hb)) fun _ _ x=>x))
def YS (js:List Nat) (os:List Str) (wi:TI) (g:TG) (tt:TT) (te:TE):TE:=fun σ H Q=>wi σ H fun J H1=>∀ p,H1 p=none→
 ∃ W:Nat→Nat→St→Hp→Prop,(∃ m,W 0 m (stC js os σ) (upd H1 p (.lst [])))∧∀ i m σ H,W i m σ H→
  (J.stop i H∧Q (.ref p) H)∨(J.go i H∧∀ x H',J.yld i H x H'→g x σ H' fun σ2 H2=>tt σ2 H2 fun b H3=>
   if b=true then te σ2 H3 fun y H4=>∃ ys,H4 p=some (.lst ys)∧ys.length<sizeLine∧∃ m',m'<m∧W (i+1) m' σ2 (upd H4 p (.lst (ys++[y])))
   else ∃ m',m'<m∧W (i+1) m' σ2 H3)
section
variable {X:Cx}
theorem RS {scope sc:Scope} {N0 N os:List Str} {js fp:List Nat} {pins:List (Addr×Obj)} {σ:St} {H₃:Hp} {s₃:Shared} {h':Heap} {t':Nat} {m:Str→Option Value}
  (hc:X.calm=true) (hsc:X.env.scope=sc) (hN:X.N=N0) (ok:TR scope sc N0 js os N) (I:Inv X pins σ H₃ s₃) (hf:∀ b∈fp,KM X pins H₃ b) (hfs:∀ b∈fp,b<s₃.heap.objs.size)
  (hns:h'.Ns s₃.heap.objs.size m) (hk:∀ b o,s₃.heap.get? b=some o→h'.get? b=some o):
  Inv (cxC X scope (ES X.env.cells scope.names []) N s₃ H₃ fp) [] (stC js os σ) H₃ { s₃ with heap:=h',toks:=t' }:=by
 have hfree:∀ y∈scope.names,y.2= .free→∃ c,X.env.cells.lookup y.1=some c:=fun y hy e=>I.ok.has _ (by
  have:=ok.free y hy e
  rw [← hsc] at this
  exact this)
 have sub:=HK (cells:=X.env.cells) scope.names [] hfree (fun _ _ e=>by cases e)
 have has:∀ y,(y,NameKind.free)∈scope.names→∃ c,(ES X.env.cells scope.names []).lookup y=some c:=fun y hy=>MN scope.names [] y hy
 refine ⟨⟨I.ok.mod,ok.kind,I.ok.glob,I.ok.blt,Nat.le_refl _,fun x y c e1 e2=>I.ok.inj x y c (sub _ _ e1) (sub _ _ e2),fun x e=>has x (PJ ok.cell e),(fun _ _ e=>by cases e),(fun _=>I.ok.hd hc),I.ok.frames,.inl rfl,?_,?_,?_,?_,?_,I.stack,I.stkFree⟩,
  rfl,I.bare,Un.kept hk,⟨m,hns,?_⟩,?_,I.hok.fresh (Nat.le_refl _),?_,?_,I.hok.kept hk,?_⟩
 ·exact fun b hb=>⟨Nat.ne_of_lt (hfs b hb),fun x c e=>(hf b hb).2.2.2.2.1 x c (sub _ _ e)⟩
 ·exact I.bs
 ·exact Nat.le_trans I.ok.bsz I.sz
 ·intro b o e hb
  rcases (hf b hb).2.2.2.1 with z | z
  ·exact I.ok.noex b o e z
  ·exact absurd (Nat.lt_of_lt_of_le (Heap.lt_size e) (Nat.le_trans I.ok.bsz z)) (Nat.lt_irrefl _)
 ·intro b hb z
  rcases List.mem_cons.mp (I.stkSub b z) with e | e
  ·exact (hf b hb).2.1 e
  ·exact (hf b hb).2.2.1 e
 ·intro i x v e1 e2 e3
  have hl:i<js.length:=by
   apply Classical.byContradiction
   intro hh
   have e2':(stC js os σ)[i]? =some (some v):=e2
   unfold stC at e2'
   rw [List.getElem?_append_right (by simpa using Nat.le_of_not_lt hh)] at e2'
   rw [List.getElem?_replicate] at e2'
   split at e2'<;> cases e2'
  have ej:js[i]? =some js[i]:=List.getElem?_eq_getElem hl
  have e2':(stC js os σ)[i]? =some (some v):=e2
  unfold stC at e2'
  rw [List.getElem?_append_left (by simpa using hl),List.getElem?_map,ej] at e2'
  have e2'':(σ[js[i]]?).join=some v:=Option.some.inj e2'
  have e1':N[i]? =some x:=e1
  have en:N0[js[i]]? =some x:=by
   have q:(N.map some)[i]? =some (some x):=by rw [List.getElem?_map,e1'];rfl
   rw [ok.eq,List.getElem?_append_left (by simpa using hl),List.getElem?_map,ej] at q
   exact Option.some.inj q
  have hfr:=ok.slots _ (List.getElem_mem hl)
  rw [en] at hfr
  replace hfr:scope.names.lookup x=some .free:=hfr
  have eσ:σ[js[i]]? =some (some v):=by
   cases q:σ[js[i]]? with
   | none=>rw [q] at e2'';cases e2''
   | some o=>rw [q] at e2'';exact congrArg some e2''
  have kk:=ok.free (x,.free) (FJ hfr) rfl
  obtain ⟨m0,hn0,hl0⟩:=I.loc
  obtain ⟨u,r,l⟩:=hl0 js[i] x v (by rw [hN];exact en) eσ (by rw [hsc];exact .inr kk)
  refine ⟨u,r,.inr ⟨KW hfr,?_⟩⟩
  rcases l with ⟨k,_⟩ | ⟨k,c,e,z⟩
  ·have k':sc.names.lookup x=some .local:=by rw [← hsc];exact k
   rcases kk with q | q<;> (dsimp only at q;rw [q] at k';cases k')
  ·obtain ⟨c',hc'⟩:=has x (FJ hfr)
   have:=sub _ _ hc'
   rw [e] at this;cases this
   exact ⟨c,hc',z.keeps hk⟩
 ·intro x c e
  obtain ⟨v,z⟩:=I.cell x c (sub _ _ e)
  exact ⟨v,z.keeps hk⟩
 ·exact fun x c e=>I.freeC x c (sub _ _ e)
 ·intro p hp
  cases hp
 ·show (stC js os σ).length=N.length
  have:=congrArg List.length ok.eq
  simp at this
  simp [stC,this]
theorem FQ {elt iter tg:Expr} {ifs:List Expr} {scope sc:Scope} {pos:Pos} {wi:TI} {g:TG} {tt:TT} {te:TE} {N0 N os:List Str} {js:List Nat}
  (hc:X.calm=true) (hsc:X.env.scope=sc) (hN:X.N=N0) (ok:TR scope sc N0 js os N) (hi:PI X tg iter wi)
  (hg:∀ s₃ H₃ fp cl,PG (cxC X scope cl N s₃ H₃ fp) tg g) (ht:∀ s₃ H₃ fp cl,XL (cxC X scope cl N s₃ H₃ fp) ifs tt) (he:∀ s₃ H₃ fp cl,PE (cxC X scope cl N s₃ H₃ fp) elt te)
  (hs:∀ x,foldedSetIterable iter X.env x=pure x:=by intro _;rfl):
  PE X (.ListComp elt [⟨tg,iter,ifs,0⟩] scope pos) (YS js os wi g tt te):=by
 walk_at "b18"
 rw [eval_ListComp]
 have hfree:∀ y∈scope.names,y.2= .free→∃ c,X.env.cells.lookup y.1=some c:=fun y hy e=>I.ok.has _ (by
  have:=ok.free y hy e
  rw [← hsc] at this
  exact this)
 refine wpAny_comprehension_free (use:=none) rfl hs (VS hfree) ok.kind ok.names (thn (hi pins s σ H _ I h) fun v s1 h1=>thn h1 fun itv s2 h2=> ?_)
 walk_at "b1"
 have lt2:∀ b∈fp,b<s2.heap.objs.size:=fun b hb=>by
  obtain ⟨o,q,_⟩:=T.obj _ _ st2 b hb
  exact Heap.lt_size q
 walk_at "b2"
 have stat:∀ {H':Hp},(∀ b∈fp,H' b=none)→∀ b∈fp,KM X' [] H' b:=fun {H'} hn b hb=>by
  walk_at "b49"
  ·rcases List.mem_cons.mp (I2.stkSub b z) with q | q
   ·exact (f2 b hb).2.1 q
   ·exact (f2 b hb).2.2.1 q
  ·exact (f2 b hb).2.2.2.2.1 x c (HK (cells:=X.env.cells) scope.names [] hfree (fun _ _ e=>by cases e) _ _ e)
 walk_at "b3"
 have fin:∀ {σ':St} {H':Hp} {s':Shared},Inv X' [] σ' H' s'→(∀ b∈fp,H' b=none)→Q (.ref s2.heap.objs.size) H'→compPost (model X.prog X.w) X.A X.xe none (EP X pins σ Q) (.ref s2.heap.objs.size) s₃.heap.objs.size (.ok .next) s':=by
  intro σ' H' s' I' hn q
  obtain ⟨m,hm,_⟩:=id I'.loc
  subst hX'
  refine ⟨m,hm,fun h'' sb=>⟨.ref s2.heap.objs.size,H',?_,rfl,q⟩⟩
  have fC:H' s₃.heap.objs.size=none:=I'.free
  have hok':HOk X.prog X.w H' h'':=fun b ob e=>by
   refine (I'.hok b ob e).stay (fun c w' hc' q'=>(sb.2 c ?_).trans q') (fun _ q'=>q') fun _ _ q'=>q'
   rintro rfl
   rcases hc' with z | z
   ·have e':=e;rw [← z] at e';rw [fC] at e';cases e'
   ·rw [fC] at z;cases z
  have u1:Un (frs X.stack) fp (upd H1 s2.heap.objs.size (.lst [])) H' s₃.heap h'':=by
   have b0:=I'.base
   have ne:∀ b o,s₃.heap.get? b=some o→b≠s₃.heap.objs.size:=fun b o e=>Nat.ne_of_lt (Heap.lt_size e)
   exact ⟨fun b o e n hb hx=>(sb.2 b (ne b o e)).trans (b0.keep b o e n hb hx),fun b o e n hb hx=>by
     obtain ⟨sl,z⟩:=b0.slot b o e n hb hx
     exact ⟨sl,(sb.2 b (ne b o e)).trans z⟩,b0.free,fun b o e hx=>by
     obtain ⟨o',z⟩:=b0.there b o e hx
     exact ⟨o',(sb.2 b (ne b o e)).trans z⟩,b0.tups,b0.frzs,b0.tbls⟩
  exact I3.call' (s':={ s' with heap:=h'' }) (ch:=fp) I'.os u1 hok' I'.bare fun b hb=>⟨(f2 b hb).2.2.2.1,(f2 b hb).2.1,(f2 b hb).2.2.2.2.1,(f2 b hb).2.2.2.2.2⟩
 have loop:codeAny (model X.prog X.w) X.A (.compLoop (.ListComp elt [⟨tg,iter,ifs,0⟩] scope pos) 0 (.ref it) (.ref s2.heap.objs.size) (compEnvC scope (ES X.env.cells scope.names []) s₃.heap.objs.size X.env))
   (compPost (model X.prog X.w) X.A X.xe none (EP X pins σ Q) (.ref s2.heap.objs.size) s₃.heap.objs.size) { s₃ with heap:=h₁,toks:=s₃.toks }:=by
  walk_at "b20"
  rcases turn i n σ5 H5 w5 with ⟨stop,qn⟩ | ⟨go,step⟩
  ·have:=T.done X' ePr eW eK eC i [] s5 σ5 H5 X'.xe I5 (stat fr5) st5 stop
   walk_at "b44"
  ·have:=T.item X' ePr eW eK eC i [] s5 σ5 H5 X'.xe I5 (stat fr5) st5 go
   walk_at "b6"
   have again:∀ {σ9:St} {H9:Hp} {s9:Shared},Inv X' ([]++KK fp s7.heap) σ9 H9 s9→tn (i+1) s9.heap∧∀ b∈fp,H9 b=none:=fun {σ9 H9 s9} I9=>by
    walk_at "b17"
   refine thn t8 fun b s9 ⟨H9,I9,q9⟩=> ?_
   cases b with
   | false=>
    walk_at "b47"
   | true=>
    walk_at "b4"
 walk_at "b11"
end
section
variable {prog:Program} {w:World} {A:Around} {E:Value→Shared→Prop} {s:Shared}
end
section
variable {X:Cx} {pos:Pos}
theorem eO:OpR X (binaryOp .Mult) (rI (fun i j=>IntMulOk i j) fun i j=> .int (i * j)):=opI fun _ _ _ _ _ _ _ hc q=>mul_int q hc
theorem TH {i j:Int} (m n:Nat) (h1:i.natAbs<2 ^ m) (h2:j.natAbs<2 ^ n) (h:m+n≤134217728):IntMulOk i j:=IntMulOk.of_le (intBits_le h1) (intBits_le h2) h
theorem FT {i j:Int} (h1: -(2 ^ 64)<i) (h2:i<2 ^ 64):IntMulOk i j:= .of_left (intBits_le_64 h1 h2)
theorem JJ {i j:Int} (h1: -(2 ^ 64)<j) (h2:j<2 ^ 64):IntMulOk i j:= .of_right (intBits_le_64 h1 h2)
theorem aH:OpR X (binaryOp .FloorDiv) (rI (fun _ j=>0<j∧j<2 ^ 100) fun i j=> .int (i / j)):=opI fun i j _ _ s Q E hc q=>by
 refine floordiv_int (Int.ne_of_gt hc.1) (by rw [Int.fdiv_eq_ediv_of_nonneg _ (Int.le_of_lt hc.1)];exact q) (.inl (PyProof.noPylong_of_log2 ?_))
 have h1:j.natAbs<2 ^ 100:=by omega
 have h0:j.natAbs≠0:=by omega
 have:=(Nat.log2_lt h0).mpr h1
 omega
theorem YI {c:Value}:DI X (.builtin "isinstance") (fun xs H Q=>∃ x y ty b,xs=[x,y]∧AZ y c∧(∃ n,c= .type n)∧IM X.K H x ty∧PySem.W.kitOne X.K ty c=some b∧Q (.bl b) H):=by
 intro pins s σ H xs us Q I rv h
 obtain ⟨x,y,ty,b,rfl,ry,⟨n,rfl⟩,hty,hk,q⟩:=h
 obtain ⟨u,u',rfl,ru,ru'⟩:=rv.two
 have e:u'= .type n:=by
  cases y with
  | ty m=>have:=(show Value.type n=Value.type m from ry);cases this;exact ru'
  | non=>cases ry
  | bl _=>cases ry
  | int _=>obtain ⟨_,z⟩:=ry;cases z
  | str _=>obtain ⟨_,z⟩:=ry;cases z
  | byt _=>obtain ⟨_,z⟩:=ry;cases z
  | flt _=>obtain ⟨_,z⟩:=ry;cases z
  | ref _=>cases ry
 subst e
 exact WB I ru hty hk fun tk=>⟨.bl b,H,I.tok _,rfl,q⟩
theorem LA {K:PySem.W.Frag}:PySem.W.kitOne K (.type "int") (.type "int")=some true:=rfl
theorem XY {K:PySem.W.Frag} {T U:String} {b:Bool} (h0:(Value.type T == Value.type U)=false) (h1:PySem.W.kitMeta U=true) (h2:((fastBuiltinMro T).map (·.contains (.type U)))=some b):PySem.W.kitOne K (.type T) (.type U)=some b:=by
 unfold PySem.W.kitOne
 rw [h0,if_neg Bool.false_ne_true]
 unfold PySem.W.kitCls
 dsimp only
 rw [h1,if_pos rfl]
 exact h2
theorem JH {K:PySem.W.Frag}:PySem.W.kitOne K (.type "int") (.type "bool")=some false:=XY (by decide+kernel) (by decide+kernel) (by decide+kernel)
theorem CU {K:PySem.W.Frag}:PySem.W.kitOne K (.type "tuple") (.type "tuple")=some true:=rfl
end
def FW (J:It) (g:TG) (tb:TS) (D:GI) (σ:St) (H1:Hp):Prop:=∃ W:Nat→Nat→St→Hp→Prop,(∃ m,W 0 m σ H1)∧∀ i m σ H,W i m σ H→
 (J.stop i H∧D.nx σ H)∨(J.go i H∧∃ N:St→Hp→Prop,(∀ σ' H',N σ' H'→∃ m',m'<m∧W (i+1) m' σ' H')∧∀ x H',J.yld i H x H'→g x σ H' fun σ2 H2=>tb { D with nx:=N,ct:=N,bk:=D.nx } σ2 H2)
theorem LQ (wi:TI) (g:TG) (tb:TS) (D:GI) (σ:St) (H:Hp):jX wi g tb D σ H=wi σ H fun J H1=>FW J g tb D σ H1:=rfl
theorem FH {lo:Int} {n:Nat} {g:TG} {tb:TS} {D:GI} {σ:St} {H:Hp} (Pv:Nat→St→Hp→Prop) (h0:Pv 0 σ H)
  (hs:∀ i σ H,i<n→Pv i σ H→g (.int (lo+i)) σ H fun σ2 H2=>tb { D with nx:=Pv (i+1),ct:=Pv (i+1),bk:=D.nx } σ2 H2) (hd:∀ σ H,Pv n σ H→D.nx σ H):FW (Itr lo n) g tb D σ H:=VW Pv h0 hs hd
theorem UY {K:PySem.W.Frag} {a:Addr} {xs:List V} {g:TG} {tb:TS} {D:GI} {σ:St} {H:Hp} (Pv:Nat→St→Hp→Prop) (h0:Pv 0 σ H) (hl:∀ i σ H,i≤xs.length→Pv i σ H→SqL K H a xs)
  (hs:∀ i x σ H,xs[i]? =some x→Pv i σ H→g x σ H fun σ2 H2=>tb { D with nx:=Pv (i+1),ct:=Pv (i+1),bk:=D.nx } σ2 H2) (hd:∀ σ H,Pv xs.length σ H→D.nx σ H):FW (Itl K a) g tb D σ H:=aB Pv h0 hl hs hd
theorem LZ {K:PySem.W.Frag} {a:Addr} {xs:List V} {g:TG} {tb:TS} {D:GI} {σ:St} {H:Hp} (Pv:Nat→St→Hp→Prop) (h0:Pv 0 σ H) (hl:∀ i σ H,i≤xs.length→Pv i σ H→SqT K H a xs)
  (hs:∀ i x σ H,xs[i]? =some x→Pv i σ H→g x σ H fun σ2 H2=>tb { D with nx:=Pv (i+1),ct:=Pv (i+1),bk:=D.nx } σ2 H2) (hd:∀ σ H,Pv xs.length σ H→D.nx σ H):FW (Itt K a) g tb D σ H:=cW Pv h0 hl hs hd
def CW (J:It) (g:TG) (tt:TT) (te:TE) (p:Addr) (Q:VK) (σ:St) (H1:Hp):Prop:=
 ∃ W:Nat→Nat→St→Hp→Prop,(∃ m,W 0 m σ H1)∧∀ i m σ H,W i m σ H→
  (J.stop i H∧Q (.ref p) H)∨(J.go i H∧∀ x H',J.yld i H x H'→g x σ H' fun σ2 H2=>tt σ2 H2 fun b H3=>
   if b=true then te σ2 H3 fun y H4=>∃ ys,H4 p=some (.lst ys)∧ys.length<sizeLine∧∃ m',m'<m∧W (i+1) m' σ2 (upd H4 p (.lst (ys++[y])))
   else ∃ m',m'<m∧W (i+1) m' σ2 H3)
theorem IT (js:List Nat) (os:List Str) (wi:TI) (g:TG) (tt:TT) (te:TE) (σ:St) (H:Hp) (Q:VK):YS js os wi g tt te σ H Q=wi σ H fun J H1=>∀ p,H1 p=none→CW J g tt te p Q (stC js os σ) (upd H1 p (.lst [])):=rfl
def Nx (n i:Nat) (P:Prop):Prop:=∃ m',m'<n - i∧m'=n - (i+1)∧i+1≤n∧P
theorem nx {n i:Nat} {P:Prop} (h:i<n) (p:P):Nx n i P:=⟨n - (i+1),by omega,rfl,h,p⟩
theorem JM {lo:Int} {n:Nat} {g:TG} {tt:TT} {te:TE} {p:Addr} {Q:VK} {σ:St} {H:Hp} (Pv:Nat→St→Hp→Prop) (h0:Pv 0 σ H)
  (hs:∀ i σ H,i<n→Pv i σ H→g (.int (lo+i)) σ H fun σ2 H2=>tt σ2 H2 fun b H3=>if b=true then te σ2 H3 fun y H4=>∃ ys,H4 p=some (.lst ys)∧ys.length<sizeLine∧Nx n i (Pv (i+1) σ2 (upd H4 p (.lst (ys++[y])))) else Nx n i (Pv (i+1) σ2 H3))
  (hd:∀ σ H,Pv n σ H→Q (.ref p) H):CW (Itr lo n) g tt te p Q σ H:=by
 refine ⟨fun i m σ H=>m=n - i∧i≤n∧Pv i σ H,⟨n,by simp,Nat.zero_le _,h0⟩,?_⟩
 rintro i m σ H ⟨rfl,hi,q⟩
 by_cases hlt:i<n
 ·refine .inr ⟨hlt,fun x H' y=> ?_⟩
  obtain ⟨e,y⟩:=y
  subst e y
  exact hs i σ _ hlt q
 ·have e:i=n:=by omega
  subst e
  exact .inl ⟨Nat.le_refl _,hd σ H q⟩
theorem dA {K:PySem.W.Frag} {a:Addr} {xs:List V} {g:TG} {tt:TT} {te:TE} {p:Addr} {Q:VK} {σ:St} {H:Hp} (Pv:Nat→St→Hp→Prop) (h0:Pv 0 σ H) (hl:∀ i σ H,i≤xs.length→Pv i σ H→SqL K H a xs)
  (hs:∀ i x σ H,xs[i]? =some x→Pv i σ H→g x σ H fun σ2 H2=>tt σ2 H2 fun b H3=>if b=true then te σ2 H3 fun y H4=>∃ ys,H4 p=some (.lst ys)∧ys.length<sizeLine∧Nx xs.length i (Pv (i+1) σ2 (upd H4 p (.lst (ys++[y])))) else Nx xs.length i (Pv (i+1) σ2 H3))
  (hd:∀ σ H,Pv xs.length σ H→Q (.ref p) H):CW (Itl K a) g tt te p Q σ H:=by
 walk_at "b13"
 rintro i m σ H ⟨rfl,hi,q⟩
 have w:=hl i σ H hi q
 by_cases hlt:i<xs.length
 ·refine .inr ⟨⟨xs,xs[i],w,by simp [hlt]⟩,fun x H' y=> ?_⟩
  obtain ⟨e,y⟩:=y
  subst e
  exact hs i x σ _ (y xs w) q
 ·have e:i=xs.length:=by omega
  subst e
  exact .inl ⟨⟨xs,w,Nat.le_refl _⟩,hd σ H q⟩
theorem ZO {K:PySem.W.Frag} {a:Addr} {xs:List V} {g:TG} {tt:TT} {te:TE} {p:Addr} {Q:VK} {σ:St} {H:Hp} (Pv:Nat→St→Hp→Prop) (h0:Pv 0 σ H) (hl:∀ i σ H,i≤xs.length→Pv i σ H→SqT K H a xs)
  (hs:∀ i x σ H,xs[i]? =some x→Pv i σ H→g x σ H fun σ2 H2=>tt σ2 H2 fun b H3=>if b=true then te σ2 H3 fun y H4=>∃ ys,H4 p=some (.lst ys)∧ys.length<sizeLine∧Nx xs.length i (Pv (i+1) σ2 (upd H4 p (.lst (ys++[y])))) else Nx xs.length i (Pv (i+1) σ2 H3))
  (hd:∀ σ H,Pv xs.length σ H→Q (.ref p) H):CW (Itt K a) g tt te p Q σ H:=by
 walk_at "b13"
 rintro i m σ H ⟨rfl,hi,q⟩
 have w:=hl i σ H hi q
 by_cases hlt:i<xs.length
 ·refine .inr ⟨⟨xs,xs[i],w,by simp [hlt]⟩,fun x H' y=> ?_⟩
  obtain ⟨e,y⟩:=y
  subst e
  exact hs i x σ _ (y xs w) q
 ·have e:i=xs.length:=by omega
  subst e
  exact .inl ⟨⟨xs,w,Nat.le_refl _⟩,hd σ H q⟩
theorem eZ {c:TT} {tb:TS} {D:GI} {σ:St} {H:Hp} (Pv:St→Hp→Prop) (μ:St→Hp→Nat) (h0:Pv σ H)
  (hs:∀ σ H,Pv σ H→c σ H fun b H1=>if b=true then ∃ N:St→Hp→Prop,(∀ σ' H',N σ' H'→∃ m',m'<μ σ H∧(m'=μ σ' H'∧Pv σ' H'))∧tb { D with nx:=N,ct:=N,bk:=D.nx } σ H1 else D.nx σ H1):TF c tb D σ H:=by
 refine ⟨fun m σ H=>m=μ σ H∧Pv σ H,⟨_,rfl,h0⟩,?_⟩
 rintro m σ H ⟨rfl,p⟩
 have z:=hs σ H p
 exact z
theorem AI.upd {H:Hp} {p:Addr} {o:HO} (h:H p=none):AI H (upd H p o):=fun b u e=>by rw [BA (BZ e h)];exact e
theorem AI.upd2 {H H':Hp} {p:Addr} {o:HO} (s:AI H H') (h:H p=none):AI H (L2.upd H' p o):=fun b u e=>by rw [BA (BZ e h)];exact s b u e
theorem AI.tup {K:PySem.W.Frag} {H H':Hp} {a:Addr} {xs:List V} (e:AI H H') (h:SqT K H a xs):SqT K H' a xs:=by
 rcases h with (h | ⟨o,h⟩) | h
 ·exact .inl (.inl (e _ _ h))
 ·exact .inl (.inr ⟨o,e _ _ h⟩)
 ·exact .inr h
theorem LX {ns:List Int} {k:Int} (h0:0≤k) (h1:k<ns.length):∃ z∈ns,atI (ns.map V.int) k=some (.int z):=by
 have hk:k.toNat<ns.length:=by omega
 refine ⟨ns[k.toNat],List.getElem_mem hk,?_⟩
 have e:((k.toNat:Nat):Int)=k:=by omega
 have:=BN (xs:=ns.map V.int) (j:=k.toNat) (v:= .int ns[k.toNat]) (by rw [List.getElem?_map,List.getElem?_eq_getElem hk];rfl)
 rw [e] at this
 exact this
inductive D where
 | int (i:Int) | str (x:Str) | non | tup (ds:List D)
mutual
def Rp (K:PySem.W.Frag) (H:Hp):D→V→Prop
 | .int i,v=>v= .int i
 | .str x,v=>v= .str x
 | .non,v=>v= .non
 | .tup ds,v=>∃ p xs,v= .ref p∧SqT K H p xs∧RpL K H ds xs
def RpL (K:PySem.W.Frag) (H:Hp):List D→List V→Prop
 | [],xs=>xs=[]
 | d::ds,xs=>∃ v r,xs=v::r∧Rp K H d v∧RpL K H ds r
end
mutual
def deq:D→D→Bool
 | .int i,.int j=>i == j
 | .str x,.str y=>x == y
 | .non,.non=>true
 | .tup ds,.tup es=>deqL ds es
 | _,_=>false
def deqL:List D→List D→Bool
 | [],[]=>true
 | d::ds,e::es=>deq d e && deqL ds es
 | _,_=>false
end
mutual
def dep:D→Nat
 | .tup ds=>depL ds+1
 | _=>0
def depL:List D→Nat
 | []=>0
 | d::ds=>max (dep d) (depL ds)
end
theorem RpL.length {K:PySem.W.Frag} {H:Hp}:∀ {ds:List D} {xs:List V},RpL K H ds xs→xs.length=ds.length
 | [],xs,h=>by rw [RpL] at h;subst h;rfl
 | d::ds,xs,h=>by
  rw [RpL] at h
  obtain ⟨v,r,rfl,_,h⟩:=h
  rw [List.length_cons,List.length_cons,RpL.length h]
mutual
theorem Rp.same {K:PySem.W.Frag} {H H':Hp} (s:AI H H'):∀ {d:D} {v:V},Rp K H d v→Rp K H' d v
 | .int i,v,h=>by rw [Rp] at h ⊢;exact h
 | .str x,v,h=>by rw [Rp] at h ⊢;exact h
 | .non,v,h=>by rw [Rp] at h ⊢;exact h
 | .tup ds,v,h=>by
  rw [Rp] at h ⊢
  obtain ⟨p,xs,e,hs,hl⟩:=h
  exact ⟨p,xs,e,s.tup hs,RpL.same s hl⟩
theorem RpL.same {K:PySem.W.Frag} {H H':Hp} (s:AI H H'):∀ {ds:List D} {xs:List V},RpL K H ds xs→RpL K H' ds xs
 | [],xs,h=>by rw [RpL] at h ⊢;exact h
 | d::ds,xs,h=>by
  rw [RpL] at h ⊢
  obtain ⟨v,r,e,h1,h2⟩:=h
  exact ⟨v,r,e,Rp.same s h1,RpL.same s h2⟩
end
section
variable {X:Cx} {pins:List (Addr×Obj)} {σ:L2.St} {H:Hp} {s:Shared}
mutual
theorem Rp.inj (I:Inv X pins σ H s):∀ {d e:D} {v:V},Rp X.K H d v→Rp X.K H e v→deq d e=true
 | .int i,e,v,h1,h2=>by
  rw [Rp] at h1
  subst h1
  cases e with
  | int j=>rw [Rp] at h2;cases h2;simp [deq]
  | str _=>rw [Rp] at h2;cases h2
  | non=>rw [Rp] at h2;cases h2
  | tup _=>rw [Rp] at h2;obtain ⟨_,_,h,_⟩:=h2;cases h
 | .str x,e,v,h1,h2=>by
  rw [Rp] at h1
  subst h1
  cases e with
  | int j=>rw [Rp] at h2;cases h2
  | str _=>rw [Rp] at h2;cases h2;simp [deq]
  | non=>rw [Rp] at h2;cases h2
  | tup _=>rw [Rp] at h2;obtain ⟨_,_,h,_⟩:=h2;cases h
 | .non,e,v,h1,h2=>by
  rw [Rp] at h1
  subst h1
  cases e with
  | int j=>rw [Rp] at h2;cases h2
  | str _=>rw [Rp] at h2;cases h2
  | non=>simp [deq]
  | tup _=>rw [Rp] at h2;obtain ⟨_,_,h,_⟩:=h2;cases h
 | .tup ds,e,v,h1,h2=>by
  rw [Rp] at h1
  obtain ⟨p,xs,rfl,hs,hl⟩:=h1
  cases e with
  | int j=>rw [Rp] at h2;cases h2
  | str _=>rw [Rp] at h2;cases h2
  | non=>rw [Rp] at h2;cases h2
  | tup es=>
   rw [Rp] at h2
   obtain ⟨p',xs',e',hs',hl'⟩:=h2
   cases e'
   rw [I.tuple_inj hs' hs] at hl'
   rw [deq]
   exact RpL.inj I hl hl'
theorem RpL.inj (I:Inv X pins σ H s):∀ {ds es:List D} {xs:List V},RpL X.K H ds xs→RpL X.K H es xs→deqL ds es=true
 | [],es,xs,h1,h2=>by
  rw [RpL] at h1
  subst h1
  cases es with
  | nil=>simp [deqL]
  | cons e es=>rw [RpL] at h2;obtain ⟨_,_,h,_⟩:=h2;cases h
 | d::ds,es,xs,h1,h2=>by
  rw [RpL] at h1
  obtain ⟨v,r,rfl,h1,h1'⟩:=h1
  cases es with
  | nil=>rw [RpL] at h2;cases h2
  | cons e es=>
   rw [RpL] at h2
   obtain ⟨v',r',e',h2,h2'⟩:=h2
   cases e'
   rw [deqL,Rp.inj I h1 h2,RpL.inj I h1' h2']
   rfl
end
theorem IK:∀ (ds es:List D),((List.range (min ds.length es.length)).all (fun j=>deq (ds.getD j .non) (es.getD j .non)) && ds.length == es.length)=deqL ds es
 | [],[]=>by simp [deqL]
 | [],e::es=>by simp [deqL]
 | d::ds,[]=>by simp [deqL]
 | d::ds,e::es=>by
  have ih:=IK ds es
  rw [deqL,← ih]
  have e1:min (d::ds).length (e::es).length=min ds.length es.length+1:=by simp only [List.length_cons];omega
  rw [e1,List.range_succ_eq_map,List.all_cons,List.all_map]
  have e2:((d::ds).length == (e::es).length)=(ds.length == es.length):=by
   simp only [List.length_cons]
   by_cases h:ds.length=es.length
   ·rw [h];simp
   ·have h1:(ds.length == es.length)=false:=by simpa using h
    rw [h1]
    have:¬ ds.length+1=es.length+1:=by omega
    simpa using this
  rw [e2,Bool.and_assoc]
  rfl
mutual
theorem hJ (I:Inv X pins σ H s):∀ {d e:D} {A:Around} {v u:V} {x y:Value},Rp X.K H d v→Rp X.K H e u→AZ v x→AZ u y→A.units+dep d<cLine→SeqAt.EqAt A s x y (deq d e)
 | .int i,e,A,v,u,x,y,h1,h2,r1,r2,hu=>by
  rw [Rp] at h1
  subst h1
  obtain ⟨t,rfl⟩:=r1
  cases e with
  | int j=>rw [Rp] at h2;subst h2;obtain ⟨t',rfl⟩:=r2;exact SeqAt.EqAt.int_int i t j t'
  | str z=>rw [Rp] at h2;subst h2;obtain ⟨t',rfl⟩:=r2;exact SeqAt.EqAt.int_str i t z t'
  | non=>rw [Rp] at h2;subst h2;cases r2;exact SeqAt.EqAt.int_none i t
  | tup es=>
   walk_at "b36"
   exact SeqAt.EqAt.int_tuple i t ht (by omega)
 | .str z,e,A,v,u,x,y,h1,h2,r1,r2,hu=>by
  rw [Rp] at h1
  subst h1
  obtain ⟨t,rfl⟩:=r1
  cases e with
  | int j=>rw [Rp] at h2;subst h2;obtain ⟨t',rfl⟩:=r2;exact SeqAt.EqAt.str_int z t j t'
  | str z'=>rw [Rp] at h2;subst h2;obtain ⟨t',rfl⟩:=r2;exact SeqAt.EqAt.str_str z t z' t'
  | non=>rw [Rp] at h2;subst h2;cases r2;exact SeqAt.EqAt.str_none z t
  | tup es=>
   walk_at "b36"
   exact SeqAt.EqAt.str_tuple z t ht (by omega)
 | .non,e,A,v,u,x,y,h1,h2,r1,r2,hu=>by
  rw [Rp] at h1
  subst h1
  cases r1
  cases e with
  | int j=>rw [Rp] at h2;subst h2;obtain ⟨t',rfl⟩:=r2;exact SeqAt.EqAt.none_int j t'
  | str z'=>rw [Rp] at h2;subst h2;obtain ⟨t',rfl⟩:=r2;exact SeqAt.EqAt.none_str z' t'
  | non=>rw [Rp] at h2;subst h2;cases r2;exact SeqAt.EqAt.same _
  | tup es=>
   walk_at "b36"
   exact SeqAt.EqAt.none_tuple ht (by omega)
 | .tup ds,e,A,v,u,x,y,h1,h2,r1,r2,hu=>by
  have h1':=h1
  rw [Rp] at h1
  obtain ⟨p,xs,rfl,hs,hl⟩:=h1
  cases r1
  obtain ⟨its,rv,ht,_⟩:=I.tuple hs
  cases e with
  | int j=>rw [Rp] at h2;subst h2;obtain ⟨t',rfl⟩:=r2;exact SeqAt.EqAt.tuple_int j t' ht (by omega)
  | str z'=>rw [Rp] at h2;subst h2;obtain ⟨t',rfl⟩:=r2;exact SeqAt.EqAt.tuple_str z' t' ht (by omega)
  | non=>rw [Rp] at h2;subst h2;cases r2;exact SeqAt.EqAt.tuple_none ht (by omega)
  | tup es=>
   have h2':=h2
   rw [Rp] at h2
   obtain ⟨p',xs',rfl,hs',hl'⟩:=h2
   cases r2
   obtain ⟨its',rv',ht',_⟩:=I.tuple hs'
   by_cases hp:p=p'
   ·subst hp
    rw [Rp.inj I h1' h2']
    exact SeqAt.EqAt.same _
   ·refine SeqAt.EqAt.of_refs hp ?_
    walk_at "b53"
    have key:=SeqAt.RcAt.tuples (e:=fun j=>deq (ds.getD j .non) (es.getD j .non)) ht ht' (show A.units<cLine by omega) (fun j h1 h2=>by
     rw [dep] at hu
     exact eqAtL_D I hl hl' rv rv' (show A.in1.units+depL ds<cLine by show A.units+1+depL ds<cLine;omega) j (by simpa using h1) (by simpa using h2))
    have e0:((List.range (min its.toArray.size its'.toArray.size)).all (fun j=>deq (ds.getD j .non) (es.getD j .non)) && its.toArray.size == its'.toArray.size)=deqL ds es:=by
     rw [← IK]
     simp only [List.size_toArray,l1,l2]
    rw [deq,← e0]
    exact key
theorem eqAtL_D (I:Inv X pins σ H s):∀ {ds es:List D} {A:Around} {vs us:List V} {xs ys:List Value},RpL X.K H ds vs→RpL X.K H es us→AY vs xs→AY us ys→A.units+depL ds<cLine→
  ∀ (j:Nat) (h1:j<xs.length) (h2:j<ys.length),SeqAt.EqAt A s xs[j] ys[j] (deq (ds.getD j .non) (es.getD j .non))
 | [],es,A,vs,us,xs,ys,h1,h2,r1,r2,hu,j,j1,j2=>by
  rw [RpL] at h1
  subst h1
  cases r1
  exact absurd j1 (Nat.not_lt_zero _)
 | d::ds,es,A,vs,us,xs,ys,h1,h2,r1,r2,hu,j,j1,j2=>by
  rw [RpL] at h1
  obtain ⟨v,r,rfl,h1,h1'⟩:=h1
  cases r1 with
  | cons q1 q1'=>
  cases es with
  | nil=>
   rw [RpL] at h2
   subst h2
   cases r2
   exact absurd j2 (Nat.not_lt_zero _)
  | cons e es=>
   rw [RpL] at h2
   obtain ⟨v',r',rfl,h2,h2'⟩:=h2
   cases r2 with
   | cons q2 q2'=>
   rw [depL] at hu
   cases j with
   | zero=>exact hJ (d:=d) (e:=e) I h1 h2 q1 q2 (by omega)
   | succ j=>exact eqAtL_D I h1' h2' q1' q2' (by omega) j (by simpa using j1) (by simpa using j2)
end
end
mutual
def GV (K:PySem.W.Frag):D→Value→Bool
 | .int i,.int j _=>i == j
 | .str x,.str y _=>x == y
 | .non,.none=>true
 | .tup ds,.ref p=>(match K.lookup p with
  | some o=>(match o.cls,o.data with
   | .type n,.seq its _=>n == "tuple" && decide (its.size≤1000) && kdInL K ds its.toList
   | _,_=>false)
  | none=>false)
 | _,_=>false
def kdInL (K:PySem.W.Frag):List D→List Value→Bool
 | [],[]=>true
 | d::ds,u::us=>GV K d u && kdInL K ds us
 | _,_=>false
end
mutual
theorem JK {K:PySem.W.Frag}:∀ {d:D} {u:Value},GV K d u=true→∃ v,AZ v u∧∀ H,Rp K H d v
 | .int i,u,h=>by
  cases u with
  | int j t=>
   rw [GV] at h
   have e:i=j:=by simpa using h
   subst e
   exact ⟨.int i,⟨t,rfl⟩,fun H=>by rw [Rp]⟩
  | _=>simp [GV] at h
 | .str x,u,h=>by
  cases u with
  | str y t=>
   rw [GV] at h
   have e:x=y:=by simpa using h
   subst e
   exact ⟨.str x,⟨t,rfl⟩,fun H=>by rw [Rp]⟩
  | _=>simp [GV] at h
 | .non,u,h=>by
  cases u with
  | none=>exact ⟨.non,rfl,fun H=>by rw [Rp]⟩
  | _=>simp [GV] at h
 | .tup ds,u,h=>by
  cases u with
  | ref p=>
   rw [GV] at h
   cases e:K.lookup p with
   | none=>rw [e] at h;cases h
   | some o=>
    rw [e] at h
    dsimp only at h
    split at h
    ·rename_i n its k ec ed
     simp only [Bool.and_eq_true,beq_iff_eq,decide_eq_true_eq] at h
     obtain ⟨⟨rfl,hz⟩,hl⟩:=h
     obtain ⟨vs,rv,hv⟩:=kd_rpL hl
     exact ⟨.ref p,rfl,fun H=>by
      rw [Rp]
      exact ⟨p,vs,rfl,.inr ⟨o,its,k,e,ec,ed,Nat.le_trans hz (by decide),rv⟩,hv H⟩⟩
    ·cases h
  | _=>simp [GV] at h
theorem kd_rpL {K:PySem.W.Frag}:∀ {ds:List D} {us:List Value},kdInL K ds us=true→∃ vs,AY vs us∧∀ H,RpL K H ds vs
 | [],us,h=>by
  cases us with
  | nil=>exact ⟨[],.nil,fun H=>by rw [RpL]⟩
  | cons _ _=>simp [kdInL] at h
 | d::ds,us,h=>by
  cases us with
  | nil=>simp [kdInL] at h
  | cons u us=>
   rw [kdInL,Bool.and_eq_true] at h
   obtain ⟨v,r,hv⟩:=JK h.1
   obtain ⟨vs,rs,hvs⟩:=kd_rpL h.2
   exact ⟨v::vs,.cons r rs,fun H=>by rw [RpL];exact ⟨v,vs,rfl,hv H,hvs H⟩⟩
end
theorem RpL.at {K:PySem.W.Frag} {H:Hp}:∀ {ds:List D} {xs:List V} {j:Nat},RpL K H ds xs→j<ds.length→∃ v,xs[j]? =some v∧Rp K H (ds.getD j .non) v
 | [],xs,j,h,hj=>absurd hj (Nat.not_lt_zero _)
 | d::ds,xs,j,h,hj=>by
  rw [RpL] at h
  obtain ⟨v,r,rfl,h1,h2⟩:=h
  cases j with
  | zero=>exact ⟨v,rfl,h1⟩
  | succ j=>
   obtain ⟨u,e,q⟩:=RpL.at (ds:=ds) (xs:=r) (j:=j) h2 (by simpa using hj)
   exact ⟨u,e,q⟩
abbrev num (a b:Int):D:= .tup [.int a,.int b]
abbrev plc (a b c d:Int):D:= .tup [num a b,num c d]
theorem JO {K:PySem.W.Frag} {H:Hp} {d e:D} {v:V}:Rp K H (.tup [d,e]) v↔∃ p x y,v= .ref p∧SqT K H p [x,y]∧Rp K H d x∧Rp K H e y:=by
 constructor
 ·intro h
  rw [Rp] at h
  obtain ⟨p,xs,rfl,hs,hl⟩:=h
  rw [RpL] at hl
  obtain ⟨v,r,rfl,h1,hl⟩:=hl
  rw [RpL] at hl
  obtain ⟨v',r',rfl,h2,hl⟩:=hl
  rw [RpL] at hl
  subst hl
  exact ⟨p,v,v',rfl,hs,h1,h2⟩
 ·rintro ⟨p,x,y,rfl,hs,h1,h2⟩
  rw [Rp]
  refine ⟨p,_,rfl,hs,?_⟩
  rw [RpL]
  refine ⟨_,_,rfl,h1,?_⟩
  rw [RpL]
  refine ⟨_,_,rfl,h2,?_⟩
  rw [RpL]
section
variable {X:Cx}
theorem WP {c:Value}:DI X (.builtin "isinstance") (fun xs H Q=>∃ x y,xs=[x,y]∧AZ y c∧(∃ n,c= .type n)∧∃ ty,(IM X.K H x ty∨∃ p ys,x= .ref p∧SqT X.K H p ys∧ty= .type "tuple")∧∃ b,PySem.W.kitOne X.K ty c=some b∧Q (.bl b) H):=by
 intro pins s σ H xs us Q I rv h
 obtain ⟨x,y,rfl,ry,⟨n,rfl⟩,ty,hty,b,hk,q⟩:=h
 rcases hty with hty | ⟨p,ys,rfl,hs,rfl⟩
 ·exact YI (c:= .type n) pins s σ H [x,y] us Q I rv ⟨x,y,ty,b,rfl,ry,⟨n,rfl⟩,hty,hk,q⟩
 ·obtain ⟨u,u',rfl,ru,ru'⟩:=rv.two
  have e:u'= .type n:=by
   cases y with
   | ty m=>have:=(show Value.type n=Value.type m from ry);cases this;exact ru'
   | non=>cases ry
   | bl _=>cases ry
   | int _=>obtain ⟨_,z⟩:=ry;cases z
   | str _=>obtain ⟨_,z⟩:=ry;cases z
   | byt _=>obtain ⟨_,z⟩:=ry;cases z
   | flt _=>obtain ⟨_,z⟩:=ry;cases z
   | ref _=>cases ry
  subst e
  cases ru
  obtain ⟨its,_,⟨o,h1,h2,_⟩,_⟩:=I.tuple hs
  exact PySem.W.kia_one PySem.W.kitx_tuple I.kIn ⟨o,h1,h2⟩ hk (fun z=>nomatch z) fun tk=>⟨.bl b,H,I.tok _,rfl,q⟩
end
def NO (K:PySem.W.Frag) (d:D):TE:=fun _ H Q=>∀ v H',AI H H'→Rp K H' d v→Q v H'
def GS (K:PySem.W.Frag) (ds:List D):TA:=fun _ H Q=>∀ vs H',AI H H'→RpL K H' ds vs→Q vs H'
section
variable {X:Cx} {e:Expr} {es:List Expr} {pos:Pos} {d:D} {ds:List D}
theorem PE.imp {t t':TE} (h:PE X e t) (i:∀ σ H Q,t' σ H Q→t σ H Q):PE X e t':=fun pins s σ H Q I q=>h pins s σ H Q I (i _ _ _ q)
theorem PA.imp {t t':TA} (h:PA X es t) (i:∀ σ H Q,t' σ H Q→t σ H Q):PA X es t':=fun p pins s σ H Q I q=>h p pins s σ H Q I (i _ _ _ q)
theorem iR {i:Int} {j pos}:PE X (.Constant (.int i) j pos) (NO X.K (.int i)):=AC.imp fun _ H Q q=>q _ _ (AI.refl H) (by rw [Rp])
theorem jC {i:Int} {j pos pos'}:PE X (.UnaryOp .USub (.Constant (.int i) j pos) pos') (NO X.K (.int (-i))):=(UP aZ AC).imp fun _ H Q q=>⟨_,rfl,q _ _ (AI.refl H) (by rw [Rp])⟩
theorem iL {x:Str} {j pos}:PE X (.Constant (.str x) j pos) (NO X.K (.str x)):=AK.imp fun _ H Q q=>q _ _ (AI.refl H) (by rw [Rp])
theorem BU:PA X [] (GS X.K []):=AB.imp fun _ H Q q=>q _ _ (AI.refl H) (by rw [RpL])
theorem JA (h:PE X e (NO X.K d)) (hs:PA X es (GS X.K ds)) (he:starEach (e::es) X.env=(false,eval e X.env)::starEach es X.env:=by rfl):PA X (e::es) (GS X.K (d::ds)):=
 (AA h hs he).imp fun _ H Q q=>fun v H1 s1 r1 vs H2 s2 r2=>q _ _ (s1.trans s2) (by rw [RpL];exact ⟨v,vs,rfl,r1.same s2,r2⟩)
theorem CK {x1} (h:PA X es (GS X.K ds)) (hz:ds.length≤1000:=by decide):PE X (.Tuple es x1 pos) (NO X.K (.tup ds)):=
 (BE h).imp fun _ H Q q=>fun vs H1 s1 r1=>⟨by rw [r1.length];exact Nat.le_trans hz (by decide),fun p hp=>q _ _ (s1.upd2 (s1.free hp)) (by
  rw [Rp];exact ⟨p,vs,rfl,SqT.of AF,r1.same (AI.upd hp)⟩)⟩
end
end L2
namespace L2
open PySem PySem.Spec PyProof.Rows L2
section
variable {X:Cx} {es es':List Expr} {pos pos' p:Pos} {d:D} {ds:List D}
theorem BG {x1} {te:TE} {t:TA} (ha:PE X (.Tuple es' x1 p) te) (hr:PA X es t):PA X (.Tuple es' x1 p::es) (NU te t):=AA ha hr (by rfl)
theorem CN {x1} (ha:PE X (.Tuple es' x1 p) (NO X.K d)) (hr:PA X es (GS X.K ds)):PA X (.Tuple es' x1 p::es) (GS X.K (d::ds)):=JA ha hr (by rfl)
theorem OH {i:Int} {j} (hr:PA X es (GS X.K ds)):PA X (.Constant (.int i) j p::es) (GS X.K (.int i::ds)):=JA iR hr (by rfl)
theorem FA {i:Str} {j} (hr:PA X es (GS X.K ds)):PA X (.Constant (.str i) j p::es) (GS X.K (.str i::ds)):=JA iL hr (by rfl)
theorem XG {i:Int} {j} (hr:PA X es (GS X.K ds)):PA X (.UnaryOp .USub (.Constant (.int i) j p) pos::es) (GS X.K (.int (-i)::ds)):=JA jC hr (by rfl)
end
theorem OY {CX P w K mg base N nm sc fa cdv A outer s H E}:(TY CX P w K mg base N nm sc fa cdv A outer s H E).K=K:=rfl
section
variable {κ:Type} [DecidableEq κ]
def FX (kvs:List (κ×V)) (k:κ):Option V:=(kvs.find? fun kv=>decide (kv.1=k)).map (·.2)
def IF (kvs:List (κ×V)) (k:κ) (v:V):List (κ×V):=
 if (kvs.any fun kv=>decide (kv.1=k))=true then kvs.map (fun kv=>if kv.1=k then (kv.1,v) else kv) else kvs++[(k,v)]
theorem MJ {p:κ×V} {r:List (κ×V)} {k:κ} (e:p.1=k):FX (p::r) k=some p.2:=by simp [FX,List.find?_cons,e]
theorem MK {p:κ×V} {r:List (κ×V)} {k:κ} (e:¬ p.1=k):FX (p::r) k=FX r k:=by simp [FX,List.find?_cons,e]
theorem QK (k:κ):∀ kvs:List (κ×V),(kvs.any fun kv=>decide (kv.1=k))=(FX kvs k).isSome
 | []=>rfl
 | p::r=>by
  rw [List.any_cons]
  by_cases e:p.1=k
  ·simp only [MJ e,decide_eq_true e,Bool.true_or,Option.isSome_some]
  ·rw [MK e,decide_eq_false e,Bool.false_or];exact QK k r
theorem LB (kvs:List (κ×V)) (k:κ) (v:V):(IF kvs k v).length≤kvs.length+1:=by
 unfold IF
 split
 ·rw [List.length_map];omega
 ·rw [List.length_append,List.length_cons,List.length_nil];omega
theorem IE.isSome_eq {o:Option V} {u:Option Value} (r:IE o u):o.isSome=u.isSome:=by
 cases o with
 | none=>cases u with
  | none=>rfl
  | some _=>exact (show False from r).elim
 | some _=>cases u with
  | none=>exact (show False from r).elim
  | some _=>rfl
theorem KV.val {kvs:List (κ×V)} {vs:List (κ×Value)} (r:KV kvs vs) (k:κ):IE (FX kvs k) (valueAt vs k):=by
 unfold KV at r
 induction r with
 | nil=>exact True.intro
 | @cons p q ps qs h t ih=>
  obtain ⟨h1,h2⟩:=h
  by_cases e:p.1=k
  ·have e':q.1=k:=h1.symm.trans e
   have b:valueAt (q::qs) k=some q.2:=by simp [valueAt,List.find?_cons,e']
   rw [MJ e,b];exact h2
  ·have e':¬ q.1=k:=fun z=>e (h1.trans z)
   have b:valueAt (q::qs) k=valueAt qs k:=by simp [valueAt,List.find?_cons,e']
   rw [MK e,b];exact ih
theorem KV.any {kvs:List (κ×V)} {vs:List (κ×Value)} (r:KV kvs vs) (k:κ):(kvs.any fun kv=>decide (kv.1=k))=vs.any fun kv=>decide (kv.1=k):=by
 unfold KV at r
 induction r with
 | nil=>rfl
 | cons h t ih=>rw [List.any_cons,List.any_cons,ih,h.1]
theorem KV.repl {kvs:List (κ×V)} {vs:List (κ×Value)} (r:KV kvs vs) (k:κ) {y:V} {u:Value} (ry:AZ y u):
  KV (kvs.map fun kv=>if kv.1=k then (kv.1,y) else kv) (vs.map fun kv=>if kv.1=k then (kv.1,u) else kv):=by
 unfold KV at r ⊢
 induction r with
 | nil=>exact .nil
 | @cons p q ps qs h t ih=>
  rw [List.map_cons,List.map_cons]
  refine .cons ?_ ih
  obtain ⟨h1,h2⟩:=h
  by_cases e:p.1=k
  ·rw [if_pos e,if_pos (h1.symm.trans e)];exact ⟨h1,ry⟩
  ·rw [if_neg e,if_neg (fun z=>e (h1.trans z))];exact ⟨h1,h2⟩
theorem KV.put {kvs:List (κ×V)} {vs:List (κ×Value)} (r:KV kvs vs) (k:κ) {y:V} {u:Value} (ry:AZ y u):KV (IF kvs k y) (stored vs k u):=by
 unfold IF stored
 rw [r.any k]
 by_cases e:(vs.any fun kv=>decide (kv.1=k))=true
 ·rw [if_pos e,if_pos e];exact r.repl k ry
 ·rw [if_neg e,if_neg e];exact Paired.snoc r ⟨rfl,ry⟩
theorem KV.length {kvs:List (κ×V)} {vs:List (κ×Value)} (r:KV kvs vs):kvs.length=vs.length:=Paired.length r
end
theorem QZ {P:Program} {w:World} {k:Key} {u:Value} (r:AZ (kV k) u):(DB P w).is k u=true:=by
 cases k with
 | inl i=>obtain ⟨t,e⟩:=(show ∃ t,u=Value.int i t from r);subst e;exact QQ P w i t
 | inr x=>obtain ⟨t,e⟩:=(show ∃ t,u=Value.str x t from r);subst e;exact RX P w x t
theorem OB {P:Program} {w:World}:∀ {ks:List Key} {us:List Value},AY (ks.map kV) us→ItemsAre (DB P w) ks us
 | [],_,r=>by rw [List.map_nil] at r;cases r;exact .nil
 | k::ks,_,r=>by
  rw [List.map_cons] at r
  cases r with
  | cons h t=>exact .cons (QZ h) (OB t)
abbrev KT (H:Hp):List (List Key×V)→List (List Key×Addr×Value)→Prop:=Paired fun p q=>p.1=q.1∧H q.2.1=some (.tup (p.1.map kV))∧AZ p.2 q.2.2
theorem KT.val {H:Hp} {kvs:List (List Key×V)} {xs:List (List Key×Addr×Value)} (r:KT H kvs xs) (k:List Key):IE (FX kvs k) ((atKey xs k).map (·.2)):=by
 induction r with
 | nil=>exact True.intro
 | @cons p q ps qs h t ih=>
  obtain ⟨h1,_,h2⟩:=h
  by_cases e:p.1=k
  ·have e':q.1=k:=h1.symm.trans e
   have b:atKey (q::qs) k=some q.2:=by simp [atKey,List.find?_cons,e']
   rw [MJ e,b];exact h2
  ·have e':¬ q.1=k:=fun z=>e (h1.trans z)
   have b:atKey (q::qs) k=atKey qs k:=by simp [atKey,List.find?_cons,e']
   rw [MK e,b];exact ih
theorem KT.repl {H:Hp} {kvs:List (List Key×V)} {xs:List (List Key×Addr×Value)} (r:KT H kvs xs) (k:List Key) {y:V} {u:Value} (ry:AZ y u):
  KT H (kvs.map fun kv=>if kv.1=k then (kv.1,y) else kv) (xs.map (putAt k u)):=by
 induction r with
 | nil=>exact .nil
 | @cons p q ps qs h t ih=>
  rw [List.map_cons,List.map_cons]
  refine .cons ?_ ih
  obtain ⟨h1,h2,h3⟩:=h
  unfold putAt
  by_cases e:p.1=k
  ·rw [if_pos e,if_pos (h1.symm.trans e)];exact ⟨h1,h2,ry⟩
  ·rw [if_neg e,if_neg (fun z=>e (h1.trans z))];exact ⟨h1,h2,h3⟩
theorem KT.put {H:Hp} {kvs:List (List Key×V)} {xs:List (List Key×Addr×Value)} (r:KT H kvs xs) (k:List Key) {b:Addr} {y:V} {u:Value} (hb:H b=some (.tup (k.map kV))) (ry:AZ y u):
  KT H (IF kvs k y) (storedH xs k b u):=by
 have e:(kvs.any fun kv=>decide (kv.1=k))=(atKey xs k).isSome:=by
  rw [QK,(r.val k).isSome_eq,Option.isSome_map]
 unfold IF storedH
 rw [e]
 by_cases q:(atKey xs k).isSome=true
 ·rw [if_pos q,if_pos q];exact r.repl k ry
 ·rw [if_neg q,if_neg q];exact Paired.snoc r ⟨rfl,hb,ry⟩
theorem KT.keeps {H H':Hp} {kvs:List (List Key×V)} {xs:List (List Key×Addr×Value)} (r:KT H kvs xs) (ht:∀ b ys,H b=some (.tup ys)→H' b=some (.tup ys)):KT H' kvs xs:=
 Paired.mapP r fun _ _ z=>⟨z.1,ht _ _ z.2.1,z.2.2⟩
section
variable {P:Program} {w:World} {H:Hp} {h:Heap} {a:Addr}
theorem fM {u:HO} (ok:HOk P w H h) (e:Rd H a u):CH P w H h a u:=e.ok ok
theorem QH {kvs:List (Key×V)} (ok:HOk P w H h) (e:Rd H a (.dK kvs)):kvs.length≤sizeLine∧(a == sysModules)=false∧∃ vs,KV kvs vs∧h.DictOf (DB P w) a vs:=
 show CH P w H h a (.dK kvs) from fM ok e
theorem kR {kvs:List (Key×V)} (ok:HOk P w H h) (e:H a=some (.dK kvs)):kvs.length≤sizeLine∧(a == sysModules)=false∧∃ vs,KV kvs vs∧h.DictOf (DB P w) a vs:=QH ok (.inl e)
theorem MA {ks:List Key} (ok:HOk P w H h) (e:H a=some (.tup (ks.map kV))):(tupleKind (DB P w)).is h ks a:=by
 obtain ⟨_,its,r,o,h1,h2,n,h3⟩:=(show CH P w H h a (.tup (ks.map kV)) from ok a _ e)
 exact ⟨o,its.toArray,n,h1,h2,h3,by simpa using OB r⟩
theorem RV {kvs:List (List Key×V)} (ok:HOk P w H h) (e:Rd H a (.dT kvs)):kvs.length≤sizeLine∧(a == sysModules)=false∧
  ∃ xs,KT H kvs xs∧h.DictOfH (tupleKind (DB P w)) a xs:=by
 obtain ⟨z,y,xs,r,o,es,ep,h1,h2,h3,h4,h5⟩:=(show CH P w H h a (.dT kvs) from fM ok e)
 refine ⟨z,y,xs,r,o,es,ep,h1,h2,h3,h4,fun x hx=> ?_,h5⟩
 have all:∀ {l:List (List Key×V)} {m:List (List Key×Addr×Value)},KT H l m→∀ x∈m,(tupleKind (DB P w)).is h x.1 x.2.1:=by
  intro l m q
  induction q with
  | nil=>intro x hx;exact nomatch hx
  | @cons p q ps qs hq t ih=>
   intro x hx
   rcases List.mem_cons.mp hx with e | hx
   ·subst e
    exact MA ok (by rw [← hq.1];exact hq.2.1)
   ·exact ih x hx
 exact all r x hx
theorem jZ {kvs:List (List Key×V)} (ok:HOk P w H h) (e:H a=some (.dT kvs)):kvs.length≤sizeLine∧(a == sysModules)=false∧
  ∃ xs,KT H kvs xs∧h.DictOfH (tupleKind (DB P w)) a xs:=RV ok (.inl e)
end
def YJ (H:Hp) (a:Addr) (y:V) (r:Option V):Prop:=
 (∃ kvs k,Rd H a (.dK kvs)∧y=kV k∧r=FX kvs k)∨∃ kvs k b,Rd H a (.dT kvs)∧y= .ref b∧H b=some (.tup (k.map kV))∧r=FX kvs k
def fG (H:Hp) (a:Addr) (y v:V) (H':Hp):Prop:=
 (∃ kvs k,H a=some (.dK kvs)∧y=kV k∧kvs.length<sizeLine∧H'=upd H a (.dK (IF kvs k v)))∨
 ∃ kvs k b,H a=some (.dT kvs)∧y= .ref b∧H b=some (.tup (k.map kV))∧kvs.length<sizeLine∧H'=upd H a (.dT (IF kvs k v))
theorem fG.k {H:Hp} {a:Addr} {kvs:List (Key×V)} {k:Key} {v:V} (e:H a=some (.dK kvs)) (hl:kvs.length<sizeLine):fG H a (kV k) v (upd H a (.dK (IF kvs k v))):= .inl ⟨kvs,k,e,rfl,hl,rfl⟩
section
variable {X:Cx} {pins:List (Addr×Obj)} {σ:St} {H:Hp} {s:Shared} {a:Addr} {y v:V} {u r:Value} {o:Option V} {A:Around} {E:Value→Shared→Prop}
theorem Inv.big (I:Inv X pins σ H s):sysModules<s.heap.objs.size:=by
 have h:mainGlobals<s.heap.objs.size:=(I.mod.glob.keeps I.bk).lt
 exact Nat.lt_trans (by decide) h
theorem XB {Q:Value→Shared→Prop} (hu:A.units+1<cLine) (I:Inv X pins σ H s) (g:YJ H a y (some v)) (ry:AZ y u) (h:∀ w' s',Inv X pins σ H s'→AZ v w'→Q w' s'):
  wpAny (model X.prog X.w) A (getItem (.ref a) u) Q E s:=by
 rcases g with ⟨kvs,k,e,ey,l⟩ | ⟨kvs,k,b,e,ey,eb,l⟩
 ·subst ey
  obtain ⟨z,hd,vs,rel,dd⟩:=QH I.hok e
  obtain ⟨w',hw,rw'⟩:=IE.some_of (v:=v) (o:=valueAt vs k) (by rw [l];exact rel.val k)
  exact wpAny_getItem_of (QZ ry) dd.mapOf hw (h w' _ (I.tok _) rw')
 ·subst ey
  walk_at "b48"
  obtain ⟨w',hw,rw'⟩:=IE.some_of (v:=v) (o:=(atKey xs k).map (·.2)) (by rw [l];exact rel.val k)
  obtain ⟨p,hp,hp2⟩:=Option.map_eq_some_iff.mp hw
  refine wpAny_getItem_heap (tupleKind_room_in1 hu) (MA I.hok eb) dd hp ?_
  rw [hp2]
  exact h w' _ (I.tok _) rw'
theorem d_in {Q:Value→Shared→Prop} (hu:A.units+1<cLine) (I:Inv X pins σ H s) (g:YJ H a y o) (ry:AZ y u) (h:∀ s',Inv X pins σ H s'→Q (.bool o.isSome) s'):
  wpAny (model X.prog X.w) A (compareOp .In u (.ref a)) Q E s:=by
 rcases g with ⟨kvs,k,e,ey,l⟩ | ⟨kvs,k,b,e,ey,eb,l⟩
 ·subst ey
  obtain ⟨z,hd,vs,rel,dd⟩:=QH I.hok e
  refine wpAny_in_of (QZ ry) hd dd.mapOf ?_
  rw [← (rel.val k).isSome_eq,← l]
  exact h _ (I.tok _)
 ·subst ey
  walk_at "b48"
  refine wpAny_in_heap (tupleKind_room_in1 hu) (MA I.hok eb) hd dd ?_
  have q:=(rel.val k).isSome_eq
  rw [Option.isSome_map] at q
  rw [← q,← l]
  exact h _ (I.tok _)
theorem dN {Q:Value→Shared→Prop} (hu:A.units+1<cLine) (I:Inv X pins σ H s) (g:YJ H a y o) (ry:AZ y u) (h:∀ s',Inv X pins σ H s'→Q (.bool (!o.isSome)) s'):
  wpAny (model X.prog X.w) A (compareOp .NotIn u (.ref a)) Q E s:=by
 rcases g with ⟨kvs,k,e,ey,l⟩ | ⟨kvs,k,b,e,ey,eb,l⟩
 ·subst ey
  obtain ⟨z,hd,vs,rel,dd⟩:=QH I.hok e
  refine wpAny_notIn_of (QZ ry) hd dd.mapOf ?_
  rw [← (rel.val k).isSome_eq,← l]
  exact h _ (I.tok _)
 ·subst ey
  walk_at "b48"
  refine wpAny_notIn_heap (tupleKind_room_in1 hu) (MA I.hok eb) hd dd ?_
  have q:=(rel.val k).isSome_eq
  rw [Option.isSome_map] at q
  rw [← q,← l]
  exact h _ (I.tok _)
theorem UO {h':Heap} {t':Nat} {ob:HO} (I:Inv X pins σ H s) (mu:Mut (H a)) (hs:Heap.SameBut a s.heap h') (he:∃ q,h'.get? a=some q) (new:CH X.prog X.w (upd H a ob) h' a ob):
  Inv X pins σ (upd H a ob) { s with heap:=h',toks:=t' }:=
 I.write (x:=a) (e:=a) mu (.inl rfl) (fun b q hb z=>(hs.2 b hb).trans z) he new
theorem iA {P:Program} {w:World} {H':Hp} {h':Heap} {kvs:List (Key×V)} {vs:List (Key×Value)} (z:kvs.length≤sizeLine) (hd:(a == sysModules)=false) (rel:KV kvs vs) (dd:h'.DictOf (DB P w) a vs):
  CH P w H' h' a (.dK kvs):=⟨z,hd,vs,rel,dd⟩
theorem WF {H':Hp} {Q:Unit→Shared→Prop} (hu:A.units+1<cLine) (I:Inv X pins σ H s) (g:fG H a y v H') (ry:AZ y u) (rv:AZ v r) (h:∀ s',Inv X pins σ H' s'→Q () s'):
  wpAny (model X.prog X.w) A (setItem (.ref a) u r) Q E s:=by
 rcases g with ⟨kvs,k,e,ey,l,eH⟩ | ⟨kvs,k,b,e,ey,eb,l,eH⟩
 ·subst ey eH
  obtain ⟨z,hd,vs,rel,dd⟩:=kR I.hok e
  have hz:vs.length≤sizeLine:=by rw [← rel.length];exact z
  have hl:(IF kvs k v).length≤sizeLine:=by have:=LB kvs k v;omega
  refine wpAny_setItem_pairs (hsz:=hz) (QZ ry) dd fun h' dd' hs=>h _ ?_
  have he:∃ q,h'.get? a=some q:=let ⟨q,_,_,hq,_⟩:=dd';⟨q,hq⟩
  exact UO I (by rw [e];exact True.intro) hs he (iA hl hd (rel.put k rv) dd')
 ·subst ey eH
  cases (show u=Value.ref b from ry)
  obtain ⟨z,hd,xs,rel,dd⟩:=jZ I.hok e
  have hz:xs.length≤sizeLine:=by rw [← Paired.length rel];exact z
  have hl:(IF kvs k v).length≤sizeLine:=by have:=LB kvs k v;omega
  refine wpAny_setItem_heap (hsz:=hz) (tupleKind_room_in1 hu) (MA I.hok eb) dd fun h' dd' hs=>h _ ?_
  obtain ⟨q,es,ep,hq,h2,h3,h4,_,h5⟩:=dd'
  refine UO I (by rw [e];exact True.intro) hs ⟨q,hq⟩ ⟨hl,hd,_,(rel.put k eb rv).keeps fun c ys ec=> ?_,q,es,ep,hq,h2,h3,h4,h5⟩
  rw [BA (kQ ec e (fun z=>nomatch z))]
  exact ec
end
section
variable {X:Cx} {pins:List (Addr×Obj)} {σ:St} {H:Hp} {s:Shared} {a:Addr} {kvs:List (Key×V)} {k:Key} {u:Value} {A:Around} {E:Value→Shared→Prop}
end
def gC (i:Expr):Prop:=∀ ov iv,subscripted i false ov iv=operate [ov,iv] (getItem ov iv)
theorem VQ {prog:Program} {w:World} {A:Around} {E:Value→Shared→Prop} {s:Shared} {env:Env} {value slice:Expr} {pos:Pos} {T id:String} {Q:Value→Shared→Prop}
  (hl:typeLookup (.type T) "__getitem__"=pure (some (.builtin id))) (hs:gC slice)
  (h:wpAny (model prog w) A (eval value env) (fun o s₁=>wpAny (model prog w) A (eval slice env) (fun i s₂=>s₂.TypeIs o T∧wpAny (model prog w) A (getItem o i) Q E s₂) E s₁) E s):
  wpAny (model prog w) A (eval (.Subscript value slice pos) env) Q E s:=by
 refine Subscript_ (wpAny_mono h (fun o s₁ h₁=>wpAny_mono h₁ (fun i s₂ h₂=> ?_) fun _ _ x=>x) fun _ _ x=>x)
 obtain ⟨hT,h₂⟩:=h₂
 unfold subscriptTail
 refine wpAny_bind ?_
 rw [getitemInPython_of_ne hT.not_modules]
 refine wpAny_bind (wpAny_specialOf hT hl ?_)
 have fin:wpAny (model prog w) A (subscripted slice false o i) (fun r s₃=>wpAny (model prog w) A (letTemporaryGo value o r >>= fun _=>pure r) Q E s₃) E s₂:=by
  rw [hs o i]
  exact wpAny_operating (wpAny_mono h₂ (fun r s₃ h₃=>wpAny_bind (wpAny_letTemporaryGo (wpAny_pure h₃))) fun _ _ x=>x)
 first
  | exact wpAny_pure (wpAny_bind fin)
  | exact wpAny_bind (wpAny_pure (wpAny_bind fin))
  | exact wpAny_bind fin
theorem QG {X:Cx} {pins:List (Addr×Obj)} {σ:St} {H:Hp} {s:Shared} {a:Addr} {y:V} {o:Option V} (I:Inv X pins σ H s) (g:YJ H a y o):s.TypeIs (.ref a) "dict":=by
 rcases g with ⟨kvs,k,e,_,_⟩ | ⟨kvs,k,b,e,_,_,_⟩
 ·obtain ⟨_,_,vs,_,dd⟩:=QH I.hok e
  exact dd.typeIs
 ·obtain ⟨_,_,xs,_,dd⟩:=RV I.hok e
  exact dd.typeIs
section
variable {X:Cx} {o i e value:Expr} {pos pos' tpos:Pos} {td ty tv:TE}
end
theorem bC {P:Program} {w:World} {H:Hp} (h:Heap) (hb:sysModules<h.objs.size):CH P w H (h.push { cls:= .type "dict",data:= .dict #[] }) h.objs.size (.dK []):=
 ⟨Nat.zero_le _,beq_eq_false_iff_ne.mpr (Ne.symm (Nat.ne_of_lt hb)),[],.nil,Heap.DictOf.new h⟩
def NG:TE:=fun _ H Q=>∀ p,H p=none→Q (.ref p) (upd H p (.dK []))
section
variable {X:Cx} {pos:Pos}
theorem bX:PE X (.Dict [] [] pos) NG:=fun pins s σ H Q I h=>
 wpAny_Dict_empty ⟨.ref s.heap.objs.size,_,I.laid (a:=s.heap.objs.size) (o:= .dK []) (t':=s.toks) (fun _ _ q=>Heap.get?_push_of_some _ q) (Nat.le_refl _) (bC s.heap I.big),rfl,h _ (I.hok.fresh (Nat.le_refl _))⟩
end
structure M1 (X:Cx) (o:Expr) (m:Str) (apos:Pos) (e:Expr) (cpos:Pos):Prop where
 base:attributeBase o m X.env (eval o X.env)=eval o X.env
 few:((backTo cpos (starEach [e] X.env)).all (fun x=> !x.1) && (backToKw cpos (keywordEach [] X.env)).all (fun x=>x.1.isSome)
  && decide (([e]:List Expr).length+([]:List Keyword).length+(if ([]:List Keyword).isEmpty then 0 else 1)<30))=true
 line:(apos.endLine == cpos.line)=true
 trees:backTo cpos (starEach [e] X.env)=[(false,eval e X.env)]
structure M2 (X:Cx) (o:Expr) (m:Str) (apos:Pos) (e f:Expr) (cpos:Pos):Prop where
 base:attributeBase o m X.env (eval o X.env)=eval o X.env
 few:((backTo cpos (starEach [e,f] X.env)).all (fun x=> !x.1) && (backToKw cpos (keywordEach [] X.env)).all (fun x=>x.1.isSome)
  && decide (([e,f]:List Expr).length+([]:List Keyword).length+(if ([]:List Keyword).isEmpty then 0 else 1)<30))=true
 line:(apos.endLine == cpos.line)=true
 trees:backTo cpos (starEach [e,f] X.env)=[(false,eval e X.env),(false,eval f X.env)]
section
variable {X:Cx} {pins:List (Addr×Obj)} {σ:St} {H:Hp} {s:Shared} {a:Addr} {y d:V} {u r:Value} {o:Option V} {A:Around} {E:Value→Shared→Prop}
end
section
variable {X:Cx} {o e f:Expr} {apos cpos:Pos} {td ty tx:TE}
end
section
variable {X:Cx} {pins:List (Addr×Obj)} {σ:St} {H:Hp} {s:Shared} {a:Addr} {kvs:List (Key×V)} {A:Around} {E:Value→Shared→Prop}
end
section
variable {X:Cx} {pins:List (Addr×Obj)} {σ:St} {H:Hp} {s:Shared} {a:Addr} {y:V} {u:Value} {A:Around} {E:Value→Shared→Prop}
end
section
variable {κ:Type} [DecidableEq κ]
end
theorem NL {prog:Program} {w:World} {A:Around} {E:Value→Shared→Prop} {s:Shared} {t sl:Addr} {items:Array Value} {vl vu:Value} {lo hi:Option Int} {Q:Value→Shared→Prop}
  (ht:IsTup s.heap t items) (hs:s.heap.IsSliceOf sl vl vu .none) (pl:IsPart vl lo) (pu:IsPart vu hi) (hw:HT.sIx items.size 0 lo=0∧HT.sIx items.size items.size hi=items.size) (q:Q (.ref t) s):
  wpAny (model prog w) A (getItem (.ref t) (.ref sl)) Q E s:=by
 walk_at "b41"
 refine wpAny_bind (wpAny_sequenceKey ht.typeIs (by decide) ?_)
 refine wpAny_bind (wpAny_callSpecial?_slot (name:=Str.ofString "__getitem__") ht.typeIs slot_tuple_getitem
  (wpAny_call_entry slot_tuple_getitem ht.typeIs entry_tuple_getitem ?_ (args_tuple_getitem _ _)))
 walk_at "b35"
 refine wpAny_bind (HT.sliceApplied_gen hs pl pu ?_)
 rw [hw.1,hw.2]
 dsimp only
 rw [if_pos (by simp)]
 unfold Builtin.Tuple.tupleIsExact
 refine wpAny_bind (wpAny_bind (wpAny_typeOf ht.typeIs (wpAny_pure ?_)))
 rw [if_pos (by decide)]
 refine wpAny_bind (wpAny_rule ?_)
 exact wpAny_pure ⟨_,rfl,wpAny_pure q⟩
def ZF (K:PySem.W.Frag):V→Option Int→Option Int→Hp→VK→Prop:=fun x lo hi H Q=>∃ a xs,x= .ref a∧SqT K H a xs∧
 ∀ p H',AI H H'→SqT K H' p (ID xs lo hi)→Q (.ref p) H'
theorem TZ {xs:List V} {lo hi:Option Int} (hw:HT.sIx xs.length 0 lo=0∧HT.sIx xs.length xs.length hi=xs.length):ID xs lo hi=xs:=by
 unfold ID
 rw [hw.1,hw.2,List.drop_zero,Nat.sub_zero,List.take_length]
section
variable {X:Cx}
theorem LM:SlR X (ZF X.K):=by
 intro pins s σ H x v vl vu lo hi sl Q I rx hs pl pu h
 obtain ⟨a,xs,rfl,hx,q⟩:=h
 by_cases hw:HT.sIx xs.length 0 lo=0∧HT.sIx xs.length xs.length hi=xs.length
 ·cases rx
  walk_at "b28"
  refine NL ht hs pl pu (by rw [hlen];exact hw) ?_
  exact ⟨.ref a,H,I,rfl,q _ _ (AI.refl H) (by rw [TZ hw];exact hx)⟩
 ·exact jD pins s σ H _ v vl vu lo hi sl Q I rx hs pl pu ⟨a,xs,rfl,hx,hw,fun p hp=>q _ _ (AI.upd hp) (SqT.of AF)⟩
end
def BK (H H':Hp):Prop:=∀ b o,H b=some o→((∃ xs,o= .tup xs)∨∃ o1 o2,o= .frz o1 o2)→H' b=some o
theorem AI.t {H H':Hp} (s:AI H H'):BK H H':=fun b o e _=>s b o e
theorem BK.refl (H:Hp):BK H H:=fun b o e _=>e
theorem BK.trans {H H' H'':Hp} (a:BK H H') (b:BK H' H''):BK H H'':=fun x o e h=>b x o (a x o e h) h
theorem BK.upd {H H':Hp} {p:Addr} {o:HO} (s:BK H H') (h:∀ u,H p=some u→¬ ((∃ xs,u= .tup xs)∨∃ o1 o2,u= .frz o1 o2)):BK H (L2.upd H' p o):=fun b u e k=>by
 by_cases hb:b=p
 ·subst hb;exact absurd k (h u e)
 ·rw [BA hb];exact s b u e k
theorem BK.tup {K:PySem.W.Frag} {H H':Hp} {a:Addr} {xs:List V} (e:BK H H') (h:SqT K H a xs):SqT K H' a xs:=by
 rcases h with (h | ⟨o,h⟩) | h
 ·exact .inl (.inl (e _ _ h (.inl ⟨_,rfl⟩)))
 ·exact .inl (.inr ⟨o,e _ _ h (.inr ⟨_,_,rfl⟩)⟩)
 ·exact .inr h
mutual
theorem Rp.t {K:PySem.W.Frag} {H H':Hp} (s:BK H H'):∀ {d:D} {v:V},Rp K H d v→Rp K H' d v
 | .int i,v,h=>by rw [Rp] at h ⊢;exact h
 | .str x,v,h=>by rw [Rp] at h ⊢;exact h
 | .non,v,h=>by rw [Rp] at h ⊢;exact h
 | .tup ds,v,h=>by
  rw [Rp] at h ⊢
  obtain ⟨p,xs,e,hs,hl⟩:=h
  exact ⟨p,xs,e,s.tup hs,RpL.t s hl⟩
theorem RpL.t {K:PySem.W.Frag} {H H':Hp} (s:BK H H'):∀ {ds:List D} {xs:List V},RpL K H ds xs→RpL K H' ds xs
 | [],xs,h=>by rw [RpL] at h ⊢;exact h
 | d::ds,xs,h=>by
  rw [RpL] at h ⊢
  obtain ⟨v,r,e,h1,h2⟩:=h
  exact ⟨v,r,e,Rp.t s h1,RpL.t s h2⟩
end
theorem RpL.app {K:PySem.W.Frag} {H:Hp}:∀ {ds es:List D} {xs ys:List V},RpL K H ds xs→RpL K H es ys→RpL K H (ds++es) (xs++ys)
 | [],es,xs,ys,h,g=>by rw [RpL] at h;subst h;exact g
 | d::ds,es,xs,ys,h,g=>by
  rw [RpL] at h
  obtain ⟨v,r,rfl,h1,h2⟩:=h
  rw [List.cons_append,List.cons_append,RpL]
  exact ⟨v,r++ys,rfl,h1,RpL.app h2 g⟩
theorem RpL.one {K:PySem.W.Frag} {H:Hp} {d:D} {v:V} (h:Rp K H d v):RpL K H [d] [v]:=by
 rw [RpL];exact ⟨v,[],rfl,h,by rw [RpL]⟩
theorem RpL.nil {K:PySem.W.Frag} {H:Hp}:RpL K H [] []:=by rw [RpL]
def But (l:List Addr) (H H':Hp):Prop:=∀ b o,H b=some o→b∉l→H' b=some o
theorem AI.but {H H':Hp} {l:List Addr} (s:AI H H'):But l H H':=fun b o e _=>s b o e
theorem But.trans {l:List Addr} {H H' H'':Hp} (a:But l H H') (b:But l H' H''):But l H H'':=fun x o e h=>b x o (a x o e h) h
theorem But.upd {l:List Addr} {H H':Hp} {p:Addr} {o:HO} (s:But l H H') (h:H p=none∨p∈l):But l H (L2.upd H' p o):=fun b u e k=>by
 have hb:b≠p:=by
  rintro rfl
  rcases h with h | h
  ·rw [h] at e;cases e
  ·exact k h
 rw [BA hb];exact s b u e k
section
variable {X:Cx} {a:Expr} {ta:TE} {pos:Pos}
end
theorem DW {H:Hp} {p:Addr} {xs:List V} (h:H p=some (.lst xs)):∀ u,H p=some u→¬ ((∃ xs,u= .tup xs)∨∃ o1 o2,u= .frz o1 o2):=fun u e=>by
 rw [h] at e;cases e
 rintro (⟨xs,e⟩ | ⟨o1,o2,e⟩)<;> cases e
theorem But.refl (l:List Addr) (H:Hp):But l H H:=fun _ _ e _=>e
theorem DL {H:Hp} {p b:Addr} {o:HO} (h:H p=some o) (g:H b=none):p≠b:=by rintro rfl;rw [h] at g;cases g
theorem NC {X:Cx}:DI X (.type "tuple") (fun xs H Q=>∃ p ys,xs=[.ref p]∧SqL X.K H p ys∧∀ l,H l=none→Q (.ref l) (upd H l (.tup ys))):=by
 walk_at "b37"
 obtain ⟨p,ys,e,hq,q⟩:=h
 exact NI pins s σ H xs us Q I r ⟨p,ys,e,.inl ⟨hq,q⟩⟩
section
variable {X:Cx}
end
section
variable {X:Cx} {st:Stmt} {DM:List Stmt} {t u:TS}
def cK {α:Sort u} (a:α):α:=a
def bJ (a b:TS):TS:=fun D σ H=>a { D with nx:=cK (b D) } σ H
theorem CD (h1:PS X st t) (h2:PSs X DM u):PSs X (st::DM) (bJ t u):=AD h1 h2
theorem fE {R:St→Hp→Prop} {σ:St} {H:Hp} (h:R σ H):cK R σ H:=h
end
def CJ (x:V) (P:Addr→Prop):Prop:=match x with | .ref a=>P a | _=>False
def EL (x:V) (P:Int→Prop):Prop:=match x with | .int a=>P a | _=>False
def oBl (x:V) (P:Bool→Prop):Prop:=match x with | .bl a=>P a | _=>False
def PC (σ:St) (i:Nat) (P:V→Prop):Prop:=match σ[i]? with | some (some v)=>P v | _=>False
def o1 (vs:List V) (P:V→Prop):Prop:=match vs with | [x]=>P x | _=>False
def o2 (vs:List V) (P:V→V→Prop):Prop:=match vs with | [x,y]=>P x y | _=>False
def o0 (vs:List V) (P:Prop):Prop:=match vs with | []=>P | _=>False
def oC (vs:List V) (P:V→List V→Prop):Prop:=match vs with | x::r=>P x r | _=>False
theorem CJ.ex {x:V} {P:Addr→Prop} (h:CJ x P):∃ a,x= .ref a∧P a:=by cases x<;> first | exact ⟨_,rfl,h⟩ | exact h.elim
theorem EL.ex {x:V} {P:Int→Prop} (h:EL x P):∃ a,x= .int a∧P a:=by cases x<;> first | exact ⟨_,rfl,h⟩ | exact h.elim
theorem oBl.ex {x:V} {P:Bool→Prop} (h:oBl x P):∃ a,x= .bl a∧P a:=by cases x<;> first | exact ⟨_,rfl,h⟩ | exact h.elim
theorem PC.ex {σ:St} {i:Nat} {P:V→Prop} (h:PC σ i P):∃ v,σ[i]? =some (some v)∧P v:=by
 unfold PC at h
 split at h
 ·exact ⟨_,‹_›,h⟩
 ·exact h.elim
theorem o1.ex {vs:List V} {P:V→Prop} (h:o1 vs P):∃ x,vs=[x]∧P x:=match vs,h with | [x],h=>⟨x,rfl,h⟩
theorem o2.ex {vs:List V} {P:V→V→Prop} (h:o2 vs P):∃ x y,vs=[x,y]∧P x y:=match vs,h with | [x,y],h=>⟨x,y,rfl,h⟩
theorem o0.ex {vs:List V} {P:Prop} (h:o0 vs P):vs=[]∧P:=match vs,h with | [],h=>⟨rfl,h⟩
theorem oC.ex {vs:List V} {P:V→List V→Prop} (h:oC vs P):∃ x r,vs=x::r∧P x r:=match vs,h with | x::r,h=>⟨x,r,rfl,h⟩
def jQ (t:TE):TE:=fun σ H Q=>∃ Q',t σ H Q'∧∀ v H',Q' v H'→Q v H'
def jL (r:R2):R2:=fun x y H Q=>∃ Q',r x y H Q'∧∀ v H',Q' v H'→Q v H'
section
variable {X:Cx} {a b c o e value tg:Expr} {es:List Expr} {ta tb tc tv te:TE} {pos pos' apos tpos p:Pos} {f x:Str}
theorem PE.mono {t:TE} (h:PE X e t):PE X e (jQ t):=fun pins s σ H Q I ⟨Q',q,m⟩=>thn (h pins s σ H Q' I q) fun _ _ ⟨v,H',I',r,z⟩=>⟨v,H',I',r,m _ _ z⟩
theorem OpR.mono {f:Value→Value→Sem Value} {r:R2} (h:OpR X f r):OpR X f (jL r):=fun pins s σ H x y v u Q I r1 r2 ⟨Q',q,m⟩=>thn (h pins s σ H x y v u Q' I r1 r2 q) fun _ _ ⟨v,H',I',r,z⟩=>⟨v,H',I',r,m _ _ z⟩
theorem OpR.imp {f:Value→Value→Sem Value} {r r':R2} (h:OpR X f r) (i:∀ x y H Q,r' x y H Q→r x y H Q):OpR X f r':=fun pins s σ H x y v u Q I r1 r2 q=>h pins s σ H x y v u Q I r1 r2 (i _ _ _ _ q)
theorem UnR.imp {f:Value→Sem Value} {r r':V→Hp→VK→Prop} (h:UnR X f r) (i:∀ x H Q,r' x H Q→r x H Q):UnR X f r':=fun pins s σ H x v Q I r1 q=>h pins s σ H x v Q I r1 (i _ _ _ q)
theorem IxR.imp {r r':R2} (h:IxR X r) (i:∀ x y H Q,r' x y H Q→r x y H Q):IxR X r':=fun value slice pins s σ H x y v u Q I r1 r2 q=>h value slice pins s σ H x y v u Q I r1 r2 (i _ _ _ _ q)
theorem PT.imp {t t':TT} (h:PT X e t) (i:∀ σ H Q,t' σ H Q→t σ H Q):PT X e t':=fun pins s σ H Q I q=>h pins s σ H Q I (i _ _ _ q)
theorem PG.imp {t t':TG} (h:PG X e t) (i:∀ v σ H Q,t' v σ H Q→t v σ H Q):PG X e t':=fun pins s σ H v u Q I r q=>h pins s σ H v u Q I r (i _ _ _ _ q)
theorem PGs.imp {t t':TGs} (h:PGs X es t) (i:∀ v σ H Q,t' v σ H Q→t v σ H Q):PGs X es t':=fun pins s σ H v u Q I r q=>h pins s σ H v u Q I r (i _ _ _ _ q)
theorem PS.imp {st:Stmt} {t t':TS} (h:PS X st t) (i:∀ D σ H,t' D σ H→t D σ H):PS X st t':=fun pins s σ H D I q=>h pins s σ H D I (i _ _ _ q)
theorem DI.imp {g:Value} {r r':List V→Hp→VK→Prop} (h:DI X g r) (i:∀ xs H Q,r' xs H Q→r xs H Q):DI X g r':=fun pins s σ H xs us Q I r1 q=>h pins s σ H xs us Q I r1 (i _ _ _ q)
theorem MtM.imp {id:String} {r r':V→List V→Hp→VK→Prop} (h:MtM X id r) (i:∀ x xs H Q,r' x xs H Q→r x xs H Q):MtM X id r':=fun pins s σ H x xs v us Q I r1 r2 q=>h pins s σ H x xs v us Q I r1 r2 (i _ _ _ _ q)
theorem PI.imp {iter:Expr} {t t':TI} (h:PI X tg iter t) (i:∀ σ H R,t' σ H R→t σ H R):PI X tg iter t':=fun pins s σ H R I q=>h pins s σ H R I (i _ _ _ q)
theorem jH.imp {t t':lA} (h:jH X t) (i:∀ o i v H Q,t' o i v H Q→t o i v H Q):jH X t':=fun pins s σ H o i' v ov iv u Q I r1 r2 r3 q=>h pins s σ H o i' v ov iv u Q I r1 r2 r3 (i _ _ _ _ _ q)
theorem SlR.imp {r r':V→Option Int→Option Int→Hp→VK→Prop} (h:SlR X r) (i:∀ x l u H Q,r' x l u H Q→r x l u H Q):SlR X r':=fun pins s σ H x v vl vu lo hi sl Q I r1 r2 r3 r4 q=>h pins s σ H x v vl vu lo hi sl Q I r1 r2 r3 r4 (i _ _ _ _ _ q)
def MD (i:Nat):TE:=fun σ H Q=>PC σ i fun v=>Q v H
theorem pvD (i:Nat) {x:Str} {pos:Pos} (hN:X.N[i]? =some x:=by rfl) (hv:Vis X.env.scope x:=by first | exact Or.inl rfl | exact Or.inr (Or.inl rfl) | exact Or.inr (Or.inr rfl)) (hd:(x == ("__debug__":Str))=false:=by decide)
  (hcd:(x == ("__classdict__":Str))=false:=by decide):PE X (.Name x pos) (MD i):=(pv i hN hv hd hcd).imp fun _ _ _ h=>PC.ex h
def tBD (t:TE):TT:=fun σ H Q=>t σ H fun x H1=>oBl x fun c=>Q c H1
theorem GO {e:Expr} {t:TE} (h:PE X e t) (he:∀ whole,isTrue e X.env whole=(do let v ← whole;standAt e.pos;holding [v] (truthy v)):=by intro _;rfl):PT X e (tBD t):=
 (gF h.mono he).imp fun _ _ _ q=>⟨_,q,fun _ _ z=>z.ex⟩
theorem AM {op:CmpOp} {r:R2} (ho:OpR X (compareOp op) r) (ha:PE X a ta) (hb:PE X b tb) (hm:behindInMarks op b=false):PT X (.Compare a [op] [b] pos) (tBD (tOp r ta tb)):=
 (eG ho.mono ha.mono hb.mono hm).imp fun _ _ _ q=>⟨_,q,fun _ _ q=>⟨_,q,fun _ _ q=>⟨_,q,fun _ _ z=>z.ex⟩⟩⟩
def MO (ta tb:TE):TE:=fun σ H Q=>ta σ H fun x H1=>oBl x fun c=>if c=true then tb σ H1 Q else Q (.bl false) H1
theorem FR {DM:List Expr} (ha:PE X a ta) (hb:PE X (.BoolOp .And (b::DM) pos) tb):PE X (.BoolOp .And (a::b::DM) pos) (MO ta tb):=
 (hU ha.mono hb).imp fun _ _ _ q=>⟨_,q,fun _ _ z=>z.ex⟩
def SE (K:PySem.W.Frag) (ta:TE) (f:Str):TE:=fun σ H Q=>ta σ H fun x H1=>CJ x fun a=>∃ C dx fs,H1 a=some (.ins C dx fs)∧Cls K C∧EJ K C f∧∃ v,fs.lookup f=some v∧Q v H1
theorem ET (he:PE X e ta) (hb:attributeBase e f X.env (eval e X.env)=eval e X.env):PE X (.Attribute e f pos) (SE X.K ta f):=
 (gE he.mono hb).imp fun _ _ _ q=>⟨_,q,fun _ _ z=>by obtain ⟨a,rfl,C,dx,fs,h1,h2,h3,v,h4,h5⟩:=z.ex;exact ⟨a,C,dx,fs,v,rfl,h1,h2,h3,h4,h5⟩⟩
def QX (K:PySem.W.Frag) (ta tv:TE) (f:Str):TS:=fun D σ H=>tv σ H fun y H1=>ta σ H1 fun x H2=>CJ x fun a=>∃ C dx fs,H2 a=some (.ins C dx fs)∧Cls K C∧EJ K C f∧fs.length<1000∧
 D.nx σ (upd H2 a (.ins C dx (GW f y fs)))
theorem LN (ha:PE X o ta) (hv:PE X value tv) (hs:swapsWith value (some (.Attribute o f pos')) pos.line X.env=pure false):PS X (.Assign [.Attribute o f pos'] value pos) (QX X.K ta tv f):=
 (jF ha.mono hv.mono hs).imp fun _ _ _ q=>⟨_,q,fun _ _ q=>⟨_,q,fun _ _ z=>by obtain ⟨a,rfl,C,dx,fs,h⟩:=z.ex;exact ⟨a,C,dx,fs,rfl,h⟩⟩⟩
def rID (C:Int→Int→Prop) (g:Int→Int→V):R2:=fun x y H Q=>EL x fun i=>EL y fun j=>C i j∧Q (g i j) H
def NM (g:Int→Int→V):R2:=fun x y H Q=>EL x fun i=>EL y fun j=>Q (g i j) H
def rUD (g:Int→V):V→Hp→VK→Prop:=fun x H Q=>EL x fun i=>Q (g i) H
theorem OpR.iD {f:Value→Value→Sem Value} {C g} (h:OpR X f (rI C g)):OpR X f (rID C g):=h.imp fun _ _ _ _ z=>by
 obtain ⟨i,rfl,z1⟩:=z.ex;obtain ⟨j,rfl,z2⟩:=z1.ex;exact ⟨i,j,rfl,rfl,z2⟩
theorem OpR.i0D {f:Value→Value→Sem Value} {g} (h:OpR X f (rI0 g)):OpR X f (NM g):=h.imp fun _ _ _ _ z=>by
 obtain ⟨i,rfl,z1⟩:=z.ex;obtain ⟨j,rfl,z2⟩:=z1.ex;exact ⟨i,j,rfl,rfl,z2⟩
theorem BO:OpR X (binaryOp .Add) (NM fun i j=> .int (i+j)):=iN.i0D
theorem DY:OpR X (binaryOp .Sub) (NM fun i j=> .int (i - j)):=iG.i0D
theorem CQ:OpR X (binaryOp .Mult) (rID (fun i j=>IntMulOk i j) fun i j=> .int (i * j)):=eO.iD
theorem DV:OpR X (binaryOp .FloorDiv) (rID (fun _ j=>0<j∧j<2 ^ 100) fun i j=> .int (i / j)):=aH.iD
theorem AV:OpR X (binaryOp .Mod) (rID (fun _ j=>0<j) fun i j=> .int (i % j)):=iU.iD
theorem HP:OpR X (binaryOp .Pow) (rID jY fun i j=> .int (i ^ j.toNat)):=fY.iD
theorem KN:OpR X (compareOp .Lt) (NM fun i j=> .bl (decide (i<j))):=kP.i0D
theorem HG:OpR X (compareOp .LtE) (NM fun i j=> .bl (decide (i≤j))):=jS.i0D
theorem GM:OpR X (compareOp .Gt) (NM fun i j=> .bl (decide (j<i))):=lH.i0D
theorem OR:UnR X (unaryOp .USub) (rUD fun i=> .int (-i)):=aZ.imp fun _ _ _ z=>z.ex
def IX (x y:V) (P:Bool→Prop):Prop:=match x with
 | .int i=>(match y with | .int j=>P (decide (i=j)) | .str _=>P false | .non=>P false | _=>False)
 | .str i=>(match y with | .str j=>P (decide (i=j)) | .int _=>P false | .non=>P false | _=>False)
 | .bl i=>(match y with | .bl j=>P (decide (i=j)) | .str _=>P false | .non=>P false | _=>False)
 | .non=>(match y with | .non=>P true | .int _=>P false | .bl _=>P false | .str _=>P false | _=>False)
 | _=>False
theorem IX.ex {x y:V} {P:Bool→Prop} (h:IX x y P):fZ x y=true∧P (decide (x=y)):=by
 cases x<;> cases y<;> first | exact h.elim | exact ⟨rfl,by simpa [IX] using h⟩
def YR:R2:=fun x y H Q=>IX x y fun k=>Q (.bl k) H
def aY:R2:=fun x y H Q=>IX x y fun k=>Q (.bl (!k)) H
theorem BS:OpR X (compareOp .Eq) YR:=jK.imp fun _ _ _ _ z=>z.ex
theorem fX:OpR X (compareOp .NotEq) aY:=kU.imp fun _ _ _ _ z=>z.ex
def OJ (K:PySem.W.Frag):R2:=fun x y H Q=>CJ x fun p=>EL y fun i=>∃ xs,SqL K H p xs∧∃ v,atI xs i=some v∧Q v H
def LY (K:PySem.W.Frag):R2:=fun x y H Q=>CJ x fun p=>EL y fun i=>∃ xs,SqT K H p xs∧∃ v,atI xs i=some v∧Q v H
theorem BJ:IxR X (OJ X.K):=cS.imp fun _ _ _ _ z=>by
 obtain ⟨p,rfl,z1⟩:=z.ex;obtain ⟨j,rfl,xs,h1,v,h2,h3⟩:=z1.ex;exact ⟨p,xs,j,v,rfl,rfl,h1,h2,h3⟩
theorem DF:IxR X (LY X.K):=gR.imp fun _ _ _ _ z=>by
 obtain ⟨p,rfl,z1⟩:=z.ex;obtain ⟨j,rfl,xs,h1,v,h2,h3⟩:=z1.ex;exact ⟨p,xs,j,v,rfl,rfl,h1,h2,h3⟩
def QS:TGs:=fun vs σ H Q=>o0 vs (Q σ H)
def MT (t:TG) (u:TGs):TGs:=fun vs σ H Q=>oC vs fun v r=>t v σ H fun σ' H'=>u r σ' H' Q
def NT (K:PySem.W.Frag) (n:Nat) (t:TGs):TG:=fun v σ H Q=>CJ v fun a=>∃ xs,SqT K H a xs∧xs.length=n∧t xs σ H Q
theorem EA:PGs X [] QS:=cV.imp fun _ _ _ _ z=>z.ex
theorem BB {e:Expr} {es:List Expr} {t:TG} {u:TGs} (h1:PG X e t) (h2:PGs X es u)
  (hs:(assignEach (e::es) X.env).map (·.2)=assign e X.env::(assignEach es X.env).map (·.2):=by rfl):PGs X (e::es) (MT t u):=(bW h1 h2 hs).imp fun _ _ _ _ z=>z.ex
theorem FO {es:List Expr} {k:Nat} {t:TGs} {n:Nat} (hc:X.calm=true) (h:PGs X es t)
  (hn:(assignEach es X.env).length=n:=by rfl) (hst:(assignEach es X.env).findIdx? (·.1)=none:=by rfl):PG X (.Tuple es k pos) (NT X.K n t):=
 (gP hc h hn hst).imp fun _ _ _ _ z=>by obtain ⟨a,rfl,xs,z⟩:=z.ex;exact ⟨a,xs,rfl,z⟩
def MM (K:PySem.W.Frag) (tl:TE):TI:=fun σ H R=>tl σ H fun x H1=>CJ x fun a=>(∃ xs,SqL K H1 a xs)∧R (Itl K a) H1
def RU (K:PySem.W.Frag) (tl:TE):TI:=fun σ H R=>tl σ H fun x H1=>CJ x fun a=>(∃ xs,SqT K H1 a xs)∧R (Itt K a) H1
theorem LU {l:Expr} {tl:TE} (hl:PE X l tl):PI X tg l (MM X.K tl):=(cN hl.mono).imp fun _ _ _ q=>⟨_,q,fun _ _ z=>z.ex⟩
theorem GN {l:Expr} {tl:TE} (hl:PE X l tl):PI X tg l (RU X.K tl):=(gQ hl.mono).imp fun _ _ _ q=>⟨_,q,fun _ _ z=>z.ex⟩
def ZJ:List V→Hp→VK→Prop:=fun xs H Q=>o2 xs fun x y=>EL x fun i=>EL y fun j=>Q (.int (if j > i then j else i)) H
def YK:List V→Hp→VK→Prop:=fun xs H Q=>o2 xs fun x y=>EL x fun i=>EL y fun j=>Q (.int (if j<i then j else i)) H
def aO (K:PySem.W.Frag):List V→Hp→VK→Prop:=fun xs H Q=>o1 xs fun x=>CJ x fun p=>∃ ys,(SqL K H p ys∨SqT K H p ys)∧Q (.int ys.length) H
def QP (K:PySem.W.Frag):List V→Hp→VK→Prop:=fun xs H Q=>o1 xs fun x=>CJ x fun p=>∃ ys,SqL K H p ys∧∀ l,H l=none→Q (.ref l) (upd H l (.tup ys))
theorem SZ (hc:X.calm=true):DI X (.builtin "max") ZJ:=(XA hc).imp fun _ _ _ z=>by
 obtain ⟨x,y,rfl,z1⟩:=z.ex;obtain ⟨i,rfl,z2⟩:=z1.ex;obtain ⟨j,rfl,z3⟩:=z2.ex;exact ⟨i,j,rfl,z3⟩
theorem UA (hc:X.calm=true):DI X (.builtin "min") YK:=(WU hc).imp fun _ _ _ z=>by
 obtain ⟨x,y,rfl,z1⟩:=z.ex;obtain ⟨i,rfl,z2⟩:=z1.ex;obtain ⟨j,rfl,z3⟩:=z2.ex;exact ⟨i,j,rfl,z3⟩
theorem AS:DI X (.builtin "len") (aO X.K):=OQ.imp fun _ _ _ z=>by
 obtain ⟨x,rfl,z1⟩:=z.ex;obtain ⟨p,rfl,ys,z2⟩:=z1.ex;exact ⟨p,ys,rfl,z2⟩
theorem BX:DI X (.type "tuple") (QP X.K):=NC.imp fun _ _ _ z=>by
 obtain ⟨x,rfl,z1⟩:=z.ex;obtain ⟨p,rfl,ys,z2⟩:=z1.ex;exact ⟨p,ys,rfl,z2⟩
def YG (K:PySem.W.Frag) (c:Value):List V→Hp→VK→Prop:=fun xs H Q=>o2 xs fun x y=>AZ y c∧(∃ n,c= .type n)∧∃ ty,(IM K H x ty∨∃ p,x= .ref p∧(∃ ys,SqT K H p ys)∧ty= .type "tuple")∧∃ b,PySem.W.kitOne K ty c=some b∧Q (.bl b) H
theorem BT {c:Value}:DI X (.builtin "isinstance") (YG X.K c):=WP.imp fun _ _ _ z=>by
 obtain ⟨x,y,rfl,h1,h2,ty,h3,h4⟩:=z.ex
 exact ⟨x,y,rfl,h1,h2,ty,h3.imp id fun ⟨p,e,⟨ys,h⟩,h'⟩=>⟨p,ys,e,h,h'⟩,h4⟩
def GY:V→List V→Hp→VK→Prop:=fun x vs H Q=>CJ x fun l=>o1 vs fun y=>∃ xs,H l=some (.lst xs)∧xs.length<sizeLine∧Q .non (upd H l (.lst (xs++[y])))
theorem DO:MtM X "list.append" GY:=JT.imp fun _ _ _ _ z=>by
 obtain ⟨l,rfl,z1⟩:=z.ex;obtain ⟨y,rfl,xs,z2⟩:=z1.ex;exact ⟨l,xs,y,rfl,rfl,z2⟩
end
section
variable {X:Cx} {pins:List (Addr×Obj)} {σ:St} {H:Hp} {s:Shared}
theorem SD:∀ (ds es:List D),ds.length≠es.length→deqL ds es=false
 | [],[],h=>absurd rfl h
 | [],e::es,_=>by simp [deqL]
 | d::ds,[],_=>by simp [deqL]
 | d::ds,e::es,h=>by rw [deqL,SD ds es (by simpa using h),Bool.and_false]
def bF (K:PySem.W.Frag) (ne:Bool):R2:=fun x y H Q=>CJ x fun p=>CJ y fun q=>∃ xs ys ds es,SqL K H p xs∧SqL K H q ys∧RpL K H ds xs∧RpL K H es ys∧depL ds≤60∧Q (.bl (if ne then !deqL ds es else deqL ds es)) H
theorem hV (hu:X.A.units+64<cLine):OpR X (compareOp .NotEq) (bF X.K true):=by
 walk_at "b7"
 obtain ⟨p,rfl,h2⟩:=CJ.ex h
 obtain ⟨p',rfl,xs,xs',ds,es,hs,hs',hl,hl',hd,q⟩:=CJ.ex h2
 cases rx
 cases ry
 obtain ⟨its,rv,ht,_⟩:=I.list hs
 obtain ⟨its',rv',ht',_⟩:=I.list hs'
 walk_at "b53"
 by_cases hn:ds.length=es.length
 ·refine SeqAt.RcNeAt.lists (e:=fun j=>deq (ds.getD j .non) (es.getD j .non)) ht.isList ht'.isList (by simp [l1,l2,hn]) (by omega) (fun j h1 h2=>eqAtL_D I hl hl' rv rv' (show X.A.in1.units+depL ds<cLine by show X.A.units+1+depL ds<cLine;omega) j (by simpa using h1) (by simpa using h2)) X.prog X.w X.xe _ ?_
  exact BH I q (by
   simp only [if_true]
   rw [← IK]
   simp only [List.size_toArray,l1,hn,Nat.min_self,beq_self_eq_true,Bool.and_true])
 ·refine SeqAt.RcNeAt.lists_lengths ht.isList ht'.isList (by simp [l1,l2,hn]) (by omega) X.prog X.w X.xe _ ?_
  exact BH I q (by simp only [if_true];rw [SD _ _ hn];rfl)
end
theorem TV:typeLookup (.type "list_reverseiterator") "__len__"=pure none:=by rw [typeLookup_type,builtinLookup_eq_fast];kernel_rfl
theorem YB:typeLookup (.type "list_reverseiterator") "__length_hint__"=pure (some (.builtin "list_reverseiterator.__length_hint__")):=by rw [typeLookup_type,builtinLookup_eq_fast];kernel_rfl
section
variable {prog:Program} {w:World} {A:Around} {s:Shared} {E:Value→Shared→Prop} {R:Result→Shared→Prop} {I l:Addr} {items:Array Value}
theorem bS {Q:Bool→Shared→Prop} (hT:s.TypeIs (.ref I) "list_reverseiterator") (h:Q false s):wpAny (model prog w) A (Builtin.List.listLengthHint (.ref I)) Q E s:=by
 unfold Builtin.List.listLengthHint
 refine wpAny_bind (wpAny_specialOf hT TV ?_)
 show wpAny _ _ (specialOf (Value.ref I) (Str.ofString "__length_hint__") >>= _) _ _ _
 refine wpAny_bind (wpAny_specialOf hT YB ?_)
 generalize hid:("list_reverseiterator.__length_hint__":String)=id0
 wp_delta
 rw [show splitId id0=some ("list_reverseiterator","__length_hint__") from by subst hid;decide+kernel]
 subst hid
 refine wpAny_bind (wpAny_isInstance (T:="list_reverseiterator") (b:=true) hT (by rw [isSubtype_type];kernel_rfl) ?_)
 refine wpAny_ite_split (fun hab=>absurd hab (by decide)) (fun _=> ?_)
 refine wpAny_ite_split (fun _=> ?_) (fun hab=>absurd (by decide+kernel) hab)
 refine wpAny_ite_split (fun hab=>absurd hab (by decide)) (fun _=> ?_)
 exact wpAny_pure h
theorem fH (hh:A.handled=none) (hne:l≠I) (S:Addr) (hSI:S≠I) (hSl:S≠l) (res:Value) (c₀:Nat) (hit:s.heap.IsRevIter I l ((items.size:Int) - 1)) (hl:s.heap.IsList l items)
  (hS:s.heap.get? S=some { cls:= .type "list",data:= .seq #[] c₀ }) (hn:items.size≤sizeLine)
  (hR:∀ h' tk acc' c',(∀ b o,b≠S→b≠I→s.heap.get? b=some o→h'.get? b=some o)→h'.get? S=some { cls:= .type "list",dict:=none,data:= .seq acc' c',slots:= #[] }→
   ItemsOf (fun i v=>items[items.size - 1 - i]? =some v) acc' items.size→R (.ok (.ret res)) { s with heap:=h',toks:=tk }):
  wpAny (model prog w) A.in1 (Builtin.List.listExtendWith (.ref S) (.ref I) res)
   (fun fin s'=>match fin with | .done f=>R (.ok f) s' | .again c'=>c'.quiet=true∧codeAny (model prog w) A c' R s') (fun e s'=>R (.error e) s') s:=by
 have hSf:S∉[I,l]:=by simp only [List.mem_cons,List.not_mem_nil,or_false,not_or];exact ⟨hSI,hSl⟩
 have W:=Walks.listRev (prog:=prog) (w:=w) (A:=A.in1) hh I l hne items
 have st:∀ h:Heap,h.IsRevIter I l ((items.size:Int) - 1)→h.IsList l items→0≤items.size∧h.IsRevIter I l ((items.size:Int) - 1 - ((0:Nat):Int))∧h.IsList l items:=fun h h1 h2=>⟨Nat.zero_le _,by rw [show (items.size:Int) - 1 - ((0:Nat):Int)=(items.size:Int) - 1 by omega];exact h1,h2⟩
 have key:∀ (h:Heap) (c₁ tk:Nat),h.IsRevIter I l ((items.size:Int) - 1)→h.IsList l items→(∀ b o,b≠S→s.heap.get? b=some o→h.get? b=some o)→
   h.get? S=some { cls:= .type "list",data:= .seq #[] c₁ }→codeAny (model prog w) A (.builtin "list.extend.loop" ⟨[.ref S,.ref I,res],[]⟩) R { s with heap:=h,toks:=tk }:=by
  intro h c₁ tk h1 h2 hk hS₁
  refine codeAny_extend_loopS W.toS hn S hSf res items.size 0 _ #[] c₁ rfl (Nat.zero_le _) (st h h1 h2) hS₁ (ItemsOf.nil _) fun s' acc' c' hm hS' hacc=> ?_
  rw [Moved.eq_with hm]
  refine hR s'.heap s'.toks acc' c' (fun b o hb hI e=>hm.heap b o (fun hmem=> ?_) (hk b o hb e)) hS' hacc
  rcases List.mem_cons.mp hmem with e' | hmem
  ·exact hb e'
  ·exact hI (List.mem_singleton.mp hmem)
 unfold Builtin.List.listExtendWith
 refine wpAny_bind (wpAny_typeOf (T:="list_reverseiterator") hit.typeIs ?_)
 have h1:Builtin.List.listSameRef (.ref S) (.ref I)=false:=by simp [Builtin.List.listSameRef,hSI]
 have h2:(Value.type "list_reverseiterator" == Value.type "list")=false:=by decide
 have h3:(Value.type "list_reverseiterator" == Value.type "tuple")=false:=by decide
 simp only [h1,h2,h3,Bool.or_false,Bool.false_eq_true,if_false]
 refine wpAny_bind (wpAny_pyIter_revIter hit ?_)
 refine wpAny_bind (wpAny_holding (bS hit.typeIs ?_))
 refine wpAny_ite_split (fun _=> ?_) (fun _=>wpAny_pure ⟨plainId_quiet F.plain_extend_loop _,key _ c₀ _ hit hl (fun b o _ e=>e) hS⟩)
 refine wpAny_bind (wpAny_rule ?_)
 refine wpAny_bind ?_
 show wpAny _ _ (updateSeq S (·.push .none) >>= fun _=>updateSeq S (·.pop)) _ _ _
 refine wpAny_bind (wpAny_updateSeq hS rfl ?_)
 have hS₂:=Heap.get?_update_self (Obj.mapSeq (·.push Value.none)) hS rfl
 refine wpAny_updateSeq (hz:=by seq_fits) hS₂ rfl ?_
 have hS₃:=Heap.get?_update_self (Obj.mapSeq (·.pop)) hS₂ rfl
 have oth:∀ b o,b≠S→s.heap.get? b=some o→((s.heap.update S (Obj.mapSeq (·.push Value.none))).update S (Obj.mapSeq (·.pop))).get? b=some o:=
  fun b o hb e=>(Heap.get?_update_other _ _ (Ne.symm hb)).trans ((Heap.get?_update_other _ _ (Ne.symm hb)).trans e)
 obtain ⟨oi,e1,e2,e3⟩:=id hit
 exact wpAny_pure ⟨plainId_quiet F.plain_extend_loop _,key _ _ _ ⟨oi,oth I oi (Ne.symm hSI) e1,e2,e3⟩ (hl.at fun o e=>oth l o (Ne.symm hSl) e) (fun b o hb e=>oth b o hb e) hS₃⟩
theorem YC (hh:A.handled=none) (hne:l≠I) (S:Addr) (hSI:S≠I) (hSl:S≠l) (hit:s.heap.IsRevIter I l ((items.size:Int) - 1)) (hl:s.heap.IsList l items)
  (hS:s.heap.get? S=some { cls:= .type "list",data:= .seq #[] }) (hn:items.size≤sizeLine)
  (hR:∀ h' tk acc' c',(∀ b o,b≠S→b≠I→s.heap.get? b=some o→h'.get? b=some o)→h'.get? S=some { cls:= .type "list",dict:=none,data:= .seq acc' c',slots:= #[] }→
   ItemsOf (fun i v=>items[items.size - 1 - i]? =some v) acc' items.size→R (.ok (.ret .none)) { s with heap:=h',toks:=tk }):
  wpAny (model prog w) A.in1 (Builtin.«list.__init__» ⟨[.ref S,.ref I],[]⟩)
   (fun fin s'=>match fin with | .done f=>R (.ok f) s' | .again c'=>c'.quiet=true∧codeAny (model prog w) A c' R s') (fun e s'=>R (.error e) s') s:=by
 show wpAny _ A.in1 (do let old ← Builtin.List.listItems (.ref S);Builtin.List.listUpdate (.ref S) (fun _=> #[]);letGo old.toList.reverse;Builtin.List.listExtendWith (.ref S) (.ref I) .none) _ _ s
 refine wpAny_bind ?_
 unfold Builtin.List.listItems
 refine wpAny_bind (wpAny_seqItems hS rfl (wpAny_pure ?_))
 show wpAny _ A.in1 (updateSeq S (fun _=> #[]) >>= fun _=>letGo (#[]:Array Value).toList.reverse >>= fun _=>Builtin.List.listExtendWith (.ref S) (.ref I) .none) _ _ s
 refine wpAny_bind (wpAny_updateSeq hS rfl ?_)
 have hS₂:=Heap.get?_update_self (Obj.mapSeq (fun _=>(#[]:Array Value))) hS rfl
 have oth:∀ b o,b≠S→s.heap.get? b=some o→(s.heap.update S (Obj.mapSeq (fun _=>(#[]:Array Value)))).get? b=some o:=
  fun b o hb e=>(Heap.get?_update_other _ _ (Ne.symm hb)).trans e
 refine wpAny_bind (wpAny_letGo ?_)
 obtain ⟨oi,e1,e2,e3⟩:=id hit
 refine fH hh hne S hSI hSl .none _ ⟨oi,oth I oi (Ne.symm hSI) e1,e2,e3⟩ (hl.at fun o e=>oth l o (Ne.symm hSl) e) hS₂ hn fun h' tk acc' c' hk hS' hacc=> ?_
 exact hR h' tk acc' c' (fun b o hb hI e=>hk b o hb hI (oth b o hb e)) hS' hacc
theorem NP {Q:Value→Shared→Prop} (hh:A.handled=none) (hne:l≠I) (hit:s.heap.IsRevIter I l ((items.size:Int) - 1)) (hl:s.heap.IsList l items) (hn:items.size≤sizeLine)
  (hQ:∀ h' tk c',(∀ b o,b≠I→s.heap.get? b=some o→h'.get? b=some o)→h'.get? s.heap.objs.size=some { cls:= .type "list",dict:=none,data:= .seq items.reverse c',slots:= #[] }→Q (.ref s.heap.objs.size) { s with heap:=h',toks:=tk }):
  wpAny (model prog w) A (call (.type "list") [.ref I]) Q E s:=by
 obtain ⟨oi,e1,e2,e3⟩:=id hit
 obtain ⟨ol,f1,f2,nn,f3⟩:=id hl
 have hSI:s.heap.objs.size≠I:=Nat.ne_of_gt (Heap.lt_size e1)
 have hSl:s.heap.objs.size≠l:=Nat.ne_of_gt (Heap.lt_size f1)
 refine callType_codes (Q₁:=fun obj s₁=>obj= .ref s.heap.objs.size∧s₁={ s with heap:=s.heap.push { cls:= .type "list",data:= .seq #[] } }) F.called_list (F.typeCall_list_1 _) F.entry_list_init
  (code_list_new _ ⟨rfl,rfl⟩) fun obj s₁ h₁=> ?_
 obtain ⟨rfl,rfl⟩:=h₁
 have hS:(s.heap.push { cls:= .type "list",data:= .seq #[] }).get? s.heap.objs.size=some { cls:= .type "list",data:= .seq #[] }:=Heap.get?_push_size _ rfl
 refine ⟨⟨_,hS,rfl⟩,F.args_list_init_2 _ _,YC (A:=A.in1) (show A.in1.handled=none from hh) hne _ hSI hSl ⟨oi,Heap.get?_push_of_some _ e1,e2,e3⟩ (hl.at fun o e=>Heap.get?_push_of_some _ e) hS hn fun h' tk acc' c' hk hS' hacc=> ?_⟩
 refine ⟨rfl,hQ h' tk c' (fun b o hb e=>hk b o (Nat.ne_of_lt (Heap.lt_size e)) hb (Heap.get?_push_of_some _ e)) ?_⟩
 have ea:acc'=items.reverse:=by
  obtain ⟨z1,z2⟩:=hacc
  refine Array.ext (by rw [z1,Array.size_reverse]) fun i h1 h2=> ?_
  have z:items[items.size - 1 - i]? =some acc'[i]:=z2 i acc'[i] (Array.getElem?_eq_getElem h1)
  rw [Array.getElem_reverse]
  have hi:items.size - 1 - i<items.size:=by rw [z1] at h1;omega
  rw [Array.getElem?_eq_getElem hi] at z
  exact (Option.some.inj z).symm
 rw [← ea];exact hS'
end
section
variable {X:Cx} {e:Expr} {te:TE} {p p' pos pos':Pos}
def bO (K:PySem.W.Frag) (te:TE):TE:=fun σ H Q=>te σ H fun x H1=>CJ x fun a=>∃ xs,SqL K H1 a xs∧∀ l,H1 l=none→Q (.ref l) (upd H1 l (.lst xs.reverse))
theorem TQ (hc:X.calm=true) (hgl:Gl X "list") (hml:X.mg "list"=none) (hgr:Gl X "reversed") (hmr:X.mg "reversed"=none) (ha:PE X e te)
  (he:starEach [.Call (.Name "reversed" p') [e] [] pos'] X.env=[(false,eval (.Call (.Name "reversed" p') [e] [] pos') X.env)]:=by rfl)
  (he':starEach [e] X.env=[(false,eval e X.env)]:=by rfl):
  PE X (.Call (.Name "list" p) [.Call (.Name "reversed" p') [e] [] pos'] [] pos) (bO X.K te):=by
 walk_at "b18"
 refine wpAny_Call_Name_kw (HH I hgl hml rfl ?_ (by decide) (by decide))
 refine PyProof.Rows.callWith_type1 ?_ he rfl
 rw [he]
 refine Calls.spliced_cons ?_
 refine wpAny_Call_Name_kw (HH I hgr hmr rfl ?_ (by decide) (by decide))
 refine PyProof.Rows.callWith_type1 ?_ he' rfl
 rw [he']
 refine Calls.spliced_cons (thn (ha pins s σ H _ I h) fun u s1 ⟨x,H1,I1,r1,q1⟩=>Calls.spliced_nil ?_)
 obtain ⟨a,rfl,xs,hq,q⟩:=CJ.ex q1
 cases r1
 obtain ⟨its,rv,pl,hz⟩:=I1.list hq
 have hl:=pl.isList
 obtain ⟨ol,f1,f2,nn,f3⟩:=id hl
 refine call_reversed_list hl ?_
 refine Calls.spliced_nil ?_
 have hne:a≠s1.heap.objs.size:=Nat.ne_of_lt (Heap.lt_size f1)
 refine NP (l:=a) (I:=s1.heap.objs.size) (items:=its.toArray) ?_ hne ⟨_,Heap.get?_push_size _ rfl,rfl,rfl⟩ (hl.at fun o e=>Heap.get?_push_of_some _ e) (by rw [List.size_toArray,← rv.length];exact hz) fun h' tk c' hk hS'=> ?_
 ·exact I1.ok.hd hc
 ·have hp:s1.heap.objs.size≤(s1.heap.push (revObj a ((its.toArray.size:Int) - 1))).objs.size:=by rw [Heap.size_push];exact Nat.le_succ _
  refine ⟨.ref _,_,I1.laid (t':=tk) (o:= .lst xs.reverse) (fun b o e=>hk b o (Nat.ne_of_lt (Heap.lt_size e)) (Heap.get?_push_of_some _ e)) hp ?_,rfl,q _ (I1.hok.fresh hp)⟩
  refine ⟨by rw [List.length_reverse];exact hz,its.reverse,c',rv.reverse,?_⟩
  rw [hS',List.reverse_toArray]
end
section
variable {X:Cx} {K:PySem.W.Frag} {pos:Pos}
theorem UZ {es:List Expr} {k:Nat} {t:TGs} {n:Nat} (hK:X.K=K) (hc:X.calm=true) (h:PGs X es t)
  (hn:(assignEach es X.env).length=n:=by rfl) (hst:(assignEach es X.env).findIdx? (·.1)=none:=by rfl):PG X (.Tuple es k pos) (NT K n t):=hK ▸ FO hc h hn hst
theorem HL (hK:X.K=K):IxR X (LY K):=hK ▸ DF
theorem WI (hK:X.K=K):IxR X (OJ K):=hK ▸ BJ
end
def NE (t:TE):TO:=fun σ H Q=>t σ H fun x H1=>EL x fun i=>Q (some i) H1
theorem PO.imp {X:Cx} {e:Option Expr} {t t':TO} (h:PO X e t) (i:∀ σ H Q,t' σ H Q→t σ H Q):PO X e t':=fun pins s σ H Q I q=>h pins s σ H Q I (i _ _ _ q)
theorem JG {X:Cx} {e:Expr} {te:TE} (h:PE X e te):PO X (some e) (NE te):=(eP h.mono).imp fun _ _ _ q=>⟨_,q,fun _ _ z=>z.ex⟩
def SB:R2:=fun x y H Q=>CJ x fun l=>CJ y fun b=>∃ xs,H l=some (.lst xs)∧∃ zs,H b=some (.lst zs)∧xs.length+zs.length≤sizeLine∧∀ p,H p=none→Q (.ref p) (upd H p (.lst (xs++zs)))
theorem PP {X:Cx}:OpR X (binaryOp .Add) SB:=gS.imp fun _ _ _ _ z=>by
 obtain ⟨l,rfl,z1⟩:=z.ex;obtain ⟨b,rfl,xs,h1,zs,h2,h3⟩:=z1.ex;exact ⟨l,b,xs,zs,rfl,rfl,h1,h2,h3⟩
section
variable {X:Cx}
theorem VU {elt iter tg:Expr} {ifs:List Expr} {scope sc:Scope} {pos spos py:Pos} {y:Str} {i:Nat} {wi:TI} {g:TG} {tt:TT} {te:TE} {N0 N os:List Str} {js:List Nat}
  (hNd:X.N.Nodup) (hiN:X.N[i]? =some y) (hx:Loc X.env.scope y) (hc:X.calm=true) (hsc:X.env.scope=sc) (hN:X.N=N0) (ok:TR scope sc N0 js os N) (hi:PI X tg iter wi)
  (hg:∀ s₃ H₃ fp cl,PG (cxC X scope cl N s₃ H₃ fp) tg g) (ht:∀ s₃ H₃ fp cl,XL (cxC X scope cl N s₃ H₃ fp) ifs tt) (he:∀ s₃ H₃ fp cl,PE (cxC X scope cl N s₃ H₃ fp) elt te)
  (hs:∀ x,foldedSetIterable iter X.env x=pure x:=by intro _;rfl) (hsw:swapsWith (.ListComp elt [⟨tg,iter,ifs,0⟩] scope pos) (some (.Name y py)) spos.line X.env=pure true:=by rfl)
  (hf:X.fn y=true∨X.env.scope.names.lookup y=some .local:=by first | exact .inl rfl | exact .inr rfl | assumption):
  PS X (.Assign [.Name y py] (.ListComp elt [⟨tg,iter,ifs,0⟩] scope pos) spos) (TN (YS js os wi g tt te) (LD i)):=by
 walk_at "b56"
 rw [exec_Assign_Name_used _ _ _ _ hsw]
 refine wpAny_bind (wpAny_standAt (wpAny_bind ?_))
 show wpAny _ X.A (do let _ ← comprehension (.ListComp elt [⟨tg,iter,ifs,0⟩] scope pos) scope X.env _ (newList []) false (eval iter X.env) (some (assign (.Name y py) X.env))) _ _ s
 have hfree:∀ y∈scope.names,y.2= .free→∃ c,X.env.cells.lookup y.1=some c:=fun y hy e=>I.ok.has _ (by
  have:=ok.free y hy e
  rw [← hsc] at this
  exact this)
 refine wpAny_bind (wpAny_mono (wpAny_comprehension_free (use:=some (assign (.Name y py) X.env)) (Q:=fun _ s'=>SP X pins D .next s') rfl hs (VS hfree) ok.kind ok.names (thn (hi pins s σ H _ I h) fun v s1 h1=>thn h1 fun itv s2 h2=> ?_)) (fun _ s' hq=>wpAny_pure (wpAny_pure hq)) fun _ _ e=>e)
 walk_at "b1"
 have lt2:∀ b∈fp,b<s2.heap.objs.size:=fun b hb=>by
  obtain ⟨o,q,_⟩:=T.obj _ _ st2 b hb
  exact Heap.lt_size q
 walk_at "b2"
 have stat:∀ {H':Hp},(∀ b∈fp,H' b=none)→∀ b∈fp,KM X' [] H' b:=fun {H'} hn b hb=>by
  walk_at "b49"
  ·rcases List.mem_cons.mp (I2.stkSub b z) with q | q
   ·exact (f2 b hb).2.1 q
   ·exact (f2 b hb).2.2.1 q
  ·exact (f2 b hb).2.2.2.2.1 x c (HK (cells:=X.env.cells) scope.names [] hfree (fun _ _ e=>by cases e) _ _ e)
 walk_at "b3"
 have fin:∀ {σ':St} {H':Hp} {s':Shared},Inv X' [] σ' H' s'→(∀ b∈fp,H' b=none)→D.nx (σ.set i (some (.ref s2.heap.objs.size))) H'→compPost (model X.prog X.w) X.A X.xe (some (assign (.Name y py) X.env)) (fun _ s'=>SP X pins D .next s') (.ref s2.heap.objs.size) s₃.heap.objs.size (.ok .next) s':=by
  intro σ' H' s' I' hn q
  obtain ⟨m,hm,_⟩:=id I'.loc
  subst hX'
  have fC:H' s₃.heap.objs.size=none:=I'.free
  have u1:Un (frs X.stack) fp (upd H1 s2.heap.objs.size (.lst [])) H' s₃.heap s'.heap:=by
   have b0:=I'.base
   exact ⟨fun b o e n hb hx=>b0.keep b o e n hb hx,fun b o e n hb hx=>b0.slot b o e n hb hx,b0.free,fun b o e hx=>b0.there b o e hx,b0.tups,b0.frzs,b0.tbls⟩
  have Ip:=I3.call' (s':=s') (ch:=fp) I'.os u1 I'.hok I'.bare fun b hb=>⟨(f2 b hb).2.2.2.1,(f2 b hb).2.1,(f2 b hb).2.2.2.2.1,(f2 b hb).2.2.2.2.2⟩
  have cl:X.env.locals≠s₃.heap.objs.size:=Nat.ne_of_lt I3.lt
  have cc:∀ x c,X.env.cells.lookup x=some c→c≠s₃.heap.objs.size:=fun x c e=>by
   obtain ⟨v,o,ho,_⟩:=I3.cell x c e
   exact Nat.ne_of_lt (Heap.lt_size ho)
  show wpAny (model X.prog X.w) X.A (assign (.Name y py) X.env (.ref s2.heap.objs.size)) _ _ s'
  refine wpAny_assign_Name (OE Ip hNd hiN hx (v:= .ref s2.heap.objs.size) rfl (fun s'' I'' ⟨a,sa,ha⟩=> ?_) hf)
  have na:s₃.heap.objs.size≠a:=by
   rcases ha with ha | ha
   ·rw [ha];exact Ne.symm cl
   ·exact Ne.symm (cc _ _ ha)
  refine ⟨m,hm.sameBut sa na,fun h3 sb=>⟨_,H',?_,q⟩⟩
  have hok':HOk X.prog X.w H' h3:=fun b ob e=>by
   refine (I''.hok b ob e).stay (fun c w' hc' q'=>(sb.2 c ?_).trans q') (fun _ q'=>q') fun _ _ q'=>q'
   rintro rfl
   rcases hc' with z | z
   ·have e':=e;rw [← z] at e';rw [fC] at e';cases e'
   ·rw [fC] at z;cases z
  have u2:Un (frs X.stack) [s₃.heap.objs.size] H' H' s''.heap h3:=
   have ne:∀ b,b∉[s₃.heap.objs.size]→b≠s₃.heap.objs.size:=fun b hb e=>hb (by rw [e];exact List.mem_singleton_self _)
   ⟨fun b o e n hb hx=>(sb.2 b (ne b hx)).trans e,fun b o e n hb hx=>⟨o.slots,(sb.2 b (ne b hx)).trans e⟩,fun b o e n hx=>n,fun b o e hx=>⟨o,(sb.2 b (ne b hx)).trans e⟩,fun b xs e=>e,fun b o u e=>e,fun b ps e=>⟨#[],by rw [e];simp⟩⟩
  exact I''.call' (s':={ s'' with heap:=h3 }) (ch:=[s₃.heap.objs.size]) rfl u2 hok' I''.bare fun b hb=>by
   rw [List.mem_singleton.mp hb]
   exact ⟨.inr I3.sz,Ne.symm cl,cc,fun p hp e=>absurd (Heap.lt_size (I3.pin p hp).1) (by rw [e];exact Nat.lt_irrefl _)⟩
 have loop:codeAny (model X.prog X.w) X.A (.compLoop (.ListComp elt [⟨tg,iter,ifs,0⟩] scope pos) 0 (.ref it) (.ref s2.heap.objs.size) (compEnvC scope (ES X.env.cells scope.names []) s₃.heap.objs.size X.env))
   (compPost (model X.prog X.w) X.A X.xe (some (assign (.Name y py) X.env)) (fun _ s'=>SP X pins D .next s') (.ref s2.heap.objs.size) s₃.heap.objs.size) { s₃ with heap:=h₁,toks:=s₃.toks }:=by
  walk_at "b20"
  rcases turn i n σ5 H5 w5 with ⟨stop,qn⟩ | ⟨go,step⟩
  ·have:=T.done X' ePr eW eK eC i [] s5 σ5 H5 X'.xe I5 (stat fr5) st5 stop
   walk_at "b44"
  ·have:=T.item X' ePr eW eK eC i [] s5 σ5 H5 X'.xe I5 (stat fr5) st5 go
   walk_at "b6"
   have again:∀ {σ9:St} {H9:Hp} {s9:Shared},Inv X' ([]++KK fp s7.heap) σ9 H9 s9→tn (i+1) s9.heap∧∀ b∈fp,H9 b=none:=fun {σ9 H9 s9} I9=>by
    walk_at "b17"
   refine thn t8 fun b s9 ⟨H9,I9,q9⟩=> ?_
   cases b with
   | false=>
    walk_at "b47"
   | true=>
    walk_at "b4"
 walk_at "b11"
end
section
variable {X:Cx} {pins:List (Addr×Obj)} {σ:St} {H:Hp} {s:Shared} {h':Heap} {fp:List Addr} {t':Nat}
theorem Inv.turnedL (I:Inv X pins σ H s) (k:∀ b o,b∉fp→s.heap.get? b=some o→h'.get? b=some o) (hf:∀ b∈fp,KM X pins H b):Inv X pins σ H { s with heap:=h',toks:=t' }:=by
 walk_at "b50"
 refine I.step (g':=s.gens) (d':=s.drawn) (ch:=fp) (fun b hb=> ?_) (fun b o _ _ hc e _=>k b o hc e) (fun b o _ _ hc e _=>⟨o.slots,k b o hc e⟩) (fun _ _ _ _ n=>n)
  (fun b o hc e=>⟨o,k b o hc e⟩) (fun _ _ e=>e) (fun _ _ _ e=>e) (fun b ps e=>⟨#[],by rw [e];simp⟩) (fun m hm=> ?_) (fun b u e=> ?_) I.bare
 ·obtain ⟨_,q1,_,q3,q4,q5⟩:=hf b hb
  exact ⟨q3,q1,q4,q5⟩
 ·obtain ⟨o,es,ep,ho,r⟩:=hm
  exact ⟨o,es,ep,k _ o hL ho,r⟩
 ·refine (I.hok b u e).stay (fun c v hc q=>k c v ?_ q) (fun _ q=>q) fun _ _ q=>q
  rcases hc with z | z
  ·rw [z];exact nit b u e
  ·exact nit c _ z
theorem Inv.turnedNew {p:Addr} {o:HO} (I:Inv X pins σ H s) (k:∀ b o,b∉fp→s.heap.get? b=some o→h'.get? b=some o) (hf:∀ b∈fp,KM X pins H b) (hp:s.heap.objs.size≤p) (new:CH X.prog X.w (upd H p o) h' p o):
  Inv X pins σ (upd H p o) { s with heap:=h',toks:=t' }:=by
 walk_at "b50"
 have hn:H p=none:=I.hok.fresh hp
 have np:∀ b u,s.heap.get? b=some u→b≠p:=fun b u e=>Nat.ne_of_lt (Nat.lt_of_lt_of_le (Heap.lt_size e) hp)
 refine I.step (g':=s.gens) (d':=s.drawn) (ch:=fp) (fun b hb=> ?_) (fun b o _ _ hc e _=>k b o hc e) (fun b o _ _ hc e _=>⟨o.slots,k b o hc e⟩) (fun b u _ e n=>by rw [BA (np b u e)];exact n)
  (fun b o hc e=>⟨o,k b o hc e⟩) (fun b xs e=>by rw [BA (BZ e hn)];exact e) (fun b _ _ e=>by rw [BA (BZ e hn)];exact e) (fun b ps e=>⟨#[],by rw [BA (BZ e hn),e];simp⟩) (fun m hm=> ?_) (fun b u e=> ?_) I.bare
 ·obtain ⟨_,q1,_,q3,q4,q5⟩:=hf b hb
  exact ⟨q3,q1,q4,q5⟩
 ·obtain ⟨o,es,ep,ho,r⟩:=hm
  exact ⟨o,es,ep,k _ o hL ho,r⟩
 ·by_cases hb:b=p
  ·subst hb;rw [AF] at e;cases e;exact new
  ·rw [BA hb] at e
   refine (I.hok b u e).stay (fun c v hc q=>k c v ?_ q) (fun c q=>by rw [BA (BZ q hn)];exact q) fun c xs q=>by rw [BA (BZ q hn)];exact q
   rcases hc with z | z
   ·rw [z];exact nit b u e
   ·exact nit c _ z
end
theorem XR {n a b:Nat} (la:a<n) (lb:b<n):ZipApart (n+4) (n+2) (n+3) n (n+1) a b:=by
 constructor<;> (intro e;have e': @Eq Nat _ _:=e;clear e;omega)
theorem aQ {n c:Nat} (hc:c∈[n+4,n+2,n+3,n,n+1]):n≤c:=by
 simp only [List.mem_cons,List.not_mem_nil,or_false] at hc
 omega
section
variable {X:Cx} {elts:List Expr} {tx:Nat} {tp p pos:Pos}
end
section
variable {X:Cx} {pins:List (Addr×Obj)} {σ:St} {H:Hp} {s:Shared}
theorem AY.get':∀ {vs:List V} {its:List Value} {j:Nat} {u:Value},AY vs its→its[j]? =some u→∃ v,vs[j]? =some v∧AZ v u
 | _,_,j,u,.nil,h=>by simp at h
 | _,_,0,u,.cons r t,h=>⟨_,rfl,by simp at h;exact h ▸ r⟩
 | _,_,j+1,u,.cons r t,h=>by simpa using AY.get' t (by simpa using h)
def kE (x:V) (P:Prop):Prop:=match x with | .non=>P | _=>False
theorem kE.ex {x:V} {P:Prop} (h:kE x P):x= .non∧P:=by cases x<;> first | exact ⟨rfl,h⟩ | exact h.elim
def RF (K:PySem.W.Frag) (neg:Bool):R2:=fun x y H Q=>CJ y fun p=>∃ xs,(SqL K H p xs∨SqT K H p xs)∧HM x=true∧xs.all HM=true∧Q (.bl (if neg then !inV x xs else inV x xs)) H
theorem SN:OpR X (compareOp .NotIn) (RF X.K true):=PK.imp fun _ _ _ _ z=>by obtain ⟨p,e,xs,z⟩:=CJ.ex z;exact ⟨p,xs,e,z⟩
end
section
variable {X:Cx} {a b:Expr} {ta:TA} {p p' pos pos':Pos}
end
section
variable {X:Cx}
end
theorem BL {K:PySem.W.Frag} {H:Hp} {ds:List D} {x:V}:Rp K H (.tup ds) x↔∃ p xs,x= .ref p∧SqT K H p xs∧RpL K H ds xs:=by rw [Rp]
section
variable {X:Cx}
theorem YZ {prog:Program} {w:World} {A:Around} {E:Value→Shared→Prop} {s:Shared} {t b:Addr} {ws:List Value} {Q:Value→Shared→Prop} (ht:IsTup s.heap t #[]) (hb:IsTup s.heap b ws.toArray) (h:Q (.ref b) s):
  wpAny (model prog w) A (binaryOp .Add (.ref t) (.ref b)) Q E s:=by
 walk_at "b38"
 exact concat_meets ⟨_,ho,rfl⟩ ⟨_,ho2,rfl⟩ noFill_tuple_add seq_tuple_add PySem.F.slot_tuple_add PySem.F.entry_tuple_add (PySem.F.args_tuple_add_2 _ _)
  (tuple_addW0 t b #[] ws.toArray n n2 dd dd2 sl sl2 (by simp)) ⟨ho,ho2,h⟩
def MU (K:PySem.W.Frag):R2:=fun x y H Q=>∃ ds es,Rp K H (.tup ds) x∧Rp K H (.tup es) y∧ds.length+es.length≤sizeLine∧∀ v H',AI H H'→Rp K H' (.tup (ds++es)) v→Q v H'
theorem MY:OpR X (binaryOp .Add) (MU X.K):=by
 walk_at "b7"
 obtain ⟨ds,es,hx,hy,hz,q⟩:=h
 obtain ⟨a,xs,rfl,ha,la⟩:=BL.mp hx
 obtain ⟨b,ys,rfl,hb,lb⟩:=BL.mp hy
 by_cases h0:xs=[]
 ·subst h0
  have e:ds=[]:=by have:=la.length;simp at this;exact List.length_eq_zero_iff.mp this.symm
  subst e
  cases rx
  cases ry
  obtain ⟨its,r1,p1,_⟩:=I.tuple ha
  obtain ⟨its2,r2,p2,_⟩:=I.tuple hb
  cases r1
  exact YZ p1 p2 ⟨.ref b,H,I,rfl,q _ _ (AI.refl _) hy⟩
 ·refine eB pins s σ H _ _ v u Q I rx ry ⟨a,b,xs,ys,rfl,rfl,ha,hb,h0,by rw [la.length,lb.length];exact hz,fun e=> ?_,fun _ p hp=> ?_⟩
  ·subst e
   have e:es=[]:=by have:=lb.length;simp at this;exact List.length_eq_zero_iff.mp this.symm
   subst e
   exact q _ _ (AI.refl _) (by rw [List.append_nil];exact hx)
  ·exact q _ _ (AI.upd hp) (BL.mpr ⟨p,_,rfl,SqT.of AF,(la.app lb).same (AI.upd hp)⟩)
theorem EQ (a:Int) (t:Tok) (l:Addr) (items:Array Value) (n:Nat) (dd:Option Addr) (sl:Array (Option Value)):
  Meets (Builtin.«int.__rmul__» { pos:=[.int a t,.ref l] }) fun x R s=>s.heap.get? l=some { cls:= .type "tuple",dict:=dd,data:= .seq items n,slots:=sl }∧R (.ok (.ret .notImplemented)) s:=by
 intro prog w A R s ⟨e,h⟩
 unfold Builtin.«int.__rmul__» Builtin.Int.intBinary
 refine wpAny_bind ?_
 rw [show slotArgs "__rmul__" 1 { pos:=[.int a t,.ref l] }=pure (.int a t,[.ref l]) from rfl]
 refine wpAny_pure ?_
 dsimp only
 refine wpAny_bind ?_
 rw [show Builtin.Int.intOfSelf (.int a t)=pure a from rfl]
 refine wpAny_pure ?_
 refine wpAny_bind ?_
 show wpAny _ _ (load l >>= _) _ _ _
 refine wpAny_bind (wpAny_load e ?_)
 dsimp only
 refine wpAny_pure ?_
 refine wpAny_bind (wpAny_rule ?_)
 exact wpAny_pure h
theorem DG:fillsNumberSlot (.type "tuple") "mul"=pure false:=by first | rfl | decide | (unfold fillsNumberSlot;kernel_rfl)
theorem ER:seqRepeat? (.type "tuple")=pure (some (.builtin "tuple.__mul__")):=by first | rfl | (unfold seqRepeat?;kernel_rfl)
theorem dC {l:Addr} {items:Array Value} {n:Nat} {dd:Option Addr} {sl:Array (Option Value)} {k:Int} {t:Tok} (h0:2≤k) (h1:k<2 ^ 62) (hz:items.size * k.toNat≤sizeLine) (hne:items.isEmpty=false):
  Meets (Builtin.«tuple.__mul__» { pos:=[.ref l,.int k t] }) fun x R s=>s.heap.get? l=some { cls:= .type "tuple",dict:=dd,data:= .seq items n,slots:=sl }∧
   R (.ok (.ret (.ref s.heap.objs.size))) { s with heap:=s.heap.push { cls:= .type "tuple",data:= .seq (List.foldl (fun x1 x2=>x1++x2) #[] (List.replicate k.toNat items)) } }:=by
 walk_at "b16"
 rw [if_neg (by simp [hne];omega),if_neg (by simp [hne];omega)]
 have hk:k=(k.toNat:Int):=by omega
 have hm:(items.size:Int) * k≤sizeLine:=by rw [hk,← Int.natCast_mul];exact Int.ofNat_le.mpr hz
 rw [sizeLine_eq] at hm
 rw [if_neg (by omega),if_neg (by unfold Builtin.Tuple.tupleTooMany;rw [sizeLine_eq];simp;omega)]
 have hsz:(List.foldl (fun x1 x2=>x1++x2) #[] (List.replicate k.toNat items)).size≤sizeLine:=by
  have f0:=KG items.toList k.toNat []
  rw [List.nil_append] at f0
  rw [show items=items.toList.toArray by simp,f0,List.size_toArray,VV,Nat.mul_comm]
  simpa using hz
 exact wpAny_bind (m:=Builtin.Tuple.tupleExact _) (wpAny_newObj_type (wpAny_pure h) hsz)
theorem aD {l:Addr} {items:Array Value} {n:Nat} {dd:Option Addr} {sl:Array (Option Value)} {k:Int} {t:Tok} (h0: -(2 ^ 62)≤k) (h1:k<2 ^ 62) (hne:items.isEmpty=true):
  Meets (Builtin.«tuple.__mul__» { pos:=[.ref l,.int k t] }) fun x R s=>s.heap.get? l=some { cls:= .type "tuple",dict:=dd,data:= .seq items n,slots:=sl }∧R (.ok (.ret (.ref l))) s:=by
 walk_at "b16"
 rw [if_pos (by simp [hne])]
 walk_at "b22"
def MP (K:PySem.W.Frag):R2:=fun x y H Q=>EL y fun k=>∃ ds,Rp K H (.tup ds) x∧2≤k∧k<2 ^ 62∧ds.length * k.toNat≤sizeLine∧∀ v H',AI H H'→Rp K H' (.tup (List.replicate k.toNat ds).flatten) v→Q v H'
theorem UL {K:PySem.W.Frag} {H:Hp} {ds:List D} {xs:List V} (h:RpL K H ds xs):∀ n:Nat,RpL K H (List.replicate n ds).flatten (List.replicate n xs).flatten
 | 0=>RpL.nil
 | n+1=>by rw [List.replicate_succ,List.replicate_succ,List.flatten_cons,List.flatten_cons];exact h.app (UL h n)
theorem YH:OpR X (binaryOp .Mult) (MP X.K):=by
 walk_at "b7"
 obtain ⟨k,rfl,ds,hx,h0,h1,hz,q⟩:=EL.ex h
 walk_at "b8"
 have l1:its.length=ds.length:=by rw [← r1.length,la.length]
 by_cases hne:ds=[]
 ·subst hne
  have e0:its=[]:=List.length_eq_zero_iff.mp l1
  subst e0
  have ef:(List.replicate k.toNat ([]:List D)).flatten=[]:=by simp
  rw [ef] at q
  exact wpAny_binaryOp_repeat_ref (T:="tuple") (U:="int") (by decide) ⟨_,e,rfl⟩ (fun s'=>typeIs_int s' k t) DG F.fills_int_mul F.slot_int_rmul ER F.slot_int_index.lookup
   (call_meets F.slot_int_rmul (typeIs_int s k t) F.entry_int_rmul (F.args_int_rmul_2 _ _) (EQ k t a _ n dd sl)
    ⟨e,rfl,⟨_,e,rfl⟩,call_meets F.slot_tuple_mul ⟨_,e,rfl⟩ F.entry_tuple_mul (F.args_tuple_mul_2 _ _) (aD (by omega) h1 rfl) ⟨e,⟨.ref a,H,I,rfl,q _ _ (AI.refl _) hx⟩⟩⟩)
 refine wpAny_binaryOp_repeat_ref (T:="tuple") (U:="int") (by decide) ⟨_,e,rfl⟩ (fun s'=>typeIs_int s' k t) DG F.fills_int_mul F.slot_int_rmul ER F.slot_int_index.lookup
  (call_meets F.slot_int_rmul (typeIs_int s k t) F.entry_int_rmul (F.args_int_rmul_2 _ _) (EQ k t a its.toArray n dd sl)
   ⟨e,rfl,⟨_,e,rfl⟩,call_meets F.slot_tuple_mul ⟨_,e,rfl⟩ F.entry_tuple_mul (F.args_tuple_mul_2 _ _) (dC h0 h1 (by rw [List.size_toArray,l1];exact hz) (by
    cases its with
    | nil=>simp at l1;exact absurd (List.length_eq_zero_iff.mp l1.symm) hne
    | cons _ _=>rfl)) ⟨e,?_⟩⟩)
 have f0:=KG its k.toNat []
 rw [List.nil_append] at f0
 rw [f0]
 have hz':((List.replicate k.toNat xs).flatten).length≤sizeLine:=by rw [VV,Nat.mul_comm,la.length];exact hz
 refine ⟨.ref _,_,I.laid (t':=s.toks) (o:= .tup (List.replicate k.toNat xs).flatten) (fun b ob q=>Heap.get?_push_of_some _ q) (Nat.le_refl _) ⟨hz',_,r1.rep k.toNat,IsTup.new _ _⟩,rfl,q _ _ (AI.upd I.fresh) (BL.mpr ⟨_,_,rfl,SqT.of AF,(UL la k.toNat).same (AI.upd I.fresh)⟩)⟩
abbrev EnT:=List (List Key×Addr×V)
section
variable {pins:List (Addr×Obj)} {σ:St} {H:Hp} {s:Shared} {a b:Addr} {es:EnT} {k:List Key}
end
section
variable {o i value:Expr} {pos pos':Pos} {td ty tv:TE}
end
end
abbrev NK:=Int×Int×Int×Int
def PL (h:Heap) (k:NK) (a:Addr):Prop:=∃ (p q:Addr) (ti th ta tb:Tok),IsTup h a #[.int k.1 ti,.ref p]∧IsTup h p #[.int k.2.1 th,.ref q]∧IsTup h q #[.int k.2.2.1 ta,.int k.2.2.2 tb]
theorem DZ {h:Heap} {a:Addr} {xs ys:Array Value} (p:IsTup h a xs) (q:IsTup h a ys):xs=ys:=by
 obtain ⟨o,e,_,n,d⟩:=p
 obtain ⟨o',e',_,n',d'⟩:=q
 rw [e] at e'
 cases e'
 rw [d] at d'
 injection d'
theorem PL.inj {h:Heap} {a:Addr} {x y:NK} (hx:PL h x a) (hy:PL h y a):x=y:=by
 obtain ⟨p,q,_,_,_,_,h1,h2,h3⟩:=hx
 obtain ⟨p',q',_,_,_,_,g1,g2,g3⟩:=hy
 have e1:=DZ h1 g1
 simp at e1
 obtain ⟨⟨a1,_⟩,rfl⟩:=e1
 have e2:=DZ h2 g2
 simp at e2
 obtain ⟨⟨a2,_⟩,rfl⟩:=e2
 have e3:=DZ h3 g3
 simp at e3
 obtain ⟨⟨a3,_⟩,a4,_⟩:=e3
 obtain ⟨x1,x2,x3,x4⟩:=x
 obtain ⟨y1,y2,y3,y4⟩:=y
 simp_all
theorem JW {h h':Heap} {a d:Addr} {xs:Array Value} {o:Obj} {es:Array DictEntry} {ep:Nat} (p:IsTup h a xs) (hd:h.get? d=some o) (e:o.data= .dict es ep) (s:Heap.SameBut d h h'):IsTup h' a xs:=by
 obtain ⟨o',e',c,n,dd⟩:=p
 have hne:a≠d:=by
  rintro rfl
  rw [hd] at e'
  cases e'
  rw [e] at dd
  cases dd
 exact ⟨o',by rw [s.2 a hne];exact e',c,n,dd⟩
def ON (x y:Int):Int:=reduceHash (Builtin.Tuple.tupleHashOf [x,y])
section
variable {prog:Program} {w:World} {A:Around} {E:Value→Shared→Prop} {s:Shared}
theorem KJ {a:Addr} {u v:Value} {Q:Int→Shared→Prop} (ht:IsTup s.heap a #[u,v]) (hA:A.units<cLine)
  (h:wpAny (model prog w) A.in1 (pyHash u) (fun x s1=>wpAny (model prog w) A.in1 (pyHash v) (fun y s2=>Q (ON x y) { s2 with toks:=s2.toks+1 }) E s1) E s):wpAny (model prog w) A (pyHash (.ref a)) Q E s:=by
 show wpAny (model prog w) A (pyHashByItsType (.ref a)) Q E s
 refine W.pyHash_slot (T:="tuple") ht.typeIs PySem.F.slot_tuple_hash PySem.F.entry_tuple_hash (PySem.F.args_tuple_hash_1 _) (by decide) (.inr hA) ?_
 unfold Builtin.«tuple.__hash__»
 refine wpAny_bind ?_
 rw [show slotArgs "__hash__" 0 { pos:=[.ref a] }=pure (.ref a,[]) from rfl]
 refine wpAny_pure ?_
 dsimp only
 refine wpAny_bind (tupleItemsOf_ ht ?_)
 refine wpAny_bind ?_
 rw [show (#[u,v]:Array Value)=[u,v].toArray from rfl,List.forIn_toArray,List.forIn_cons]
 refine wpAny_bind (wpAny_bind (wpAny_mono h (fun x s1 h1=>wpAny_pure ?_) fun _ _ z=>z))
 dsimp only
 rw [List.forIn_cons]
 refine wpAny_bind (wpAny_bind (wpAny_mono h1 (fun y s2 h2=>wpAny_pure ?_) fun _ _ z=>z))
 dsimp only
 rw [List.forIn_nil]
 refine wpAny_pure ?_
 exact wpAny_bind (wpAny_mkInt (wpAny_pure ⟨_,_,rfl,h2⟩))
def aJ (k:NK):Int:=ON (hashInt k.1) (ON (hashInt k.2.1) (ON (hashInt k.2.2.1) (hashInt k.2.2.2)))
theorem cX {k:NK} {a:Addr} {Q:Int→Shared→Prop} (hA:A.units+3<cLine) (hk:PL s.heap k a) (q:Q (aJ k) { s with toks:=s.toks+7 }):wpAny (model prog w) A (pyHash (.ref a)) Q E s:=by
 obtain ⟨p,r,ti,th,ta,tb,h1,h2,h3⟩:=hk
 refine KJ h1 (by omega) (wpAny_pyHash_int ?_)
 refine KJ (s:={ s with toks:=s.toks+1 }) h2 (show A.units+1<cLine by omega) (wpAny_pyHash_int ?_)
 refine KJ (s:={ s with toks:=s.toks+1+1 }) h3 (show A.units+1+1<cLine by omega) (wpAny_pyHash_int (wpAny_pyHash_int ?_))
 exact q
theorem ZM {k:NK} {a:Addr} {Q:Bool→Shared→Prop} (hk:PL s.heap k a) (q:Q true s):wpAny (model prog w) A (eqIsQuiet 8 (.ref a)) Q E s:=by
 obtain ⟨p,r,ti,th,ta,tb,h1,h2,h3⟩:=hk
 have step:∀ (n:Nat) (a:Addr) (u v:Value) (Q:Bool→Shared→Prop),IsTup s.heap a #[u,v]→wpAny (model prog w) A (eqIsQuiet n u) (fun b s1=>b=true∧s1=s) E s→wpAny (model prog w) A (eqIsQuiet n v) (fun b s1=>b=true∧s1=s) E s→Q true s→wpAny (model prog w) A (eqIsQuiet (n+1) (.ref a)) Q E s:=by
  intro n a u v Q ht hu hv q
  rw [eqIsQuiet.eq_2]
  refine wpAny_bind (wpAny_specialOf ht.typeIs PySem.F.slot_tuple_eq.lookup ?_)
  show wpAny _ _ (PySem.isInstance (.ref a) (.type "tuple") >>= _) _ _ _
  refine wpAny_bind (wpAny_isInstance ht.typeIs isSubtype_tuple_tuple ?_)
  walk_at "b33"
  rw [show ((some (#[u,v]:Array Value)).getD #[])=[u,v].toArray from rfl,List.forIn_toArray,List.forIn_cons]
  refine wpAny_bind (wpAny_bind (wpAny_mono hu (fun b s1 hb=> ?_) fun _ _ z=>z))
  walk_at "b23"
  rw [List.forIn_cons]
  refine wpAny_bind (wpAny_bind (wpAny_mono hv (fun b s1 hb=> ?_) fun _ _ z=>z))
  walk_at "b23"
  rw [List.forIn_nil]
  exact wpAny_pure (wpAny_pure q)
 have fl:∀ (n:Nat) (i:Int) (t:Tok),wpAny (model prog w) A (eqIsQuiet n (.int i t)) (fun b s1=>b=true∧s1=s) E s:=fun n i t=>by
  rw [eqIsQuiet_byValue n (by rfl)]
  exact wpAny_pure ⟨rfl,rfl⟩
 exact step 7 a _ _ _ h1 (fl _ _ _) (step 6 p _ _ _ h2 (fl _ _ _) (step 5 r _ _ _ h3 (fl _ _ _) (fl _ _ _) ⟨rfl,rfl⟩) ⟨rfl,rfl⟩) q
theorem QC {a b:Addr} {u v u' v':Value} {k1 k2:Bool} (h1:IsTup s.heap a #[u,v]) (h2:IsTup s.heap b #[u',v']) (hA:A.units<cLine) (e1:SeqAt.EqAt A.in1 s u u' k1) (e2:SeqAt.EqAt A.in1 s v v' k2) (hs:a=b→(k1 && k2)=true):SeqAt.EqAt A s (.ref a) (.ref b) (k1 && k2):=by
 by_cases hab:a=b
 ·rw [hs hab]
  subst hab
  exact SeqAt.EqAt.same _
 ·have key:=SeqAt.RcAt.tuples (e:=fun j=>if j=0 then k1 else k2) h1 h2 hA (fun j g1 g2=>by
   have hj:j=0∨j=1:=by simp at g1;omega
   rcases hj with rfl | rfl
   ·exact e1
   ·exact e2)
  refine SeqAt.EqAt.of_refs hab ?_
  have e:((List.range (min (#[u,v]:Array Value).size (#[u',v']:Array Value).size)).all (fun j=>if j=0 then k1 else k2) && (#[u,v]:Array Value).size == (#[u',v']:Array Value).size)=(k1 && k2):=by
   cases k1<;> cases k2<;> rfl
  rw [e] at key
  exact key
theorem lF {x y:NK} {a b:Addr} {Q:Bool→Shared→Prop} (hA:A.units+3<cLine) (hx:PL s.heap x a) (hy:PL s.heap y b) (q:Q (decide (x=y)) s):wpAny (model prog w) A (eqBool (.ref a) (.ref b)) Q E s:=by
 obtain ⟨p,r,ti,th,ta,tb,h1,h2,h3⟩:=hx
 obtain ⟨p',r',ti',th',ta',tb',g1,g2,g3⟩:=hy
 have E3:SeqAt.EqAt A.in1.in1 s (.ref r) (.ref r') ((x.2.2.1 == y.2.2.1) && (x.2.2.2 == y.2.2.2)):=QC h3 g3 (show A.units+1+1<cLine by omega) (SeqAt.EqAt.int_int _ _ _ _) (SeqAt.EqAt.int_int _ _ _ _) (by
  rintro rfl
  have:=DZ h3 g3
  simp at this
  simp [this.1.1,this.2.1])
 have E2:SeqAt.EqAt A.in1 s (.ref p) (.ref p') ((x.2.1 == y.2.1) && ((x.2.2.1 == y.2.2.1) && (x.2.2.2 == y.2.2.2))):=QC h2 g2 (show A.units+1<cLine by omega) (SeqAt.EqAt.int_int _ _ _ _) E3 (by
  rintro rfl
  have:=DZ h2 g2
  simp at this
  obtain ⟨⟨a1,_⟩,rfl⟩:=this
  have:=DZ h3 g3
  simp at this
  simp [this.1.1,this.2.1,a1])
 have E1:SeqAt.EqAt A s (.ref a) (.ref b) ((x.1 == y.1) && ((x.2.1 == y.2.1) && ((x.2.2.1 == y.2.2.1) && (x.2.2.2 == y.2.2.2)))):=QC h1 g1 (by omega) (SeqAt.EqAt.int_int _ _ _ _) E2 (by
  rintro rfl
  have:=DZ h1 g1
  simp at this
  obtain ⟨⟨a0,_⟩,rfl⟩:=this
  have:=DZ h2 g2
  simp at this
  obtain ⟨⟨a1,_⟩,rfl⟩:=this
  have:=DZ h3 g3
  simp at this
  simp [this.1.1,this.2.1,a1,a0])
 refine E1 prog w E Q ?_
 have e:((x.1 == y.1) && ((x.2.1 == y.2.1) && ((x.2.2.1 == y.2.2.1) && (x.2.2.2 == y.2.2.2))))=decide (x=y):=by
  obtain ⟨x1,x2,x3,x4⟩:=x
  obtain ⟨y1,y2,y3,y4⟩:=y
  rw [Bool.eq_iff_iff]
  simp [Prod.ext_iff]
 rw [e]
 exact q
def gI (prog:Program) (w:World):HeapKind prog w NK where
 is:=PL
 hash:=aJ
 draws:=fun _=>7
 room:=fun A=>A.units+3<cLine
 inj:=PL.inj
 keeps:=fun ⟨p,q,ti,th,ta,tb,h1,h2,h3⟩ hd e sb=>⟨p,q,ti,th,ta,tb,JW h1 hd e sb,JW h2 hd e sb,JW h3 hd e sb⟩
 pyHash:=fun hA hk q=>cX hA hk q
 eqBool:=fun hA hx hy q=>lF hA hx hy q
 quiet:=fun hk q=>ZM hk q
end
abbrev EnN:=List (NK×Addr×V)
def EVN:EnN→List (NK×Addr×Value)→Prop:=Paired fun p q=>p.1=q.1∧p.2.1=q.2.1∧AZ p.2.2 q.2.2
def DN (P:Program) (w:World) (a:Addr) (es:EnN) (ep:Nat):HO:= .ext fun h=>(a == sysModules)=false∧∃ xs,EVN es xs∧∃ o en,h.get? a=some o∧o.ExactDict∧o.data= .dict en ep∧en.toList=xs.map (entryOfKey (gI P w))∧(xs.map (·.1)).Nodup
def nkD (k:NK):D:= .tup [.int k.1,.tup [.int k.2.1,.tup [.int k.2.2.1,.int k.2.2.2]]]
def fT (K:PySem.W.Frag) (H:Hp) (es:EnN):Prop:=∀ x∈es,Rp K H (nkD x.1) (.ref x.2.1)
theorem EVN.mem:∀ {es:EnN} {xs:List (NK×Addr×Value)},EVN es xs→∀ x∈xs,∃ y∈es,y.1=x.1∧y.2.1=x.2.1
 | _,_,.nil,x,hx=>by cases hx
 | _,_,.cons h t,x,hx=>by
  rcases List.mem_cons.mp hx with rfl | hx
  ·exact ⟨_,List.mem_cons_self,h.1,h.2.1⟩
  ·obtain ⟨y,hy,e⟩:=EVN.mem t x hx
   exact ⟨y,List.mem_cons_of_mem _ hy,e⟩
theorem EVN.app {es es':EnN} {xs xs':List (NK×Addr×Value)} (h:EVN es xs) (h':EVN es' xs'):EVN (es++es') (xs++xs'):=by
 unfold EVN at *
 induction h with
 | nil=>exact h'
 | cons a _ ih=>exact .cons a ih
def lkN (es:EnN) (k:NK):Option V:=(es.find? fun x=>decide (x.1=k)).map (·.2.2)
theorem EVN.look:∀ {es:EnN} {xs:List (NK×Addr×Value)} {k:NK} {v:V},EVN es xs→lkN es k=some v→∃ p,atKey xs k=some p∧AZ v p.2
 | _,_,k,v,.nil,h=>by cases h
 | (k1,a1,v1)::es,(k2,a2,v2)::xs,k,v,.cons h t,e=>by
  obtain ⟨rfl,rfl,r⟩:=h
  unfold lkN at e
  unfold atKey
  rw [List.find?_cons] at e ⊢
  by_cases hk:k1=k
  ·simp only [hk,decide_true] at e ⊢
   cases e
   exact ⟨_,rfl,r⟩
  ·simp only [hk,decide_false] at e ⊢
   exact EVN.look t e
theorem EVN.none:∀ {es:EnN} {xs:List (NK×Addr×Value)} {k:NK},EVN es xs→lkN es k=none→atKey xs k=none
 | _,_,k,.nil,_=>rfl
 | (k1,a1,v1)::es,(k2,a2,v2)::xs,k,.cons h t,e=>by
  obtain ⟨rfl,rfl,r⟩:=h
  unfold lkN at e
  unfold atKey
  rw [List.find?_cons] at e ⊢
  by_cases hk:k1=k
  ·simp only [hk,decide_true] at e
   cases e
  ·simp only [hk,decide_false] at e ⊢
   exact EVN.none t e
section
variable {X:Cx} {pins:List (Addr×Obj)} {σ:St} {H:Hp} {s:Shared} {a b:Addr} {es:EnN} {ep:Nat} {k:NK}
end
section
variable {X:Cx} {o e f:Expr} {pos apos cpos:Pos} {td ty tx:TE}
end
def KI (h:Heap) (it d:Addr) (i n ep:Nat):Prop:=h.get? it=some { cls:= .type "dict_keyiterator",data:= .fields #[.ref d,.int i 0,.int n 0,.int ep 0] }
section
variable {prog:Program} {w:World} {A:Around} {E:Value→Shared→Prop} {s:Shared} {it d:Addr} {i n ep:Nat} {o:Obj} {en:Array DictEntry}
theorem KI.typeIs (k:KI s.heap it d i n ep):s.TypeIs (.ref it) "dict_keyiterator":=⟨_,k,rfl⟩
end
section
variable {X:Cx} {pins:List (Addr×Obj)} {σ:St} {H:Hp} {s:Shared} {d:Addr} {es:EnN} {ep:Nat}
end
section
variable {X:Cx} {tg l:Expr} {tl:TE}
end
def dR (P:Program) (w:World) (K:PySem.W.Frag) (js:List Nat) (os:List Str) (wi:TI) (g:TG) (tk tv:TE):TE:=fun σ H Q=>wi σ H fun J H1=>∀ p ep,H1 p=none→
 ∃ W:Nat→Nat→St→Hp→Prop,(∃ m,W 0 m (stC js os σ) (upd H1 p (DN P w p [] ep)))∧∀ i m σ H,W i m σ H→
  (J.stop i H∧Q (.ref p) H)∨(J.go i H∧∀ x H',J.yld i H x H'→g x σ H' fun σ2 H2=>tk σ2 H2 fun y H3=>tv σ2 H3 fun z H4=>CJ y fun b=>
   ∃ (es:EnN) (ep:Nat) (k:NK),H4 p=some (DN P w p es ep)∧fT K H4 es∧es.length≤10000∧Rp K H4 (nkD k) (.ref b)∧lkN es k=none∧∀ ep',∃ m',m'<m∧W (i+1) m' σ2 (upd H4 p (DN P w p (es++[(k,b,z)]) ep')))
section
variable {X:Cx}
end
section
variable {prog:Program} {w:World} {A:Around} {R:Result→Shared→Prop} {s:Shared} {elt tg iter tg2 iter2:Expr} {scope:Scope} {pos:Pos} {it acc:Value} {env:Env}
end
def jA (js:List Nat) (os:List Str) (wi:TI) (g:TG) (wj:TI) (g2:TG) (te:TE):TE:=fun σ H Q=>wi σ H fun J H1=>∀ p,H1 p=none→
 ∃ W:Nat→Nat→St→Hp→Prop,(∃ m,W 0 m (stC js os σ) (upd H1 p (.lst [])))∧∀ i m σ H,W i m σ H→
  (J.stop i H∧Q (.ref p) H)∨(J.go i H∧∀ x H',J.yld i H x H'→g x σ H' fun σ2 H2=>wj σ2 H2 fun J2 H3=>
   ∃ V:Nat→Nat→St→Hp→Prop,(∃ m2,V 0 m2 σ2 H3)∧∀ j m2 σ H,V j m2 σ H→
    (J2.stop j H∧∃ m',m'<m∧W (i+1) m' σ H)∨(J2.go j H∧∀ x2 H',J2.yld j H x2 H'→g2 x2 σ H' fun σ4 H4=>te σ4 H4 fun y H5=>
     ∃ ys,H5 p=some (.lst ys)∧ys.length<sizeLine∧∃ m',m'<m2∧V (j+1) m' σ4 (upd H5 p (.lst (ys++[y])))))
section
variable {X:Cx}
end
section
variable {X:Cx} {o i:Expr} {pos:Pos} {td ty:TE}
end
def LtAt (A:Around) (s:Shared) (x y:Value) (b:Bool):Prop:=∀ (prog:Program) (w:World) (E:Value→Shared→Prop) (Q:Value→Shared→Prop),Q (.bool b) s→wpAny (model prog w) A (richCompare .Lt x y) Q E s
section
variable {A:Around} {s:Shared}
theorem lt_int (i j:Int) (t u:Tok):LtAt A s (.int i t) (.int j u) (decide (i<j)):=fun prog w E Q q=>by
 exact wpAny_lt_int (a:=i) (b:=j) (t:=t) (u:=u) q
end
open PySem.W in
def IJ {α:Type} (n:Nat) (f:Nat→Nat→Bool) (P:α→Prop):KasT α→Prop
 | .ret a=>P a
 | .ask i j k=>i<n∧j<n∧IJ n f P (k (f i j))
section
open PySem.W
variable {n:Nat} {f:Nat→Nat→Bool}
theorem IJ.bind {α β:Type} {P:α→Prop} {P':β→Prop} {g:α→KasT β} (h:∀ a,P a→IJ n f P' (g a)):∀ {t:KasT α},IJ n f P t→IJ n f P' (t.bind g)
 | .ret a,q=>h a q
 | .ask i j k,q=>⟨q.1,q.2.1,IJ.bind h q.2.2⟩
theorem IJ.wp {α:Type} {P:α→Prop} {cmp:Nat→Nat→(Bool→Shared→Prop)→Shared→Prop} {Q:α→Shared→Prop} {s:Shared} (hc:∀ i j C,i<n→j<n→C (f i j) s→cmp i j C s) (hq:∀ a,P a→Q a s):∀ {t:KasT α},IJ n f P t→t.kasWp cmp Q s
 | .ret a,g=>hq a g
 | .ask i j k,g=>hc i j _ g.1 g.2.1 (IJ.wp hc hq g.2.2)
def RR (n:Nat) (p:Array Nat):Prop:=0<n∧p.Perm (List.range n).toArray
theorem RR.lt {p:Array Nat} (h:RR n p) (i:Nat):p.getD i 0<n:=by
 unfold Array.getD
 split
 ·rename_i hi
  have hm:p[i]∈p:=Array.getElem_mem hi
  have:=h.2.mem_iff.mp hm
  simpa using this
 ·exact h.1
end
abbrev Q4:=Int×Int×Int×Int
def q4D (p:Q4):D:=plc p.1 p.2.1 p.2.2.1 p.2.2.2
abbrev Sk:=Int×Q4×Q4
def nlt (a b c d:Int):Bool:=if (a == c)=true then (if (b == d)=true then false else decide (b<d)) else decide (a<c)
def plt (p q:Q4):Bool:=if deq (num p.1 p.2.1) (num q.1 q.2.1)=true then (if deq (num p.2.2.1 p.2.2.2) (num q.2.2.1 q.2.2.2)=true then false else nlt p.2.2.1 p.2.2.2 q.2.2.1 q.2.2.2) else nlt p.1 p.2.1 q.1 q.2.1
def sklt (k l:Sk):Bool:=if (k.1 == l.1)=true then (if deq (q4D k.2.1) (q4D l.2.1)=true then (if deq (q4D k.2.2) (q4D l.2.2)=true then false else plt k.2.2 l.2.2) else plt k.2.1 l.2.1) else decide (k.1<l.1)
section
variable {X:Cx} {pins:List (Addr×Obj)} {σ:St} {H:Hp} {s:Shared} {A:Around}
end
section
open PySem.W
def dU {α:Type} (f:Nat→Nat→Bool):KasT α→α
 | .ret a=>a
 | .ask i j k=>dU f (k (f i j))
theorem IJ.run {α:Type} {n:Nat} {f:Nat→Nat→Bool} {P:α→Prop}:∀ {t:KasT α},IJ n f P t→IJ n f (fun a=>a=dU f t∧P a) t
 | .ret a,g=>⟨rfl,g⟩
 | .ask i j k,g=>⟨g.1,g.2.1,IJ.run g.2.2⟩
theorem IJ.post {α:Type} {n:Nat} {f:Nat→Nat→Bool} {P:α→Prop} {t:KasT α}:IJ n f P t→P (dU f t):=by
 induction t with
 | ret a=>exact id
 | ask i j k ih=>exact fun g=>ih _ g.2.2
end
def jM (ks:List Sk) (i j:Nat):Bool:=sklt (ks.getD i (0,(0,0,0,0),(0,0,0,0))) (ks.getD j (0,(0,0,0,0),(0,0,0,0)))
def sres (ks:List Sk):List Nat:=if ks.length<2 then List.range ks.length else (dU (jM ks) (PySem.W.kas_sort ks.length)).toList
section
variable {X:Cx}
end
def KxE (K:PySem.W.Frag) (k:Int×D) (e:DictEntry):Prop:=(∃ t,e.key= .int k.1 t)∧e.hash=hashInt k.1∧∃ v,AZ v e.val∧∀ H,Rp K H k.2 v
structure KX (K:PySem.W.Frag) (ks:List (Int×D)) (u:Value):Prop where
 ex:∃ p o en ep,u= .ref p∧K.lookup p=some o∧o.ExactDict∧o.data= .dict en ep∧Paired (KxE K) ks en.toList
section
variable {X:Cx} {o i:Expr} {pos:Pos} {td ty:TE}
end
section
variable {X:Cx} {tg:Expr}
end
def DCW (P:Program) (w:World) (K:PySem.W.Frag) (J:It) (g:TG) (tk tv:TE) (p:Addr) (Q:VK) (σ:St) (H1:Hp):Prop:=
 ∃ W:Nat→Nat→St→Hp→Prop,(∃ m,W 0 m σ H1)∧∀ i m σ H,W i m σ H→
  (J.stop i H∧Q (.ref p) H)∨(J.go i H∧∀ x H',J.yld i H x H'→g x σ H' fun σ2 H2=>tk σ2 H2 fun y H3=>tv σ2 H3 fun z H4=>CJ y fun b=>
   ∃ (es:EnN) (ep:Nat) (k:NK),H4 p=some (DN P w p es ep)∧fT K H4 es∧es.length≤10000∧Rp K H4 (nkD k) (.ref b)∧lkN es k=none∧∀ ep',∃ m',m'<m∧W (i+1) m' σ2 (upd H4 p (DN P w p (es++[(k,b,z)]) ep')))
theorem GR (P:Program) (w:World) (K:PySem.W.Frag) (js:List Nat) (os:List Str) (wi:TI) (g:TG) (tk tv:TE) (σ:St) (H:Hp) (Q:VK):dR P w K js os wi g tk tv σ H Q=wi σ H fun J H1=>∀ p ep,H1 p=none→DCW P w K J g tk tv p Q (stC js os σ) (upd H1 p (DN P w p [] ep)):=rfl
def IW (J2:It) (g2:TG) (te:TE) (p:Addr) (R:St→Hp→Prop) (σ:St) (H3:Hp):Prop:=
 ∃ V:Nat→Nat→St→Hp→Prop,(∃ m2,V 0 m2 σ H3)∧∀ j m2 σ H,V j m2 σ H→
  (J2.stop j H∧R σ H)∨(J2.go j H∧∀ x2 H',J2.yld j H x2 H'→g2 x2 σ H' fun σ4 H4=>te σ4 H4 fun y H5=>
   ∃ ys,H5 p=some (.lst ys)∧ys.length<sizeLine∧∃ m',m'<m2∧V (j+1) m' σ4 (upd H5 p (.lst (ys++[y]))))
def CW2 (J:It) (g:TG) (wj:TI) (g2:TG) (te:TE) (p:Addr) (Q:VK) (σ:St) (H1:Hp):Prop:=
 ∃ W:Nat→Nat→St→Hp→Prop,(∃ m,W 0 m σ H1)∧∀ i m σ H,W i m σ H→
  (J.stop i H∧Q (.ref p) H)∨(J.go i H∧∀ x H',J.yld i H x H'→g x σ H' fun σ2 H2=>wj σ2 H2 fun J2 H3=>IW J2 g2 te p (fun σ H=>∃ m',m'<m∧W (i+1) m' σ H) σ2 H3)
theorem HU (js:List Nat) (os:List Str) (wi:TI) (g:TG) (wj:TI) (g2:TG) (te:TE) (σ:St) (H:Hp) (Q:VK):jA js os wi g wj g2 te σ H Q=wi σ H fun J H1=>∀ p,H1 p=none→CW2 J g wj g2 te p Q (stC js os σ) (upd H1 p (.lst [])):=rfl
section
variable {X:Cx}
end
section
variable {X:Cx}
end
section
open PySem.W
structure kK (n:Nat) (f:Nat→Nat→Bool):Prop where
 tr:∀ i j k,i<n→j<n→k<n→f i j=true→f j k=true→f i k=true
 tot:∀ i j,i<n→j<n→i≠j→f i j=true∨f j i=true
 as:∀ i j,i<n→j<n→f i j=true→f j i=false
variable {n:Nat} {f:Nat→Nat→Bool}
theorem RR.size {p:Array Nat} (h:RR n p):p.size=n:=by have:=h.2.size_eq;simpa using this
theorem RR.inj {p:Array Nat} (h:RR n p) {i j:Nat} (hi:i<n) (hj:j<n) (e:p.getD i 0=p.getD j 0):i=j:=by
 have hs:=h.size
 have nd:p.toList.Nodup:=(Array.perm_iff_toList_perm.mp h.2).nodup_iff.mpr (by simpa using List.nodup_range)
 unfold Array.getD at e
 rw [dif_pos (by omega),dif_pos (by omega)] at e
 exact (List.getElem_inj nd (i:=i) (j:=j) (h₀:=by simpa using (by omega:i<p.size)) (h₁:=by simpa using (by omega:j<p.size))).mp (by simpa using e)
def Inc (f:Nat→Nat→Bool) (p:Array Nat) (m:Nat):Prop:=∀ i,i+1<m→f (p.getD i 0) (p.getD (i+1) 0)=true
theorem Inc.lt (o:kK n f) {p:Array Nat} (h:RR n p) {m:Nat} (g:Inc f p m):∀ d i,i+d+1<m→f (p.getD i 0) (p.getD (i+d+1) 0)=true
 | 0,i,hi=>g i hi
 | d+1,i,hi=>o.tr _ _ _ (h.lt _) (h.lt _) (h.lt _) (Inc.lt o h g d i (by omega)) (g (i+d+1) (by omega))
theorem Inc.all (o:kK n f) {p:Array Nat} (h:RR n p) {m:Nat} (g:Inc f p m) {i j:Nat} (hij:i<j) (hj:j<m):f (p.getD i 0) (p.getD j 0)=true:=by
 have:=Inc.lt o h g (j - i - 1) i (by omega)
 rwa [show i+(j - i - 1)+1=j by omega] at this
end
def sorts (ks:List Sk):List Sk:=(sres ks).map fun i=>ks.getD i (0,(0,0,0,0),(0,0,0,0))
namespace Tab
open PySem.SetTable
def fR (M i:Nat):Nat:=(i * 5+1) % M
def it5 (M:Nat):Nat→Nat→Nat
 | 0,i=>i
 | n+1,i=>it5 M n (fR M i)
def Mk (m:Nat):Prop:=m=7∨m=31∨m=127
theorem LP (M:Nat):∀ a b i,it5 M (a+b) i=it5 M b (it5 M a i)
 | 0,b,i=>by rw [Nat.zero_add];rfl
 | a+1,b,i=>by
  rw [show a+1+b=(a+b)+1 by omega]
  exact LP M a b (fR M i)
theorem reach {M:Nat} (c:∀ r<M,∃ n<M,it5 M n 0=r) (p:it5 M M 0=0) (i r:Nat) (hi:i<M) (hr:r<M):∃ n<M,it5 M n i=r:=by
 obtain ⟨a,ha,ea⟩:=c i hi
 obtain ⟨b,hb,eb⟩:=c r hr
 by_cases h:a≤b
 ·refine ⟨b - a,by omega,?_⟩
  rw [← ea,← LP,show a+(b - a)=b by omega,eb]
 ·refine ⟨M - a+b,by omega,?_⟩
  rw [← ea,← LP,show a+(M - a+b)=M+b by omega,LP,p,eb]
def lp (m:Nat):Nat→Nat×Nat→Nat×Nat
 | 0,x=>x
 | n+1,x=>lp m n (leap m x.1 x.2)
def st (m:Nat) (x:Nat×Nat):Probe:={ j:=x.1,more:=runEnd m x.1 - x.1,i:=x.1,perturb:=x.2,dummy:=none }
structure POk (t:SetTable) (p:Probe):Prop where
 i:p.i<t.mask+1
 pt:p.perturb<2 ^ 64
 more:p.more≤9
 dm:p.dummy=none
 j:p.j≤t.mask
 run:p.more+p.j≤t.mask
theorem SV {l:List Nat} {f g:Nat→Bool} {j:Nat} (nd:l.Nodup) (hj:j∈l) (e0:f j=false) (e1:g j=true) (eq:∀ i,i≠j→g i=f i):l.countP g=l.countP f+1:=by
 induction l with
 | nil=>cases hj
 | cons a l ih=>
  rw [List.nodup_cons] at nd
  by_cases c:a=j
  ·subst c
   rw [List.countP_cons_of_pos e1,List.countP_cons_of_neg (by rw [e0];decide)]
   congr 1
   refine List.countP_congr fun x hx=> ?_
   rw [eq x (fun z=>nd.1 (z ▸ hx))]
  ·have ij:=ih nd.2 ((List.mem_cons.mp hj).resolve_left fun z=>c z.symm)
   rw [List.countP_cons,List.countP_cons,eq a c,ij]
   omega
def cnt (m:Nat) (ow:Array (Option Nat)):Nat:=(List.range (m+1)).countP fun j=>(ow.getD j none).isSome
structure LO (m n:Nat) (ow:Array (Option Nat)):Prop where
 size:ow.size=m+1
 cnt:cnt m ow=n
 lt:∀ (j k:Nat),ow.getD j none=some k→k<n
theorem LO.put {m n:Nat} {ow:Array (Option Nat)} (o:LO m n ow) {j:Nat} (hj:ow.getD j (some 0)=none):LO m (n+1) (ow.setIfInBounds j (some n)):=by
 have hs:=o.size
 have jl:j<ow.size:=by
  refine Classical.byContradiction fun z=> ?_
  unfold Array.getD at hj
  rw [dif_neg z] at hj
  cases hj
 have at':∀ i,(ow.setIfInBounds j (some n)).getD i none=if i=j then some n else ow.getD i none:=fun i=>by
  rw [Array.getD_eq_getD_getElem?,Array.getD_eq_getD_getElem?,Array.getElem?_setIfInBounds]
  by_cases c:j=i
  ·subst c;rw [if_pos rfl,if_pos rfl,if_pos jl];rfl
  ·rw [if_neg c,if_neg (fun z=>c z.symm)]
 have e0:ow.getD j none=none:=by
  unfold Array.getD at hj ⊢
  rw [dif_pos jl] at hj ⊢
  exact hj
 refine ⟨by rw [Array.size_setIfInBounds];exact hs,?_,fun i k e=> ?_⟩
 ·have:=SV (l:=List.range (m+1)) (f:=fun i=>(ow.getD i none).isSome) (g:=fun i=>((ow.setIfInBounds j (some n)).getD i none).isSome) (j:=j) List.nodup_range (List.mem_range.mpr (by omega)) (by rw [e0];rfl) (by rw [at' j,if_pos rfl];rfl) (fun i hi=>by rw [at' i,if_neg hi])
  unfold Tab.cnt
  rw [this]
  have:=o.cnt
  unfold Tab.cnt at this
  omega
 ·rw [at' i] at e
  by_cases c:i=j
  ·rw [if_pos c] at e;cases e;omega
  ·rw [if_neg c] at e
   have:=o.lt i k e
   omega
theorem LO.nil (m:Nat):LO m 0 (Array.replicate (m+1) none):=by
 have at':∀ i,(Array.replicate (m+1) (none:Option Nat)).getD i none=none:=fun i=>by
  rw [Array.getD_eq_getD_getElem?,Array.getElem?_replicate]
  split<;> rfl
 refine ⟨Array.size_replicate,?_,fun j k e=> ?_⟩
 ·unfold Tab.cnt
  rw [List.countP_eq_zero]
  intro x _
  rw [at' x]
  decide
 ·rw [at' j] at e;cases e
end Tab
section
variable {prog:Program} {w:World} {A:Around} {E:Value→Shared→Prop} {s:Shared}
theorem cls2 {n:Nat} {a:Addr} {u0 u1:Value} (ht:IsTup s.heap a #[u0,u1]) (h0:wpAny (model prog w) A (ofAClassStatement n u0) (fun b s1=>b=false∧s1=s) E s) (h1:wpAny (model prog w) A (ofAClassStatement n u1) (fun b s1=>b=false∧s1=s) E s):wpAny (model prog w) A (ofAClassStatement (n+1) (.ref a)) (fun b s1=>b=false∧s1=s) E s:=by
 unfold ofAClassStatement
 refine wpAny_bind (wpAny_typeOf ht.typeIs ?_)
 show wpAny _ _ (pure true >>= _) _ _ _
 refine wpAny_bind (wpAny_pure ?_)
 dsimp only
 walk_at "b33"
 rw [show (#[u0,u1]:Array Value)=[u0,u1].toArray from rfl,List.forIn_toArray]
 rw [List.forIn_cons]
 refine wpAny_bind (wpAny_bind (wpAny_mono h0 (fun b s1 hb=> ?_) fun _ _ z=>z))
 walk_at "b23"
 rw [List.forIn_cons]
 refine wpAny_bind (wpAny_bind (wpAny_mono h1 (fun b s1 hb=> ?_) fun _ _ z=>z))
 walk_at "b23"
 rw [List.forIn_nil]
 exact wpAny_pure (wpAny_pure ⟨rfl,rfl⟩)
def nH (a b:Int):Int:=ON (hashInt a) (hashInt b)
def q4H (x:Q4):Int:=ON (nH x.1 x.2.1) (nH x.2.2.1 x.2.2.2)
def skH (k:Sk):Int:=reduceHash (Builtin.Tuple.tupleHashOf [hashInt k.1,q4H k.2.1,q4H k.2.2])
end
end L2
namespace L2
open PySem PySem.Spec PyProof.Rows Tab
section
variable {prog:Program} {w:World} {A:Around} {E:Value→Shared→Prop} {s:Shared}
structure StAt (R:Sk→Addr→Prop) (h:Heap) (S:Addr) (es:Array (Int×Value)) (t:SetTable) (ks:List Sk):Prop where
 ex:∃ o ep,h.get? S=some o∧o.ExactSet∧o.data= .set es ep t
 mask:Tab.Mk t.mask
 dm:t.dummies= #[]
 sz:t.place.size=es.size
 sm:es.size * 5<t.mask * 3
 el:∀ e∈es.toList,∃ l a,e=(skH l,Value.ref a)∧R l a∧l∈ks
 nn:es.size=ks.length
end
end L2
namespace L2
open PySem PySem.Spec PyProof.Rows Tab
section
variable {prog:Program} {w:World} {A:Around} {E:Value→Shared→Prop} {s:Shared}
end
end L2
namespace L2
open PySem PySem.Spec PyProof.Rows Tab
section
variable {X:Cx} {pins:List (Addr×Obj)} {σ:St} {H:Hp} {s:Shared}
end
section
variable {prog:Program} {w:World} {A:Around} {E:Value→Shared→Prop} {s:Shared}
end
section
variable {X:Cx}
end
section
variable {X:Cx}
variable {tg:Expr}
end
section
variable {X:Cx}
end
section
variable {X:Cx}
end
section
variable {X:Cx} {e tg:Expr} {te:TE} {p' pos':Pos}
end
section
variable {prog:Program} {w:World} {A:Around} {s:Shared} {E:Value→Shared→Prop} {R:Result→Shared→Prop} {I l:Addr} {items:Array Value}
end
section
variable {X:Cx} {e:Expr} {te:TE} {p p' pos pos':Pos}
end
section
variable {X:Cx}
def VO:R2:=fun x y H Q=>oBl x fun b=>oBl y fun c=>Q (.bl (!decide (b=c))) H
theorem VP:OpR X (compareOp .IsNot) VO:=by
 walk_at "b7"
 cases x<;> simp only [VO,oBl] at h
 rename_i b
 cases y<;> simp only [oBl] at h
 rename_i c
 cases rx
 cases ry
 have key:∀ b c:Bool,compareOp .IsNot (.bool b) (.bool c)=pure (.bool (!decide (b=c))):=by
  intro b c;cases b<;> cases c<;> rfl
 rw [key]
 first | exact wpAny_pure (BH I h rfl) | exact wpAny_pure.mpr (BH I h rfl) | exact pure_of (BH I h rfl) | exact (BH I h rfl)
end
inductive FS (K:PySem.W.Frag) (H:Hp):Nat→V→V→Prop
 | int (n:Nat) (i:Int):FS K H n (.int i) (.int i)
 | bl (n:Nat) (b:Bool):FS K H n (.bl b) (.bl b)
 | str (n:Nat) (x:Str):FS K H n (.str x) (.str x)
 | non (n:Nat):FS K H n .non .non
 | same (n:Nat) (p:Addr):FS K H n (.ref p) (.ref p)
 | tup {n:Nat} {p q:Addr} {xs ys:List V}:SqT K H p xs→SqT K H q ys→xs.length=ys.length→(∀ (i:Nat) (x y:V),xs[i]? =some x→ys[i]? =some y→FS K H n x y)→FS K H (n+1) (.ref p) (.ref q)
 | lst {n:Nat} {p q:Addr} {xs ys:List V}:SqL K H p xs→SqL K H q ys→xs.length=ys.length→(∀ (i:Nat) (x y:V),xs[i]? =some x→ys[i]? =some y→FS K H n x y)→FS K H (n+1) (.ref p) (.ref q)
theorem FS.up {K:PySem.W.Frag} {H:Hp} {n:Nat} {v u:V} (h:FS K H n v u):∀ {m:Nat},n≤m→FS K H m v u:=by
 induction h with
 | int n i=>intro m _;exact .int m i
 | bl n i=>intro m _;exact .bl m i
 | str n i=>intro m _;exact .str m i
 | non n=>intro m _;exact .non m
 | same n p=>intro m _;exact .same m p
 | @tup n p q xs ys a b c d ih=>
  intro m hm
  obtain ⟨m,rfl⟩:∃ k,m=k+1:=⟨m - 1,by omega⟩
  exact .tup a b c fun i x y hx hy=>ih i x y hx hy (by omega)
 | @lst n p q xs ys a b c d ih=>
  intro m hm
  obtain ⟨m,rfl⟩:∃ k,m=k+1:=⟨m - 1,by omega⟩
  exact .lst a b c fun i x y hx hy=>ih i x y hx hy (by omega)
mutual
theorem Rp.alike {K:PySem.W.Frag} {H:Hp}:∀ {d:D} {v u:V},Rp K H d v→Rp K H d u→FS K H (dep d) v u
 | .int i,v,u,h1,h2=>by rw [Rp] at h1 h2;subst h1 h2;exact .int _ _
 | .str x,v,u,h1,h2=>by rw [Rp] at h1 h2;subst h1 h2;exact .str _ _
 | .non,v,u,h1,h2=>by rw [Rp] at h1 h2;subst h1 h2;exact .non _
 | .tup ds,v,u,h1,h2=>by
  rw [Rp] at h1 h2
  obtain ⟨p,xs,rfl,hp,l1⟩:=h1
  obtain ⟨q,ys,rfl,hq,l2⟩:=h2
  rw [dep]
  exact .tup hp hq (by rw [l1.length,l2.length]) (RpL.alike l1 l2)
theorem RpL.alike {K:PySem.W.Frag} {H:Hp}:∀ {ds:List D} {xs ys:List V},RpL K H ds xs→RpL K H ds ys→∀ (i:Nat) (x y:V),xs[i]? =some x→ys[i]? =some y→FS K H (depL ds) x y
 | [],xs,ys,h1,h2,i,x,y,hx,hy=>by rw [RpL] at h1;subst h1;simp at hx
 | d::ds,xs,ys,h1,h2,i,x,y,hx,hy=>by
  rw [RpL] at h1 h2
  obtain ⟨v,r,rfl,a1,b1⟩:=h1
  obtain ⟨v',r',rfl,a2,b2⟩:=h2
  rw [depL]
  cases i with
  | zero=>
   simp at hx hy
   subst hx hy
   exact (Rp.alike a1 a2).up (by omega)
  | succ i=>
   simp at hx hy
   exact (RpL.alike b1 b2 i x y hx hy).up (by omega)
end
section
variable {X:Cx} {pins:List (Addr×Obj)} {σ:St} {H:Hp} {s:Shared}
end
structure fV (P:Program) (w:World) (l:List Env) (H H':Hp) (h B:Heap):Prop where
 hok:HOk P w H' B
 keep:∀ b o,h.get? b=some o→H b=none→b∉frs l→B.get? b=some o
 there:∀ b o,h.get? b=some o→b∉frs l→∃ o',B.get? b=some o'
def CXr (P:Program) (w:World):CXT:=fun outer H s E e s'=>∃ (a:Addr) (C:Value) (H':Hp) (B:Heap) (a0:Value),e= .ref a∧s'.os=s.os∧AllBare s'.gens∧Un (frs outer) [] H H' s.heap s'.heap∧
 Heap.FlyingW B outer a C a0 s'.heap∧fV P w outer H H' s.heap B∧E C none H'
theorem Un.flown {fs:List Addr} {H H':Hp} {h h1 h2 B:Heap} (u:Un fs [] H H' h h1) (hf:∀ b∈fs,∃ o,h1.get? b=some o∧∀ vs,o.data≠ .fields vs)
  (k1:∀ b o,h.get? b=some o→H b=none→b∉fs→B.get? b=some o) (k2:∀ b o,h.get? b=some o→b∉fs→∃ o',B.get? b=some o') (st:B.StaysIn h2) (up:h1.UpToSlots h2):Un fs [] H H' h h2 where
 keep:=fun b o q n hb _=>st _ _ (k1 b o q n hb)
 slot:=fun b o q n hb hx=>by
  obtain ⟨sl,e⟩:=u.slot b o q n hb hx
  obtain ⟨o',e',hd⟩:=hf b hb
  rw [e] at e';cases e'
  obtain ⟨sl',e2⟩:=up b _ e hd
  exact ⟨sl',e2⟩
 free:=u.free
 there:=fun b o q hx=>by
  by_cases hb:b∈fs
  ·obtain ⟨o',e,hd⟩:=hf b hb
   obtain ⟨sl,e2⟩:=up b _ e hd
   exact ⟨_,e2⟩
  ·obtain ⟨o',e⟩:=k2 b o q hb
   exact ⟨o',st _ _ e⟩
 tups:=u.tups
 frzs:=u.frzs
 tbls:=u.tbls
theorem PQ {h B:Heap} {l:List Env} (hl:h.FunFrames B l):∀ b∈frs l,∃ o,h.get? b=some o∧∀ vs,o.data≠ .fields vs:=fun b hb=>(hl.mem hb).2
section
variable {X:Cx} {pins:List (Addr×Obj)} {σ:St} {H H':Hp} {s s':Shared}
theorem Inv.flown {a:Addr} {C a0:Value} {B h2:Heap} (I:Inv X pins σ H s) (os:s'.os=s.os) (bare:AllBare s'.gens) (un:Un (frs X.stack) [] H H' s.heap s'.heap) (fl:Heap.FlyingW B X.stack a C a0 s'.heap)
  (bl:fV X.prog X.w X.stack H H' s.heap B) (st:B.StaysIn h2) (up:s'.heap.UpToSlots h2):Inv X pins σ H' { s' with heap:=h2 }:=
 Inv.call' (s':={ s' with heap:=h2 }) (ch:=[]) I os (un.flown (PQ fl.2.2.1) bl.keep bl.there st up) (bl.hok.kept st) bare (fun b z=>absurd z (by simp))
end
section
variable {P:Program} {w:World} {K:PySem.W.Frag} {mg:Str→Option Value} {base:Heap} {N:List Str} {qual:Str} {scope:Scope} {f:Addr} {cd:Value} {A:Around} {outer:List Env} {s:Shared} {H:Hp} {E:XK}
end
abbrev veB:List Value:=[.type "ValueError",.type "Exception",.type "BaseException",.type "object"]
def LW (K:PySem.W.Frag) (HE C:Addr):Bool:= !(C == HE) && PySem.W.ktsIn K C "BaseException" && PySem.W.tailIn K veB (.ref HE::veB) && match K.lookup C with
 | some ⟨_,_,.cls cd,sl⟩=>cd.mro == (.ref C:: .ref HE::veB) && PySem.W.nsOkIn K cd.ns && PySem.W.nsIn K cd.ns "__init__" == some none && sl.toList[4]? == some (some (.builtin "ValueError.__new__"))
 | _=>false
theorem LW.ne {K:PySem.W.Frag} {HE C:Addr} (q:LW K HE C=true):C≠HE:=by
 unfold LW at q
 simp only [Bool.and_eq_true,Bool.not_eq_true',beq_eq_false_iff_ne] at q
 exact q.1.1.1
theorem LW.obj {K:PySem.W.Frag} {HE C:Addr} {h:Heap} (q:LW K HE C=true) (k:K.In h):∃ nm qn N bs hdct sn sub ab col dd k0 k1 k2 k3 k5 mN,
  h.get? C=some (excClassObj nm qn C N bs (.ref HE::veB) hdct sn sub ab col dd k0 k1 k2 k3 k5 "ValueError.__new__")∧h.Ns N mN∧mN "__init__"=none∧OwnTail h veB (.ref HE::veB):=by
 unfold LW at q
 simp only [Bool.and_eq_true] at q
 obtain ⟨⟨⟨_,q1⟩,q2⟩,q3⟩:=q
 obtain ⟨nm,qn,N,bs,bm,hdct,sn,sub,ab,col,dd,k0,k1,k2,k3,k5,nid,e,_,_⟩:=PySem.W.kts_cls k q1
 split at q3
 ·rename_i c0 d0 cd sl lk
  have e2:=k _ _ lk
  rw [e] at e2
  simp only [Option.some.injEq,Obj.mk.injEq,Data.cls.injEq] at e2
  obtain ⟨_,_,rfl,rfl⟩:=e2
  simp only [Bool.and_eq_true,beq_iff_eq] at q3
  obtain ⟨⟨⟨m1,m2⟩,m3⟩,m4⟩:=q3
  have m1:Value.ref C::bm= .ref C:: .ref HE::veB:=m1
  injection m1 with _ m1
  subst m1
  have m4:some (some (Value.builtin nid))=some (some (.builtin "ValueError.__new__")):=m4
  have m4:nid="ValueError.__new__":=by injection m4 with m4;injection m4 with m4;injection m4
  subst m4
  exact ⟨nm,qn,N,bs,hdct,sn,sub,ab,col,dd,k0,k1,k2,k3,k5,_,e,.of_isNs (PySem.W.isNs_of_in k m2),PySem.W.nsMap_none_of_in k m2 m3,PySem.W.tail_of_in k q2⟩
 ·cases q3
section
variable {X:Cx} {E:XK} {C HE:Addr} {x:Str} {np cpos pos:Pos} {e:Expr} {es:List Expr} {t:TA}
end
abbrev Cx.sub (X:Cx) (a:Addr):Cx:={ X with A:=X.A.mark (some (.ref a)),calm:=false,xe:=fun _ _=>False }
section
variable {X:Cx} {pins:List (Addr×Obj)} {σ:St} {H:Hp} {s:Shared} {a:Addr}
theorem Inv.sub (I:Inv X pins σ H s) (a:Addr):Inv (X.sub a) pins σ H s:=
 ⟨⟨I.ok.mod,I.ok.kind,I.ok.glob,I.ok.blt,I.ok.above,I.ok.inj,I.ok.has,I.ok.cab,(fun z=>by cases z),I.ok.frames,I.ok.stk,I.ok.exf,I.ok.bs,I.ok.bsz,I.ok.noex,I.ok.exfs,I.ok.funs,I.ok.frf⟩,I.os,I.bare,I.base,I.loc,I.cell,I.free,I.freeC,I.pin,I.hok,I.len⟩
end
def FL (X:Cx) (pins:List (Addr×Obj)) (σ:St) (E:XK) (ev:Value) (s':Shared):Prop:=∃ (a:Addr) (C a0:Value) (B:Heap) (H':Hp),ev= .ref a∧Heap.FlyingW B X.stack a C a0 s'.heap∧
 (∀ h2,B.StaysIn h2→s'.heap.UpToSlots h2→Inv X pins σ H' { s' with heap:=h2 })∧E C none H'
abbrev TX:=St→Hp→VK→XK→Prop
abbrev HX:=Value→GI→St→Hp→Prop
def PH (X:Cx) (hs:List ExceptHandler) (th:HX):Prop:=
 ∀ (pins:List (Addr×Obj)) (s:Shared) (σ:St) (H:Hp) (D:GI) (a:Addr) (C a0:Value) (B:Heap),X.Ok→Heap.FlyingW B X.stack a C a0 s.heap→(∀ h2,B.StaysIn h2→s.heap.UpToSlots h2→Inv X pins σ H { s with heap:=h2 })→th C D σ H→
  wpAny (model X.prog X.w) X.A (handleBy (.ref a) X.env hs) (SP X pins D) X.xe s
section
variable {X:Cx}
end
section
variable {X:Cx} {k:Nat} {f C:Addr} {fd:FuncData} {ps:List Str} {sp:Sp} {dvs:List V} {ds:List Value} {x:Str} {p pos:Pos} {e:Expr} {es:List Expr} {t:TA}
theorem FL.of {pins:List (Addr×Obj)} {σ:St} {H:Hp} {s s':Shared} {E:XK} {ev:Value} (I:Inv X pins σ H s) (h:CXr X.prog X.w X.stack H s E ev s'):FL X pins σ E ev s':=by
 obtain ⟨a,C,H',B,a0,rfl,os,bare,un,fl,bl,q⟩:=h
 exact ⟨a,C,a0,B,H',rfl,fl,fun h2 st up=>I.flown os bare un fl bl st up,q⟩
end
section
variable {X:Cx} {e:Expr} {te:TX} {h₀:ExceptHandler} {hs:List ExceptHandler} {th:HX} {pos pos' pos'':Pos} {x:Str} {i:Nat} {L:Addr}
theorem handled (hst:X.stack=X.env::X.outer) (hf:X.env.frame=some L) (ph:PH X (h₀::hs) th) {pins:List (Addr×Obj)} {σ:St} {D:GI} {ev:Value} {s:Shared} (ok:X.Ok) (h:FL X pins σ (fun C _ H'=>th C D σ H') ev s):
  wpAny (model X.prog X.w) X.A (noteFrame ev X.env) (fun _ s₂=>wpAny (model X.prog X.w) X.A (setFlight ev none) (fun _ s₃=>wpAny (model X.prog X.w) X.A (handleBy ev X.env (h₀::hs)) (SP X pins D) X.xe s₃) X.xe s₂) X.xe s:=by
 obtain ⟨a,C,a0,B,H',rfl,fl,st,q⟩:=h
 have fl:=fl
 rw [hst] at fl
 refine wpAny_looks_onW (by rw [ok.frames,hst]) hf fl fun h4 held up4=> ?_
 refine wpAny_landsW held fun h5 fl5 up5=> ?_
 rw [← hst] at fl5
 exact ph pins _ σ H' D a C a0 B ok fl5 (fun h2 s2 u2=>st h2 s2 ((up4.trans up5).trans u2)) q
end
def Fly (B:Heap) (l:List Env) (a:Addr) (C a0:Value) (h:Heap):Prop:=B.StaysIn h∧B.get? a=none∧h.FunFrames B l∧∃ fl,h.TracedAtW B a C a0 fl
theorem Fly.of {B h:Heap} {l:List Env} {a:Addr} {C a0:Value} (x:Heap.FlyingW B l a C a0 h):Fly B l a C a0 h:=⟨x.1,x.2.1,x.2.2.1,_,x.2.2.2⟩
section
variable {M:Model} {A:Around} {E:Value→Shared→Prop} {s:Shared} {B:Heap} {l:List Env} {a:Addr} {C a0:Value}
end
structure Below2 (P:Program) (w:World) (l:List Env) (ch:List Addr) (H H':Hp) (h B:Heap):Prop where
 hok:HOk P w H' B
 keep:∀ b o,h.get? b=some o→H b=none→b∉frs l→b∉ch→B.get? b=some o
 there:∀ b o,h.get? b=some o→b∉frs l→b∉ch→∃ o',B.get? b=some o'
section
variable {P:Program} {w:World} {K:PySem.W.Frag} {mg:Str→Option Value} {base:Heap} {N:List Str} {qual:Str} {scope:Scope} {f:Addr} {cd:Value} {A:Around} {outer:List Env} {s:Shared} {H:Hp} {E:XK}
end
section
variable {X:Cx} {E:XK} {pins:List (Addr×Obj)} {σ:St} {H₃:Hp} {s₃:Shared} {fp:List Addr} {L:Addr}
end
section
variable {X:Cx} {E:XK} {scope:Scope} {cl:List (Str×Addr)} {N:List Str} {s₃:Shared} {H₃:Hp} {fp:List Addr}
end
section
variable {X:Cx}
end
structure Wk (P:Program) (w:World) (i l:Addr) (xs:Array Value) (St:Nat→Heap→Prop):Prop where
 item:∀ {A:Around} {E:Value→Shared→Prop} {s:Shared} {k:Nat} {x:Value} {Q:Value→Shared→Prop},St k s.heap→xs[k]? =some x→(∀ g,St (k+1) g→Heap.SameBut i s.heap g→Q x { s with heap:=g })→wpAny (model P w) A (Builtin.SmallTypes.nextOf (.ref i)) Q E s
 done:∀ {A:Around} {E:Value→Shared→Prop} {s:Shared} {k:Nat} {Q:Value→Shared→Prop},A.handled=none→St k s.heap→xs[k]? =none→(∀ g e,Heap.ExtBut i s.heap g→(∃ o,g.get? e=some o∧o.cls= .type "StopIteration")→E (.ref e) { s with heap:=g })→wpAny (model P w) A (Builtin.SmallTypes.nextOf (.ref i)) Q E s
 keep:∀ k h g,St k h→(∀ o,h.get? i=some o→g.get? i=some o)→(∀ o,h.get? l=some o→g.get? l=some o)→St k g
 rc:∀ k h,St k h→∃ o vs,h.get? i=some o∧o.data= .fields vs
section
variable {P:Program} {w:World} {A:Around} {E:Value→Shared→Prop} {s:Shared}
theorem cU {i t:Addr} {k:Nat} {xs:Array Value} {x:Value} {Q:Value→Shared→Prop} (hi:IsTupIter s.heap i t k) (ht:IsTup s.heap t xs) (hx:xs[k]? =some x) (hq:∀ g,IsTupIter g i t (k+1)→Heap.SameBut i s.heap g→Q x { s with heap:=g }):
  wpAny (model P w) A (Builtin.SmallTypes.nextOf (.ref i)) Q E s:=by
 walk_at "b15"
 walk_at "b5"
 refine wpAny_bind (wpAny_setField p1 p3 (by simp) (wpAny_pure ⟨x,rfl,wpAny_pure (hq _ ⟨_,Heap.get?_update_self _ p1 (Obj.isFreed_of_fields (Obj.data_mapFields p3 _)),(Obj.cls_mapFields ..).trans p2,?_⟩ (Heap.SameBut.update ..))⟩))
 rw [Obj.data_mapFields p3]
 simp [rawInt]
theorem eF {i t:Addr} {k:Nat} {xs:Array Value} {Q:Value→Shared→Prop} (hh:A.handled=none) (hi:IsTupIter s.heap i t k) (ht:IsTup s.heap t xs) (hx:xs[k]? =none)
  (hq:∀ g e,Heap.ExtBut i s.heap g→(∃ o,g.get? e=some o∧o.cls= .type "StopIteration")→E (.ref e) { s with heap:=g }):wpAny (model P w) A (Builtin.SmallTypes.nextOf (.ref i)) Q E s:=by
 walk_at "b15"
 walk_at "b5"
 refine wpAny_bind (wpAny_rule (wpAny_bind (wpAny_setField p1 p3 (by simp) ?_)))
 show wpAny _ _ (newExc (.type "StopIteration") [] >>= _) _ _ _
 refine wpAny_bind ?_
 simp only [newExc,newTuple]
 refine wpAny_bind (wpAny_newObj_type (wpAny_bind (m:=firstArgMember _ _) (wpAny_of_eq (a:=Value.none) (by first | rfl | (simp only [firstArgMember];rfl)) (wpAny_newObj_type ?_ (by size_fits)))) (by size_fits))
 simp only [raiseNew]
 refine wpAny_bind (wpAny_handled ?_)
 first | rw [show A.in1.handled=none from hh] | rw [hh]
 exact wpAny_bind (wpAny_pure (wpAny_throw (hq _ _ (((Heap.SameBut.update ..).extBut.push _).push _) ⟨_,Heap.get?_push_size _ rfl,rfl⟩)))
end
theorem PX {P:Program} {w:World} {i t:Addr} {xs:Array Value} (ne:t≠i):Wk P w i t xs fun k h=>IsTupIter h i t k∧IsTup h t xs where
 item:=fun st hx hq=>cU st.1 st.2 hx fun g g1 g2=>hq g ⟨g1,let ⟨o,e,r⟩:=st.2;⟨o,g2.extBut _ _ ne e,r⟩⟩ g2
 done:=fun hh st hx hq=>eF hh st.1 st.2 hx hq
 keep:=fun k h g st k1 k2=>⟨let ⟨o,e,r⟩:=st.1;⟨o,k1 o e,r⟩,let ⟨o,e,r⟩:=st.2;⟨o,k2 o e,r⟩⟩
 rc:=fun k h st=>let ⟨o,e,_,d⟩:=st.1;⟨o,_,e,d⟩
abbrev FD (h:Heap) (z TI TO:Addr) (f0 f1:Value):Prop:=h.get? z=some { cls:= .type "zip",dict:=none,data:= .fields #[f0,f1,.bool false,.ref TI,.ref TO],slots:= #[] }
section
variable {P:Program} {w:World} {A:Around} {E:Value→Shared→Prop} {s:Shared} {z TI TO i1 i2 l1 l2:Addr} {xs ys:Array Value} {S1 S2:Nat→Heap→Prop} {k1 k2:Nat} {x y a b f1:Value}
theorem Wk.but {i l c:Addr} {St:Nat→Heap→Prop} (W:Wk P w i l xs St) {k:Nat} {h g:Heap} (st:St k h) (sb:Heap.ExtBut c h g) (n1:i≠c) (n2:l≠c):St k g:=W.keep k h g st (fun o e=>sb _ o n1 e) fun o e=>sb _ o n2 e
theorem VY {M:Model} {c:Addr} {Q:Option Obj→Shared→Prop} (h:Q (s.heap.get? c) s):wpAny M A (loadIfAlive c) Q E s:=fun Γ p _=>by
 show Sem.wp M Γ (.loadIfAlive c .pure) _ _ p s
 rw [Sem.wp_loadIfAlive,Sem.wp_pure]
 exact h
theorem lB {Q:Value→Shared→Prop} (D:ZipApart z TI TO i1 i2 l1 l2) (W1:Wk P w i1 l1 xs S1) (W2:Wk P w i2 l2 ys S2) (hz:FD s.heap z TI TO .none (.bool false)) (ti:IsPair s.heap TI (.ref i1) (.ref i2)) (tt:IsPair s.heap TO a b)
  (t1:S1 k1 s.heap) (t2:S2 k2 s.heap) (hx:xs[k1]? =some x) (hy:ys[k2]? =some y)
  (hQ:∀ g,FD g z TI TO (rawInt s.heap.objs.size) (.bool false)→IsPair g TO x y→S1 (k1+1) g→S2 (k2+1) g→IsPair g s.heap.objs.size x y→g.objs.size=s.heap.objs.size+1→
   (∀ c o,c≠z→c≠TO→c≠i1→c≠i2→s.heap.get? c=some o→g.get? c=some o)→Q (.ref s.heap.objs.size) { s with heap:=g }):
  wpAny (model P w) A (Builtin.«zip.__next__» ⟨[.ref z],[]⟩) (fun fin s'=>∃ v,fin= .done (.ret v)∧Q v s') E s:=by
 walk_at "b0"
 refine wpAny_bind (W1.item (W1.but t1 e1 D.i1z D.l1z) hx fun g2 u2 e2=>wpAny_pure ?_)
 have sz2:=e2.1
 walk_at "b31"
 replace o3:IsPair g3 TO x b:=o3
 have sz3:=e3.1
 walk_at "b34"
 refine wpAny_bind (W2.item (W2.but (W2.but (W2.but t2 e1 D.i2z D.l2z) e2 D.i12.symm D.l2i1) e3 D.TOi2.symm D.l2TO) hy fun g4 u4 e4=>wpAny_pure ?_)
 have sz4:=e4.1
 have e4:=e4.extBut
 have o4:IsPair g4 TO x b:=e4 _ _ D.TOi2 o3
 refine wpAny_bind (wpAny_seqItems o4 rfl (wpAny_bind (wpAny_updateSeq_pair o4 fun g5 o5 e5=> ?_)))
 replace o5:IsPair g5 TO x y:=o5
 have sz5:=e5.1
 have e5:=e5.extBut
 refine wpAny_bind (wpAny_letGo (wpAny_pure (wpAny_pure (wpAny_bind (wpAny_seqItems o5 rfl (wpAny_bind (wpAny_newTuple ?_)))))))
 have zz:FD g5 z TI TO .ellipsis (.bool false):=e5 _ _ D.TOz.symm (e4 _ _ D.i2z.symm (e3 _ _ D.TOz.symm (e2 _ _ D.i1z.symm z1)))
 have kk:∀ c o,c≠z→c≠TO→c≠i1→c≠i2→s.heap.get? c=some o→g5.get? c=some o:=fun c o c1 c2 c3 c4 e=>e5 _ _ c2 (e4 _ _ c4 (e3 _ _ c2 (e2 _ _ c3 (e1 _ _ c1 e))))
 have v1:S1 (k1+1) g5:=W1.but (W1.but (W1.but u2 e3 D.TOi1.symm D.l1TO) e4 D.i12 D.l1i2) e5 D.TOi1.symm D.l1TO
 have v2:S2 (k2+1) g5:=W2.but u4 e5 D.TOi2.symm D.l2TO
 show wpAny _ _ (Builtin.SmallTypes.ownedTupleHandOut (.ref z) (.ref g5.objs.size) >>= _) _ _ _
 refine wpAny_bind ?_
 unfold Builtin.SmallTypes.ownedTupleHandOut
 have zp:FD (g5.push { cls:= .type "tuple",data:= .seq #[x,y] }) z TI TO .ellipsis (.bool false):=Heap.get?_push_of_some _ zz
 refine wpAny_bind (wpAny_setField_rec zp (by simp) fun g7 z7 e7=> ?_)
 replace z7:FD g7 z TI TO (rawInt g5.objs.size) (.bool false):=z7
 refine wpAny_setField_rec z7 (by simp) fun g8 z8 e8=> ?_
 replace z8:FD g8 z TI TO (rawInt g5.objs.size) (.bool false):=z8
 have sz:g5.objs.size=s.heap.objs.size:=by
  rw [sz5,sz4,sz3,sz2]
  exact (by assumption:Heap.SameBut z s.heap g1).1
 have zlt:z<g5.objs.size:=Heap.lt_size zz
 have up:∀ c o,c≠z→g5.get? c=some o→g8.get? c=some o:=fun c o c1 e=>e8.extBut _ _ c1 (e7.extBut _ _ c1 (Heap.get?_push_of_some _ e))
 have new:IsPair g8 g5.objs.size x y:=e8.extBut _ _ (Nat.ne_of_gt zlt) (e7.extBut _ _ (Nat.ne_of_gt zlt) (Heap.get?_push_size _ rfl))
 have s8:g8.objs.size=g5.objs.size+1:=by rw [e8.1,e7.1,Heap.size_push]
 rw [sz] at z8 new s8
 refine wpAny_pure ⟨_,rfl,?_⟩
 show Q (.ref g5.objs.size) _
 rw [sz]
 exact hQ g8 z8 (up _ _ D.TOz o5) (W1.keep _ _ _ v1 (fun o e=>up _ o D.i1z e) fun o e=>up _ o D.l1z e) (W2.keep _ _ _ v2 (fun o e=>up _ o D.i2z e) fun o e=>up _ o D.l2z e) new s8 fun c o c1 c2 c3 c4 e=>up c o c1 (kk c o c1 c2 c3 c4 e)
theorem iO {Q:Fin→Shared→Prop} (hh:A.handled=none) (D:ZipApart z TI TO i1 i2 l1 l2) (W1:Wk P w i1 l1 xs S1) (W2:Wk P w i2 l2 ys S2) (hz:FD s.heap z TI TO .none (.bool false)) (ti:IsPair s.heap TI (.ref i1) (.ref i2)) (tt:IsPair s.heap TO a b)
  (t1:S1 k1 s.heap) (t2:S2 k2 s.heap) (hx:xs[k1]? =none∨ys[k2]? =none)
  (hE:∀ g e,(∀ c o,c≠z→c≠TO→c≠i1→c≠i2→s.heap.get? c=some o→g.get? c=some o)→(∃ o,g.get? e=some o∧o.cls= .type "StopIteration")→E (.ref e) { s with heap:=g }):
  wpAny (model P w) A (Builtin.«zip.__next__» ⟨[.ref z],[]⟩) Q E s:=by
 walk_at "b0"
 have fin:∀ {g:Heap} {e:Addr},FD g z TI TO .ellipsis (.bool false)→(∀ c o,c≠z→c≠TO→c≠i1→c≠i2→s.heap.get? c=some o→g.get? c=some o)→(∃ o,g.get? e=some o∧o.cls= .type "StopIteration")→
   wpAny (model P w) A (setField (.ref z) 0 .none) (fun _ s'=>E (.ref e) s') E { s with heap:=g }:=fun {g e} zg kg ⟨oe,he,hc⟩=>by
  have nez:e≠z:=by
   rintro rfl
   rw [zg] at he;cases he
   simp at hc
  exact wpAny_setField_rec zg (by simp) fun g' _ e'=>hE g' e (fun c o c1 c2 c3 c4 q=>e'.extBut _ _ c1 (kg c o c1 c2 c3 c4 q)) ⟨oe,e'.extBut _ _ nez he,hc⟩
 cases hx1:xs[k1]? with
 | none=>exact wpAny_bind (W1.done hh (W1.but t1 e1 D.i1z D.l1z) hx1 fun g2 e e2 he=>fin (e2 _ _ D.i1z.symm z1) (fun c o c1 _ c3 _ q=>e2 _ _ c3 (e1 _ _ c1 q)) he)
 | some x=>
  have hy:ys[k2]? =none:=by
   rcases hx with h | h
   ·rw [hx1] at h;cases h
   ·exact h
  refine wpAny_bind (W1.item (W1.but t1 e1 D.i1z D.l1z) hx1 fun g2 u2 e2=>wpAny_pure ?_)
  walk_at "b31"
  walk_at "b34"
  exact wpAny_bind (W2.done hh (W2.but (W2.but (W2.but t2 e1 D.i2z D.l2z) e2 D.i12.symm D.l2i1) e3 D.TOi2.symm D.l2TO) hy fun g4 e e4 he=>
   fin (e4 _ _ D.i2z.symm (e3 _ _ D.TOz.symm (e2 _ _ D.i1z.symm z1))) (fun c o c1 c2 c3 c4 q=>e4 _ _ c4 (e3 _ _ c2 (e2 _ _ c3 (e1 _ _ c1 q)))) he)
theorem gM {T:Addr} {oT:Obj} {b1:Bool} {Q:Fin→Shared→Prop} (hh:A.handled=none) (D:ZipApart z TI TO i1 i2 l1 l2) (W1:Wk P w i1 l1 xs S1) (W2:Wk P w i2 l2 ys S2) (hz:FD s.heap z TI TO (rawInt T) (.bool b1)) (hT:s.heap.get? T=some oT) (ti:IsPair s.heap TI (.ref i1) (.ref i2))
  (t1:S1 k1 s.heap) (t2:S2 k2 s.heap) (hx:xs[k1]? =none∨ys[k2]? =none)
  (hE:∀ g e,(∀ c o,c≠z→c≠i1→c≠i2→s.heap.get? c=some o→g.get? c=some o)→(∃ o,g.get? e=some o∧o.cls= .type "StopIteration")→E (.ref e) { s with heap:=g }):
  wpAny (model P w) A (Builtin.«zip.__next__» ⟨[.ref z],[]⟩) Q E s:=by
 show wpAny _ _ (field (.ref z) 2 >>= _) _ _ _
 refine wpAny_bind (wpAny_field hz rfl (x:= .bool false) rfl ?_)
 show wpAny _ _ (field (.ref z) 3 >>= _) _ _ _
 refine wpAny_bind (wpAny_field hz rfl (x:= .ref TI) rfl (wpAny_bind (wpAny_seqItems ti rfl ?_)))
 show wpAny _ _ (Builtin.SmallTypes.ownedTupleIsFree (.ref z) >>= _) _ _ _
 refine wpAny_bind ?_
 unfold Builtin.SmallTypes.ownedTupleIsFree
 refine wpAny_bind (wpAny_field hz rfl (x:=rawInt T) rfl ?_)
 show wpAny _ _ (loadIfAlive T >>= _) _ _ _
 refine wpAny_bind (VY ?_)
 rw [hT]
 simp only [Option.isNone_some,Bool.false_eq_true,if_false]
 refine wpAny_bind (wpAny_field hz rfl (x:= .bool b1) rfl ?_)
 have refl:Heap.SameBut z s.heap s.heap:=⟨rfl,fun _ _=>rfl⟩
 cases b1 with
 | true=>
  simp only [bne_self_eq_false,Bool.false_eq_true,if_false]
  refine wpAny_pure ?_
  walk_at "b21"
  cases hx1:xs[k1]? with
  | none=>exact wpAny_bind (W1.done hh (W1.but t1 refl.extBut D.i1z D.l1z) hx1 fun g2 e e2 he=>hE g2 e (fun c o c1 c3 c4 q=>e2 _ _ c3 (refl.extBut _ _ c1 q)) he)
  | some x=>
   have hy:ys[k2]? =none:=by
    rcases hx with h | h
    ·rw [hx1] at h;cases h
    ·exact h
   refine wpAny_bind (W1.item (W1.but t1 refl.extBut D.i1z D.l1z) hx1 fun g2 u2 e2=>wpAny_pure ?_)
   walk_at "b52"
   exact wpAny_bind (W2.done hh (W2.but (W2.but t2 refl.extBut D.i2z D.l2z) e2.extBut D.i12.symm D.l2i1) hy fun g3 e e3 he=>hE g3 e (fun c o c1 c3 c4 q=>e3 _ _ c4 (e2.extBut _ _ c3 (refl.extBut _ _ c1 q))) he)
 | false=>
  rw [if_pos (by decide)]
  refine wpAny_bind (wpAny_setField_rec hz (by simp) fun g1 z1 e1=>wpAny_pure ?_)
  walk_at "b21"
  cases hx1:xs[k1]? with
  | none=>exact wpAny_bind (W1.done hh (W1.but t1 e1.extBut D.i1z D.l1z) hx1 fun g2 e e2 he=>hE g2 e (fun c o c1 c3 c4 q=>e2 _ _ c3 (e1.extBut _ _ c1 q)) he)
  | some x=>
   have hy:ys[k2]? =none:=by
    rcases hx with h | h
    ·rw [hx1] at h;cases h
    ·exact h
   refine wpAny_bind (W1.item (W1.but t1 e1.extBut D.i1z D.l1z) hx1 fun g2 u2 e2=>wpAny_pure ?_)
   walk_at "b52"
   exact wpAny_bind (W2.done hh (W2.but (W2.but t2 e1.extBut D.i2z D.l2z) e2.extBut D.i12.symm D.l2i1) hy fun g3 e e3 he=>hE g3 e (fun c o c1 c3 c4 q=>e3 _ _ c4 (e2.extBut _ _ c3 (e1.extBut _ _ c1 q))) he)
end
abbrev itT (t:Addr):Obj:={ cls:= .type "tuple_iterator",data:= .fields #[.ref t,.int 0 0] }
abbrev zp2 (h:Heap) (o1 o2:Obj):Heap:=(h.push o1).push o2
abbrev zp3 (h:Heap) (o1 o2:Obj):Heap:=(zp2 h o1 o2).push { cls:= .type "tuple",data:= .seq #[.ref h.objs.size,.ref (h.push o1).objs.size] }
abbrev zp4 (h:Heap) (o1 o2:Obj):Heap:=(zp3 h o1 o2).push { cls:= .type "tuple",data:= .seq #[.none,.none] }
abbrev zp5 (h:Heap) (o1 o2:Obj):Heap:=(zp4 h o1 o2).push { cls:= .type "zip",data:= .fields #[.none,.bool false,.bool false,.ref (zp2 h o1 o2).objs.size,.ref (zp3 h o1 o2).objs.size] }
theorem SJ (t l:Addr) (xs ys:Array Value):Meets (Builtin.«zip.__new__» ⟨[.type "zip",.ref t,.ref l],[]⟩) (fun _ R s=>IsTup s.heap t xs∧IsTup s.heap l ys∧
   R (.ok (.ret (.ref (zp4 s.heap (itT t) (itT l)).objs.size))) { s with heap:=zp5 s.heap (itT t) (itT l) }):=
 .of_wp fun prog w A R s h=>by
  obtain ⟨hp,g,d,tk,os⟩:=s
  obtain ⟨h1,h2,h⟩:=h
  have hsub:=PySem.sub_zip
  have k1:IsTup (Shared.heap ⟨hp,g,d,tk,os⟩) t xs:=h1
  have k2:IsTup (Shared.heap ⟨hp.push (itT t),g,d,tk,os⟩) l ys:=let ⟨o,e,r⟩:=h2;⟨o,Heap.get?_push_of_some _ e,r⟩
  wp_walk using iter_tuple k1,iter_tuple k2
  exact ⟨_,rfl,h⟩
section
variable {P:Program} {w:World} {A:Around} {E:Value→Shared→Prop} {s:Shared}
theorem fI (h:Heap) (o1 o2:Obj) (f1:o1.isFreed=false) (f2:o2.isFreed=false):FD (zp5 h o1 o2) (h.objs.size+4) (h.objs.size+2) (h.objs.size+3) .none (.bool false)∧IsPair (zp5 h o1 o2) (h.objs.size+2) (.ref h.objs.size) (.ref (h.objs.size+1))∧
  IsPair (zp5 h o1 o2) (h.objs.size+3) .none .none∧(zp5 h o1 o2).get? h.objs.size=some o1∧(zp5 h o1 o2).get? (h.objs.size+1)=some o2∧(zp5 h o1 o2).objs.size=h.objs.size+5∧(∀ c o,h.get? c=some o→(zp5 h o1 o2).get? c=some o)∧(zp4 h o1 o2).objs.size=h.objs.size+4:=by
 have z1:(h.push o1).objs.size=h.objs.size+1:=Heap.size_push ..
 have z2:(zp2 h o1 o2).objs.size=h.objs.size+2:=by rw [Heap.size_push,z1]
 have z3:(zp3 h o1 o2).objs.size=h.objs.size+3:=by rw [Heap.size_push,z2]
 have z4:(zp4 h o1 o2).objs.size=h.objs.size+4:=by rw [Heap.size_push,z3]
 refine ⟨?_,?_,?_,?_,?_,by rw [Heap.size_push,z4],fun c o e=> ?_,z4⟩
 ·have q:(zp5 h o1 o2).get? (zp4 h o1 o2).objs.size=some _:=Heap.get?_push_size _ rfl
  rw [z2,z3,z4] at q
  exact q
 ·have q:(zp5 h o1 o2).get? (zp2 h o1 o2).objs.size=some _:=Heap.get?_push_of_some _ (Heap.get?_push_of_some _ (Heap.get?_push_size _ rfl))
  rw [z1,z2] at q
  exact q
 ·have q:(zp5 h o1 o2).get? (zp3 h o1 o2).objs.size=some _:=Heap.get?_push_of_some _ (Heap.get?_push_size _ rfl)
  rw [z3] at q
  exact q
 ·exact Heap.get?_push_of_some _ (Heap.get?_push_of_some _ (Heap.get?_push_of_some _ (Heap.get?_push_of_some _ (Heap.get?_push_size _ f1))))
 ·have q:(zp5 h o1 o2).get? (h.push o1).objs.size=some o2:=Heap.get?_push_of_some _ (Heap.get?_push_of_some _ (Heap.get?_push_of_some _ (Heap.get?_push_size _ f2)))
  rw [z1] at q
  exact q
 ·exact Heap.get?_push_of_some _ (Heap.get?_push_of_some _ (Heap.get?_push_of_some _ (Heap.get?_push_of_some _ (Heap.get?_push_of_some _ e))))
theorem SH {t l:Addr} {xs ys:Array Value} {Q:Value→Shared→Prop} (h1:IsTup s.heap t xs) (h2:IsTup s.heap l ys) (h:Q (.ref (s.heap.objs.size+4)) { s with heap:=zp5 s.heap (itT t) (itT l) }):
  wpAny (model P w) A (call (.type "zip") [.ref t,.ref l]) Q E s:=by
 refine callType_new F.called_zip (by decide) (F.typeCall_zip_2 _ _) (F.newCall_zip_2 _ _) (fun obj=>F.args_object_init_3 obj _ _) F.entry_zip_new (SJ t l xs ys) ⟨h1,h2,?_⟩
 obtain ⟨a1,a2,a3,a4,a5,a6,a7,a8⟩:=fI s.heap (itT t) (itT l) rfl rfl
 rw [a8]
 exact ⟨⟨_,a1,rfl⟩,h⟩
end
def ZS (h:Heap) (z TI TO i1 i2:Addr):Prop:=IsPair h TI (.ref i1) (.ref i2)∧((FD h z TI TO .none (.bool false)∧∃ a b,IsPair h TO a b)∨∃ (T:Addr) (oT:Obj) (b1:Bool),FD h z TI TO (rawInt T) (.bool b1)∧h.get? T=some oT∧T≠z∧T≠i1∧T≠i2)
section
variable {P:Program} {w:World} {A:Around} {E:Value→Shared→Prop} {s:Shared} {z TI TO i1 i2 l1 l2:Addr} {xs ys:Array Value} {S1 S2:Nat→Heap→Prop} {k1 k2:Nat} {x y:Value}
theorem ZS.ty {h:Heap} (hz:ZS h z TI TO i1 i2):∃ vs,h.get? z=some { cls:= .type "zip",dict:=none,data:= .fields vs,slots:= #[] }:=by
 rcases hz with ⟨_,⟨hz,_⟩ | ⟨T,oT,b1,hz,_⟩⟩
 ·exact ⟨_,hz⟩
 ·exact ⟨_,hz⟩
theorem iJ {Q:Option Value→Shared→Prop} (hh:A.handled=none) (D:ZipApart z TI TO i1 i2 l1 l2) (W1:Wk P w i1 l1 xs S1) (W2:Wk P w i2 l2 ys S2) (hz:ZS s.heap z TI TO i1 i2) (t1:S1 k1 s.heap) (t2:S2 k2 s.heap) (hx:xs[k1]? =none∨ys[k2]? =none)
  (hQ:∀ g,(∀ c o,c≠z→c≠TO→c≠i1→c≠i2→s.heap.get? c=some o→g.get? c=some o)→Q none { s with heap:=g }):wpAny (model P w) A (pyNext (.ref z)) Q E s:=by
 have ty:s.TypeIs (.ref z) "zip":=by obtain ⟨vs,e⟩:=hz.ty;exact ⟨_,e,rfl⟩
 obtain ⟨ti,hz⟩:=hz
 walk_at "b26"
 rcases hz with ⟨hz,a,b,tt⟩ | ⟨T,oT,b1,hz,hT,n1,n2,n3⟩
 ·exact iO hh D W1 W2 hz ti tt t1 t2 hx fun g e kg ⟨o,he,hc⟩=>wpAny_bind (wpAny_isInstance (T:="StopIteration") (b:=true) ⟨o,he,hc⟩ isSubtype_stop (wpAny_pure (hQ g kg)))
 ·exact gM hh D W1 W2 hz hT ti t1 t2 hx fun g e kg ⟨o,he,hc⟩=>wpAny_bind (wpAny_isInstance (T:="StopIteration") (b:=true) ⟨o,he,hc⟩ isSubtype_stop (wpAny_pure (hQ g fun c o c1 _ c3 c4 q=>kg c o c1 c3 c4 q)))
end
section
variable {P:Program} {w:World} {z TI TO i1 i2 l1 l2 d:Addr} {xs ys:Array Value} {S1 S2:Nat→Heap→Prop}
end
section
variable {P:Program} {w:World} {A:Around} {E:Value→Shared→Prop} {s:Shared}
end
section
variable {X:Cx} {e f:Expr} {ta:TA} {p p' pos pos':Pos}
end
section
variable {X:Cx} {e:Expr} {te:TE} {p pos:Pos}
end
def eI (js:List Nat) (os:List Str) (wi:TI) (g:TG) (tk tv:TE):TE:=fun σ H Q=>wi σ H fun J H1=>∀ p,H1 p=none→
 ∃ W:Nat→Nat→St→Hp→Prop,(∃ m,W 0 m (stC js os σ) (upd H1 p (.dK [])))∧∀ i m σ H,W i m σ H→
  (J.stop i H∧Q (.ref p) H)∨(J.go i H∧∀ x H',J.yld i H x H'→g x σ H' fun σ2 H2=>tk σ2 H2 fun y H3=>tv σ2 H3 fun z H4=>
   ∃ (kvs:List (Key×V)) (k:Key),y=kV k∧H4 p=some (.dK kvs)∧kvs.length<sizeLine∧∃ m',m'<m∧W (i+1) m' σ2 (upd H4 p (.dK (IF kvs k z))))
section
variable {X:Cx}
end
def DKW (J:It) (g:TG) (tk tv:TE) (p:Addr) (Q:VK) (σ:St) (H1:Hp):Prop:=∃ W:Nat→Nat→St→Hp→Prop,(∃ m,W 0 m σ H1)∧∀ i m σ H,W i m σ H→
  (J.stop i H∧Q (.ref p) H)∨(J.go i H∧∀ x H',J.yld i H x H'→g x σ H' fun σ2 H2=>tk σ2 H2 fun y H3=>tv σ2 H3 fun z H4=>
   ∃ (kvs:List (Key×V)) (k:Key),y=kV k∧H4 p=some (.dK kvs)∧kvs.length<sizeLine∧∃ m',m'<m∧W (i+1) m' σ2 (upd H4 p (.dK (IF kvs k z))))
theorem GB (js:List Nat) (os:List Str) (wi:TI) (g:TG) (tk tv:TE) (σ:St) (H:Hp) (Q:VK):eI js os wi g tk tv σ H Q=wi σ H fun J H1=>∀ p,H1 p=none→DKW J g tk tv p Q (stC js os σ) (upd H1 p (.dK [])):=rfl
def SF (td ty:TE):TE:=fun σ H Q=>td σ H fun x H1=>ty σ H1 fun y H2=>CJ x fun a=>∃ kvs k v,Rd H2 a (.dK kvs)∧y=kV k∧FX kvs k=some v∧Q v H2
def RQ (td ty tv:TE):TS:=fun D σ H=>tv σ H fun v H1=>td σ H1 fun x H2=>ty σ H2 fun y H3=>CJ x fun a=>∃ kvs k,H3 a=some (.dK kvs)∧y=kV k∧kvs.length<sizeLine∧D.nx σ (upd H3 a (.dK (IF kvs k v)))
def WE (neg:Bool):R2:=fun y x H Q=>CJ x fun a=>∃ kvs k,Rd H a (.dK kvs)∧y=kV k∧Q (.bl (if neg then !(FX kvs k).isSome else (FX kvs k).isSome)) H
def RG:List V→Hp→VK→Prop:=fun xs H Q=>∃ i:Int,xs=[.int i]∧i.natAbs.log2<1920∧Q (.str (Str.ofString (toString i))) H
def SA:R2:=fun x y H Q=>∃ a b,x= .str a∧y= .str b∧a.length+b.length≤sizeLine∧Q (.str (a++b)) H
section
variable {X:Cx} {o i e value:Expr} {pos pos':Pos} {td ty tv:TE}
theorem cO (hu:X.A.units+1<cLine) (ho:PE X o td) (hi:PE X i ty) (hs:gC i):PE X (.Subscript o i pos) (SF td ty):=by
 walk_at "b18"
 refine VQ PySem.F.slot_dict_getitem.lookup hs (thn (ho pins s σ H _ I h) fun u s1 ⟨x,H1,I1,rx,q1⟩=>thn (hi pins s1 σ H1 _ I1 q1) fun iv s2 ⟨y,H2,I2,ry,q2⟩=> ?_)
 obtain ⟨a,rfl,kvs,k,v,hr,rfl,hv,q2⟩:=CJ.ex q2
 obtain rfl:u=Value.ref a:=rx
 have g:YJ H2 a (kV k) (some v):= .inl ⟨kvs,k,hr,rfl,hv.symm⟩
 exact ⟨QG I2 g,XB hu I2 g ry fun w' s3 I3 rw'=>⟨v,H2,I3,rw',q2⟩⟩
theorem dJ (hu:X.A.units+1<cLine) (ho:PE X o td) (hi:PE X i ty) (hv:PE X value tv) (hs:swapsWith value (some (.Subscript o i pos')) pos.line X.env=pure false:=by rfl):PS X (.Assign [.Subscript o i pos'] value pos) (RQ td ty tv):=by
 walk_at "b56"
 refine wpAny_Assign_Subscript (thn (hv pins s σ H _ I h) fun r s1 ⟨v,H1,I1,rv,q1⟩=>thn (ho pins s1 σ H1 _ I1 q1) fun u s2 ⟨x,H2,I2,rx,q2⟩=>thn (hi pins s2 σ H2 _ I2 q2) fun iv s3 ⟨y,H3,I3,ry,q3⟩=> ?_) hs
 obtain ⟨a,rfl,kvs,k,hr,rfl,hl,q3⟩:=CJ.ex q3
 obtain rfl:u=Value.ref a:=rx
 exact WF hu I3 (fG.k hr hl) ry rv fun s4 I4=>⟨σ,_,I4,q3⟩
theorem gT (hu:X.A.units+1<cLine):OpR X (compareOp .In) (WE false):=by
 intro pins s σ H y x iv u Q I ry rx h
 obtain ⟨a,rfl,kvs,k,hr,rfl,q⟩:=CJ.ex h
 obtain rfl:u=Value.ref a:=rx
 exact d_in hu I (.inl ⟨kvs,k,hr,rfl,rfl⟩) ry fun s3 I3=>⟨.bl (FX kvs k).isSome,H,I3,rfl,q⟩
theorem XX (hu:X.A.units+1<cLine):OpR X (compareOp .NotIn) (WE true):=by
 intro pins s σ H y x iv u Q I ry rx h
 obtain ⟨a,rfl,kvs,k,hr,rfl,q⟩:=CJ.ex h
 obtain rfl:u=Value.ref a:=rx
 exact dN hu I (.inl ⟨kvs,k,hr,rfl,rfl⟩) ry fun s3 I3=>⟨.bl (!(FX kvs k).isSome),H,I3,rfl,q⟩
theorem OC:DI X (.type "str") RG:=by
 walk_at "b37"
 obtain ⟨i,rfl,hi,q⟩:=h
 obtain ⟨u,rfl,t,rfl⟩:=KS r
 exact P.str_of_int hi ⟨.str _,H,I.tok _,⟨_,rfl⟩,q⟩
theorem PV:OpR X (binaryOp .Add) SA:=by
 walk_at "b7"
 obtain ⟨a,b,rfl,rfl,hl,q⟩:=h
 walk_at "b30"
 exact SBL.add (fun t'' k _=>⟨.str _,H,I.tok _,⟨_,rfl⟩,q⟩) hl
end
def KzE (K:PySem.W.Frag) (P:Params) (k:Str×D) (e:DictEntry):Prop:=(∃ t,e.key= .str k.1 t)∧e.hash=PyData.keyHash P k.1∧GV K k.2 e.val=true
structure KZ (K:PySem.W.Frag) (P:Params) (ks:List (Str×D)) (u:Value):Prop where
 ex:∃ p o en ep,u= .ref p∧K.lookup p=some o∧o.ExactDict∧o.data= .dict en ep∧Paired (KzE K P) ks en.toList
def lkS (ks:List (Str×D)) (k:Str):Option D:=(ks.find? fun x=>decide (x.1=k)).map (·.2)
theorem MF {K:PySem.W.Frag} {prog:Program} {w:World}:∀ {ks:List (Str×D)} {es:List DictEntry},Paired (KzE K w.params) ks es→∃ kvs:List (Str×Value),Pairs (strKind prog w) es kvs∧kvs.map (·.1)=ks.map (·.1)∧(∀ e∈es,∃ k,(strKind prog w).is k e.key=true∧e.hash=(strKind prog w).hash k)∧∀ k d,lkS ks k=some d→∃ u,valueAt kvs k=some u∧∃ v,AZ v u∧∀ H,Rp K H d v
 | _,_,.nil=>⟨[],.nil,rfl,(fun e he=>by cases he),fun k d h=>by cases h⟩
 | (k0,d0)::ks,e0::es,.cons ⟨⟨t,h1⟩,h2,h3⟩ r=>by
  obtain ⟨kvs,p1,p2,p3,p4⟩:=MF (prog:=prog) (w:=w) r
  have is0:(strKind prog w).is k0 e0.key=true:=by rw [h1];show Value.isStrOf k0 (.str k0 t)=true;simp [Value.isStrOf]
  refine ⟨(k0,e0.val)::kvs,.cons is0 rfl p1,by simp [p2],fun e he=> ?_,fun k d h=> ?_⟩
  ·rcases List.mem_cons.mp he with rfl | he
   ·exact ⟨k0,is0,h2⟩
   ·exact p3 e he
  ·unfold lkS at h
   unfold valueAt
   rw [List.find?_cons] at h ⊢
   by_cases hk:k0=k
   ·simp only [hk,decide_true] at h ⊢
    cases h
    obtain ⟨v,h3,h4⟩:=JK h3
    exact ⟨_,rfl,v,h3,h4⟩
   ·simp only [hk,decide_false] at h ⊢
    exact p4 k d h
section
variable {X:Cx} {o i:Expr} {pos:Pos} {td ty:TE}
def tKz (K:PySem.W.Frag) (ks:List (Str×D)) (u:V) (td ty:TE):TE:=fun σ H Q=>td σ H fun x H1=>x=u∧ty σ H1 fun y H2=>∃ k,y= .str k∧∃ d,lkS ks k=some d∧∀ v,Rp K H2 d v→Q v H2
theorem fO {K:PySem.W.Frag} {w:World} {ks:List (Str×D)} {u:V} {uv:Value} (hK:X.K=K) (hw:X.w=w) (hu:KZ K w.params ks uv) (hr:AZ u uv) (nd:(ks.map (·.1)).Nodup) (ho:PE X o td) (hi:PE X i ty) (hs:gC i):PE X (.Subscript o i pos) (tKz K ks u td ty):=by
 subst hK;subst hw
 walk_at "b18"
 refine VQ PySem.F.slot_dict_getitem.lookup hs (thn (ho pins s σ H _ I h) fun uo s1 ⟨x,H1,I1,rx,q1⟩=> ?_)
 obtain ⟨rfl,q1⟩:=q1
 refine thn (hi pins s1 σ H1 _ I1 q1) fun iv s2 ⟨y,H2,I2,ry,q2⟩=> ?_
 obtain ⟨k,rfl,d,lk,q⟩:=q2
 obtain ⟨p,ob,en,ep,rfl,hl,ed,hd,pr⟩:=hu.ex
 obtain ⟨kvs,p1,p2,p3,p4⟩:=MF (prog:=X.prog) (w:=X.w) pr
 have dd:s2.heap.DictOf (strKind X.prog X.w) p kvs:=⟨ob,en,ep,I2.kIn p ob hl,ed,hd,fun e he=>p3 e (by simpa using he),p1,by rw [p2];exact nd⟩
 walk_at "b46"
 obtain ⟨w',hw,v,rv,hv⟩:=p4 k d lk
 exact ⟨dd.typeIs,wpAny_getItem_of (show (strKind X.prog X.w).is k (.str k t)=true by show Value.isStrOf k (.str k t)=true;simp [Value.isStrOf]) dd.mapOf hw ⟨v,H2,I2.tok _,rv,q v (hv H2)⟩⟩
end
def cT (K:PySem.W.Frag) (a b:Addr):It:=
 ⟨fun i H=>∃ xs ys x y,SqT K H a xs∧SqT K H b ys∧xs[i]? =some x∧ys[i]? =some y,
  fun i H v H'=>∃ p x y,v= .ref p∧H p=none∧H'=upd H p (.tup [x,y])∧∀ xs ys,SqT K H a xs→SqT K H b ys→xs[i]? =some x∧ys[i]? =some y,
  fun i H=>∃ xs ys,SqT K H a xs∧SqT K H b ys∧(xs.length≤i∨ys.length≤i)⟩
theorem WR {P:Program} {w:World} {K:PySem.W.Frag} {elts:List Expr} {tx:Nat} {tp:Pos} (a b z TI TO i1 i2:Addr) (ap:ZipApart z TI TO i1 i2 a b):
  WG P w K (.Tuple elts tx tp) (cT K a b) [z,TI,TO,i1,i2] z (fun i h=>FD h z TI TO .none (.bool false)∧IsPair h TI (.ref i1) (.ref i2)∧(∃ u v,IsPair h TO u v)∧IsTupIter h i1 a i∧IsTupIter h i2 b i) where
 mem:=by simp
 obj:=fun i h ⟨t1,t2,⟨u,v,t3⟩,⟨o4,e4,c4,d4⟩,⟨o5,e5,c5,d5⟩⟩ c hc=>by
  rcases List.mem_cons.mp hc with rfl | hc
  ·exact ⟨_,t1,fun v z=>by cases z⟩
  rcases List.mem_cons.mp hc with rfl | hc
  ·exact ⟨_,t2,fun v z=>by cases z⟩
  rcases List.mem_cons.mp hc with rfl | hc
  ·exact ⟨_,t3,fun v z=>by cases z⟩
  rcases List.mem_cons.mp hc with rfl | hc
  ·exact ⟨_,e4,fun v z=>by rw [d4] at z;cases z⟩
  rcases List.mem_cons.mp hc with rfl | hc
  ·exact ⟨_,e5,fun v z=>by rw [d5] at z;cases z⟩
  ·cases hc
 keep:=fun i h h' ⟨t1,t2,⟨u,v,t3⟩,⟨o4,e4,r4⟩,⟨o5,e5,r5⟩⟩ k=>⟨k z (by simp) _ t1,k TI (by simp) _ t2,⟨u,v,k TO (by simp) _ t3⟩,⟨o4,k i1 (by simp) _ e4,r4⟩,⟨o5,k i2 (by simp) _ e5,r5⟩⟩
 item:=by
  intro X hP hw hK hc i pins s σ H E I hf ⟨t1,t2,⟨u,v,t3⟩,t4,t5⟩ hg
  subst hP hw hK
  obtain ⟨xs,ys,x,y,hq,hq',hx,hy⟩:=hg
  obtain ⟨its,rv,p,hz⟩:=I.tuple hq
  obtain ⟨its',rv',p',hz'⟩:=I.tuple hq'
  obtain ⟨ux,hux,rux⟩:=rv.get hx
  obtain ⟨uy,huy,ruy⟩:=rv'.get hy
  have W1:Wk X.prog X.w i1 a its.toArray _:=PX ap.l1i1
  have W2:Wk X.prog X.w i2 b its'.toArray _:=PX ap.l2i2
  have ty:s.TypeIs (.ref z) "zip":=⟨_,t1,rfl⟩
  walk_at "b26"
  refine lB ap W1 W2 t1 t2 t3 ⟨t4,p⟩ ⟨t5,p'⟩ (x:=ux) (y:=uy) (by simpa using hux) (by simpa using huy) fun h' z1 z2 z3 z4 z5 z6 z7=>wpAny_pure ?_
  refine ⟨_,rfl,wpAny_letOwnedTupleGo_zip z1 fun h2 y1 sb=> ?_⟩
  have ne:∀ c o,s.heap.get? c=some o→s.heap.objs.size≠c:=fun c o e=>Nat.ne_of_gt (Heap.lt_size e)
  have kk:∀ c o,c∉[z,TI,TO,i1,i2]→s.heap.get? c=some o→h2.get? c=some o:=fun c o hc e=>by
   simp only [List.mem_cons,not_or,List.not_mem_nil,not_false_eq_true,and_true] at hc
   obtain ⟨n1,n2,n3,n4,n5⟩:=hc
   rw [sb.2 c n1]
   exact z7 c o n1 n3 n4 n5 e
  have hp2:h2.get? s.heap.objs.size=some { cls:= .type "tuple",data:= .seq #[ux,uy] }:=by rw [sb.2 _ (ne z _ t1)];exact z5
  have I2:Inv X pins σ (upd H s.heap.objs.size (.tup [x,y])) { s with heap:=h2 }:=I.turnedNew (t':=s.toks) kk hf (Nat.le_refl _) ⟨(by decide:(2:Nat)≤sizeLine),[ux,uy],.cons rux (.cons ruy .nil),⟨_,hp2,rfl,_,rfl⟩⟩
  refine ⟨.ref s.heap.objs.size,_,I2,rfl,⟨_,x,y,rfl,I.fresh,rfl,fun xs' ys' hx' hy'=> ?_⟩,⟨y1,?_,⟨ux,uy,?_⟩,?_,?_⟩,fun c hc=> ?_⟩
  ·rw [I.tuple_inj hx' hq,I.tuple_inj hy' hq'];exact ⟨hx,hy⟩
  ·have:=z7 TI _ ap.TIz ap.TITO ap.TIi1 ap.TIi2 t2
   show h2.get? TI=_
   rw [sb.2 _ ap.TIz];exact this
  ·show h2.get? TO=_
   rw [sb.2 _ ap.TOz];exact z2
  ·obtain ⟨o,e,r⟩:=z3.1
   exact ⟨o,by show h2.get? i1=_;rw [sb.2 _ ap.i1z];exact e,r⟩
  ·obtain ⟨o,e,r⟩:=z4.1
   exact ⟨o,by show h2.get? i2=_;rw [sb.2 _ ap.i2z];exact e,r⟩
  ·have lt:∃ o,s.heap.get? c=some o:=by
    obtain ⟨o4,e4,_⟩:=t4
    obtain ⟨o5,e5,_⟩:=t5
    simp only [List.mem_cons,List.not_mem_nil,or_false] at hc
    rcases hc with rfl | rfl | rfl | rfl | rfl
    ·exact ⟨_,t1⟩
    ·exact ⟨_,t2⟩
    ·exact ⟨_,t3⟩
    ·exact ⟨_,e4⟩
    ·exact ⟨_,e5⟩
   obtain ⟨o,e⟩:=lt
   rw [BA (Ne.symm (ne c o e))]
   exact (hf c hc).1
 done:=by
  intro X hP hw hK hc i pins s σ H E I hf ⟨t1,t2,⟨u,v,t3⟩,t4,t5⟩ hg
  subst hP hw hK
  obtain ⟨xs,ys,hq,hq',hx⟩:=hg
  obtain ⟨its,rv,p,hz⟩:=I.tuple hq
  obtain ⟨its',rv',p',hz'⟩:=I.tuple hq'
  have hl:=rv.length
  have hl':=rv'.length
  have W1:Wk X.prog X.w i1 a its.toArray _:=PX ap.l1i1
  have W2:Wk X.prog X.w i2 b its'.toArray _:=PX ap.l2i2
  refine iJ (I.ok.hd hc) ap W1 W2 ⟨t2,.inl ⟨t1,u,v,t3⟩⟩ ⟨t4,p⟩ ⟨t5,p'⟩ (by simp;omega) fun h' eb=>⟨rfl,I.turnedL (t':=s.toks) (fp:=[z,TI,TO,i1,i2]) (fun c o hc e=> ?_) hf⟩
  simp only [List.mem_cons,not_or,List.not_mem_nil,not_false_eq_true,and_true] at hc
  exact eb c o hc.1 hc.2.2.1 hc.2.2.2.1 hc.2.2.2.2 e
 self:=fun _ _ _ _ _ st h=>wpAny_pyIter_zip st.1 h
section
variable {X:Cx} {elts:List Expr} {tx:Nat} {tp p pos:Pos}
def RK (K:PySem.W.Frag) (ta:TA):TI:=fun σ H R=>ta σ H fun vs H1=>o2 vs fun x y=>CJ x fun a=>CJ y fun b=>(∃ xs,SqT K H1 a xs)∧(∃ ys,SqT K H1 b ys)∧R (cT K a b) H1
theorem VI {e f:Expr} {ta:TA} (hg:Gl X "zip") (hm:X.mg "zip"=none) (ha:PA X [e,f] ta)
  (hs:starEach [e,f] X.env=[(false,eval e X.env),(false,eval f X.env)]:=by rfl) (hs2:starEach [f] X.env=[(false,eval f X.env)]:=by rfl):
  PI X (.Tuple elts tx tp) (.Call (.Name "zip" p) [e,f] [] pos) (RK X.K ta):=by
 intro pins s σ H R I h
 refine Call_ (HH I hg hm rfl (PyProof.Rows.callWith_type1 (thn (ha pos pins s σ H _ I h) fun us s1 ⟨vs,H1,I1,r1,q1⟩=> ?_) (by rw [hs,hs2]) (by rw [hs2];rfl)))
 obtain ⟨x,y,rfl,q1⟩:=o2.ex q1
 obtain ⟨a,rfl,q1⟩:=CJ.ex q1
 obtain ⟨b,rfl,⟨xs,hx⟩,⟨ys,hy⟩,q⟩:=CJ.ex q1
 cases r1 with
 | cons r rr=>
  cases rr with
  | cons r' rr=>
   cases rr
   cases r
   cases r'
   obtain ⟨its,rv,p,hz⟩:=I1.tuple hx
   obtain ⟨its',rv',p',hz'⟩:=I1.tuple hy
   have la:a<s1.heap.objs.size:=by obtain ⟨o,e,_⟩:=p;exact Heap.lt_size e
   have lb:b<s1.heap.objs.size:=by obtain ⟨o,e,_⟩:=p';exact Heap.lt_size e
   refine SH p p' ?_
   obtain ⟨z1,z2,z3,z4,z5,z6,z7,z8⟩:=fI s1.heap (itT a) (itT b) rfl rfl
   generalize zp5 s1.heap (itT a) (itT b)=h' at *
   refine wpAny_pyIter_zip z1 ?_
   have ap:ZipApart (s1.heap.objs.size+4) (s1.heap.objs.size+2) (s1.heap.objs.size+3) s1.heap.objs.size (s1.heap.objs.size+1) a b:=by
    exact XR la lb
   refine ⟨_,_,_,_,H1,rfl,I1.kept (t':=s1.toks) z7,WR a b _ _ _ _ _ ap,⟨z1,z2,⟨_,_,z3⟩,⟨_,z4,rfl,rfl⟩,⟨_,z5,rfl,rfl⟩⟩,fun c hc=> ?_,q⟩
   have:s1.heap.objs.size≤c:=aQ hc
   exact I1.fpOk this (I1.hok.fresh this)
end
theorem dM {K:PySem.W.Frag} {a b:Addr} {xs ys:List V} {g:TG} {tt:TT} {te:TE} {p:Addr} {Q:VK} {σ:St} {H:Hp} (Pv:Nat→St→Hp→Prop) (h0:Pv 0 σ H)
  (hl:∀ i σ H,i≤min xs.length ys.length→Pv i σ H→SqT K H a xs∧SqT K H b ys)
  (hs:∀ i q x y σ H,xs[i]? =some x→ys[i]? =some y→Pv i σ H→H q=none→g (.ref q) σ (upd H q (.tup [x,y])) fun σ2 H2=>tt σ2 H2 fun b H3=>if b=true then te σ2 H3 fun y H4=>∃ ys',H4 p=some (.lst ys')∧ys'.length<sizeLine∧Nx (min xs.length ys.length) i (Pv (i+1) σ2 (upd H4 p (.lst (ys'++[y])))) else Nx (min xs.length ys.length) i (Pv (i+1) σ2 H3))
  (hd:∀ σ H,Pv (min xs.length ys.length) σ H→Q (.ref p) H):CW (cT K a b) g tt te p Q σ H:=by
 walk_at "b27"
 by_cases hlt:i<min xs.length ys.length
 ·have h1:i<xs.length:=by omega
  have h2:i<ys.length:=by omega
  refine .inr ⟨⟨xs,ys,xs[i],ys[i],w1,w2,by simp [h1],by simp [h2]⟩,fun v H' z=> ?_⟩
  obtain ⟨c,x,y,rfl,hp,rfl,k⟩:=z
  obtain ⟨e1,e2⟩:=k xs ys w1 w2
  exact hs i c x y σ H e1 e2 q hp
 ·have e:i=min xs.length ys.length:=by omega
  exact .inl ⟨⟨xs,ys,w1,w2,by omega⟩,hd σ H (e ▸ q)⟩
def cJ (K:PySem.W.Frag) (u:Value):List DictEntry:=match u with
 | .ref p=>(match K.lookup p with
  | some o=>(match o.data with | .dict es _=>es.toList | _=>[])
  | none=>[])
 | _=>[]
def gU (K:PySem.W.Frag) (u:Value):Bool:=match u with
 | .ref p=>(match K.lookup p with
  | some o=>(match o.cls,o.dict,o.data with
   | .type n,none,.dict es _=>n == "dict" && o.slots.size == 0
   | _,_,_=>false)
  | none=>false)
 | _=>false
def gJ:Value→Option Str
 | .str x _=>some x
 | _=>none
def kzV (K:PySem.W.Frag):List (Str×D)→List DictEntry→Bool
 | [],[]=>true
 | k::ks,e::es=>GV K k.2 e.val && kzV K ks es
 | _,_=>false
theorem fP {K:PySem.W.Frag} {P:Params}:∀ {ks:List (Str×D)} {es:List DictEntry},es.map (fun e=>(gJ e.key,e.hash))=ks.map (fun k=>(some k.1,PyData.keyHash P k.1))→kzV K ks es=true→Paired (KzE K P) ks es
 | [],[],_,_=> .nil
 | [],_::_,h,_=>by simp at h
 | _::_,[],h,_=>by simp at h
 | k::ks,e::es,h,g=>by
  rw [List.map_cons,List.map_cons] at h
  injection h with h1 h2
  injection h1 with h3 h4
  rw [kzV,Bool.and_eq_true] at g
  refine .cons ⟨?_,h4,g.1⟩ (fP h2 g.2)
  cases hk:e.key with
  | str x t=>rw [hk] at h3;injection h3 with h3;exact ⟨t,by rw [h3]⟩
  | _=>rw [hk] at h3;cases h3
theorem lE {K:PySem.W.Frag} {P:Params} {ks:List (Str×D)} {u:Value} (h1:gU K u=true) (h2:(cJ K u).map (fun e=>(gJ e.key,e.hash))=ks.map (fun k=>(some k.1,PyData.keyHash P k.1))) (h3:kzV K ks (cJ K u)=true):KZ K P ks u:=by
 have h4:=fP h2 h3
 unfold gU at h1
 split at h1
 ·rename_i p
  unfold cJ at h4
  cases e:K.lookup p with
  | none=>rw [e] at h1;cases h1
  | some o=>
   rw [e] at h1
   dsimp only at h1 h4
   rw [e] at h4
   dsimp only at h4
   split at h1
   ·rename_i n es ep ec ed ee
    rw [ee] at h4
    simp only [Bool.and_eq_true,beq_iff_eq] at h1
    obtain ⟨rfl,hz⟩:=h1
    exact ⟨p,o,es,ep,rfl,e,⟨ec,ed,Array.eq_empty_of_size_eq_zero hz⟩,ee,h4⟩
   ·cases h1
 ·cases h1
def KZn (u:Value):Prop:=∀ p,u= .ref p→(p == sysModules)=false
def aE (ks:List (Str×D)) (u:V):R2:=fun y x H Q=>x=u∧∃ k,y= .str k∧(lkS ks k).isSome=true∧Q (.bl true) H
section
variable {X:Cx}
theorem iX {K:PySem.W.Frag} {w:World} {ks:List (Str×D)} {u:V} {uv:Value} (hK:X.K=K) (hw:X.w=w) (hu:KZ K w.params ks uv) (hr:AZ u uv) (nd:(ks.map (·.1)).Nodup) (hz:KZn uv):OpR X (compareOp .In) (aE ks u):=by
 subst hK;subst hw
 intro pins s σ H y x iv v Q I ry rx h
 obtain ⟨rfl,k,rfl,hk,q⟩:=h
 obtain ⟨p,ob,en,ep,rfl,hl,ed,hd,pr⟩:=hu.ex
 obtain ⟨kvs,p1,p2,p3,p4⟩:=MF (prog:=X.prog) (w:=X.w) pr
 have dd:s.heap.DictOf (strKind X.prog X.w) p kvs:=⟨ob,en,ep,I.kIn p ob hl,ed,hd,fun e he=>p3 e (by simpa using he),p1,by rw [p2];exact nd⟩
 walk_at "b46"
 obtain ⟨d,ed2⟩:=Option.isSome_iff_exists.mp hk
 obtain ⟨w',hw',_⟩:=p4 k d ed2
 refine wpAny_in_of (show (strKind X.prog X.w).is k (.str k t)=true by show Value.isStrOf k (.str k t)=true;simp [Value.isStrOf]) (hz p rfl) dd.mapOf ?_
 rw [hw']
 exact ⟨.bl true,H,I.tok _,rfl,q⟩
end
section
variable {X:Cx}
def GC (xs:List V) (H:Hp) (Q:VK):Prop:=∃ x:Str,xs=[.str x]∧x.length≤sizeLine∧Q (.int x.length) H
theorem UG:DI X (.builtin "len") GC:=by
 walk_at "b37"
 obtain ⟨x,rfl,hl,q⟩:=h
 obtain ⟨u,rfl,t,rfl⟩:=KS r
 have hn:=KQ
 exact len_str (by omega) ⟨.int x.length,H,I.tok _,⟨_,rfl⟩,q⟩
def YX:R2:=fun x y H Q=>∃ a b,x= .str a∧y= .str b∧Q (.bl (!decide (b.cps.toList<a.cps.toList))) H
theorem aC:OpR X (compareOp .LtE) YX:=by
 walk_at "b7"
 obtain ⟨a,b,rfl,rfl,q⟩:=h
 walk_at "b30"
 exact P.le_str ⟨.bl _,H,I,rfl,q⟩
def SC (K:PySem.W.Frag) (xs:List V) (H:Hp) (Q:VK):Prop:=o1 xs fun x=>CJ x fun l=>∃ bs:List Bool,SqL K H l (bs.map V.bl)∧Q (.bl (bs.all id)) H
theorem XE (bs:List Bool):((List.range bs.length).all fun i=>bs.getD i false)=bs.all id:=by
 rw [Bool.eq_iff_iff,List.all_eq_true,List.all_eq_true]
 constructor
 ·intro h b hb
  obtain ⟨i,hi,rfl⟩:=List.getElem_of_mem hb
  have:=h i (List.mem_range.mpr hi)
  rw [List.getD_eq_getElem?_getD,List.getElem?_eq_getElem hi,Option.getD_some] at this
  exact this
 ·intro h i hi
  have hi':=List.mem_range.mp hi
  rw [List.getD_eq_getElem?_getD,List.getElem?_eq_getElem hi',Option.getD_some]
  exact h _ (List.getElem_mem hi')
theorem XU (hc:X.calm=true):DI X (.builtin "all") (SC X.K):=by
 walk_at "b37"
 obtain ⟨x,rfl,h⟩:=o1.ex h
 obtain ⟨l,rfl,bs,hq,q⟩:=CJ.ex h
 obtain ⟨u,rfl,ru⟩:=KS r
 cases ru
 obtain ⟨its,rv,p,hz⟩:=I.list hq
 have hl:its.length=bs.length:=by rw [← rv.length,List.length_map]
 have hlt:l<s.heap.objs.size:=by obtain ⟨o,e,_⟩:=p.isList;exact Heap.lt_size e
 refine call_all_walk (wpAny_pyIter_list p.isList ?_)
 refine ⟨s.heap.objs.size,[s.heap.objs.size,l],[s.heap.objs.size],its.toArray.size,_,_,fun i=>bs.getD i false,rfl,Walks.list (A:=X.A.in1) (I.ok.hd hc) s.heap.objs.size l (Nat.ne_of_lt hlt) its.toArray,
  ⟨⟨_,Heap.get?_push_size _ rfl,rfl,rfl⟩,p.isList.at fun o e=>Heap.get?_push_of_some _ e⟩,fun i v s' Q' E' hP hQ=> ?_,fun h' tk hk=> ?_⟩
 ·have e':its[i]? =some v:=by simpa using hP
  obtain ⟨w,hw,rw'⟩:=AY.get' rv e'
  rw [List.getElem?_map] at hw
  cases hn:bs[i]? with
  | none=>rw [hn] at hw;cases hw
  | some z=>
   rw [hn] at hw
   cases Option.some.inj hw
   cases rw'
   dsimp only at hQ
   rw [List.getD_eq_getElem?_getD,hn,Option.getD_some] at hQ
   exact wpAny_truthy_bool hQ
 ·have e:((List.range its.toArray.size).all fun i=>bs.getD i false)=bs.all id:=by
   rw [List.size_toArray,hl];exact XE bs
  rw [e]
  refine ⟨.bl _,H,I.kept (t':=tk) (fun b o e=>hk b o ?_ (Heap.get?_push_of_some _ e)),rfl,q⟩
  intro hb
  rw [List.mem_singleton.mp hb] at e
  exact absurd (Heap.lt_size e) (Nat.lt_irrefl _)
def Its (x:Str):It:=⟨fun i _=>i<x.cps.size,fun i H v H'=>H'=H∧∃ c,x.cps[i]? =some c∧v= .str ⟨#[c]⟩,fun i _=>x.cps.size≤i⟩
theorem cL {P:Program} {w:World} {K:PySem.W.Frag} {tg:Expr} (x:Str) (t:Tok) (it:Addr):WG P w K tg (Its x) [it] it (fun i h=>h.IsStrIter it "str_ascii_iterator" x t i) where
 mem:=by simp
 obj:=fun i h st b hb=>by
  walk_at "b25"
 keep:=fun i h h' st k=>by
  obtain ⟨o,e,r⟩:=st
  exact ⟨o,k it (by simp) o e,r⟩
 item:=by
  walk_at "b10"
  have hi:i<x.cps.size:=hg
  walk_at "b19"
  refine wpAny_pyNext_ascii_item st (c:=x.cps[i]) (by simp [hi]) fun h' st' sb=> ?_
  have I1:Inv X pins σ H { s with heap:=h',toks:=s.toks+1 }:=I.turned (t':=s.toks+1) (fun b o hb e=>(sb.2 b hb).trans e) f0 f1 f3 f4 f5
  obtain ⟨o,e,c,d⟩:=id st'
  exact ⟨_,rfl,VC (s:={ s with heap:=h',toks:=s.toks+1 }) e c d (by decide) ⟨.str ⟨#[x.cps[i]]⟩,H,I1,⟨_,rfl⟩,⟨rfl,_,by simp [hi],rfl⟩,st',fun b hb=>(hf b hb).1⟩⟩
 done:=by
  walk_at "b10"
  have hi:x.cps.size≤i:=hg
  walk_at "b19"
  exact wpAny_pyNext_ascii_end (I.ok.hd hc) st (by simp [hi]) fun h' eb=>⟨rfl,I.turned (t':=s.toks) (fun b o hb e=>eb b o hb e) f0 f1 f3 f4 f5⟩
 self:=fun _ _ _ _ _ st h=>wpAny_pyIter_striter_ascii st h
def ZX (tl:TE):TI:=fun σ H R=>tl σ H fun v H1=>∃ x:Str,v= .str x∧x.cps.all (· <128)=true∧R (Its x) H1
theorem iC {tg l:Expr} {tl:TE} (hl:PE X l tl):PI X tg l (ZX tl):=by
 intro pins s σ H R I h
 refine thn (hl pins s σ H _ I h) fun v s1 ⟨y,H1,I1,r1,q1⟩=> ?_
 obtain ⟨x,rfl,ha,q⟩:=q1
 obtain ⟨t,rfl⟩:=r1
 refine wpAny_pyIter_ascii ha ?_
 refine ⟨s1.heap.objs.size,[s1.heap.objs.size],_,_,H1,rfl,I1.kept (t':=s1.toks) fun b o e=>Heap.get?_push_of_some _ e,cL x t _,⟨_,Heap.get?_push_size _ rfl,rfl,rfl⟩,fun b hb=> ?_,q⟩
 walk_at "b24"
end
section
variable {X:Cx}
def QR (K:PySem.W.Frag) (xs:List V) (H:Hp) (Q:VK):Prop:=o1 xs fun x=>CJ x fun l=>∃ ns:List Int,SqL K H l (ns.map V.int)∧(ns.length≤1000∧∀ n∈ns,0≤n∧n≤1000000)∧Q (.int ns.sum) H
theorem bH:∀ (l:List Int),(∀ n∈l,0≤n∧n≤1000000)→0≤l.sum∧l.sum≤1000000 * (l.length:Int)
 | [],_=>by simp
 | a::l,h=>by
  have h1:=h a (List.mem_cons_self ..)
  have h2:=bH l fun n hn=>h n (List.mem_cons_of_mem _ hn)
  rw [List.sum_cons,List.length_cons]
  omega
theorem KU (ns:List Int):∀ k,k≤ns.length→preSum (fun i=>ns.getD i 0) k=(ns.take k).sum:=by
 intro k
 induction k with
 | zero=>intro _;simp [preSum]
 | succ k ih=>
  intro hk
  have e:ns[k]? =some ns[k]:=List.getElem?_eq_getElem (by omega)
  have e2:(ns.take (k+1)).sum=(ns.take k).sum+ns[k]:=by
   rw [List.take_add_one,e,List.sum_append]
   show _+List.sum [ns[k]]=_
   rw [List.sum_cons,List.sum_nil,Int.add_zero]
  rw [e2,preSum,ih (by omega)]
  show _+ns.getD k 0=_
  rw [List.getD_eq_getElem?_getD,e]
  rfl
theorem WV (hc:X.calm=true):DI X (.builtin "sum") (QR X.K):=by
 walk_at "b37"
 obtain ⟨x,rfl,h⟩:=o1.ex h
 obtain ⟨l,rfl,ns,hq,⟨hl,hb⟩,q⟩:=CJ.ex h
 obtain ⟨u,rfl,ru⟩:=KS r
 cases ru
 obtain ⟨its,rv,p,hz⟩:=I.list hq
 have hle:its.length=ns.length:=by rw [← rv.length,List.length_map]
 have hlt:l<s.heap.objs.size:=by obtain ⟨o,e,_⟩:=p.isList;exact Heap.lt_size e
 refine call_sum_walk (wpAny_pyIter_list p.isList ?_)
 refine ⟨s.heap.objs.size,[s.heap.objs.size,l],[s.heap.objs.size],its.toArray.size,_,_,fun i=>ns.getD i 0,rfl,Walks.list (A:=X.A.in1) (I.ok.hd hc) s.heap.objs.size l (Nat.ne_of_lt hlt) its.toArray,
  ⟨⟨_,Heap.get?_push_size _ rfl,rfl,rfl⟩,p.isList.at fun o e=>Heap.get?_push_of_some _ e⟩,?_,fun i v hP=> ?_,fun j hj=> ?_,fun h' tk t' hk=> ?_⟩
 ·intro b hb
  show b<(s.heap.push _).objs.size
  have e:∀ o,(s.heap.push o).objs.size=s.heap.objs.size+1:=fun o=>Array.size_push ..
  rw [e]
  rcases List.mem_cons.mp hb with hb | hb
  ·rw [hb];exact Nat.lt_succ_self _
  ·rw [List.mem_singleton.mp hb];exact Nat.lt_succ_of_lt hlt
 ·have e':its[i]? =some v:=by simpa using hP
  obtain ⟨w,hw,rw'⟩:=AY.get' rv e'
  rw [List.getElem?_map] at hw
  cases hn:ns[i]? with
  | none=>rw [hn] at hw;cases hw
  | some z=>
   rw [hn] at hw
   cases Option.some.inj hw
   obtain ⟨t,rfl⟩:=rw'
   exact ⟨t,by show Value.int z t=Value.int (ns.getD i 0) t;rw [List.getD_eq_getElem?_getD,hn];rfl⟩
 ·rw [List.size_toArray,hle] at hj
  rw [KU ns (j+1) (by omega)]
  have h1:=hb ns[j] (List.getElem_mem hj)
  have h2:=bH (ns.take (j+1)) fun n hn=>hb n (List.mem_of_mem_take hn)
  rw [List.length_take] at h2
  have e3:(fun i=>ns.getD i 0) j=ns[j]:=by show ns.getD j 0=_;rw [List.getD_eq_getElem?_getD,List.getElem?_eq_getElem hj];rfl
  rw [e3]
  unfold InLong
  refine ⟨⟨by omega,by omega⟩,by omega,by omega⟩
 ·rw [List.size_toArray,hle,KU ns ns.length (Nat.le_refl _),List.take_length]
  refine ⟨.int ns.sum,H,I.kept (t':=tk) (fun b o e=>hk b o ?_ (Heap.get?_push_of_some _ e)),⟨_,rfl⟩,q⟩
  intro hb
  rw [List.mem_singleton.mp hb] at e
  exact absurd (Heap.lt_size e) (Nat.lt_irrefl _)
end
end L2
namespace L2
open PySem PySem.Spec PyProof.Rows
def jR (K:PySem.W.Frag) (HE C:Addr):Bool:=LW K HE C && (PySem.W.findIn K (.ref C) "__getattribute__" == some (some (.builtin "BaseException.__getattribute__"))) && (PySem.W.findIn K (.ref C) "__getattr__" == some none) && (PySem.W.findIn K (.ref C) "__class__" == some (some (.builtin "object.__class__")))
 && (PySem.W.specialIn K (.builtin "object.__class__") "__get__" == some (some (.builtin "getset_descriptor.__get__"))) && (PySem.W.takesIn K (.builtin "object.__class__") == some true) && (PySem.W.mroIn K C (.type "object") == some true)
def hZ (K:PySem.W.Frag) (HE:Addr):Bool:=PySem.W.ktsIn K HE "BaseException" && match K.lookup HE with
 | some ⟨_,_,.cls cd,_⟩=>cd.mro == (.ref HE::veB)
 | _=>false
theorem hZ.obj {K:PySem.W.Frag} {HE:Addr} {h:Heap} (q:hZ K HE=true) (k:K.In h):∃ nm qn N bs hdct sn sub ab col dd k0 k1 k2 k3 k5 nid,h.get? HE=some (excClassObj nm qn HE N bs veB hdct sn sub ab col dd k0 k1 k2 k3 k5 nid):=by
 unfold hZ at q
 simp only [Bool.and_eq_true] at q
 obtain ⟨q1,q3⟩:=q
 obtain ⟨nm,qn,N,bs,bm,hdct,sn,sub,ab,col,dd,k0,k1,k2,k3,k5,nid,e,_,_⟩:=PySem.W.kts_cls k q1
 split at q3
 ·rename_i c0 d0 cd sl lk
  have e2:=k _ _ lk
  rw [e] at e2
  simp only [Option.some.injEq,Obj.mk.injEq,Data.cls.injEq] at e2
  obtain ⟨_,_,rfl,_⟩:=e2
  have q3:Value.ref HE::bm= .ref HE::veB:=beq_iff_eq.mp q3
  injection q3 with _ q3
  subst q3
  exact ⟨nm,qn,N,bs,hdct,sn,sub,ab,col,dd,k0,k1,k2,k3,k5,nid,e⟩
 ·cases q3
section
variable {X:Cx} {pins:List (Addr×Obj)} {σ:St} {H:Hp} {s:Shared} {a:Addr} {oe:Obj}
theorem CH.there {P:Program} {w:World} {H:Hp} {h:Heap} {a:Addr} {o:HO} (x:CH P w H h a o):∃ u,h.get? a=some u:=by
 cases o with
 | lst xs=>obtain ⟨_,_,_,_,e⟩:=x;exact ⟨_,e⟩
 | tup xs=>obtain ⟨_,_,_,p⟩:=x;obtain ⟨_,e,_⟩:=p;exact ⟨_,e⟩
 | dK kvs=>obtain ⟨_,_,_,_,o,_,_,e,_⟩:=x;exact ⟨_,e⟩
 | dT kvs=>obtain ⟨_,_,_,_,o,_,_,e,_⟩:=x;exact ⟨_,e⟩
 | set S n=>obtain ⟨o,_,_,_,e,_⟩:=x;exact ⟨_,e⟩
 | ins C dx fs=>obtain ⟨_,_,_,e,_⟩:=x;exact ⟨_,e⟩
 | own y=>obtain ⟨_,e⟩:=x;exact ⟨_,e⟩
 | xd fs=>obtain ⟨_,⟨_,_,_,e,_⟩,_⟩:=x;exact ⟨_,e⟩
 | rng lo hi=>obtain ⟨_,_,_,e⟩:=x;exact ⟨_,e⟩
 | frz ob u=>obtain ⟨e,_⟩:=x;exact ⟨_,e⟩
 | tbl ps=>exact ⟨_,(show h.get? a=some _ from x)⟩
 | met f y=>exact ⟨_,(show h.get? a=some _ from x)⟩
 | ext φ=>obtain ⟨_,⟨_,e⟩,_⟩:=x;exact ⟨_,e⟩
end
section
variable {X:Cx} {a c HE:Addr} {oe:Obj}
end
def exK (K:PySem.W.Frag) (HE:Addr) (cs:List Addr):Bool:=cs.all fun c=>jR K HE c && (PySem.W.kitOne K (.ref c) (.type "ValueError") == some true) && cs.all fun d=>PySem.W.kitOne K (.ref c) (.ref d) == some (c == d)
theorem exK.k {K:PySem.W.Frag} {HE c:Addr} {cs:List Addr} (h:exK K HE cs=true) (hc:c∈cs):jR K HE c=true:=by
 unfold exK at h
 have:=List.all_eq_true.mp h c hc
 simp only [Bool.and_eq_true] at this
 exact this.1.1
theorem exK.v {K:PySem.W.Frag} {HE c:Addr} {cs:List Addr} (h:exK K HE cs=true) (hc:c∈cs):PySem.W.kitOne K (.ref c) (.type "ValueError")=some true:=by
 unfold exK at h
 have:=List.all_eq_true.mp h c hc
 simp only [Bool.and_eq_true,beq_iff_eq] at this
 exact this.1.2
theorem exK.one {K:PySem.W.Frag} {HE c d:Addr} {cs:List Addr} (h:exK K HE cs=true) (hc:c∈cs) (hd:d∈cs):PySem.W.kitOne K (.ref c) (.ref d)=some (decide (c=d)):=by
 unfold exK at h
 have:=List.all_eq_true.mp h c hc
 simp only [Bool.and_eq_true] at this
 have:=List.all_eq_true.mp this.2 d hd
 rw [beq_iff_eq] at this
 rw [this]
 congr 1
theorem exK.any {K:PySem.W.Frag} {HE c:Addr} {cs:List Addr} (h:exK K HE cs=true) (hc:c∈cs):∀ ds:List Addr,(∀ d∈ds,d∈cs∧c≠d)→PySem.W.kitAny K (.ref c) (ds.map Value.ref)=some false
 | [],_=>by rw [List.map_nil,PySem.W.kitAny]
 | d::ds,hd=>by
  obtain ⟨h1,h2⟩:=hd d List.mem_cons_self
  rw [List.map_cons,PySem.W.kitAny,exK.one h hc h1,decide_eq_false h2]
  exact exK.any h hc ds fun e he=>hd e (List.mem_cons_of_mem _ he)
end L2
namespace L2
open PySem PySem.Spec PyProof.Rows
theorem cI {l:Addr} {items:Array Value} {n:Nat} {dd:Option Addr} {sl:Array (Option Value)} {t:Tok}:
  Meets (Builtin.«tuple.__mul__» { pos:=[.ref l,.int 1 t] }) fun x R s=>s.heap.get? l=some { cls:= .type "tuple",dict:=dd,data:= .seq items n,slots:=sl }∧R (.ok (.ret (.ref l))) s:=by
 intro prog w A R s ⟨e,h⟩
 show wpAny _ _ (asIndex (.int 1 t) >>= _) _ _ s
 refine wpAny_bind ?_
 rw [show asIndex (.int 1 t)=pure 1 from rfl]
 walk_at "b55"
 rw [if_pos (by simp)]
 walk_at "b22"
section
variable {X:Cx}
def iE (K:PySem.W.Frag):R2:=fun x y H Q=>EL y fun k=>∃ ds,Rp K H (.tup ds) x∧1≤k∧k<2 ^ 62∧ds.length * k.toNat≤sizeLine∧∀ v H',AI H H'→Rp K H' (.tup (List.replicate k.toNat ds).flatten) v→Q v H'
theorem ZE:OpR X (binaryOp .Mult) (iE X.K):=by
 walk_at "b7"
 obtain ⟨k,rfl,ds,hx,h0,h1,hz,q⟩:=EL.ex h
 by_cases k2:2≤k
 ·exact YH pins s σ H x (.int k) v u Q I rx ry ⟨ds,hx,k2,h1,hz,q⟩
 have k1:k=1:=by omega
 subst k1
 walk_at "b8"
 have ef:(List.replicate (Int.toNat 1) ds).flatten=ds:=by simp
 rw [ef] at q
 exact wpAny_binaryOp_repeat_ref (T:="tuple") (U:="int") (by decide) ⟨_,e,rfl⟩ (fun s'=>typeIs_int s' 1 t) DG F.fills_int_mul F.slot_int_rmul ER F.slot_int_index.lookup
  (call_meets F.slot_int_rmul (typeIs_int s 1 t) F.entry_int_rmul (F.args_int_rmul_2 _ _) (EQ 1 t a _ n dd sl)
   ⟨e,rfl,⟨_,e,rfl⟩,call_meets F.slot_tuple_mul ⟨_,e,rfl⟩ F.entry_tuple_mul (F.args_tuple_mul_2 _ _) cI ⟨e,⟨.ref a,H,I,rfl,q _ _ (AI.refl _) hx⟩⟩⟩)
end
theorem aV {l:Addr} {items:Array Value} {n:Nat} {dd:Option Addr} {sl:Array (Option Value)} {t:Tok} (hne:items.isEmpty=false):
  Meets (Builtin.«tuple.__mul__» { pos:=[.ref l,.int 0 t] }) fun x R s=>s.heap.get? l=some { cls:= .type "tuple",dict:=dd,data:= .seq items n,slots:=sl }∧
   R (.ok (.ret (.ref s.heap.objs.size))) { s with heap:=s.heap.push { cls:= .type "tuple",data:= .seq #[] } }:=by
 intro prog w A R s ⟨e,h⟩
 show wpAny _ _ (asIndex (.int 0 t) >>= _) _ _ s
 refine wpAny_bind ?_
 rw [show asIndex (.int 0 t)=pure 0 from rfl]
 walk_at "b55"
 rw [if_neg (by simp [hne]),if_pos (by simp)]
 exact wpAny_bind (m:=Builtin.Tuple.tupleExact _) (wpAny_newObj_type (wpAny_pure h) (Nat.zero_le _))
section
variable {X:Cx}
def LV (K:PySem.W.Frag):R2:=fun x y H Q=>EL y fun k=>∃ ds,Rp K H (.tup ds) x∧0≤k∧k<2 ^ 62∧ds.length * k.toNat≤sizeLine∧ds≠[]∧∀ v H',AI H H'→Rp K H' (.tup (List.replicate k.toNat ds).flatten) v→Q v H'
theorem YV:OpR X (binaryOp .Mult) (LV X.K):=by
 walk_at "b7"
 obtain ⟨k,rfl,ds,hx,h0,h1,hz,hne,q⟩:=EL.ex h
 by_cases k2:1≤k
 ·exact ZE pins s σ H x (.int k) v u Q I rx ry ⟨ds,hx,k2,h1,hz,q⟩
 have k1:k=0:=by omega
 subst k1
 walk_at "b8"
 have l1:its.length=ds.length:=by rw [← r1.length,la.length]
 have ef:(List.replicate (Int.toNat 0) ds).flatten=[]:=by simp
 rw [ef] at q
 refine wpAny_binaryOp_repeat_ref (T:="tuple") (U:="int") (by decide) ⟨_,e,rfl⟩ (fun s'=>typeIs_int s' 0 t) DG F.fills_int_mul F.slot_int_rmul ER F.slot_int_index.lookup
  (call_meets F.slot_int_rmul (typeIs_int s 0 t) F.entry_int_rmul (F.args_int_rmul_2 _ _) (EQ 0 t a its.toArray n dd sl)
   ⟨e,rfl,⟨_,e,rfl⟩,call_meets F.slot_tuple_mul ⟨_,e,rfl⟩ F.entry_tuple_mul (F.args_tuple_mul_2 _ _) (aV (by
    cases its with
    | nil=>simp at l1;exact absurd (List.length_eq_zero_iff.mp l1.symm) hne
    | cons _ _=>rfl)) ⟨e,?_⟩⟩)
 refine ⟨.ref s.heap.objs.size,_,I.laid (t':=s.toks) (o:= .tup []) (fun b ob q=>Heap.get?_push_of_some _ q) (Nat.le_refl _) ⟨Nat.zero_le _,_,.nil,IsTup.new _ _⟩,rfl,q _ _ (AI.upd (I.hok.fresh (Nat.le_refl _))) (BL.mpr ⟨_,[],rfl,SqT.of AF,RpL.nil⟩)⟩
end
theorem atom (s:String) (ns:List Nat) (h:s=String.ofList (ns.map Char.ofNat)) (e:(ns.map Char.ofNat).map Char.toNat=ns):Str.ofString s=⟨⟨ns⟩⟩:=by
 rw [h,PySem.W.Fast.ofString_ofList,e]
theorem kG {α:Type} {a b:α} {l m:List α} (h:a=b) (t:l=m):a::l=b::m:=by rw [h,t]
theorem tr2 {α β:Type} {C:α→β→Prop} {a a':α} {b b':β} (e:a=a') (e':b=b') (h:C a' b'):C a b:=by subst e e';exact h
theorem dW (P:Params):((PySem.W.boot_heap P).isNs mainGlobals,(PySem.W.boot_heap P).objs.size,(PySem.W.boot_heap P).nsMap mainGlobals "__annotations__")=(true,11,some (.ref 6)):=by kernel_rfl
noncomputable def YU (p q:Program) (loose:List Str) (Xt:Shared→Bool) {α:Type} (Yf:Shared→α) (w:World) (s:Shared):=
 (PySem.W.staticsOk (importedModules p.main.body) (PySem.W.boot_heap w.params) s.heap && PySem.W.namesBound p s.heap && PySem.W.gensDone s && PySem.W.laidKept (PySem.W.boot_heap w.params) s.heap,
  PySem.W.Fast.tw4187177175401517315 q loose (importedModules p.main.body) Xt true s,Yf s)
def VA (p q:Program) (loose:List Str) (Xt:Shared→Bool) {α:Type} (Yf:Shared→α) (Ya:World→α) (N:Nat) (w:World):Prop:=
 (fun os=>(PySem.W.Fast.tw14082659384304107361 PySem.W.Fast.tw14364793385576792824 p w 11 (some (.ref 6)) N ⟨PySem.W.boot_heap w.params,Array.mk [],PySem.W.boot_drawn,PySem.W.boot_toks,os⟩ (PySem.W.topStub p)).map (YU p q loose Xt Yf w))=
  fun _=>some (true,PySem.W.openGood q loose,Ya w)
theorem XI {p q:Program} {loose:List Str} {Xt:Shared→Bool} {α:Type} {Yf:Shared→α} {Ya:World→α} {N:Nat}
  (e:PySem.W.opening p=PySem.W.plainProg p.main.scope.names) (hN:Nat.ble 600 N=true) (f:∀ s,fenceModules? p s=some s)
  (run:∀ w:World,VA p q loose Xt Yf Ya N w):PySem.W.LeftO p q loose Xt Yf Ya N:=fun w=>by
 obtain ⟨⟨h,gs,d,k,os⟩,e1,e2⟩:=Option.map_eq_some_iff.mp (PySem.W.boot_open e hN f w)
 simp only [Prod.mk.injEq] at e2
 obtain ⟨rfl,rfl,rfl,rfl⟩:=e2
 have b:=dW w.params
 simp only [Prod.mk.injEq] at b
 obtain ⟨b1,b2,b3⟩:=b
 have r:=congrFun (run w) os
 rw [← PySem.W.Fast.te14082659384304107361,← PySem.W.Fast.te14364793385576792824] at r
 obtain ⟨s₁,r1,r2⟩:=Option.map_eq_some_iff.mp r
 unfold YU at r2
 rw [← PySem.W.Fast.te4187177175401517315] at r2
 simp only [Prod.mk.injEq] at r2
 obtain ⟨r2,r3,r4⟩:=r2
 unfold PySem.W.openEnds
 rw [e1]
 show (PySem.W.topFrom treeTable p w N _).map _=_
 have t:PySem.W.topFrom treeTable p w N ⟨PySem.W.boot_heap w.params,Array.mk [],PySem.W.boot_drawn,PySem.W.boot_toks,os⟩=some s₁:=by
  unfold PySem.W.topFrom
  dsimp only
  rw [b1,b2,b3]
  show Option.bind (PySem.W.topRun treeTable p w 11 (some (.ref 6)) N ⟨PySem.W.boot_heap w.params,Array.mk [],PySem.W.boot_drawn,PySem.W.boot_toks,os⟩ (PySem.W.topStub p)) _=_
  rw [r1]
  show (match PySem.W.staticsOk (importedModules p.main.body) (PySem.W.boot_heap w.params) s₁.heap && PySem.W.namesBound p s₁.heap && PySem.W.gensDone s₁ && PySem.W.laidKept (PySem.W.boot_heap w.params) s₁.heap with | true=>some s₁ | false=>none)=_
  rw [r2]
 rw [t]
 exact congrArg some (Prod.ext r3 r4)
noncomputable def nm (l:List Str) (i:Nat):Str:=l.getD i Str.empty
noncomputable def de (P:Params) (x:Str) (t:Nat) (v:Value):DictEntry:=⟨PyData.keyHash P x,.str x t,v⟩
noncomputable def XN (p:Program) (i:Nat):Stmt:=p.main.body.getD i (.Pass ⟨0,0,0,0⟩)
noncomputable def fnO (p:Program) (x:Str) (i:Nat) (kV doc pm:Value) (an:Option Addr) (cdv ct:Value):Obj:=⟨.type "function",none,.func (PySem.W.fnOf x x (AT (XN p i)) (AR (XN p i)) (AE (XN p i)) .none kV doc pm an cdv ct),#[]⟩
noncomputable def fnM (p:Program) (x qual:Str) (i j:Nat) (kV doc pm:Value) (an:Option Addr) (cdv ct:Value):Obj:=⟨.type "function",none,.func (PySem.W.fnOf x qual (AT (HS (XN p i) j)) (AR (HS (XN p i) j)) (AE (HS (XN p i) j)) .none kV doc pm an cdv ct),#[]⟩
end L2
namespace My
open PySem PySem.Spec PyProof.Rows L2
def tmC (c:Char):Lean.MacroM Lean.Term:=do match c with
 | '_' => `(_)
 | 'r' => `((by rfl))
 | 'd' => `((by first | exact Or.inl rfl | exact Or.inr (Or.inl rfl)))
 | 'v' => `((by decide))
 | 'n' => `(.nil)
 | 'i' =>return ⟨Lean.mkIdent `AL⟩
 | 'o' => `(rfl)
 | 'c' => `((by first | exact .inl rfl | exact .inr rfl | assumption))
 | 'a' => `((Or.inl rfl))
 | 'b' => `((fun _ _=>rfl))
 | 'e' => `((AW _))
 | 'f' =>return ⟨Lean.mkIdent `PassesOwn.never⟩
 | 'g' => `((by intro _;rfl))
 | 'h' =>return ⟨Lean.mkIdent `PySem.F.plainAttrs_list⟩
 | 'j' => `(⟨by decide+kernel,by decide+kernel,by decide+kernel,by decide+kernel,by decide+kernel,by decide+kernel⟩)
 | 'k' =>return ⟨Lean.mkIdent `MQ⟩
 | 'l' =>return ⟨Lean.mkIdent `LM⟩
 | 'm' =>return ⟨Lean.mkIdent `PySem.F.slot_list_pop⟩
 | 'p' =>return ⟨Lean.mkIdent `PySem.F.type_list_pop⟩
 | 'q' =>return ⟨Lean.mkIdent `SY⟩
 | 's' =>return ⟨Lean.mkIdent `OR⟩
 | _=>Lean.Macro.throwUnsupported
def tmT:List (Char×Lean.Name×String):=[('A',`AA,"_____**r"),('B',`pvD,"_*__rdvv"),('C',`AB,"_"),('D',`AC,"____"),('E',`AJ,"________***"),('F',`AD,"_____**"),('G',`AG,"___*"),('H',`AH,"________________**r***ni*vrr"),('I',`AK,"____"),('J',`AN,"__*____*o**rc"),('K',`AU,"____*"),('L',`AQ,"__*_*oac"),('M',`BM,"_______***b"),('N',`AM,"________***e"),('O',`BE,"_____*"),('P',`AO,"_________*r***vvrr"),('Q',`BV,"________***"),('R',`BD,"____*r"),('S',`BF,"_"),('T',`BG,"_______**"),('U',`BB,"_____**r"),('V',`CK,"_____*v"),('W',`BU,"_"),('X',`DJ,"____*"),('Y',`CL,"________****"),('Z',`DP,"________fo***g"),('a',`DD,"_____r**v"),('b',`DE,"__*__r**ovv"),('c',`CD,"_____**"),('d',`GU,"____"),('e',`CS,"______r**r"),('f',`CP,"_________*r***vvrr"),('g',`CN,"_______**"),('h',`EC,"_"),('i',`EA,"_"),('j',`GQ,"_____*"),('k',`ET,"_____*o"),('l',`LF,"____________h*****rrrrr"),('m',`FQ,"______*_____****oooj****g"),('n',`FR,"_______**"),('o',`IL,"_______**"),('p',`GD,"____*"),('q',`GO,"___*g"),('r',`FO,"______o*rr"),('s',`GN,"____*"),('t',`JV,"____*"),('u',`FA,"______*"),('v',`MC,"______**rrr"),('w',`LS,"__*______*oa*kc"),('x',`IZ,"__________l***"),('y',`JG,"___*"),('z',`LL,"_"),('!',`VR,"_______**"),('#',`LN,"________**o"),('$',`TJ,"_________hmpq*rr"),('%',`NF,"______f**"),('&',`TU,"____*"),('\'',`UP,"______s*"),('(',`QA,"_________________***r**ni*vrr"),(')',`LU,"____*")]
def tmK (st:List Lean.Term) (c:Char):Lean.MacroM (List Lean.Term):=do
 if c.isDigit then return ⟨Lean.Syntax.mkNumLit (toString c)⟩::st
 if c == '_' then return (← `(_))::st
 let some (f,t):=tmT.lookup c | Lean.Macro.throwUnsupported
 let m:=(t.toList.filter (· == '*')).length
 let (as,_) ← t.toList.foldlM (init:=((#[]:Array Lean.Term),(st.take m).reverse)) fun (as,ks) d=>do
  if d == '*' then match ks with
   | k::r=>return (as.push k,r)
   | []=>Lean.Macro.throwUnsupported
  else return (as.push (← tmC d),ks)
 return Lean.Syntax.mkApp (← `(@$(Lean.mkIdent f))) as::st.drop m
def tmD (x:Lean.Syntax):Lean.MacroM Lean.Term:=do
 let st ← x.getArgs.toList.foldlM (init:=([]:List Lean.Term)) fun st c=>match c.isInterpolatedStrLit? with
  | some w=>w.toList.foldlM tmK st
  | none=>return ⟨c⟩::st
 match st with
  | [t]=>return t
  | _=>Lean.Macro.throwUnsupported
local macro_rules | `(s! $x)=>tmD x
def top (i:Nat):Stmt:=PySem.Challenge.pw_turtlehouse_k11_good_programs.main.body.getD i (.Pass ⟨0,0,0,0⟩)
abbrev CM:Stmt:=HS (top 12) 0
theorem LG:AX ["self","known","many","counted","depth"] ["self","known","many","counted","depth"] (AE CM):=⟨rfl,rfl,rfl,by decide+kernel,rfl,by decide+kernel,by decide+kernel⟩
abbrev CB:Stmt:=HS (top 12) 1
theorem FP:AX ["self","first","counted"] ["self","first"] (AE CB):=⟨rfl,rfl,rfl,by decide+kernel,rfl,by decide+kernel,by decide+kernel⟩
abbrev BR:Stmt:=HS (top 12) 2
theorem HC:AX ["self","source"] ["self","source"] (AE BR):=⟨rfl,rfl,rfl,by decide+kernel,rfl,by decide+kernel,by decide+kernel⟩
abbrev KB:Stmt:=top 13
theorem eY:AX ["holds","why"] ["holds","why"] (AE KB):=⟨rfl,rfl,rfl,by decide+kernel,rfl,by decide+kernel,by decide+kernel⟩
abbrev DS:Stmt:=top 14
theorem QD:AX ["thing","many"] ["thing","many"] (AE DS):=⟨rfl,rfl,rfl,by decide+kernel,rfl,by decide+kernel,by decide+kernel⟩
abbrev CZ:Stmt:=top 15
theorem MI:AX ["thing","low","high"] ["thing","low","high"] (AE CZ):=⟨rfl,rfl,rfl,by decide+kernel,rfl,by decide+kernel,by decide+kernel⟩
abbrev CY:Stmt:=top 16
theorem ME:AX ["thing"] ["thing"] (AE CY):=⟨rfl,rfl,rfl,by decide+kernel,rfl,by decide+kernel,by decide+kernel⟩
abbrev FE:Stmt:=top 17
theorem XM:AX ["thing"] ["thing"] (AE FE):=⟨rfl,rfl,rfl,by decide+kernel,rfl,by decide+kernel,by decide+kernel⟩
abbrev DA:Stmt:=top 18
theorem DX:AX ["thing","setting","times","source","more"] ["thing","setting"] (AE DA):=⟨rfl,rfl,rfl,by decide+kernel,rfl,by decide+kernel,by decide+kernel⟩
abbrev EY:Stmt:=top 19
theorem MV:AX ["name","amounts","setting","amount"] ["name","amounts","setting"] (AE EY):=⟨rfl,rfl,rfl,by decide+kernel,rfl,by decide+kernel,by decide+kernel⟩
abbrev CC:Stmt:=top 20
theorem BP:AX ["statement","setting","first","shape","size","kind","part"] ["statement","setting"] (AE CC):=⟨rfl,rfl,rfl,by decide+kernel,rfl,by decide+kernel,by decide+kernel⟩
abbrev DU:Stmt:=top 21
theorem EO:AX ["body","setting","size","statement"] ["body","setting"] (AE DU):=⟨rfl,rfl,rfl,by decide+kernel,rfl,by decide+kernel,by decide+kernel⟩
abbrev DT:Stmt:=top 22
theorem EN:AX ["word","known","name","many","body"] ["word","known"] (AE DT):=⟨rfl,rfl,rfl,by decide+kernel,rfl,by decide+kernel,by decide+kernel⟩
abbrev HZ:Stmt:=top 23
theorem EI:AX ["thing","words","body","known","size","word"] ["thing"] (AE HZ):=⟨rfl,rfl,rfl,by decide+kernel,rfl,by decide+kernel,by decide+kernel⟩
abbrev DQ:Stmt:=top 24
theorem KY:AX ["statement","shape"] ["statement"] (AE DQ):=⟨rfl,rfl,rfl,by decide+kernel,rfl,by decide+kernel,by decide+kernel⟩
abbrev FF:Stmt:=top 25
theorem DR:AX ["program","words","body","waiting","size","part","statement"] ["program"] (AE FF):=⟨rfl,rfl,rfl,by decide+kernel,rfl,by decide+kernel,by decide+kernel⟩
abbrev FY:Stmt:=top 27
theorem HR:AX ["_law_cell_here","_law_k","_law_number"] ["_law_cell_here","_law_k"] (AE FY):=⟨rfl,rfl,rfl,by decide+kernel,rfl,by decide+kernel,by decide+kernel⟩
abbrev IN:Stmt:=top 28
theorem JD:AX ["_law_cell_here","_law_most","_law_many","_law_found","_law_rest","_law_k"] ["_law_cell_here","_law_most","_law_many"] (AE IN):=⟨rfl,rfl,rfl,by decide+kernel,rfl,by decide+kernel,by decide+kernel⟩
abbrev HW:Stmt:=top 29
theorem MX:AX ["_law_script","_law_k","_law_number"] ["_law_script","_law_k"] (AE HW):=⟨rfl,rfl,rfl,by decide+kernel,rfl,by decide+kernel,by decide+kernel⟩
abbrev IB:Stmt:=top 30
theorem JN:AX ["_law_script","_law_start","_law_deck_here","_law_k"] ["_law_script","_law_start"] (AE IB):=⟨rfl,rfl,rfl,by decide+kernel,rfl,by decide+kernel,by decide+kernel⟩
abbrev IA:Stmt:=top 31
theorem cF:AX ["_law_deck_here"] ["_law_deck_here"] (AE IA):=⟨rfl,rfl,rfl,by decide+kernel,rfl,by decide+kernel,by decide+kernel⟩
abbrev EZ:Stmt:=top 32
theorem NB:AX ["_law_deck_here","_law_inside","_law_takes","_law_kind"] ["_law_deck_here","_law_inside","_law_takes"] (AE EZ):=⟨rfl,rfl,rfl,by decide+kernel,rfl,by decide+kernel,by decide+kernel⟩
abbrev EW:Stmt:=top 33
theorem GH:AX ["_law_deck_here","_law_deep_here","_law_inside","_law_takes","_law_words_here","_law_kind","_law_amount_here"] ["_law_deck_here","_law_deep_here","_law_inside","_law_takes","_law_words_here"] (AE EW):=⟨rfl,rfl,rfl,by decide+kernel,rfl,by decide+kernel,by decide+kernel⟩
abbrev EX:Stmt:=top 34
theorem IR:AX ["_law_deck_here","_law_deep_here","_law_inside","_law_takes","_law_words_here","_law_amount_here","_law_one"] ["_law_deck_here","_law_deep_here","_law_inside","_law_takes","_law_words_here"] (AE EX):=⟨rfl,rfl,rfl,by decide+kernel,rfl,by decide+kernel,by decide+kernel⟩
abbrev GG:Stmt:=top 35
theorem JI:AX ["_law_deck_here","_law_inside","_law_takes","_law_words_here","_law_name_here","_law_many","_law_body_here"] ["_law_deck_here","_law_inside","_law_takes","_law_words_here"] (AE GG):=⟨rfl,rfl,rfl,by decide+kernel,rfl,by decide+kernel,by decide+kernel⟩
abbrev DH:Stmt:=top 36
theorem II:AX ["_law_deck_here","_law_deep_here","_law_inside","_law_takes","_law_words_here","_law_way"] ["_law_deck_here","_law_deep_here","_law_inside","_law_takes","_law_words_here"] (AE DH):=⟨rfl,rfl,rfl,by decide+kernel,rfl,by decide+kernel,by decide+kernel⟩
abbrev HQ:Stmt:=top 37
theorem NA:AX ["_law_deck_here","_law_deep_here","_law_inside","_law_takes","_law_words_here","_law_body_here","_law_k"] ["_law_deck_here","_law_deep_here","_law_inside","_law_takes","_law_words_here"] (AE HQ):=⟨rfl,rfl,rfl,by decide+kernel,rfl,by decide+kernel,by decide+kernel⟩
abbrev EF:Stmt:=top 38
theorem CT:AX ["_law_deck_here","_law_words_here","_law_kind","_law_most","_law_k","_law_many","_law_body_here"] ["_law_deck_here"] (AE EF):=⟨rfl,rfl,rfl,by decide+kernel,rfl,by decide+kernel,by decide+kernel⟩
abbrev JY:Stmt:=top 39
theorem eV:AX ["_law_found"] ["_law_found"] (AE JY):=⟨rfl,rfl,rfl,by decide+kernel,rfl,by decide+kernel,by decide+kernel⟩
abbrev GA:Stmt:=top 40
theorem EV:AX ["_law_body_here","_law_found","_law_waiting","_law_one"] ["_law_body_here"] (AE GA):=⟨rfl,rfl,rfl,by decide+kernel,rfl,by decide+kernel,by decide+kernel⟩
abbrev GF:Stmt:=top 41
theorem ZA:AX ["_law_program_here"] ["_law_program_here"] (AE GF):=⟨rfl,rfl,rfl,by decide+kernel,rfl,by decide+kernel,by decide+kernel⟩
abbrev HN:Stmt:=top 42
theorem EH:AX ["_law_row_here","_law_k","_law_letters","_law_size_here","_law_name_here","_law_j","_law_step"] ["_law_row_here","_law_k"] (AE HN):=⟨rfl,rfl,rfl,by decide+kernel,rfl,by decide+kernel,by decide+kernel⟩
abbrev EG:Stmt:=top 43
theorem CO:AX ["_law_row_here","_law_words_here","_law_far","_law_k","_law_name_here","_law_many","_law_body_here","_law_other","_law_takes","_law_inner"] ["_law_row_here"] (AE EG):=⟨rfl,rfl,rfl,by decide+kernel,rfl,by decide+kernel,by decide+kernel⟩
abbrev HV:Stmt:=top 44
theorem FZ:AX ["_law_row_here","_law_body_here","_law_k"] ["_law_row_here"] (AE HV):=⟨rfl,rfl,rfl,by decide+kernel,rfl,by decide+kernel,by decide+kernel⟩
abbrev FM:Stmt:=top 45
theorem JP:AX ["_law_row_here","_law_some","_law_inner","_law_body_here"] ["_law_row_here"] (AE FM):=⟨rfl,rfl,rfl,by decide+kernel,rfl,by decide+kernel,by decide+kernel⟩
abbrev OA:Stmt:=top 46
theorem MG:AX ["_law_script","_law_row_here","_law_some","_law_program_here","_law_found"] ["_law_script"] (AE OA):=⟨rfl,rfl,rfl,by decide+kernel,rfl,by decide+kernel,by decide+kernel⟩
structure Own (K:PySem.W.Frag) (mg:Str→Option Value) (x:Str) (st:Stmt) (ps:List Str) (f:Addr) (fd:FuncData):Prop where
 F:Fun K x x st f fd
 b:HI K fd ps []
 m:mg x=some (.ref f)
structure kO (K:PySem.W.Frag) (C:Addr) (x qx:Str) (st:Stmt) (ps:List Str) (f:Addr) (fd:FuncData):Prop where
 F:Fun K x qx st f fd
 b:HI K fd ps []
 mt:gG K C x f
structure OwnI (K:PySem.W.Frag) (C:Addr) (x qx:Str) (st:Stmt) (ps:List Str) (f:Addr) (fd:FuncData):Prop where
 F:Fun K x qx st f fd
 b:HI K fd ps []
 mki:Mk K C f
def GK:D:= .int (6)
def FB:D:= .int (8)
def FU:D:= .int (1000000)
def HF:D:= .int (9)
def FN:D:= .int (4000)
def GJ:D:= .int (6)
def KC:D:= .tup [.str "n0",.str "n1",.str "n2",.str "n3"]
def DZ_SHAPES:List (Str×D):=[("go",.tup [.str "amount"]),("turn",.tup [.str "amount"]),("up",.tup []),("down",.tup []),("ink",.tup [.str "amount"]),("mark",.tup [.str "number"]),("back",.tup [.str "number"]),("again",.tup [.str "amount",.str "body"]),("if",.tup [.str "amount",.str "body",.str "body"]),("do",.tup [.str "name",.str "amounts"])]
set_option genInjectivity false in
set_option genSizeOf false in
structure Adr where
 a_Setting_init:Addr
 d_Setting_init:FuncData
 a_Setting_within:Addr
 d_Setting_within:FuncData
 a_Setting_hassource:Addr
 d_Setting_hassource:FuncData
 a_need:Addr
 d_need:FuncData
 a_istupleof:Addr
 d_istupleof:FuncData
 a_isintwithin:Addr
 d_isintwithin:FuncData
 a_isamountint:Addr
 d_isamountint:FuncData
 a_isname:Addr
 d_isname:FuncData
 a_checkamount:Addr
 d_checkamount:FuncData
 a_checkdo:Addr
 d_checkdo:FuncData
 a_checkstatement:Addr
 d_checkstatement:FuncData
 a_checkbody:Addr
 d_checkbody:FuncData
 a_checkword:Addr
 d_checkword:FuncData
 a_check:Addr
 d_check:FuncData
 a_bodiesof:Addr
 d_bodiesof:FuncData
 a_sizeof:Addr
 d_sizeof:FuncData
 a_Lmixed:Addr
 d_Lmixed:FuncData
 a_Lrow:Addr
 d_Lrow:FuncData
 a_Lcell:Addr
 d_Lcell:FuncData
 a_Ldeck:Addr
 d_Ldeck:FuncData
 a_Lnext:Addr
 d_Lnext:FuncData
 a_Lamount:Addr
 d_Lamount:FuncData
 a_Lrounds:Addr
 d_Lrounds:FuncData
 a_Lchoice:Addr
 d_Lchoice:FuncData
 a_Lcall:Addr
 d_Lcall:FuncData
 a_Lstatement:Addr
 d_Lstatement:FuncData
 a_Lbody:Addr
 d_Lbody:FuncData
 a_Lprogram:Addr
 d_Lprogram:FuncData
 a_Lint:Addr
 d_Lint:FuncData
 a_Lcount:Addr
 d_Lcount:FuncData
 a_Lsize:Addr
 d_Lsize:FuncData
 a_Lname:Addr
 d_Lname:FuncData
 a_Lwords:Addr
 d_Lwords:FuncData
 a_Ldeep:Addr
 d_Ldeep:FuncData
 a_Llong:Addr
 d_Llong:FuncData
 a_law:Addr
 d_law:FuncData
 c_Setting:Addr
 u_MOST_WORDS:Value
 v_MOST_WORDS:V
 u_MOST_LETTERS:Value
 v_MOST_LETTERS:V
 u_MOST_AMOUNT:Value
 v_MOST_AMOUNT:V
 u_MOST_MARK:Value
 v_MOST_MARK:V
 u_MOST_SIZE:Value
 v_MOST_SIZE:V
 u_MOST_DEPTH:Value
 v_MOST_DEPTH:V
 u_NUMBERS:Value
 v_NUMBERS:V
 u_SHAPES:Value
 v_SHAPES:V
 c_HouseError:Addr
 c_NoProgram:Addr
local macro_rules | `(tactic| walk_at "rd")=> `(tactic| ((try simp only [L2.start,L2.stC,List.map_cons,List.map_nil,List.length_cons,List.length_nil,List.replicate_succ,List.replicate_zero,List.nil_append,List.cons_append,Nat.reduceAdd,Nat.reduceSub,Nat.zero_add,Nat.sub_self,Nat.add_one_sub_one]);(try dsimp only [bJ,OY,YL,cE,QU,QI,MH,ZY,bG,ZW,ipI,KF,NG,rIn,bU,ZF,tSl,IS,QN,ZP,bQ,QW,TN,LD,tOp,tUn,rI,rI0,rU,XW,tC,bK,NW,aI,RN,SG,RP,NU,cD,bP,YQ,tCB,YO,ZR,tOr,RM,RH,bY,tB,VX,NO,bM,RY,aA,L2.start,ZH,bN,LQ,RI,RZ,RT,aN,IT,L2.stC,tBM,IU,List.getElem?_cons_zero,List.getElem?_cons_succ,List.set_cons_zero,List.set_cons_succ,List.map_cons,List.map_nil,List.length_cons,List.length_nil,List.replicate_succ,List.replicate_zero,List.nil_append,List.cons_append,Nat.reduceAdd,Nat.reduceSub,Nat.zero_add,MD,bO,NE,SB,bF,tBD,MO,SE,QX,rID,NM,rUD,YR,aY,IX,OJ,LY,QS,MT,NT,MM,RK,tKz,JR,RB,GR,HU,MU,MP,SF,RQ,WE,aE,GC,YX,SC,QR,LV,ZV,ZX,RG,SA,GB,VO,GC,RF,RU,ZJ,YK,aO,QP,YG,GY,CJ,EL,oBl,PC,o0,o1,o2,oC]);try simp only [bJ,MD,bO,NE,SB,bF,tBD,MO,SE,QX,rID,NM,rUD,YR,aY,IX,OJ,LY,QS,MT,NT,MM,RK,tKz,JR,RB,GR,HU,MU,MP,SF,RQ,WE,aE,GC,YX,SC,QR,LV,ZV,ZX,RG,SA,GB,GC,RF,RU,ZJ,YK,aO,QP,YG,GY,CJ,EL,oBl,PC,o0,o1,o2,oC,OY,YL,cE,QU,QI,MH,ZY,bG,ZW,ipI,KF,NG,rIn,bU,ZF,tSl,IS,QN,ZP,bQ,QW,TN,LD,tOp,tUn,rI,rI0,rU,XW,tC,bK,NW,aI,RN,SG,RP,NU,cD,bP,YQ,tCB,YO,ZR,tOr,RM,RH,bY,tB,VX,NO,bM,RY,aA,L2.start,ZH,bN,LQ,RI,RZ,RT,aN,IT,L2.stC,tBM,IU,tyV,List.getElem?_cons_zero,List.getElem?_cons_succ,List.set_cons_zero,List.set_cons_succ,List.map_cons,List.map_nil,List.length_cons,List.length_nil,List.length_map,List.replicate_succ,List.replicate_zero,List.append_nil,List.nil_append,List.cons_append,Option.some.injEq,Option.join_some,V.int.injEq,V.bl.injEq,V.ref.injEq,V.str.injEq,List.cons.injEq,exists_and_left,exists_and_right,exists_eq_left,exists_eq_left',exists_eq,exists_eq',and_true,true_and,and_self,and_assoc,decide_eq_true_eq,Nat.reduceAdd,Nat.reduceSub,Nat.add_one_sub_one,Nat.sub_self,Nat.zero_add,reduceCtorEq,eq_self,not_true_eq_false,not_false_eq_true,false_and,and_false,exists_false,false_or,or_false,if_true,if_false,ite_true,ite_false,Bool.false_eq_true,Bool.not_true,Bool.not_false,Bool.not_eq_true',decide_eq_false_iff_not]))
local macro_rules | `(tactic| walk_at "rh")=> `(tactic| ((try refine fE ?_);walk_at "rd"))
local macro_rules | `(tactic| walk_at "ro")=> `(tactic| ((try simp only [L2.start,L2.stC,List.map_cons,List.map_nil,List.length_cons,List.length_nil,List.replicate_succ,List.replicate_zero,List.nil_append,List.cons_append,Nat.reduceAdd,Nat.reduceSub,Nat.zero_add,Nat.sub_self,Nat.add_one_sub_one]);(try dsimp only [OY,YL,cE,QU,QI,MH,ZY,bG,ZW,ipI,KF,NG,rIn,bU,ZF,tSl,IS,QN,ZP,bQ,QW,TN,LD,tOp,tUn,rI,rI0,rU,XW,tC,bK,NW,aI,RN,SG,RP,NU,cD,bP,YQ,tCB,YO,ZR,tOr,RM,RH,bY,tB,VX,NO,bM,RY,aA,L2.start,ZH,bN,LQ,RI,RZ,RT,aN,IT,L2.stC,tBM,IU,List.getElem?_cons_zero,List.getElem?_cons_succ,List.set_cons_zero,List.set_cons_succ,List.map_cons,List.map_nil,List.length_cons,List.length_nil,List.replicate_succ,List.replicate_zero,List.nil_append,List.cons_append,Nat.reduceAdd,Nat.reduceSub,Nat.zero_add,MD,bO,NE,SB,bF,tBD,MO,SE,QX,rID,NM,rUD,YR,aY,IX,OJ,LY,QS,MT,NT,MM,RK,tKz,JR,RB,GR,HU,MU,MP,SF,RQ,WE,aE,GC,YX,SC,QR,LV,ZV,ZX,RG,SA,GB,VO,GC,RF,RU,ZJ,YK,aO,QP,YG,GY,CJ,EL,oBl,PC,o0,o1,o2,oC]);try simp only [AF,VG,HO.ins.injEq,MD,bO,NE,SB,bF,tBD,MO,SE,QX,rID,NM,rUD,YR,aY,IX,OJ,LY,QS,MT,NT,MM,RK,tKz,JR,RB,GR,HU,MU,MP,SF,RQ,WE,aE,GC,YX,SC,QR,LV,ZV,ZX,RG,SA,GB,GC,RF,RU,ZJ,YK,aO,QP,YG,GY,CJ,EL,oBl,PC,o0,o1,o2,oC,OY,YL,cE,QU,QI,MH,ZY,bG,ZW,ipI,KF,NG,rIn,bU,ZF,tSl,IS,QN,ZP,bQ,QW,TN,LD,tOp,tUn,rI,rI0,rU,XW,tC,bK,NW,aI,RN,SG,RP,NU,cD,bP,YQ,tCB,YO,ZR,tOr,RM,RH,bY,tB,VX,NO,bM,RY,aA,L2.start,ZH,bN,LQ,RI,RZ,RT,aN,IT,L2.stC,tBM,IU,tyV,List.getElem?_cons_zero,List.getElem?_cons_succ,List.set_cons_zero,List.set_cons_succ,List.map_cons,List.map_nil,List.length_cons,List.length_nil,List.length_map,List.replicate_succ,List.replicate_zero,List.append_nil,List.nil_append,List.cons_append,Option.some.injEq,Option.join_some,V.int.injEq,V.bl.injEq,V.ref.injEq,V.str.injEq,List.cons.injEq,exists_and_left,exists_and_right,exists_eq_left,exists_eq_left',exists_eq,exists_eq',and_true,true_and,and_self,and_assoc,decide_eq_true_eq,Nat.reduceAdd,Nat.reduceSub,Nat.add_one_sub_one,Nat.sub_self,Nat.zero_add,reduceCtorEq,eq_self,not_true_eq_false,not_false_eq_true,false_and,and_false,exists_false,false_or,or_false,if_true,if_false,ite_true,ite_false,Bool.false_eq_true,Bool.not_true,Bool.not_false,Bool.not_eq_true',decide_eq_false_iff_not]))
theorem kk {k:Int} (h0:0≤k) (h1:k≤100):0≤k * k∧k * k≤10000:=by
 have a:k * k≤100 * 100:=Int.mul_le_mul h1 h1 h0 (by decide)
 have a0:0≤k * k:=Int.mul_nonneg h0 h0
 exact ⟨a0,a⟩
theorem zk {k z:Int} (h0:0≤k) (h1:k≤100) (z0:0≤z) (z1:z<10 ^ 40):0≤z * (48271+k)∧z * (48271+k)≤10 ^ 40 * 48371:=by
 have b:z * (48271+k)≤10 ^ 40 * 48371:=Int.mul_le_mul (by omega) (by omega) (by omega) (by decide)
 exact ⟨Int.mul_nonneg z0 (by omega),b⟩
structure Txt (w:World) (K:PySem.W.Frag) (mg:Str→Option Value) (t:Adr):Prop where
 Setting_init:OwnI K t.c_Setting "__init__" "Setting.__init__" CM ["self","known","many","counted","depth"] t.a_Setting_init t.d_Setting_init
 Setting_within:kO K t.c_Setting "within" "Setting.within" CB ["self","first"] t.a_Setting_within t.d_Setting_within
 Setting_hassource:kO K t.c_Setting "has_source" "Setting.has_source" BR ["self","source"] t.a_Setting_hassource t.d_Setting_hassource
 need:Own K mg "need" KB ["holds","why"] t.a_need t.d_need
 istupleof:Own K mg "is_tuple_of" DS ["thing","many"] t.a_istupleof t.d_istupleof
 isintwithin:Own K mg "is_int_within" CZ ["thing","low","high"] t.a_isintwithin t.d_isintwithin
 isamountint:Own K mg "is_amount_int" CY ["thing"] t.a_isamountint t.d_isamountint
 isname:Own K mg "is_name" FE ["thing"] t.a_isname t.d_isname
 checkamount:Own K mg "check_amount" DA ["thing","setting"] t.a_checkamount t.d_checkamount
 checkdo:Own K mg "check_do" EY ["name","amounts","setting"] t.a_checkdo t.d_checkdo
 checkstatement:Own K mg "check_statement" CC ["statement","setting"] t.a_checkstatement t.d_checkstatement
 checkbody:Own K mg "check_body" DU ["body","setting"] t.a_checkbody t.d_checkbody
 checkword:Own K mg "check_word" DT ["word","known"] t.a_checkword t.d_checkword
 check:Own K mg "check" HZ ["thing"] t.a_check t.d_check
 bodiesof:Own K mg "bodies_of" DQ ["statement"] t.a_bodiesof t.d_bodiesof
 sizeof:Own K mg "size_of" FF ["program"] t.a_sizeof t.d_sizeof
 Lmixed:Own K mg "_law_mixed" FY ["_law_cell_here","_law_k"] t.a_Lmixed t.d_Lmixed
 Lrow:Own K mg "_law_row" IN ["_law_cell_here","_law_most","_law_many"] t.a_Lrow t.d_Lrow
 Lcell:Own K mg "_law_cell" HW ["_law_script","_law_k"] t.a_Lcell t.d_Lcell
 Ldeck:Own K mg "_law_deck" IB ["_law_script","_law_start"] t.a_Ldeck t.d_Ldeck
 Lnext:Own K mg "_law_next" IA ["_law_deck_here"] t.a_Lnext t.d_Lnext
 Lamount:Own K mg "_law_amount" EZ ["_law_deck_here","_law_inside","_law_takes"] t.a_Lamount t.d_Lamount
 Lrounds:Own K mg "_law_rounds" EW ["_law_deck_here","_law_deep_here","_law_inside","_law_takes","_law_words_here"] t.a_Lrounds t.d_Lrounds
 Lchoice:Own K mg "_law_choice" EX ["_law_deck_here","_law_deep_here","_law_inside","_law_takes","_law_words_here"] t.a_Lchoice t.d_Lchoice
 Lcall:Own K mg "_law_call" GG ["_law_deck_here","_law_inside","_law_takes","_law_words_here"] t.a_Lcall t.d_Lcall
 Lstatement:Own K mg "_law_statement" DH ["_law_deck_here","_law_deep_here","_law_inside","_law_takes","_law_words_here"] t.a_Lstatement t.d_Lstatement
 Lbody:Own K mg "_law_body" HQ ["_law_deck_here","_law_deep_here","_law_inside","_law_takes","_law_words_here"] t.a_Lbody t.d_Lbody
 Lprogram:Own K mg "_law_program" EF ["_law_deck_here"] t.a_Lprogram t.d_Lprogram
 Lint:Own K mg "_law_int" JY ["_law_found"] t.a_Lint t.d_Lint
 Lcount:Own K mg "_law_count" GA ["_law_body_here"] t.a_Lcount t.d_Lcount
 Lsize:Own K mg "_law_size" GF ["_law_program_here"] t.a_Lsize t.d_Lsize
 Lname:Own K mg "_law_name" HN ["_law_row_here","_law_k"] t.a_Lname t.d_Lname
 Lwords:Own K mg "_law_words" EG ["_law_row_here"] t.a_Lwords t.d_Lwords
 Ldeep:Own K mg "_law_deep" HV ["_law_row_here"] t.a_Ldeep t.d_Ldeep
 Llong:Own K mg "_law_long" FM ["_law_row_here"] t.a_Llong t.d_Llong
 law:Own K mg "law" OA ["_law_script"] t.a_law t.d_law
 cl_Setting:Cls K t.c_Setting
 mg_Setting:mg "Setting"=some (.ref t.c_Setting)
 n_Setting_known:EJ K t.c_Setting "known"
 n_Setting_many:EJ K t.c_Setting "many"
 n_Setting_counted:EJ K t.c_Setting "counted"
 n_Setting_depth:EJ K t.c_Setting "depth"
 z_all:mg "all"=none
 z_bool:mg "bool"=none
 z_int:mg "int"=none
 z_isinstance:mg "isinstance"=none
 z_len:mg "len"=none
 z_list:mg "list"=none
 z_max:mg "max"=none
 z_min:mg "min"=none
 z_range:mg "range"=none
 z_reversed:mg "reversed"=none
 z_str:mg "str"=none
 z_sum:mg "sum"=none
 z_tuple:mg "tuple"=none
 z_zip:mg "zip"=none
 g_MOST_WORDS:mg "MOST_WORDS"=some t.u_MOST_WORDS
 r_MOST_WORDS:AZ t.v_MOST_WORDS t.u_MOST_WORDS
 k_MOST_WORDS:∀ H,Rp K H GK t.v_MOST_WORDS
 g_MOST_LETTERS:mg "MOST_LETTERS"=some t.u_MOST_LETTERS
 r_MOST_LETTERS:AZ t.v_MOST_LETTERS t.u_MOST_LETTERS
 k_MOST_LETTERS:∀ H,Rp K H FB t.v_MOST_LETTERS
 g_MOST_AMOUNT:mg "MOST_AMOUNT"=some t.u_MOST_AMOUNT
 r_MOST_AMOUNT:AZ t.v_MOST_AMOUNT t.u_MOST_AMOUNT
 k_MOST_AMOUNT:∀ H,Rp K H FU t.v_MOST_AMOUNT
 g_MOST_MARK:mg "MOST_MARK"=some t.u_MOST_MARK
 r_MOST_MARK:AZ t.v_MOST_MARK t.u_MOST_MARK
 k_MOST_MARK:∀ H,Rp K H HF t.v_MOST_MARK
 g_MOST_SIZE:mg "MOST_SIZE"=some t.u_MOST_SIZE
 r_MOST_SIZE:AZ t.v_MOST_SIZE t.u_MOST_SIZE
 k_MOST_SIZE:∀ H,Rp K H FN t.v_MOST_SIZE
 g_MOST_DEPTH:mg "MOST_DEPTH"=some t.u_MOST_DEPTH
 r_MOST_DEPTH:AZ t.v_MOST_DEPTH t.u_MOST_DEPTH
 k_MOST_DEPTH:∀ H,Rp K H GJ t.v_MOST_DEPTH
 g_NUMBERS:mg "NUMBERS"=some t.u_NUMBERS
 r_NUMBERS:AZ t.v_NUMBERS t.u_NUMBERS
 k_NUMBERS:∀ H,Rp K H KC t.v_NUMBERS
 g_SHAPES:mg "SHAPES"=some t.u_SHAPES
 r_SHAPES:AZ t.v_SHAPES t.u_SHAPES
 x_SHAPES:KZ K w.params DZ_SHAPES t.u_SHAPES
 nz_SHAPES:KZn t.u_SHAPES
 mg_NoProgram:mg "NoProgram"=some (.ref t.c_NoProgram)
 x_NoProgram:LW K t.c_HouseError t.c_NoProgram=true
section
variable {P:Program} {w:World} {K:PySem.W.Frag} {mg:Str→Option Value} {base:Heap} {t:Adr}
def aG (K:PySem.W.Frag):Sp:=fun vs H Q _=>∃ (a:Addr) (ns:List Int) (k:Int),vs=[.ref a,.int k]∧SqL K H a (ns.map V.int)∧ns.length≤63∧0≤k∧k≤100∧∀ z,Q (.int z) H
theorem RE (T:Txt w K mg t):BY P w K mg base CX0 1 t.a_Lcell t.d_Lcell ["_law_script","_law_k"] (aG K):=by
 refine T.Lcell.F.ok MX (fun vs H Q E h=> ?_) (fun cdv A outer s H vs Q E hr h=> ?_)
 ·obtain ⟨a,ns,k,rfl,_⟩:=h;rfl
 ·obtain ⟨a,ns,k,rfl,hS,hl,k0,k1,q⟩:=h
  have hk:=kk k0 k1
  refine ⟨_,s!"{KN}1B{AS}{T.z_len}{PySem.boot_len}0BCAPN{BJ}0B1BMKGSQ2{MX.nd}{Or.inl rfl}{BO}{CQ}{CQ}1B1BEDEDEJ{GM}{AS}{T.z_len}{PySem.boot_len}0BCAPDN2{MX.nd}{Or.inl rfl}{BO}2B{CQ}{AV}{BJ}0B{AV}{CQ}1BDE{AS}{T.z_len}{PySem.boot_len}0BCAPEM{HP}DDEE{BO}D1BEEEJGSQ{AV}{CQ}2B2BEDEKGFFF",?_⟩
  walk_at "rd"
  refine ⟨_,.inl hS,?_⟩
  walk_at "rd"
  split
  ·rename_i c
   obtain ⟨z,_,hz⟩:=LX k0 c
   exact ⟨_,hS,_,hz,q z⟩
  ·rename_i c
   refine ⟨FT (by omega) (by omega),JJ (by decide) (by decide),_,.inl hS,?_⟩
   walk_at "rd"
   split
   ·rename_i d
    refine ⟨JJ (by decide) (by decide),_,.inl hS,?_⟩
    walk_at "rd"
    have hp:(0:Int)<ns.length:=by omega
    obtain ⟨z,_,hz⟩:=LX (ns:=ns) (Int.emod_nonneg (k * 7) (by omega)) (Int.emod_lt_of_pos (k * 7) hp)
    refine ⟨hp,_,hS,_,hz,?_⟩
    walk_at "rd"
    refine ⟨⟨by decide,by decide,by decide⟩,by decide,JJ (by omega) (by omega),?_⟩
    have h1:=zk k0 k1 (Int.emod_nonneg z (by decide:(10:Int) ^ 40≠0)) (Int.emod_lt_of_pos z (by decide:(0:Int)<10 ^ 40))
    have e40:(10:Int) ^ Int.toNat 40=10 ^ 40:=rfl
    rw [e40]
    generalize z % 10 ^ 40 * (48271+k)=y at h1 ⊢
    refine ⟨TH 200 200 (by omega) (by omega) (by decide),by decide,q _⟩
   ·exact ⟨FT (by omega) (by omega),by decide,q _⟩
def XT:Sp:=fun vs H Q _=>∃ (c k:Int),vs=[.int c,.int k]∧0≤k∧k≤100∧∀ z,Q (.int z) H
theorem WC (T:Txt w K mg t):BY P w K mg base CX0 1 t.a_Lmixed t.d_Lmixed ["_law_cell_here","_law_k"] XT:=by
 refine T.Lmixed.F.ok HR (fun vs H Q E h=> ?_) (fun cdv A outer s H vs Q E hr h=> ?_)
 ·obtain ⟨c,k,rfl,_⟩:=h;rfl
 ·obtain ⟨c,k,rfl,k0,k1,q⟩:=h
  have hk:=kk k0 k1
  have md:∀ x:Int,0≤x % 2305843009213693951∧x % 2305843009213693951<2305843009213693951:=fun x=>⟨Int.emod_nonneg x (by decide),Int.emod_lt_of_pos x (by decide)⟩
  refine ⟨_,s!"2{HR.nd}{Or.inl rfl}{AV}{BO}{BO}0B{CQ}{CQ}1B1BEDEEDEDEJ2{HR.nd}{Or.inl rfl}{AV}{CQ}2B2BEDEJ2{HR.nd}{Or.inl rfl}{AV}{CQ}{BO}{BO}2B{CQ}1BDEEDEDEDEJ{DV}{AV}{CQ}2B2BEDEDEKGFFF",?_⟩
  walk_at "rd"
  refine ⟨FT (by omega) (by omega),JJ (by decide) (by decide),by decide,?_⟩
  have h1:=md (c+k * k * 40503+12345)
  generalize (c+k * k * 40503+12345) % 2305843009213693951=x1 at h1 ⊢
  refine ⟨FT (by omega) (by omega),by decide,?_⟩
  have h2:=md (x1 * x1)
  generalize x1 * x1 % 2305843009213693951=x2 at h2 ⊢
  refine ⟨FT (by omega) (by omega),JJ (by decide) (by decide),by decide,?_⟩
  have h3:=md ((x2+k * 7919+1) * 48271)
  generalize (x2+k * 7919+1) * 48271 % 2305843009213693951=x3 at h3 ⊢
  refine ⟨FT (by omega) (by omega),by decide,by decide,by decide,q _⟩
def fD:Sp:=fun vs H Q _=>∃ (c most many:Int),vs=[.int c,.int most,.int many]∧0<most∧most<2 ^ 100∧0≤many∧many≤60∧
 ∀ (l:Addr) (xs:List Int) (H':Hp),AI H H'→H l=none→H' l=some (.lst (xs.map V.int))→xs.length=many.toNat→(∀ x∈xs,0≤x∧x<most)→Q (.ref l) H'
def iI (c m n:Int) (l:Addr) (H:Hp) (i:Nat) (σ:L2.St) (H2:Hp):Prop:=∃ (xs:List Int) (r:Int) (kv:Option V),σ=[some (.int c),some (.int m),some (.int n),some (.ref l),some (.int r),kv]∧H2=upd H l (.lst (xs.map V.int))∧xs.length=i∧∀ x∈xs,0≤x∧x<m
def fA (c m:Int) (p:Addr) (H:Hp) (i:Nat) (σ:L2.St) (H2:Hp):Prop:=∃ (ys:List Int) (kv:Option V),σ=[some (.int m),some (.int c),kv]∧AI H H2∧H2 p=some (.lst (ys.map V.int))∧ys.length=i∧∀ x∈ys,0≤x∧x<m
theorem UT (T:Txt w K mg t):BY P w K mg base CX0 2 t.a_Lrow t.d_Lrow ["_law_cell_here","_law_most","_law_many"] fD:=by
 refine T.Lrow.F.ok JD (fun vs H Q E h=> ?_) (fun cdv A outer s H vs Q E hr h=> ?_)
 ·obtain ⟨c,m,n,rfl,_⟩:=h;rfl
 ·obtain ⟨c,m,n,rfl,m0,m1,n0,n1,q⟩:=h
  have md:∀ x:Int,0≤x % m∧x % m<m:=fun x=>⟨Int.emod_nonneg x (by omega),Int.emod_lt_of_pos x m0⟩
  refine ⟨_,s!"3{JD.nd}{Or.inl rfl}CXJ4{JD.nd}{Or.inl rfl}0BJ{T.z_range}2BCAe5{JD.nd}L{PySem.F.slot_list_append}{PySem.F.type_list_append}{DO}3B{AV}4B1BECAlR4{JD.nd}{Or.inl rfl}{DV}4B1BEJGFZ{GM}4BDN3BKGSQ{AE IN}{["_law_cell_here", "_law_most", "_law_many", "_law_found", "_law_rest", "_law_k"]}{["_law_most", "_law_cell_here", "_law_k"]}{["_law_k"]}{[1, 0]}{T.z_range}2BCAe{fun _ _ _ _ => s!"2{show List.Nodup (["_law_most","_law_cell_here","_law_k"]:List Str) by decide+kernel}L"}{fun _ _ _ _ => s!"h"}{fun _ _ _ _ => s!"{AV}{WC T}{hr.mono (by decide)}{T.Lmixed.m}{T.Lmixed.F.kp}{T.Lmixed.b}1B2BCAAH0BE"}mKGFFFF",?_⟩
  walk_at "rd"
  refine ⟨Nat.zero_le _,fun l hl=>⟨by omega,by omega,?_⟩⟩
  refine FH (iI c m n l H) ⟨[],c,none,rfl,rfl,rfl,by intro x hx;cases hx⟩ ?_ ?_
  ·rintro i σ H2 hi ⟨xs,r,kv,rfl,rfl,hx,hb⟩
   walk_at "rd"
   refine ⟨.inl ⟨_,SqL.of AF⟩,m0,?_⟩
   refine ⟨_,AF,KA (by rw [List.length_map];omega),m0,m1,xs++[r % m],_,_,rfl,?_,?_,?_⟩
   ·rw [VG,List.map_append];rfl
   ·rw [List.length_append,hx];rfl
   ·intro x h
    rcases List.mem_append.mp h with h | h
    ·exact hb x h
    ·rw [List.mem_singleton.mp h];exact md r
  ·rintro σ H2 ⟨xs,r,kv,rfl,rfl,hx,hb⟩
   walk_at "rd"
   split
   ·exact q l xs _ (AI.upd hl) hl AF hx hb
   ·refine ⟨by omega,by omega,fun p hp=> ?_⟩
    have hne:p≠l:=fun e=>by rw [e,AF] at hp;cases hp
    have hp0:H p=none:=by rw [BA hne] at hp;exact hp
    refine JM (fA c m p H) ⟨[],none,rfl,(AI.upd hl).upd2 hp0,AF,rfl,by intro x hx;cases hx⟩ ?_ ?_
    ·rintro i σ H2 hi ⟨ys,kv,rfl,sm,hy,hlen,hby⟩
     walk_at "rd"
     refine ⟨_,_,rfl,by omega,by omega,fun z=> ?_⟩
     walk_at "rd"
     refine ⟨m0,_,hy,KA (by rw [List.length_map];omega),nx hi ⟨ys++[z % m],_,rfl,sm.upd2 hp0,?_,?_,?_⟩⟩
     ·rw [AF,List.map_append];rfl
     ·rw [List.length_append,hlen];rfl
     ·intro x h
      rcases List.mem_append.mp h with h | h
      ·exact hby x h
      ·rw [List.mem_singleton.mp h];exact md z
    ·rintro σ H2 ⟨ys,kv,rfl,sm,hy,hlen,hby⟩
     exact q p ys _ sm hp0 hy hlen hby
end
section
variable {κ α:Type} [DecidableEq κ]
def lkA (l:List (κ×α)) (k:κ):Option α:=(l.find? fun z=>decide (z.1=k)).map (·.2)
def ptA (l:List (κ×α)) (k:κ) (x:α):List (κ×α):=if (l.any fun z=>decide (z.1=k))=true then l.map (fun z=>if z.1=k then (z.1,x) else z) else l++[(k,x)]
def As (f:κ→Key) (R:α→V→Prop):List (κ×α)→List (Key×V)→Prop:=Paired fun a b=>b.1=f a.1∧R a.2 b.2
theorem As.get {f:κ→Key} (inj:∀ a b,f a=f b→a=b) {R:α→V→Prop} {k:κ}:∀ {l:List (κ×α)} {kvs:List (Key×V)},As f R l kvs→(lkA l k=none→FX kvs (f k)=none)∧∀ z,lkA l k=some z→∃ v,FX kvs (f k)=some v∧R z v
 | _,_,.nil=>⟨fun _=>rfl,fun z e=>by simp [lkA] at e⟩
 | (k',x)::l,(j,v)::kvs,.cons ⟨e,r⟩ t=>by
  have e:j=f k':=e
  subst e
  have ih:=As.get inj (k:=k) t
  by_cases h:k'=k
  ·subst h
   refine ⟨fun e=>by simp [lkA] at e,fun z e=>⟨v,by simp [FX],?_⟩⟩
   simp [lkA] at e
   subst e
   exact r
  ·have h2:¬ f k'=f k:=fun z=>h (inj _ _ z)
   have e1:lkA ((k',x)::l) k=lkA l k:=by simp [lkA,h]
   have e2:FX ((f k',v)::kvs) (f k)=FX kvs (f k):=by simp [FX,h2]
   rw [e1,e2]
   exact ih
theorem As.any {f:κ→Key} (inj:∀ a b,f a=f b→a=b) {R:α→V→Prop} {k:κ}:∀ {l:List (κ×α)} {kvs:List (Key×V)},As f R l kvs→(kvs.any fun z=>decide (z.1=f k))=(l.any fun z=>decide (z.1=k))
 | _,_,.nil=>rfl
 | (k',x)::l,(j,v)::kvs,.cons ⟨e,r⟩ t=>by
  have e:j=f k':=e
  subst e
  rw [List.any_cons,List.any_cons,As.any inj t]
  have:(f k'=f k)↔(k'=k):=⟨inj _ _,fun z=>by rw [z]⟩
  simp [this]
theorem As.app {f:κ→Key} {R:α→V→Prop}:∀ {l l':List (κ×α)} {kvs kvs':List (Key×V)},As f R l kvs→As f R l' kvs'→As f R (l++l') (kvs++kvs')
 | _,_,_,_,.nil,h=>h
 | _::_,_,_::_,_,.cons r t,h=> .cons r (As.app t h)
theorem As.map {f:κ→Key} (inj:∀ a b,f a=f b→a=b) {R:α→V→Prop} {k:κ} {x:α} {v:V} (r:R x v):∀ {l:List (κ×α)} {kvs:List (Key×V)},As f R l kvs→As f R (l.map fun z=>if z.1=k then (z.1,x) else z) (kvs.map fun z=>if z.1=f k then (z.1,v) else z)
 | _,_,.nil=> .nil
 | (k',y)::l,(j,u)::kvs,.cons ⟨e,q⟩ t=>by
  have e:j=f k':=e
  subst e
  refine .cons ?_ (As.map inj r t)
  by_cases h:k'=k
  ·subst h
   simp
   exact r
  ·have h2:¬ f k'=f k:=fun z=>h (inj _ _ z)
   simp [h,h2]
   exact q
theorem As.put {f:κ→Key} (inj:∀ a b,f a=f b→a=b) {R:α→V→Prop} {l:List (κ×α)} {kvs:List (Key×V)} (h:As f R l kvs) {k:κ} {x:α} {v:V} (r:R x v):As f R (ptA l k x) (IF kvs (f k) v):=by
 unfold ptA IF
 rw [As.any inj h]
 by_cases c:(l.any fun z=>decide (z.1=k))=true
 ·rw [if_pos c,if_pos c];exact As.map inj r h
 ·rw [if_neg c,if_neg c];exact As.app h (.cons ⟨rfl,r⟩ .nil)
theorem As.mono {f:κ→Key} {R R':α→V→Prop} (m:∀ a v,R a v→R' a v):∀ {l:List (κ×α)} {kvs:List (Key×V)},As f R l kvs→As f R' l kvs
 | _,_,.nil=> .nil
 | _::_,_::_,.cons r t=> .cons ⟨r.1,m _ _ r.2⟩ (As.mono m t)
theorem As.length {f:κ→Key} {R:α→V→Prop}:∀ {l:List (κ×α)} {kvs:List (Key×V)},As f R l kvs→l.length=kvs.length
 | _,_,.nil=>rfl
 | _::_,_::_,.cons _ t=>congrArg (· +1) (As.length t)
end
theorem PY:∀ a b:Str,(Sum.inr a:Key)=Sum.inr b→a=b:=fun _ _ e=>Sum.inr.inj e
inductive Am where
 | int (i:Int) | src (f:Int) (s:Str) (m:Int)
def Am.D:Am→L2.D
 | .int i=> .int i
 | .src f s m=> .tup [.int f,.str s,.int m]
abbrev En:=List (Str×Int)
def Am.val (e:En):Am→Int
 | .int i=>i
 | .src f s m=>f * (lkA e s).getD 0+m
inductive Stm where
 | go (a:Am) | turn (a:Am) | ink (a:Am) | up | down | mark (n:Int) | back (n:Int)
 | again (a:Am) (b:List Stm) | ifs (a:Am) (b c:List Stm) | dow (w:Str) (as:List Am)
mutual
def Stm.D:Stm→L2.D
 | .go a=> .tup [.str "go",a.D]
 | .turn a=> .tup [.str "turn",a.D]
 | .ink a=> .tup [.str "ink",a.D]
 | .up=> .tup [.str "up"]
 | .down=> .tup [.str "down"]
 | .mark n=> .tup [.str "mark",.int n]
 | .back n=> .tup [.str "back",.int n]
 | .again a b=> .tup [.str "again",a.D,.tup (Stm.Ds b)]
 | .ifs a b c=> .tup [.str "if",a.D,.tup (Stm.Ds b),.tup (Stm.Ds c)]
 | .dow w as=> .tup [.str "do",.str w,.tup (as.map Am.D)]
def Stm.Ds:List Stm→List L2.D
 | []=>[]
 | s::r=>s.D::Stm.Ds r
end
theorem CF:∀ l:List Stm,Stm.Ds l=l.map Stm.D
 | []=>by rw [Stm.Ds];rfl
 | s::r=>by rw [Stm.Ds,CF r];rfl
abbrev bD (b:List Stm):L2.D:= .tup (b.map Stm.D)
structure Wd where
 name:Str
 many:Int
 body:List Stm
def Wd.D (x:Wd):L2.D:= .tup [.str x.name,.int x.many,bD x.body]
def pD (ws:List Wd) (body:List Stm):L2.D:= .tup [.tup (ws.map Wd.D),bD body]
abbrev Tb:=List (Str×List Stm)
def wtab:List Wd→Tb:=List.foldl (fun l x=>ptA l x.name x.body) []
def NUM:List Str:=["n0","n1","n2","n3"]
def JQ (D:Str→Prop):Am→Prop
 | .int _=>True
 | .src f s _=>(-1000000≤f∧f≤1000000)∧D s
mutual
def Stm.Ok (ar:Str→Option Nat) (D:Str→Prop):Stm→Prop
 | .go a=>JQ D a
 | .turn a=>JQ D a
 | .ink a=>JQ D a
 | .up=>True
 | .down=>True
 | .mark n=>0≤n∧n<10
 | .back n=>0≤n∧n<10
 | .again a b=>JQ D a∧Stm.Oks ar (fun x=>D x∨x="count") b
 | .ifs a b c=>JQ D a∧Stm.Oks ar D b∧Stm.Oks ar D c
 | .dow w as=>(∀ a∈as,JQ D a)∧as.length≤4∧ar w=some as.length
def Stm.Oks (ar:Str→Option Nat) (D:Str→Prop):List Stm→Prop
 | []=>True
 | s::r=>s.Ok ar D∧Stm.Oks ar D r
end
theorem JQ.mono {D D':Str→Prop} (h:∀ x,D x→D' x):∀ {a:Am},JQ D a→JQ D' a
 | .int _,_=>trivial
 | .src _ _ _,r=>⟨r.1,h _ r.2⟩
mutual
theorem Stm.Ok.mono {ar:Str→Option Nat} {D D':Str→Prop} (h:∀ x,D x→D' x):∀ {s:Stm},s.Ok ar D→s.Ok ar D'
 | .go a,r=>by rw [Stm.Ok] at r ⊢;exact r.mono h
 | .turn a,r=>by rw [Stm.Ok] at r ⊢;exact r.mono h
 | .ink a,r=>by rw [Stm.Ok] at r ⊢;exact r.mono h
 | .up,_=>by rw [Stm.Ok];trivial
 | .down,_=>by rw [Stm.Ok];trivial
 | .mark _,r=>by rw [Stm.Ok] at r ⊢;exact r
 | .back _,r=>by rw [Stm.Ok] at r ⊢;exact r
 | .again a b,r=>by
  rw [Stm.Ok] at r ⊢
  exact ⟨r.1.mono h,Stm.Oks.mono (fun x=>Or.imp_left (h x)) r.2⟩
 | .ifs a b c,r=>by
  rw [Stm.Ok] at r ⊢
  exact ⟨r.1.mono h,Stm.Oks.mono h r.2.1,Stm.Oks.mono h r.2.2⟩
 | .dow w as,r=>by
  rw [Stm.Ok] at r ⊢
  exact ⟨fun a ha=>(r.1 a ha).mono h,r.2⟩
theorem Stm.Oks.mono {ar:Str→Option Nat} {D D':Str→Prop} (h:∀ x,D x→D' x):∀ {b:List Stm},Stm.Oks ar D b→Stm.Oks ar D' b
 | [],_=>by rw [Stm.Oks];trivial
 | s::b,r=>by
  rw [Stm.Oks] at r ⊢
  exact ⟨Stm.Ok.mono h r.1,Stm.Oks.mono h r.2⟩
end
theorem Oks.get {ar:Str→Option Nat} {D:Str→Prop}:∀ {b:List Stm} {i:Nat} {s:Stm},Stm.Oks ar D b→b[i]? =some s→s.Ok ar D
 | [],_,_,_,h=>by simp at h
 | x::b,0,s,r,h=>by rw [Stm.Oks] at r;cases h;exact r.1
 | x::b,i+1,s,r,h=>by rw [Stm.Oks] at r;exact Oks.get r.2 h
def TbOk (ws:Tb) (ar:Str→Option Nat):Prop:=∀ x n,ar x=some n→∃ b,lkA ws x=some b∧Stm.Oks ar (· ∈NUM.take n) b
section
variable {κ α:Type} [DecidableEq κ]
theorem EB (k:κ) (v:α) (l:List (κ×α)) (x:κ):lkA ((k,v)::l) x=if k=x then some v else lkA l x:=by
 unfold lkA
 rw [List.find?_cons]
 by_cases c:k=x
 ·simp [c]
 ·simp [c]
theorem PF (k:κ) (i:α) (x:κ):∀ l:List (κ×α),lkA (l.map fun z=>if z.1=k then (z.1,i) else z) x=if x=k then (lkA l x).map fun _=>i else lkA l x
 | []=>by simp [lkA]
 | (k',v)::l=>by
  rw [List.map_cons,EB]
  dsimp only
  by_cases c:k'=k
  ·rw [if_pos c,EB,PF k i x l]
   by_cases d:k'=x
   ·subst d;simp [c]
   ·rw [if_neg d,if_neg d]
  ·rw [if_neg c,EB,PF k i x l]
   by_cases d:k'=x
   ·subst d;simp [c]
   ·rw [if_neg d,if_neg d]
theorem OW (k:κ) (i:α) (x:κ):∀ l:List (κ×α),lkA (l++[(k,i)]) x=match lkA l x with | some z=>some z | none=>if k=x then some i else none
 | []=>by rw [List.nil_append,EB];simp [lkA]
 | (k',v)::l=>by
  rw [List.cons_append,EB,EB,OW k i x l]
  by_cases d:k'=x
  ·simp [d]
  ·simp [d]
theorem VB (k:κ):∀ l:List (κ×α),(l.any fun z=>decide (z.1=k))=(lkA l k).isSome
 | []=>rfl
 | (k',v)::l=>by
  rw [List.any_cons,EB,VB k l]
  by_cases d:k'=k
  ·simp [d]
  ·simp [d]
theorem UN (e:List (κ×α)) (k x:κ) (i:α):lkA (ptA e k i) x=if x=k then some i else lkA e x:=by
 unfold ptA
 rw [VB]
 cases h:lkA e k with
 | none=>
  rw [if_neg (by simp),OW]
  by_cases c:x=k
  ·subst c;rw [h]
  ·rw [if_neg c,if_neg (fun z=>c z.symm)]
   cases lkA e x with
   | none=>rfl
   | some z=>rfl
 | some z=>
  rw [if_pos (by simp),PF]
  by_cases c:x=k
  ·subst c;rw [h,if_pos rfl,if_pos rfl];rfl
  ·rw [if_neg c,if_neg c]
end
theorem BC {K:PySem.W.Frag} {H:Hp} {d:L2.D} {ds:List L2.D} {v:V} {r:List V} (h1:Rp K H d v) (h2:RpL K H ds r):RpL K H (d::ds) (v::r):=by rw [RpL];exact ⟨_,_,rfl,h1,h2⟩
theorem OO {K:PySem.W.Frag} {H:Hp} {ws:List Wd} {xs:List V} {i:Nat} {x:V} (h:RpL K H (ws.map Wd.D) xs) (hx:xs[i]? =some x):∃ (z:Wd) (p:Addr) (vb:V),ws[i]? =some z∧x= .ref p∧SqT K H p [.str z.name,.int z.many,vb]∧Rp K H (bD z.body) vb:=by
 have hi:i<xs.length:=(List.getElem?_eq_some_iff.mp hx).1
 have hb:i<ws.length:=by rw [h.length,List.length_map] at hi;exact hi
 walk_at "b12"
 have r:Rp K H (ws[i]).D x:=r
 rw [Wd.D,Rp] at r
 obtain ⟨p,ys,rfl,hp,ry⟩:=r
 rw [RpL] at ry
 obtain ⟨y0,r0,rfl,a0,ry⟩:=ry
 rw [RpL] at ry
 obtain ⟨y1,r1,rfl,a1,ry⟩:=ry
 rw [RpL] at ry
 obtain ⟨y2,r2,rfl,a2,ry⟩:=ry
 rw [RpL] at ry
 subst ry
 rw [Rp] at a0;rw [Rp] at a1
 subst a0 a1
 exact ⟨_,p,y2,List.getElem?_eq_getElem hb,rfl,hp,a2⟩
theorem LJ {K:PySem.W.Frag} {H:Hp} {body:List Stm} {v:V} (h:Rp K H (bD body) v):∃ a xs,v= .ref a∧SqT K H a xs∧RpL K H (body.map Stm.D) xs∧xs.length=body.length:=by
 rw [Rp] at h
 obtain ⟨a,xs,rfl,hs,hl⟩:=h
 exact ⟨a,xs,rfl,hs,hl,by rw [hl.length,List.length_map]⟩
theorem CV {n:Nat} (h:n≤50000):n<sizeLine:=Nat.lt_of_le_of_lt h (by decide)
theorem FV {K:PySem.W.Frag} {H:Hp} {x:Str} {v:V} (h:Rp K H (.str x) v):v= .str x:=by rw [Rp] at h;exact h
theorem VD {K:PySem.W.Frag} {H:Hp} {body:List Stm} {xs:List V} {i:Nat} {s:Stm} (h:RpL K H (body.map Stm.D) xs) (hs:body[i]? =some s):∃ x,xs[i]? =some x∧Rp K H s.D x:=by
 have hi:i<body.length:=(List.getElem?_eq_some_iff.mp hs).1
 obtain ⟨v,e,r⟩:=h.at (j:=i) (by rw [List.length_map];exact hi)
 rw [List.getD_eq_getElem?_getD,List.getElem?_map,hs] at r
 exact ⟨v,e,r⟩
theorem UR {K:PySem.W.Frag} {H:Hp} {p:Addr} {x:Str} {n:Int} (h:H p=some (.tup [.str x,.int n])):Rp K H (.tup [.str x,.int n]) (.ref p):=by
 rw [Rp]
 exact ⟨p,_,rfl,SqT.of h,BC (by rw [Rp]) (BC (by rw [Rp]) RpL.nil)⟩
section
variable {P:Program} {w:World} {K:PySem.W.Frag} {mg:Str→Option Value} {base:Heap} {t:Adr}
def dk (ns:List Int):Prop:=∀ n∈ns,0≤n∧n<10000
theorem dk.last {ns:List Int} (h:dk ns):dk ns.dropLast:=fun n hn=>h n (List.dropLast_subset ns hn)
structure Dkf (l:Addr) (ns:List Int) (H:Hp) (ms:List Int) (H':Hp):Prop where
 h0:H l=some (.lst (ns.map V.int))
 d:dk ms
 le:ms.length≤ns.length
 b:But [l] H H'
 h:H' l=some (.lst (ms.map V.int))
theorem Dkf.refl {l:Addr} {ns:List Int} {H:Hp} (h0:H l=some (.lst (ns.map V.int))) (d:dk ns):Dkf l ns H ns H:=⟨h0,d,Nat.le_refl _,But.refl _ _,h0⟩
theorem Dkf.st {l:Addr} {ns ms:List Int} {H H':Hp} (f:Dkf l ns H ms H'):BK H H':=fun b o e k=>f.b b o e (by
 intro hb
 rw [List.mem_singleton.mp hb,f.h0] at e
 cases e
 rcases k with ⟨xs,k⟩ | ⟨o1,o2,k⟩<;> cases k)
theorem Dkf.trans {l:Addr} {ns ms ks:List Int} {H H' H'':Hp} (f:Dkf l ns H ms H') (g:Dkf l ms H' ks H''):Dkf l ns H ks H'':=⟨f.h0,g.d,Nat.le_trans g.le f.le,f.b.trans g.b,g.h⟩
theorem Dkf.same {l:Addr} {ns ms:List Int} {H H' H'':Hp} (f:Dkf l ns H ms H') (s:AI H' H''):Dkf l ns H ms H'':=⟨f.h0,f.d,f.le,f.b.trans s.but,s _ _ f.h⟩
def QF (K:PySem.W.Frag):Sp:=fun vs H Q _=>∃ (l:Addr) (ns:List Int),vs=[.ref l]∧H l=some (.lst (ns.map V.int))∧dk ns∧∀ (z:Int) (ms:List Int) (H':Hp),0≤z→z<10000→ms.length=ns.length - 1→Dkf l ns H ms H'→Q (.int z) H'
theorem CG (T:Txt w K mg t):BY P w K mg base CX0 1 t.a_Lnext t.d_Lnext ["_law_deck_here"] (QF K):=by
 refine T.Lnext.F.ok cF (fun vs H Q E h=> ?_) (fun cdv A outer s H vs Q E hr h=> ?_)
 ·obtain ⟨l,ns,rfl,_⟩:=h;rfl
 ·obtain ⟨l,ns,rfl,hl,hd,q⟩:=h
  refine ⟨_,s!"{BS}{AS}{T.z_len}{PySem.boot_len}0BCAPDNDKGSQ0B$KGF",?_⟩
  walk_at "rd"
  refine ⟨_,.inl (SqL.of hl),?_⟩
  by_cases h0:ns=[]
  ·subst h0
   rw [if_pos (by simp)]
   exact q 0 [] H (by decide) (by decide) rfl (Dkf.refl hl hd)
  ·have hpos:0<ns.length:=List.length_pos_iff.mpr h0
   rw [if_neg (by simp [h0])]
   have hlt:ns.length - 1<ns.length:=by omega
   have hz:=hd ns[ns.length - 1] (List.getElem_mem hlt)
   refine ⟨.inl ⟨_,SqL.of hl⟩,_,hl,.int ns[ns.length - 1],?_,?_⟩
   ·rw [List.length_map,List.getElem?_map,List.getElem?_eq_getElem hlt];rfl
   ·rw [← List.map_dropLast]
    exact q _ ns.dropLast _ hz.1 hz.2 (by rw [List.length_dropLast]) ⟨hl,hd.last,by rw [List.length_dropLast];omega,(But.refl _ _).upd (.inr (by simp)),AF⟩
def aW (K:PySem.W.Frag):Sp:=fun vs H Q _=>∃ (a:Addr) (ns:List Int),vs=[.ref a,.int 1]∧SqL K H a (ns.map V.int)∧ns.length≤63∧∀ (l:Addr) (ms:List Int) (H':Hp),AI H H'→H l=none→H' l=some (.lst (ms.map V.int))→dk ms→ms.length≤500→Q (.ref l) H'
def jJ (a:Addr) (H:Hp) (i:Nat) (σ:L2.St) (H2:Hp):Prop:=∃ (l:Addr) (ms:List Int) (o:Option V),σ=[some (.ref a),some (.int 1),some (.ref l),o]∧AI H H2∧H2 l=some (.lst (ms.map V.int))∧dk ms∧ms.length=8 * i
theorem aK (T:Txt w K mg t):BY P w K mg base CX0 3 t.a_Ldeck t.d_Ldeck ["_law_script","_law_start"] (aW K):=by
 refine T.Ldeck.F.ok JN (fun vs H Q E h=> ?_) (fun cdv A outer s H vs Q E hr h=> ?_)
 ·obtain ⟨a,ns,rfl,_⟩:=h;rfl
 ·obtain ⟨a,ns,rfl,hS,hl,q⟩:=h
  refine ⟨_,s!"2{JN.nd}{Or.inl rfl}CXJ{@XQ _ _ _ _ _ _ _ (by rfl) T.z_range s!"1B{SZ rfl}{T.z_max}{boot_max}{BO}1BDE{UA rfl}{T.z_min}{boot_min}D{AS}{T.z_len}{PySem.boot_len}0BCAPCAAPCAAPCAA" (by rfl) (by rfl)}3{JN.nd}L2{JN.nd}{Or.inl rfl}{PP}2B{UT T}{hr.mono (by decide)}{T.Lrow.m}{T.Lrow.F.kp}{T.Lrow.b}{RE T}{hr.mono (by decide)}{T.Lcell.m}{T.Lcell.F.kp}{T.Lcell.b}0B3BCAAHDDCAAAHEJGZ{@TQ _ _ _ _ _ _ _ rfl (by rfl) T.z_list (by rfl) T.z_reversed s!"2B" (by rfl) (by rfl)}KGFF",?_⟩
  walk_at "rd"
  refine ⟨by decide,fun l0 hl0=> ?_⟩
  have u0:=AI.upd (o:= .lst []) hl0
  walk_at "rd"
  refine ⟨_,.inl (u0.seq hS),?_⟩
  rw [List.length_map]
  obtain ⟨m,em,m63⟩:∃ m:Nat,(if (if (ns.length:Int)<63 then (ns.length:Int) else 63) > 1+4 then (if (ns.length:Int)<63 then (ns.length:Int) else 63) else 1+4)=(m:Int)+1∧m≤62:=by
   by_cases h:(ns.length:Int)<63
   ·rw [if_pos h]
    by_cases h2:(ns.length:Int) > 1+4
    ·rw [if_pos h2];exact ⟨ns.length - 1,by omega,by omega⟩
    ·rw [if_neg h2];exact ⟨4,rfl,by decide⟩
   ·rw [if_neg h];exact ⟨62,rfl,by decide⟩
  rw [em]
  refine ⟨by decide,by decide,by omega,by omega,?_⟩
  rw [show ((m:Int)+1 - 1).toNat=m by omega]
  refine FH (jJ a H) ⟨l0,[],none,rfl,u0,AF,(fun n hn=>nomatch hn),rfl⟩ ?_ ?_
  ·rintro i σ H2 hi ⟨l,ms,o,rfl,s2,h2,d2,ml⟩
   have ei:(1:Int)+(i:Int)=((i+1:Nat):Int):=by omega
   walk_at "rd"
   rw [ei]
   refine ⟨a,ns,_,rfl,s2.seq hS,hl,by omega,by omega,fun z=> ?_⟩
   walk_at "rd"
   refine ⟨_,_,_,rfl,by decide,by decide,by decide,by decide,fun lr ys H3 s3 hl3 hL hly hb=> ?_⟩
   refine ⟨_,s3 _ _ h2,_,hL,?_,fun p hp=> ?_⟩
   ·rw [List.length_map,List.length_map,ml,hly];exact Nat.le_of_lt (KA (by show 8 * i+8≤1000;omega))
   ·refine ⟨p,ms++ys,_,rfl,(s2.trans s3).trans (AI.upd hp),by rw [List.map_append];exact AF,fun n hn=> ?_,by rw [List.length_append,ml,hly];show 8 * i+8=_;omega⟩
    rcases List.mem_append.mp hn with hn | hn
    ·exact d2 n hn
    ·have:=hb n hn;exact ⟨this.1,by omega⟩
  ·rintro σ H2 ⟨l,ms,o,rfl,s2,h2,d2,ml⟩
   walk_at "rd"
   refine ⟨_,SqL.of h2,fun p hp=> ?_⟩
   refine q p ms.reverse _ (s2.trans (AI.upd hp)) (s2.free hp) (by rw [List.map_reverse];exact AF) (fun n hn=>d2 n (List.mem_reverse.mp hn)) (by rw [List.length_reverse];omega)
end
def Sc (inside:Bool) (takes:Nat) (x:Str):Prop:=(inside=true∧x="count")∨x∈NUM.take takes
def Am.sm:Am→Prop
 | .int i=> -9≤i∧i≤9
 | .src f _ m=>(-3≤f∧f≤3)∧ -3≤m∧m≤3
section
variable {P:Program} {w:World} {K:PySem.W.Frag} {mg:Str→Option Value} {base:Heap} {t:Adr}
theorem cA {H:Hp} {p:Addr} {f m:Int} {s:Str} (h:H p=some (.tup [.int f,.str s,.int m])):Rp K H (Am.src f s m).D (.ref p):=by
 rw [Am.D,Rp]
 exact ⟨p,_,rfl,SqT.of h,BC (by rw [Rp]) (BC (by rw [Rp]) (BC (by rw [Rp]) RpL.nil))⟩
def MR (K:PySem.W.Frag):Sp:=fun vs H Q _=>∃ (l:Addr) (ns:List Int) (inside:Bool) (takes:Nat),vs=[.ref l,.bl inside,.int takes]∧H l=some (.lst (ns.map V.int))∧dk ns∧takes≤4∧∀ (v:V) (a:Am) (ms:List Int) (H':Hp),Rp K H' a.D v→a.sm→JQ (Sc inside takes) a→Dkf l ns H ms H'→Q v H'
theorem ED (T:Txt w K mg t):BY P w K mg base CX0 2 t.a_Lamount t.d_Lamount ["_law_deck_here","_law_inside","_law_takes"] (MR K):=by
 refine T.Lamount.F.ok NB (fun vs H Q E h=> ?_) (fun cdv A outer s H vs Q E hr h=> ?_)
 ·obtain ⟨l,ns,inside,takes,rfl,_⟩:=h;rfl
 ·obtain ⟨l,ns,inside,takes,rfl,hl,hd,ht,q⟩:=h
  refine ⟨_,s!"3{NB.nd}{Or.inl rfl}{CG T}{hr.mono (by decide)}{T.Lnext.m}{T.Lnext.F.kp}{T.Lnext.b}0BCAHJ{@PW.pt _ _ _ s!"{BS}{AV}3BDEDN1Bqpo"}{DY}{AV}{DV}3BDEDEDEI{DY}{AV}{CG T}{hr.mono (by decide)}{T.Lnext.m}{T.Lnext.F.kp}{T.Lnext.b}0BCAHDEDECAAAOKGSQ{@PW.pt _ _ _ s!"{BS}{AV}3BDEDN{GM}2BDNpo"}{DY}{AV}{DV}3BDEDEDE{PV}I{OC}{T.z_str}{boot_str}{AV}{CG T}{hr.mono (by decide)}{T.Lnext.m}{T.Lnext.F.kp}{T.Lnext.b}0BCAH2BECAfE{DY}{AV}{CG T}{hr.mono (by decide)}{T.Lnext.m}{T.Lnext.F.kp}{T.Lnext.b}0BCAHDEDECAAAOKGSQ{DY}{AV}{DV}3BDEDEDEKGFFF",?_⟩
  walk_at "ro"
  refine ⟨l,ns,rfl,hl,hd,fun z1 m1 H1 z10 z11 l1 f1=> ?_⟩
  walk_at "ro"
  refine ⟨by decide,?_⟩
  have last:0<(4:Int)∧(4:Int)<2 ^ 100∧0<(19:Int)∧Q (.int (z1 / 4 % 19 - 9)) H1:=⟨by decide,by decide,by decide,q _ (.int (z1 / 4 % 19 - 9)) m1 H1 (by rw [Am.D,Rp]) ⟨by omega,by omega⟩ trivial f1⟩
  by_cases c0:z1 % 4=0
  ·rw [if_pos c0]
   cases inside with
   | true=>
    rw [if_pos rfl]
    refine ⟨by decide,by decide,by decide,l,m1,rfl,f1.h,f1.d,fun z2 m2 H2 z20 z21 l2 f2=> ?_⟩
    refine ⟨by decide,by decide,fun p hp=> ?_⟩
    exact q _ (.src (z1 / 4 % 7 - 3) "count" (z2 % 7 - 3)) m2 _ (cA AF) ⟨⟨by omega,by omega⟩,by omega,by omega⟩ ⟨⟨by omega,by omega⟩,.inl ⟨rfl,rfl⟩⟩ ((f1.trans f2).same (AI.upd hp))
   | false=>
    rw [if_neg (by decide)]
    rw [if_neg (by omega)]
    exact ⟨by decide,last⟩
  ·rw [if_neg c0]
   refine ⟨by decide,?_⟩
   by_cases c1:z1 % 4=1
   ·rw [if_pos c1]
    by_cases c2:(0:Int)<takes
    ·rw [if_pos c2]
     refine ⟨by decide,by decide,by decide,l,m1,rfl,f1.h,f1.d,fun z2 m2 H2 z20 z21 l2 f2=> ?_⟩
     dsimp only
     obtain ⟨k,ek,hk,hk2⟩:∃ k:Nat,z2 % (takes:Int)=(k:Int)∧k<takes∧k<4:=by
      have a:=Int.emod_nonneg z2 (show (takes:Int)≠0 by omega)
      have b:=Int.emod_lt_of_pos z2 c2
      exact ⟨(z2 % (takes:Int)).toNat,by omega,by omega,by omega⟩
     rw [ek]
     obtain ⟨e1,e2,e3⟩:((k:Int).natAbs.log2<1920)∧((Str.ofString "n").length+(Str.ofString (toString (k:Int))).length≤sizeLine)∧∃ s:Str,NUM[k]? =some s∧Str.ofString "n"++Str.ofString (toString (k:Int))=s:=by
      have:k=0∨k=1∨k=2∨k=3:=by omega
      rcases this with rfl | rfl | rfl | rfl
      ·exact ⟨by decide,by decide+kernel,_,rfl,by decide+kernel⟩
      ·exact ⟨by decide,by decide+kernel,_,rfl,by decide+kernel⟩
      ·exact ⟨by decide,by decide+kernel,_,rfl,by decide+kernel⟩
      ·exact ⟨by decide,by decide+kernel,_,rfl,by decide+kernel⟩
     obtain ⟨s1,e3,e4⟩:=e3
     refine ⟨c2,e1,e2,l,m2,rfl,f2.h,f2.d,fun z3 m3 H3 z30 z31 l3 f3=> ?_⟩
     refine ⟨by decide,by decide,fun p hp=> ?_⟩
     rw [e4]
     refine q _ (.src (z1 / 4 % 7 - 3) s1 (z3 % 7 - 3)) m3 _ (cA AF) ⟨⟨by omega,by omega⟩,by omega,by omega⟩ ⟨⟨by omega,by omega⟩,.inr ?_⟩ (((f1.trans f2).trans f3).same (AI.upd hp))
     rw [List.mem_iff_getElem?]
     exact ⟨k,by rw [List.getElem?_take,if_pos hk];exact e3⟩
    ·rw [if_neg c2]
     exact last
   ·rw [if_neg c1]
    exact last
end
mutual
def Stm.sm:Stm→Prop
 | .go a=>a.sm
 | .turn a=>a.sm
 | .ink a=>a.sm
 | .up=>True
 | .down=>True
 | .mark n=>0≤n∧n<10
 | .back n=>0≤n∧n<10
 | .again a b=>a.sm∧Stm.sms b∧b.length≤5
 | .ifs a b c=>a.sm∧(Stm.sms b∧b.length≤5)∧Stm.sms c∧c.length≤5
 | .dow _ as=>(∀ a∈as,a.sm)∧as.length≤4
def Stm.sms:List Stm→Prop
 | []=>True
 | s::r=>s.sm∧Stm.sms r
end
mutual
def Stm.dp:Stm→Nat
 | .go _=>0
 | .turn _=>0
 | .ink _=>0
 | .up=>0
 | .down=>0
 | .mark _=>0
 | .back _=>0
 | .again _ b=>Stm.dps b+1
 | .ifs _ b c=>max (Stm.dps b) (Stm.dps c)+1
 | .dow _ _=>0
def Stm.dps:List Stm→Nat
 | []=>0
 | s::r=>max s.dp (Stm.dps r)
end
theorem IC:∀ {a b:List Stm},Stm.dps (a++b)=max (Stm.dps a) (Stm.dps b)
 | [],b=>by rw [List.nil_append,Stm.dps,Nat.zero_max]
 | s::a,b=>by rw [List.cons_append,Stm.dps,Stm.dps,IC (a:=a),Nat.max_assoc]
mutual
def Stm.sz:Stm→Nat
 | .go _=>1
 | .turn _=>1
 | .ink _=>1
 | .up=>1
 | .down=>1
 | .mark _=>1
 | .back _=>1
 | .again _ b=>Stm.szs b+1
 | .ifs _ b c=>Stm.szs b+Stm.szs c+1
 | .dow _ _=>1
def Stm.szs:List Stm→Nat
 | []=>0
 | s::r=>s.sz+Stm.szs r
end
theorem FK:∀ {a b:List Stm},Stm.szs (a++b)=Stm.szs a+Stm.szs b
 | [],b=>by rw [List.nil_append,Stm.szs,Nat.zero_add]
 | s::a,b=>by rw [List.cons_append,Stm.szs,Stm.szs,FK (a:=a),Nat.add_assoc]
theorem OX:∀ {a b:List Stm},Stm.sms a→Stm.sms b→Stm.sms (a++b)
 | [],b,_,h=>h
 | s::a,b,h,g=>by rw [Stm.sms] at h;rw [List.cons_append,Stm.sms];exact ⟨h.1,OX h.2 g⟩
theorem QE {ar:Str→Option Nat} {D:Str→Prop}:∀ {a b:List Stm},Stm.Oks ar D a→Stm.Oks ar D b→Stm.Oks ar D (a++b)
 | [],b,_,h=>h
 | s::a,b,h,g=>by rw [Stm.Oks] at h;rw [List.cons_append,Stm.Oks];exact ⟨h.1,QE h.2 g⟩
def arW (ws:List Wd) (x:Str):Option Nat:=lkA (ws.map fun z=>(z.name,z.many.toNat)) x
structure iK (z:Wd):Prop where
 m0:0≤z.many
 m4:z.many≤4
abbrev TM (K:PySem.W.Frag) (H:Hp) (lw:Addr) (ws:List Wd):Prop:=∃ vs,H lw=some (.lst vs)∧RpL K H (ws.map Wd.D) vs
theorem TM.dkf {K:PySem.W.Frag} {H H':Hp} {lw l:Addr} {ws:List Wd} {ns ms:List Int} (h:TM K H lw ws) (f:Dkf l ns H ms H') (ne:lw≠l):TM K H' lw ws:=by
 obtain ⟨vs,h1,h2⟩:=h
 exact ⟨vs,f.b _ _ h1 (by simpa using ne),h2.t f.st⟩
theorem TM.same {K:PySem.W.Frag} {H H':Hp} {lw:Addr} {ws:List Wd} (h:TM K H lw ws) (s:AI H H'):TM K H' lw ws:=by
 obtain ⟨vs,h1,h2⟩:=h
 exact ⟨vs,s _ _ h1,h2.same s⟩
section
variable {P:Program} {w:World} {K:PySem.W.Frag} {mg:Str→Option Value} {base:Heap} {t:Adr}
structure Gin (K:PySem.W.Frag) (H:Hp) (l:Addr) (ns:List Int) (lw:Addr) (ws:List Wd) (takes:Nat):Prop where
 hl:H l=some (.lst (ns.map V.int))
 d:dk ns
 n5:ns.length≤500
 hw:TM K H lw ws
 ne:lw≠l
 tk:takes≤4
 wo:∀ z∈ws,iK z
 ar:∀ z∈ws,arW ws z.name=some z.many.toNat
 w9:ws.length≤6
theorem Gin.dkf {H H':Hp} {l lw:Addr} {ns ms:List Int} {ws:List Wd} {takes:Nat} (g:Gin K H l ns lw ws takes) (f:Dkf l ns H ms H'):Gin K H' l ms lw ws takes:=⟨f.h,f.d,Nat.le_trans f.le g.n5,g.hw.dkf f g.ne,g.ne,g.tk,g.wo,g.ar,g.w9⟩
def HB (K:PySem.W.Frag) (n:Nat):Sp:=fun vs H Q _=>∃ (l lw:Addr) (ns:List Int) (deep:Nat) (inside:Bool) (takes:Nat) (ws:List Wd),vs=[.ref l,.int deep,.bl inside,.int takes,.ref lw]∧Gin K H l ns lw ws takes∧5≤deep+n∧deep≤4∧
 ∀ (v:V) (b:List Stm) (ms:List Int) (H':Hp),Rp K H' (bD b) v→(Stm.sms b∧Stm.dps b≤4 - deep∧Stm.szs b+ms.length≤ns.length)→b.length≤5→Stm.Oks (arW ws) (Sc inside takes) b→(ns≠[]→ms.length<ns.length)→Dkf l ns H ms H'→Q v H'
def iS (K:PySem.W.Frag) (n:Nat):Sp:=fun vs H Q _=>∃ (l lw:Addr) (ns:List Int) (deep:Nat) (inside:Bool) (takes:Nat) (ws:List Wd),vs=[.ref l,.int deep,.bl inside,.int takes,.ref lw]∧Gin K H l ns lw ws takes∧4≤deep+n∧deep≤4∧
 ∀ (v:V) (b:Stm) (ms:List Int) (H':Hp),Rp K H' b.D v→(b.sm∧b.dp≤4 - deep∧(ns≠[]→b.sz+ms.length≤ns.length))→b.Ok (arW ws) (Sc inside takes)→Dkf l ns H ms H'→Q v H'
def LK (K:PySem.W.Frag) (n:Nat):Sp:=fun vs H Q _=>∃ (l lw:Addr) (ns:List Int) (deep:Nat) (inside:Bool) (takes:Nat) (ws:List Wd),vs=[.ref l,.int deep,.bl inside,.int takes,.ref lw]∧Gin K H l ns lw ws takes∧4≤deep+n∧deep<4∧
 ∀ (v:V) (b:Stm) (ms:List Int) (H':Hp),Rp K H' b.D v→(b.sm∧b.dp≤4 - deep∧b.sz+ms.length≤ns.length+1)→b.Ok (arW ws) (Sc inside takes)→Dkf l ns H ms H'→Q v H'
abbrev IhB (P:Program) (w:World) (K:PySem.W.Frag) (mg:Str→Option Value) (base:Heap) (t:Adr) (n:Nat):Prop:=BY P w K mg base CX0 (3 * n+5) t.a_Lbody t.d_Lbody ["_law_deck_here","_law_deep_here","_law_inside","_law_takes","_law_words_here"] (HB K n)
theorem bZ {inside:Bool} {takes:Nat} {x:Str} (h:Sc true takes x):Sc inside takes x∨x="count":=by
 rcases h with ⟨_,h⟩ | h
 ·exact .inr h
 ·exact .inl (.inr h)
theorem dG {H:Hp} {p:Addr} {x:Str} {d:L2.D} {v:V} (h:H p=some (.tup [.str x,v])) (r:Rp K H d v):Rp K H (.tup [.str x,d]) (.ref p):=by
 rw [Rp]
 exact ⟨p,_,rfl,SqT.of h,BC (by rw [Rp]) (BC r RpL.nil)⟩
theorem dL {H:Hp} {p:Addr} {x:Str} {d e:L2.D} {v u:V} (h:H p=some (.tup [.str x,v,u])) (r:Rp K H d v) (r2:Rp K H e u):Rp K H (.tup [.str x,d,e]) (.ref p):=by
 rw [Rp]
 exact ⟨p,_,rfl,SqT.of h,BC (by rw [Rp]) (BC r (BC r2 RpL.nil))⟩
theorem eQ {H:Hp} {p:Addr} {x:Str} {d e f:L2.D} {v u y:V} (h:H p=some (.tup [.str x,v,u,y])) (r:Rp K H d v) (r2:Rp K H e u) (r3:Rp K H f y):Rp K H (.tup [.str x,d,e,f]) (.ref p):=by
 rw [Rp]
 exact ⟨p,_,rfl,SqT.of h,BC (by rw [Rp]) (BC r (BC r2 (BC r3 RpL.nil)))⟩
theorem TW (T:Txt w K mg t) (n:Nat) (ih:IhB P w K mg base t n):BY P w K mg base CX0 (3 * n+6) t.a_Lrounds t.d_Lrounds ["_law_deck_here","_law_deep_here","_law_inside","_law_takes","_law_words_here"] (LK K n):=by
 refine T.Lrounds.F.ok GH (fun vs H Q E h=> ?_) (fun cdv A outer s H vs Q E hr h=> ?_)
 ·obtain ⟨l,lw,ns,deep,inside,takes,ws,rfl,_⟩:=h;rfl
 ·obtain ⟨l,lw,ns,deep,inside,takes,ws,rfl,g,dn,d4,q⟩:=h
  refine ⟨_,s!"5{GH.nd}{Or.inl rfl}{CG T}{hr.mono (by omega)}{T.Lnext.m}{T.Lnext.F.kp}{T.Lnext.b}0BCAHJ6{GH.nd}{Or.inl rfl}{AV}{DV}5BDEDEJ{BS}{AV}5BDEDN6{GH.nd}{Or.inl rfl}{ED T}{hr.mono (by omega)}{T.Lamount.m}{T.Lamount.F.kp}{T.Lamount.b}0B2B3BCAAAHJGSQI6B{ih}{hr.mono (by omega)}{T.Lbody.m}{T.Lbody.F.kp}{T.Lbody.b}0B{BO}1BDEd3B4BCAAAAAHCAAAOKGFFF",?_⟩
  walk_at "b32"
  walk_at "ro"
  have cont:∀ (a:Am) (va:V) (m2:List Int) (H2:Hp),Rp K H2 a.D va→a.sm→JQ (Sc inside takes) a→Dkf l ns H m2 H2→HB K n [.ref l,.int ((deep:Int)+1),.bl true,.int takes,.ref lw] H2 (fun x H3=>3≤sizeLine∧∀ p,H3 p=none→Q (.ref p) (upd H3 p (.tup [.str (Str.ofString "again"),va,x]))) E0:=by
   intro a va m2 H2 ra sa oa f2
   refine ⟨l,lw,m2,deep+1,true,takes,ws,rfl,g.dkf f2,by omega,by omega,fun v b m3 H3 rb sb lb ob _ f3=>⟨by decide,fun p hp=> ?_⟩⟩
   refine q _ (.again a b) m3 _ ?_ ?_ ?_ ((f2.trans f3).same (AI.upd hp))
   ·rw [Stm.D,CF]
    exact dL AF ((Rp.t f3.st ra).same (AI.upd hp)) (rb.same (AI.upd hp))
   ·rw [Stm.sm,Stm.dp,Stm.sz];exact ⟨⟨sa,sb.1,lb⟩,by have:=sb.2.1;omega,by have:=sb.2.2;have:=f2.le;omega⟩
   ·rw [Stm.Ok];exact ⟨oa,Stm.Oks.mono (fun x=>bZ) ob⟩
  refine ⟨by decide,by decide,by decide,by decide,?_⟩
  by_cases c:z1 % 3=1
  ·rw [if_pos c]
   exact ⟨l,m1,inside,takes,rfl,f1.h,f1.d,g.tk,fun va a m2 H2 ra sa oa f2=>cont a va m2 H2 ra sa oa (f1.trans f2)⟩
  ·rw [if_neg c]
   exact cont (.int (z1 / 3 % 5)) _ m1 H1 (by rw [Am.D,Rp]) ⟨by omega,by omega⟩ trivial f1
theorem UC (T:Txt w K mg t) (n:Nat) (ih:IhB P w K mg base t n):BY P w K mg base CX0 (3 * n+6) t.a_Lchoice t.d_Lchoice ["_law_deck_here","_law_deep_here","_law_inside","_law_takes","_law_words_here"] (LK K n):=by
 refine T.Lchoice.F.ok IR (fun vs H Q E h=> ?_) (fun cdv A outer s H vs Q E hr h=> ?_)
 ·obtain ⟨l,lw,ns,deep,inside,takes,ws,rfl,_⟩:=h;rfl
 ·obtain ⟨l,lw,ns,deep,inside,takes,ws,rfl,g,dn,d4,q⟩:=h
  refine ⟨_,s!"5{IR.nd}{Or.inl rfl}{ED T}{hr.mono (by omega)}{T.Lamount.m}{T.Lamount.F.kp}{T.Lamount.b}0B2B3BCAAAHJ6{IR.nd}{Or.inl rfl}{ih}{hr.mono (by omega)}{T.Lbody.m}{T.Lbody.F.kp}{T.Lbody.b}0B{BO}1BDE2B3B4BCAAAAAHJI5B6B{ih}{hr.mono (by omega)}{T.Lbody.m}{T.Lbody.F.kp}{T.Lbody.b}0B{BO}1BDE2B3B4BCAAAAAHCAAAAOKGFF",?_⟩
  walk_at "ro"
  refine ⟨l,ns,inside,takes,rfl,g.hl,g.d,g.tk,fun va a m1 H1 ra sa oa f1=> ?_⟩
  walk_at "ro"
  refine ⟨l,lw,m1,deep+1,inside,takes,ws,rfl,g.dkf f1,by omega,by omega,fun vb b m2 H2 rb sb lb ob _ f2=> ?_⟩
  have f12:=f1.trans f2
  walk_at "ro"
  refine ⟨l,lw,m2,deep+1,inside,takes,ws,rfl,g.dkf f12,by omega,by omega,fun vc c m3 H3 rc sc lc oc _ f3=>⟨by decide,fun p hp=> ?_⟩⟩
  refine q _ (.ifs a b c) m3 _ ?_ ?_ ?_ ((f12.trans f3).same (AI.upd hp))
  ·rw [Stm.D,CF,CF]
   exact eQ AF ((Rp.t f3.st (Rp.t f2.st ra)).same (AI.upd hp)) ((Rp.t f3.st rb).same (AI.upd hp)) (rc.same (AI.upd hp))
  ·rw [Stm.sm,Stm.dp,Stm.sz];exact ⟨⟨sa,⟨sb.1,lb⟩,sc.1,lc⟩,by have:=sb.2.1;have:=sc.2.1;omega,by have:=sb.2.2;have:=sc.2.2;have:=f1.le;omega⟩
  ·rw [Stm.Ok];exact ⟨oa,ob,oc⟩
def iB (K:PySem.W.Frag):Sp:=fun vs H Q _=>∃ (l lw:Addr) (ns:List Int) (inside:Bool) (takes:Nat) (ws:List Wd),vs=[.ref l,.bl inside,.int takes,.ref lw]∧Gin K H l ns lw ws takes∧ws≠[]∧
 ∀ (v:V) (b:Stm) (ms:List Int) (H':Hp),Rp K H' b.D v→(b.sm∧b.dp=0∧b.sz=1)→b.Ok (arW ws) (Sc inside takes)→Dkf l ns H ms H'→Q v H'
def fL (K:PySem.W.Frag) (l p:Addr) (inside:Bool) (takes:Nat) (n0:List Int) (H:Hp) (i:Nat) (σ:L2.St) (H2:Hp):Prop:=∃ (as:List Am) (vs:List V) (ms:List Int) (o:Option V),σ=[some (.ref l),some (.bl inside),some (.int takes),o]∧H2 p=some (.lst vs)∧RpL K H2 (as.map Am.D) vs∧as.length=i∧(∀ a∈as,a.sm∧JQ (Sc inside takes) a)∧Dkf l n0 H ms H2
theorem ZU (T:Txt w K mg t):BY P w K mg base CX0 3 t.a_Lcall t.d_Lcall ["_law_deck_here","_law_inside","_law_takes","_law_words_here"] (iB K):=by
 refine T.Lcall.F.ok JI (fun vs H Q E h=> ?_) (fun cdv A outer s H vs Q E hr h=> ?_)
 ·obtain ⟨l,lw,ns,inside,takes,ws,rfl,_⟩:=h;rfl
 ·obtain ⟨l,lw,ns,inside,takes,ws,rfl,g,wne,q⟩:=h
  refine ⟨_,s!"{BJ}3B{AV}{CG T}{hr.mono (by decide)}{T.Lnext.m}{T.Lnext.F.kp}{T.Lnext.b}0BCAH{AS}{T.z_len}{PySem.boot_len}3BCAPEM4{JI.nd}L5{JI.nd}L6{JI.nd}LiUUUrvI4B{BX}{T.z_tuple}{boot_tuple}{AE GG}{["_law_deck_here", "_law_inside", "_law_takes", "_law_words_here", "_law_name_here", "_law_many", "_law_body_here"]}{["_law_deck_here", "_law_inside", "_law_takes", "_law_k"]}{["_law_k"]}{[0, 1, 2]}{T.z_range}5BCAe{fun _ _ _ _ => s!"3{show List.Nodup (["_law_deck_here","_law_inside","_law_takes","_law_k"]:List Str) by decide+kernel}L"}{fun _ _ _ _ => s!"h"}{fun _ _ _ _ => s!"{ED T}{hr.mono (by decide)}{T.Lamount.m}{T.Lamount.F.kp}{T.Lamount.b}0B1B2BCAAAH"}mCAfCAAAOKGF",?_⟩
  walk_at "b32"
  obtain ⟨vw,hw,rw1⟩:=g1.hw
  have lw0:vw.length=ws.length:=by rw [rw1.length,List.length_map]
  have wpos:0<vw.length:=by rw [lw0];exact List.length_pos_iff.mpr wne
  dsimp only
  obtain ⟨k,ek,hk⟩:∃ k:Nat,z1 % (vw.length:Int)=(k:Int)∧k<vw.length:=by
   have a:=Int.emod_nonneg z1 (show (vw.length:Int)≠0 by omega)
   have b:=Int.emod_lt_of_pos z1 (show (0:Int)<vw.length by omega)
   exact ⟨(z1 % (vw.length:Int)).toNat,by omega,by omega⟩
  refine ⟨vw,.inl (SqL.of hw),by omega,vw,SqL.of hw,?_⟩
  rw [ek]
  obtain ⟨x,hx⟩:∃ x,vw[k]? =some x:=⟨_,List.getElem?_eq_getElem hk⟩
  obtain ⟨z,pz,vz,hz,rfl,hpz,rz⟩:=OO rw1 hx
  have mz:=List.mem_of_getElem? hz
  obtain ⟨m0,m4⟩:=g.wo z mz
  refine ⟨_,BN hx,?_⟩
  refine ⟨_,hpz,rfl,?_⟩
  dsimp only
  refine ⟨z.many,rfl,by omega,by omega,fun lp hlp=> ?_⟩
  have u1:=AI.upd (o:= .lst []) hlp
  have nlp:lp≠l:=(DL f1.h hlp).symm
  refine JM (fL K l lp inside takes m1 H1) ⟨[],[],m1,none,rfl,AF,RpL.nil,rfl,(fun a ha=>by cases ha),(Dkf.refl f1.h f1.d).same u1⟩ ?_ ?_
  ·rintro i σ H2 hi ⟨as,vs,ms,o,rfl,h2,r2,la,oa,f2⟩
   walk_at "ro"
   refine ⟨l,ms,inside,takes,rfl,f2.h,f2.d,g.tk,fun va a m3 H3 ra sa oa' f3=> ?_⟩
   try dsimp only
   try rw [if_pos (by decide)]
   have h3:H3 lp=some (.lst vs):=f3.b _ _ h2 (by simpa using nlp)
   have t4:BK H3 (upd H3 lp (.lst (vs++[va]))):=(BK.refl H3).upd (DW h3)
   have lv:vs.length=i:=by rw [r2.length,List.length_map,la]
   have f23:=f2.trans f3
   refine ⟨_,h3,CV (by omega),?_⟩
   have nx1:fL K l lp inside takes m1 H1 (i+1) [some (.ref l),some (.bl inside),some (.int takes),some (.int (0+(i:Int)))] (upd H3 lp (.lst (vs++[va]))):=by
    refine ⟨as++[a],vs++[va],m3,_,rfl,AF,?_,by simp [la],fun b hb=> ?_,f23.h0,f23.d,f23.le,?_,by rw [BA nlp.symm];exact f23.h⟩
    ·rw [List.map_append]
     exact ((r2.t f3.st).app (RpL.one ra)).t t4
    ·rcases List.mem_append.mp hb with hb | hb
     ·exact oa b hb
     ·rw [List.mem_singleton] at hb;subst hb;exact ⟨sa,oa'⟩
    ·exact fun c o e hc=>by
      have ncp:c≠lp:=DL e hlp
      rw [BA ncp]
      exact f23.b c o e hc
   first
    | exact nx1
    | exact nx hi nx1
  ·rintro σ H2 ⟨as,vs,ms,o,rfl,h2,r2,la,oa,f2⟩
   dsimp only
   refine ⟨vs,SqL.of h2,fun pt hpt=>⟨by decide,fun p hp=> ?_⟩⟩
   have u3:=AI.upd (o:= .tup vs) hpt
   have u4:=AI.upd (o:= .tup [.str (Str.ofString "do"),.str z.name,.ref pt]) hp
   have u34:=u3.trans u4
   refine q _ (.dow z.name as) ms _ ?_ ?_ ?_ ((f1.trans f2).same u34)
   ·rw [Stm.D,Rp]
    refine ⟨p,_,rfl,SqT.of AF,BC (by rw [Rp]) (BC (by rw [Rp]) (RpL.one ?_))⟩
    exact BL.mpr ⟨pt,vs,rfl,u4.tup (SqT.of AF),r2.same u34⟩
   ·rw [Stm.sm,Stm.dp,Stm.sz];exact ⟨⟨fun a ha=>(oa a ha).1,by omega⟩,rfl,rfl⟩
   ·rw [Stm.Ok];exact ⟨fun a ha=>(oa a ha).2,by omega,by rw [g.ar z mz,la]⟩
end
section
variable {P:Program} {w:World} {K:PySem.W.Frag} {mg:Str→Option Value} {base:Heap} {t:Adr}
theorem SI {H:Hp} {p:Addr} {x:Str} (h:H p=some (.tup [.str x])):Rp K H (.tup [.str x]) (.ref p):=by
 rw [Rp]
 exact ⟨p,_,rfl,SqT.of h,RpL.one (by rw [Rp])⟩
theorem NH (T:Txt w K mg t) (n:Nat) (ih:IhB P w K mg base t n):BY P w K mg base CX0 (3 * n+7) t.a_Lstatement t.d_Lstatement ["_law_deck_here","_law_deep_here","_law_inside","_law_takes","_law_words_here"] (iS K n):=by
 refine T.Lstatement.F.ok II (fun vs H Q E h=> ?_) (fun cdv A outer s H vs Q E hr h=> ?_)
 ·obtain ⟨l,lw,ns,deep,inside,takes,ws,rfl,_⟩:=h;rfl
 ·obtain ⟨l,lw,ns,deep,inside,takes,ws,rfl,g,dn,d4,q⟩:=h
  refine ⟨_,s!"5{II.nd}{Or.inl rfl}{AV}{CG T}{hr.mono (by omega)}{T.Lnext.m}{T.Lnext.F.kp}{T.Lnext.b}0BCAHDEJ{KN}5BDNI{ED T}{hr.mono (by omega)}{T.Lamount.m}{T.Lamount.F.kp}{T.Lamount.b}0B2B3BCAAAHCAAOKGSQ{KN}5BDNI{ED T}{hr.mono (by omega)}{T.Lamount.m}{T.Lamount.F.kp}{T.Lamount.b}0B2B3BCAAAHCAAOKGSQ{BS}5BDN{BJ}IIICAAAX{AV}{CG T}{hr.mono (by omega)}{T.Lnext.m}{T.Lnext.F.kp}{T.Lnext.b}0BCAHDEMCAOKGSQ{BS}5BDNI{ED T}{hr.mono (by omega)}{T.Lamount.m}{T.Lamount.F.kp}{T.Lamount.b}0B2B3BCAAAHCAAOKGSQ{BS}5BDN{BJ}IIICAAAX{AV}{CG T}{hr.mono (by omega)}{T.Lnext.m}{T.Lnext.F.kp}{T.Lnext.b}0BCAHDEM{AV}{CG T}{hr.mono (by omega)}{T.Lnext.m}{T.Lnext.F.kp}{T.Lnext.b}0BCAHDECAAOKGSQ{@PW.pt _ _ _ s!"{BS}5BDN{KN}1BDNpo"}{UC T n ih}{hr.mono (by omega)}{T.Lchoice.m}{T.Lchoice.F.kp}{T.Lchoice.b}0B1B2B3B4BCAAAAAHKGSQ{@PW.pt _ _ _ s!"{BS}5BDN{GM}{AS}{T.z_len}{PySem.boot_len}4BCAPDNpo"}{ZU T}{hr.mono (by omega)}{T.Lcall.m}{T.Lcall.F.kp}{T.Lcall.b}0B2B3B4BCAAAAHKGSQ{KN}1BDN{TW T n ih}{hr.mono (by omega)}{T.Lrounds.m}{T.Lrounds.F.kp}{T.Lrounds.b}0B1B2B3B4BCAAAAAHKGSQI{BO}D{AV}{CG T}{hr.mono (by omega)}{T.Lnext.m}{T.Lnext.F.kp}{T.Lnext.b}0BCAHDEECAAOKGFFFFFFFFF",?_⟩
  walk_at "b32"
  walk_at "ro"
  refine ⟨by decide,?_⟩
  have leaf:∀ {s:Stm} {m:List Int},s.sz=1→m.length≤m1.length→(ns≠[]→s.sz+m.length≤ns.length):=fun e h ne=>by have:=List.length_pos_iff.mpr ne;omega
  have am:∀ (x:Str) (st:Am→Stm),(∀ a,(st a).D= .tup [.str x,a.D])→(∀ a,a.sm→(st a).sm∧(st a).dp=0∧(st a).sz=1)→(∀ a,JQ (Sc inside takes) a→(st a).Ok (arW ws) (Sc inside takes))→MR K [.ref l,.bl inside,.int takes] H1 (fun v H2=>2≤sizeLine∧∀ p,H2 p=none→Q (.ref p) (upd H2 p (.tup [.str x,v]))) E0:=by
   intro x st e1 e2 e3
   refine ⟨l,m1,inside,takes,rfl,f1.h,f1.d,g.tk,fun va a m2 H2 ra sa oa f2=>⟨by decide,fun p hp=> ?_⟩⟩
   refine q _ (st a) m2 _ ?_ ⟨(e2 a sa).1,by rw [(e2 a sa).2.1];exact Nat.zero_le _,leaf (e2 a sa).2.2 f2.le⟩ (e3 a oa) ((f1.trans f2).same (AI.upd hp))
   rw [e1]
   exact dG AF (ra.same (AI.upd hp))
  have sub:(deep:Int)<4→LK K n [.ref l,.int deep,.bl inside,.int takes,.ref lw] H1 Q E0:=fun d3=>⟨l,lw,m1,deep,inside,takes,ws,rfl,g1,dn,by omega,fun v b m2 H2 rb sb ob f2=>q v b m2 H2 rb ⟨sb.1,sb.2.1,fun ne=>by have:=sb.2.2;have:=List.length_pos_iff.mpr ne;omega⟩ ob (f1.trans f2)⟩
  have tl:(if (deep:Int)<4 then LK K n [V.ref l,V.int ↑deep,V.bl inside,V.int ↑takes,V.ref lw] H1 Q E0
    else QF K [V.ref l] H1 (fun x H1=>match x with | V.int a=>(0:Int)<7∧2≤sizeLine∧∀ (p:Addr),H1 p=none→Q (V.ref p) (upd H1 p (HO.tup [V.str (Str.ofString "turn"),V.int (1+a % 7)])) | x=>False) E0):=by
   by_cases d3:(deep:Int)<4
   ·rw [if_pos d3];exact sub d3
   ·rw [if_neg d3]
    refine ⟨l,m1,rfl,f1.h,f1.d,fun z2 m2 H2 z20 z21 l2 f2=>⟨by decide,by decide,fun p hp=> ?_⟩⟩
    refine q _ (.turn (.int (1+z2 % 7))) m2 _ ?_ ?_ ?_ ((f1.trans f2).same (AI.upd hp))
    ·rw [Stm.D,Am.D];exact UR AF
    ·exact ⟨by rw [Stm.sm];exact ⟨by omega,by omega⟩,by rw [Stm.dp];exact Nat.zero_le _,leaf (by rw [Stm.sz]) f2.le⟩
    ·rw [Stm.Ok];trivial
  by_cases c1:z1 % 13<4
  ·rw [if_pos c1]
   exact am "go" .go (fun a=>by rw [Stm.D]) (fun a h=>by rw [Stm.sm,Stm.dp,Stm.sz];exact ⟨h,rfl,rfl⟩) (fun a h=>by rw [Stm.Ok];exact h)
  rw [if_neg c1]
  by_cases c2:z1 % 13<7
  ·rw [if_pos c2]
   exact am "turn" .turn (fun a=>by rw [Stm.D]) (fun a h=>by rw [Stm.sm,Stm.dp,Stm.sz];exact ⟨h,rfl,rfl⟩) (fun a h=>by rw [Stm.Ok];exact h)
  rw [if_neg c2]
  by_cases c3:z1 % 13=7
  ·rw [if_pos c3]
   refine ⟨by decide,fun p0 hp0=> ?_⟩
   have u:=AI.upd (o:= .lst [.str (Str.ofString "up"),.str (Str.ofString "down"),.str (Str.ofString "down")]) hp0
   have n0:p0≠l:=(DL f1.h hp0).symm
   refine ⟨l,m1,rfl,u _ _ f1.h,f1.d,fun z2 m2 H2 z20 z21 l2 f2=> ?_⟩
   have h2:H2 p0=some (.lst [.str (Str.ofString "up"),.str (Str.ofString "down"),.str (Str.ofString "down")]):=f2.b _ _ AF (by simpa using n0)
   have F:=(f1.same u).trans f2
   have e:z2 % 3=0∨z2 % 3=1∨z2 % 3=2:=by omega
   refine ⟨by decide,_,SqL.of h2,?_⟩
   rcases e with e | e | e<;> rw [e]
   ·exact ⟨_,rfl,by decide,fun p hp=>q _ .up m2 _ (by rw [Stm.D];exact SI AF) (by refine ⟨by rw [Stm.sm];trivial,by rw [Stm.dp];exact Nat.zero_le _,leaf (by rw [Stm.sz]) f2.le⟩) (by rw [Stm.Ok];trivial) (F.same (AI.upd hp))⟩
   ·exact ⟨_,rfl,by decide,fun p hp=>q _ .down m2 _ (by rw [Stm.D];exact SI AF) (by refine ⟨by rw [Stm.sm];trivial,by rw [Stm.dp];exact Nat.zero_le _,leaf (by rw [Stm.sz]) f2.le⟩) (by rw [Stm.Ok];trivial) (F.same (AI.upd hp))⟩
   ·exact ⟨_,rfl,by decide,fun p hp=>q _ .down m2 _ (by rw [Stm.D];exact SI AF) (by refine ⟨by rw [Stm.sm];trivial,by rw [Stm.dp];exact Nat.zero_le _,leaf (by rw [Stm.sz]) f2.le⟩) (by rw [Stm.Ok];trivial) (F.same (AI.upd hp))⟩
  rw [if_neg c3]
  by_cases c4:z1 % 13=8
  ·rw [if_pos c4]
   exact am "ink" .ink (fun a=>by rw [Stm.D]) (fun a h=>by rw [Stm.sm,Stm.dp,Stm.sz];exact ⟨h,rfl,rfl⟩) (fun a h=>by rw [Stm.Ok];exact h)
  rw [if_neg c4]
  by_cases c5:z1 % 13=9
  ·rw [if_pos c5]
   refine ⟨by decide,fun p0 hp0=> ?_⟩
   have u:=AI.upd (o:= .lst [.str (Str.ofString "mark"),.str (Str.ofString "mark"),.str (Str.ofString "back")]) hp0
   have n0:p0≠l:=(DL f1.h hp0).symm
   refine ⟨l,m1,rfl,u _ _ f1.h,f1.d,fun z2 m2 H2 z20 z21 l2 f2=> ?_⟩
   have h2:H2 p0=some (.lst [.str (Str.ofString "mark"),.str (Str.ofString "mark"),.str (Str.ofString "back")]):=f2.b _ _ AF (by simpa using n0)
   have F:=(f1.same u).trans f2
   have e:z2 % 3=0∨z2 % 3=1∨z2 % 3=2:=by omega
   have m500:m2.length≤500:=Nat.le_trans F.le g.n5
   refine ⟨by decide,_,SqL.of h2,?_⟩
   rcases e with e | e | e<;> rw [e]
   ·exact ⟨_,rfl,l,m2,rfl,f2.h,f2.d,fun z3 m3 H3 z30 z31 l3 f3=>⟨by decide,by decide,fun p hp=>q _ (.mark (z3 % 2)) m3 _ (by rw [Stm.D];exact UR AF) (by refine ⟨by rw [Stm.sm];exact ⟨by omega,by omega⟩,by rw [Stm.dp];exact Nat.zero_le _,leaf (by rw [Stm.sz]) (Nat.le_trans f3.le f2.le)⟩) (by rw [Stm.Ok];exact ⟨by omega,by omega⟩) ((F.trans f3).same (AI.upd hp))⟩⟩
   ·exact ⟨_,rfl,l,m2,rfl,f2.h,f2.d,fun z3 m3 H3 z30 z31 l3 f3=>⟨by decide,by decide,fun p hp=>q _ (.mark (z3 % 2)) m3 _ (by rw [Stm.D];exact UR AF) (by refine ⟨by rw [Stm.sm];exact ⟨by omega,by omega⟩,by rw [Stm.dp];exact Nat.zero_le _,leaf (by rw [Stm.sz]) (Nat.le_trans f3.le f2.le)⟩) (by rw [Stm.Ok];exact ⟨by omega,by omega⟩) ((F.trans f3).same (AI.upd hp))⟩⟩
   ·exact ⟨_,rfl,l,m2,rfl,f2.h,f2.d,fun z3 m3 H3 z30 z31 l3 f3=>⟨by decide,by decide,fun p hp=>q _ (.back (z3 % 2)) m3 _ (by rw [Stm.D];exact UR AF) (by refine ⟨by rw [Stm.sm];exact ⟨by omega,by omega⟩,by rw [Stm.dp];exact Nat.zero_le _,leaf (by rw [Stm.sz]) (Nat.le_trans f3.le f2.le)⟩) (by rw [Stm.Ok];exact ⟨by omega,by omega⟩) ((F.trans f3).same (AI.upd hp))⟩⟩
  rw [if_neg c5]
  by_cases c6:z1 % 13=10
  ·rw [if_pos c6]
   by_cases d3:(deep:Int)<4
   ·rw [if_pos d3];exact sub d3
   ·rw [if_neg d3,if_neg (by omega)]
    exact tl
  rw [if_neg c6]
  by_cases c7:z1 % 13=11
  ·rw [if_pos c7]
   obtain ⟨vw,hw,rw1⟩:=g1.hw
   have lw0:vw.length=ws.length:=by rw [rw1.length,List.length_map]
   refine ⟨vw,.inl (SqL.of hw),?_⟩
   by_cases w0:(0:Int)<vw.length
   ·rw [if_pos w0]
    refine ⟨l,lw,m1,inside,takes,ws,rfl,g1,(fun z=>by rw [z] at lw0;simp at lw0;simp [lw0] at w0),fun v b m2 H2 rb sb ob f2=>q v b m2 H2 rb ⟨sb.1,by rw [sb.2.1];exact Nat.zero_le _,leaf sb.2.2 f2.le⟩ ob (f1.trans f2)⟩
   ·rw [if_neg w0];exact tl
  rw [if_neg c7]
  exact tl
def jU (K:PySem.W.Frag) (l lw pb:Addr) (deep:Nat) (inside:Bool) (takes:Nat) (ws:List Wd) (n0:List Int) (j:Nat) (H:Hp) (i:Nat) (σ:L2.St) (H2:Hp):Prop:=∃ (b:List Stm) (vs:List V) (ms:List Int) (o:Option V),σ=[some (.ref l),some (.int deep),some (.bl inside),some (.int takes),some (.ref lw),some (.ref pb),o]∧H2 pb=some (.lst vs)∧RpL K H2 (b.map Stm.D) vs∧b.length≤i∧(Stm.sms b∧Stm.dps b≤4 - deep∧Stm.szs b+ms.length≤j)∧Stm.Oks (arW ws) (Sc inside takes) b∧Dkf l n0 H ms H2∧ms.length≤j
theorem WZ (T:Txt w K mg t) (n:Nat) (ih:IhB P w K mg base t n):IhB P w K mg base t (n+1):=by
 refine (show BY P w K mg base CX0 (3 * n+8) t.a_Lbody t.d_Lbody ["_law_deck_here","_law_deep_here","_law_inside","_law_takes","_law_words_here"] (HB K (n+1)) from ?_)
 refine T.Lbody.F.ok NA (fun vs H Q E h=> ?_) (fun cdv A outer s H vs Q E hr h=> ?_)
 ·obtain ⟨l,lw,ns,deep,inside,takes,ws,rfl,_⟩:=h;rfl
 ·obtain ⟨l,lw,ns,deep,inside,takes,ws,rfl,g,dn,d4,q⟩:=h
  refine ⟨_,s!"5{NA.nd}{Or.inl rfl}CXJ{T.z_range}{BO}{AV}{CG T}{hr.mono (by omega)}{T.Lnext.m}{T.Lnext.F.kp}{T.Lnext.b}0BCAHDE{NX}{T.z_int}{boot_int}{BS}1BD{AW _}YCAfECAe6{NA.nd}L{GM}{AS}{T.z_len}{PySem.boot_len}0BCAPDN{PySem.F.slot_list_append}{PySem.F.type_list_append}{DO}5B{NH T n ih}{hr.mono (by omega)}{T.Lstatement.m}{T.Lstatement.F.kp}{T.Lstatement.b}0B1B2B3B4BCAAAAAHCAlRGSQGZ{BX}{T.z_tuple}{boot_tuple}5BCAfKGFF",?_⟩
  walk_at "ro"
  refine ⟨by decide,fun pb hpb=> ?_⟩
  have u0:=AI.upd (o:= .lst []) hpb
  have nb:pb≠l:=(DL g.hl hpb).symm
  refine ⟨l,ns,rfl,u0 _ _ g.hl,g.d,fun z1 m1 H1 z10 z11 l1 f1=> ?_⟩
  have f01:=((Dkf.refl g.hl g.d).same u0).trans f1
  have h1:H1 pb=some (.lst []):=f1.b _ _ AF (by simpa using nb)
  dsimp only
  obtain ⟨k,ek,k5⟩:∃ k:Nat,(z1 % 5+if (deep:Int)=0 then 1 else 0)=(k:Int)∧k≤5:=by
   by_cases d0:(deep:Int)=0
   ·rw [if_pos d0];exact ⟨(z1 % 5+1).toNat,by omega,by omega⟩
   ·rw [if_neg d0];exact ⟨(z1 % 5+0).toNat,by omega,by omega⟩
  rw [ek]
  refine ⟨by decide,by omega,by omega,?_⟩
  rw [Int.toNat_natCast]
  refine FH (jU K l lw pb deep inside takes ws ns m1.length H) ⟨[],[],m1,none,rfl,h1,RpL.nil,Nat.le_refl _,⟨by rw [Stm.sms];trivial,by rw [Stm.dps];exact Nat.zero_le _,by rw [Stm.szs];omega⟩,by rw [Stm.Oks];trivial,f01,Nat.le_refl _⟩ ?_ ?_
  ·rintro i σ H2 hi ⟨b,vs,ms,o,rfl,h2,r2,lb,sb,ob,f2,lj⟩
   walk_at "ro"
   refine ⟨_,.inl (SqL.of f2.h),?_⟩
   rw [List.length_map]
   by_cases c:(0:Int)<ms.length
   ·rw [if_pos c]
    refine ⟨.inl ⟨_,SqL.of h2⟩,l,lw,ms,deep,inside,takes,ws,rfl,g.dkf f2,by omega,d4,fun v s1 m3 H3 rs ss os f3=> ?_⟩
    have h3:H3 pb=some (.lst vs):=f3.b _ _ h2 (by simpa using nb)
    have t4:BK H3 (upd H3 pb (.lst (vs++[v]))):=(BK.refl H3).upd (DW h3)
    have lv:vs.length≤5:=by rw [r2.length,List.length_map];omega
    have f23:=f2.trans f3
    refine ⟨_,h3,CV (by omega),?_⟩
    refine ⟨b++[s1],vs++[v],m3,_,rfl,AF,?_,by simp;omega,⟨OX sb.1 (by rw [Stm.sms,Stm.sms];exact ⟨ss.1,trivial⟩),by rw [IC,Stm.dps,Stm.dps];have:=sb.2.1;have:=ss.2.1;omega,by rw [FK,Stm.szs,Stm.szs];have:=sb.2.2;have:=ss.2.2 (by rintro rfl;simp at c);omega⟩,QE ob (by rw [Stm.Oks,Stm.Oks];exact ⟨os,trivial⟩),⟨f23.h0,f23.d,f23.le,?_,by rw [BA nb.symm];exact f23.h⟩,Nat.le_trans f3.le lj⟩
    ·rw [List.map_append]
     exact ((r2.t f3.st).app (RpL.one rs)).t t4
    ·exact fun c o e hc=>by
      have ncp:c≠pb:=DL e hpb
      rw [BA ncp]
      exact f23.b c o e hc
   ·rw [if_neg c]
    exact ⟨b,vs,ms,_,rfl,h2,r2,by omega,sb,ob,f2,lj⟩
  ·rintro σ H2 ⟨b,vs,ms,o,rfl,h2,r2,lb,sb,ob,f2,lj⟩
   walk_at "ro"
   refine ⟨_,SqL.of h2,fun pt hpt=> ?_⟩
   have u3:=AI.upd (o:= .tup vs) hpt
   have F:=f2
   refine q _ b ms _ (BL.mpr ⟨pt,vs,rfl,SqT.of AF,r2.same u3⟩) ⟨sb.1,sb.2.1,by have:=sb.2.2;omega⟩ (by omega) ob (fun ne=> ?_) (F.same u3)
   have:=List.length_pos_iff.mpr ne
   omega
theorem VM {vs:List V} {H:Hp} {Q:VK} {E:XK} (h:HB K 0 vs H Q E):False:=by
 obtain ⟨l,lw,ns,deep,inside,takes,ws,rfl,g,dn,d4,q⟩:=h
 omega
theorem WH:IhB P w K mg base t 0:=⟨fun vs H Q E h=>(VM h).elim,fun A outer s H args us vs Q E _ _ _ _ h=>(VM h).elim⟩
theorem NY (T:Txt w K mg t):∀ n,IhB P w K mg base t n
 | 0=>WH
 | n+1=>WZ T n (NY T n)
theorem RC (T:Txt w K mg t):BY P w K mg base CX0 20 t.a_Lbody t.d_Lbody ["_law_deck_here","_law_deep_here","_law_inside","_law_takes","_law_words_here"] (HB K 5):=NY T 5
end
mutual
theorem Stm.Ok.ar {ar ar':Str→Option Nat} {D:Str→Prop} (h:∀ x n,ar x=some n→ar' x=some n):∀ {s:Stm},s.Ok ar D→s.Ok ar' D
 | .go a,r=>by rw [Stm.Ok] at r ⊢;exact r
 | .turn a,r=>by rw [Stm.Ok] at r ⊢;exact r
 | .ink a,r=>by rw [Stm.Ok] at r ⊢;exact r
 | .up,_=>by rw [Stm.Ok];trivial
 | .down,_=>by rw [Stm.Ok];trivial
 | .mark _,r=>by rw [Stm.Ok] at r ⊢;exact r
 | .back _,r=>by rw [Stm.Ok] at r ⊢;exact r
 | .again a b,r=>by
  rw [Stm.Ok] at r ⊢
  exact ⟨r.1,Stm.Oks.ar h r.2⟩
 | .ifs a b c,r=>by
  rw [Stm.Ok] at r ⊢
  exact ⟨r.1,Stm.Oks.ar h r.2.1,Stm.Oks.ar h r.2.2⟩
 | .dow w as,r=>by
  rw [Stm.Ok] at r ⊢
  exact ⟨r.1,r.2.1,h _ _ r.2.2⟩
theorem Stm.Oks.ar {ar ar':Str→Option Nat} {D:Str→Prop} (h:∀ x n,ar x=some n→ar' x=some n):∀ {b:List Stm},Stm.Oks ar D b→Stm.Oks ar' D b
 | [],_=>by rw [Stm.Oks];trivial
 | s::b,r=>by
  rw [Stm.Oks] at r ⊢
  exact ⟨Stm.Ok.ar h r.1,Stm.Oks.ar h r.2⟩
end
def WN:List Str:=["leaf","go","x","star"]
structure JU (ws:List Wd):Prop where
 nm:ws.map (·.name)=WN.take ws.length
 l6:ws.length≤6
 ok:∀ z∈ws,iK z∧(Stm.sms z.body∧Stm.dps z.body≤3)∧z.body.length≤5∧Stm.Oks (arW ws) (Sc false z.many.toNat) z.body
 ah:∀ (i:Nat) (z:Wd),ws[i]? =some z→Stm.Oks (arW (ws.take i)) (Sc false z.many.toNat) z.body
theorem jV:WN.Nodup:=by decide+kernel
theorem JU.nd {ws:List Wd} (h:JU ws):(ws.map (·.name)).Nodup:=by
 rw [h.nm];exact jV.sublist (List.take_sublist _ _)
theorem UE:∀ {ws:List Wd},(ws.map (·.name)).Nodup→∀ z∈ws,arW ws z.name=some z.many.toNat
 | [],_,z,h=>by cases h
 | y::ws,nd,z,h=>by
  rw [List.map_cons,List.nodup_cons] at nd
  unfold arW
  rw [List.map_cons,EB]
  rcases List.mem_cons.mp h with rfl | h
  ·rw [if_pos rfl]
  ·rw [if_neg (fun e=>nd.1 (by rw [e];exact List.mem_map_of_mem h))]
   exact UE nd.2 z h
theorem cR {ws:List Wd} {x:Str} {n:Nat}:arW ws x=some n→∃ z∈ws,z.name=x∧z.many.toNat=n:=by
 induction ws with
 | nil=>intro h;simp [arW,lkA] at h
 | cons y ws ih=>
  intro h
  unfold arW at h
  rw [List.map_cons,EB] at h
  by_cases c:y.name=x
  ·rw [if_pos c] at h;cases h;exact ⟨y,List.mem_cons_self,c,rfl⟩
  ·rw [if_neg c] at h
   obtain ⟨z,hz,e⟩:=ih h
   exact ⟨z,List.mem_cons_of_mem _ hz,e⟩
theorem UX {ws:List Wd} {z:Wd} {x:Str} {n:Nat} (h:arW ws x=some n):arW (ws++[z]) x=some n:=by
 unfold arW at h ⊢
 rw [List.map_append,List.map_cons,List.map_nil,OW,h]
theorem VJ:∀ {ws:List Wd} {b:Tb},(ws.map (·.name)).Nodup→(∀ z∈ws,lkA (ws.foldl (fun l x=>ptA l x.name x.body) b) z.name=some z.body)∧∀ x,x∉ws.map (·.name)→lkA (ws.foldl (fun l x=>ptA l x.name x.body) b) x=lkA b x
 | [],b,_=>⟨(fun z h=>by cases h),fun x _=>rfl⟩
 | y::ws,b,nd=>by
  rw [List.map_cons,List.nodup_cons] at nd
  obtain ⟨h1,h2⟩:=VJ (b:=ptA b y.name y.body) nd.2
  rw [List.foldl_cons]
  refine ⟨fun z hz=> ?_,fun x hx=> ?_⟩
  ·rcases List.mem_cons.mp hz with rfl | hz
   ·rw [h2 _ nd.1,UN,if_pos rfl]
   ·exact h1 z hz
  ·rw [List.map_cons,List.mem_cons,not_or] at hx
   rw [h2 _ hx.2,UN,if_neg hx.1]
theorem JU.tb {ws:List Wd} (h:JU ws):TbOk (wtab ws) (arW ws):=by
 intro x n e
 obtain ⟨z,hz,rfl,rfl⟩:=cR e
 obtain ⟨_,_,_,o⟩:=h.ok z hz
 refine ⟨z.body,(VJ h.nd).1 z hz,Stm.Oks.mono (fun x hx=> ?_) o⟩
 rcases hx with ⟨hx,_⟩ | hx
 ·cases hx
 ·exact hx
theorem JU.nil:JU []:=⟨rfl,by decide,(fun z h=>by cases h),fun i z h=>by simp at h⟩
theorem JU.app {ws:List Wd} (h:JU ws) {z:Wd} (l:ws.length<6) (hn:WN[ws.length]? =some z.name) (hz:iK z) (sz:Stm.sms z.body∧Stm.dps z.body≤3) (lz:z.body.length≤5) (oz:Stm.Oks (arW ws) (Sc false z.many.toNat) z.body):JU (ws++[z]):=by
 refine ⟨?_,by simp;omega,(fun y hy=> ?_),fun i y hy=> ?_⟩
 ·rw [List.map_append,h.nm,List.length_append,List.length_singleton,List.take_add_one,hn];rfl
 ·rcases List.mem_append.mp hy with hy | hy
  ·obtain ⟨a,b,c,d⟩:=h.ok y hy
   exact ⟨a,b,c,Stm.Oks.ar (fun x n=>UX) d⟩
  ·rw [List.mem_singleton] at hy
   subst hy
   exact ⟨hz,sz,lz,Stm.Oks.ar (fun x n=>UX) oz⟩
 ·by_cases c:i<ws.length
  ·rw [List.getElem?_append_left c] at hy
   rw [List.take_append_of_le_length (Nat.le_of_lt c)]
   exact h.ah i y hy
  ·have hi:=(List.getElem?_eq_some_iff.mp hy).1
   rw [List.length_append,List.length_singleton] at hi
   have hi:i=ws.length:=by omega
   subst hi
   rw [List.getElem?_append_right (Nat.le_refl _),Nat.sub_self] at hy
   cases hy
   rw [List.take_left']
   ·exact oz
   ·rfl
structure iY (ws:List Wd) (body:List Stm):Prop where
 w:JU ws
 s:Stm.sms body∧Stm.dps body≤4
 l:body.length≤16
 o:Stm.Oks (arW ws) (fun _=>False) body
def wsz (ws:List Wd):Nat:=(ws.map fun z=>Stm.szs z.body).sum
theorem UU (ws:List Wd) (z:Wd):wsz (ws++[z])=wsz ws+Stm.szs z.body:=by
 unfold wsz
 rw [List.map_append,List.sum_append];simp
def kT (K:PySem.W.Frag) (l lw:Addr) (z mo:Int) (n0:List Int) (H:Hp) (i:Nat) (σ:L2.St) (H2:Hp):Prop:=∃ (ws:List Wd) (vs:List V) (ms:List Int) (o1 o2 o3:Option V),σ=[some (.ref l),some (.ref lw),some (.int z),some (.int mo),o1,o2,none]∧H2 lw=some (.lst vs)∧RpL K H2 (ws.map Wd.D) vs∧ws.length=i∧JU ws∧wsz ws+ms.length≤n0.length∧Dkf l n0 H ms H2
def fW (K:PySem.W.Frag) (l lw:Addr) (z mo:Int) (o1 o2 o3:Option V) (vs:List V) (ws:List Wd) (n0:List Int) (H:Hp) (σ:L2.St) (H2:Hp):Prop:=∃ (v:V) (b:List Stm) (ms:List Int),σ=[some (.ref l),some (.ref lw),some (.int z),some (.int mo),o1,o2,some v]∧H2 lw=some (.lst vs)∧RpL K H2 (ws.map Wd.D) vs∧Rp K H2 (bD b) v∧(Stm.sms b∧Stm.dps b≤4)∧b.length≤16∧Stm.Oks (arW ws) (fun _=>False) b∧wsz ws+Stm.szs b+ms.length≤n0.length∧Dkf l n0 H ms H2
def US (l:Addr) (_:L2.St) (H:Hp):Nat:=match H l with | some (.lst xs)=>xs.length | _=>0
theorem fJ {K:PySem.W.Frag} {H H2:Hp} {l lw:Addr} {ns ms:List Int} {vs:List V} {ws:List Wd} {tk:Nat} (f:Dkf l ns H ms H2) (h:H2 lw=some (.lst vs)) (r:RpL K H2 (ws.map Wd.D) vs) (o:JU ws) (nw:lw≠l) (tk4:tk≤4) (hn:ns.length≤500):Gin K H2 l ms lw ws tk:=
 ⟨f.h,f.d,Nat.le_trans f.le hn,⟨vs,h,r⟩,nw,tk4,fun z hz=>(o.ok z hz).1,UE o.nd,o.l6⟩
section
variable {P:Program} {w:World} {K:PySem.W.Frag} {mg:Str→Option Value} {base:Heap} {t:Adr}
def RW (K:PySem.W.Frag):Sp:=fun vs H Q _=>∃ (l:Addr) (ns:List Int),vs=[.ref l]∧H l=some (.lst (ns.map V.int))∧dk ns∧ns.length≤500∧
 ∀ (v:V) (ws:List Wd) (body:List Stm) (ms:List Int) (H':Hp),Rp K H' (pD ws body) v→iY ws body→wsz ws+Stm.szs body≤500→Dkf l ns H ms H'→Q v H'
theorem RO (T:Txt w K mg t):BY P w K mg base CX0 21 t.a_Lprogram t.d_Lprogram ["_law_deck_here"] (RW K):=by
 refine T.Lprogram.F.ok CT (fun vs H Q E h=> ?_) (fun cdv A outer s H vs Q E hr h=> ?_)
 ·obtain ⟨l,ns,rfl,_⟩:=h;rfl
 ·obtain ⟨l,ns,rfl,hl,hd,hn,q⟩:=h
  refine ⟨_,s!"1{CT.nd}{Or.inl rfl}CXJ2{CT.nd}{Or.inl rfl}{CG T}{hr.mono (by decide)}{T.Lnext.m}{T.Lnext.F.kp}{T.Lnext.b}0BCAHJ3{CT.nd}{Or.inl rfl}{BJ}DDCAAX{NX}{T.z_int}{boot_int}{BS}{AV}{DV}2BDEDED{AW _}YCAfMJ{T.z_range}{AV}2B3BECAe4{CT.nd}L5{CT.nd}{Or.inl rfl}{AV}{CG T}{hr.mono (by decide)}{T.Lnext.m}{T.Lnext.F.kp}{T.Lnext.b}0BCAH3BEJ{PySem.F.slot_list_append}{PySem.F.type_list_append}{DO}1B{BJ}IIIICAAAAX4BM5B{RC T}{hr.mono (by decide)}{T.Lbody.m}{T.Lbody.F.kp}{T.Lbody.b}0BDd5B1BCAAAAAHCAAAOCTlRGFZ6{CT.nd}{Or.inl rfl}WVJ{@PW.pt _ _ _ s!"{GM}{AS}{T.z_len}{PySem.boot_len}0BCAPDN{KN}{AS}{T.z_len}{PySem.boot_len}6BCAPDNpo"}6{CT.nd}{Or.inl rfl}{MY}6B{RC T}{hr.mono (by decide)}{T.Lbody.m}{T.Lbody.F.kp}{T.Lbody.b}0BDdD1BCAAAAAHEJG%{BX}{T.z_tuple}{boot_tuple}1BCAf6BCAAOKGFFFFFF",?_⟩
  walk_at "ro"
  refine ⟨by decide,fun lw hlw=> ?_⟩
  have u0:=AI.upd (o:= .lst []) hlw
  have nw:lw≠l:=(DL hl hlw).symm
  walk_at "ro"
  refine ⟨l,ns,rfl,u0 _ _ hl,hd,fun z1 m1 H1 z10 z11 l1 f1=> ?_⟩
  have f01:=((Dkf.refl hl hd).same u0).trans f1
  have h1:H1 lw=some (.lst []):=f1.b _ _ AF (by simpa using nw)
  walk_at "ro"
  refine ⟨by decide,fun p0 hp0=> ?_⟩
  have u1:=AI.upd (o:= .lst [.int 3,.int 5]) hp0
  have f01:=f01.same u1
  have h1:=u1 _ _ h1
  obtain ⟨mo,emo,mo9⟩:∃ mo:Int,atI [V.int 3,V.int 5] (if z1 / 15 % 8=1 then 1 else 0)=some (.int mo)∧3≤mo∧mo≤5:=by
   split
   ·exact ⟨5,rfl,by decide,by decide⟩
   ·exact ⟨3,rfl,by decide,by decide⟩
  obtain ⟨k,ek,k6⟩:∃ k:Nat,z1 % mo=(k:Int)∧k≤4:=by
   have a:=Int.emod_nonneg z1 (show mo≠0 by omega)
   have b:=Int.emod_lt_of_pos z1 (show (0:Int)<mo by omega)
   exact ⟨(z1 % mo).toNat,by omega,by omega⟩
  refine ⟨by decide,by decide,by decide,_,SqL.of AF,_,emo,?_⟩
  walk_at "ro"
  rw [ek]
  refine ⟨by omega,by omega,by omega,?_⟩
  rw [Int.toNat_natCast]
  refine FH (kT K l lw z1 mo ns H) ⟨[],[],m1,none,none,none,rfl,h1,RpL.nil,rfl,JU.nil,by have:=f01.le;simp only [wsz,List.map_nil,List.sum_nil];omega,f01⟩ ?_ ?_
  ·rintro i σ H2 hi ⟨ws,vs,ms,o1,o2,o3,rfl,h2,r2,lws,okw,zs,f2⟩
   walk_at "ro"
   refine ⟨l,ms,rfl,f2.h,f2.d,fun z3 m3 H3 z30 z31 l3 f3=> ?_⟩
   dsimp only
   obtain ⟨tk,etk,tk4⟩:∃ tk:Nat,z3 % mo=(tk:Int)∧tk≤4:=by
    have a:=Int.emod_nonneg z3 (show mo≠0 by omega)
    have b:=Int.emod_lt_of_pos z3 (show (0:Int)<mo by omega)
    exact ⟨(z3 % mo).toNat,by omega,by omega⟩
   rw [etk]
   refine ⟨by omega,.inl ⟨_,SqL.of (f3.b _ _ h2 (by simpa using nw))⟩,by decide,fun p3 hp3=> ?_⟩
   have u3:=AI.upd (o:= .lst (WN.map V.str)) hp3
   have f23:=(f2.trans f3).same u3
   have h3:H3 lw=some (.lst vs):=f3.b _ _ h2 (by simpa using nw)
   have h4:=u3 _ _ h3
   have r4:=(r2.t f3.st).same u3
   obtain ⟨nm,hnm⟩:∃ nm,WN[i]? =some nm:=⟨_,List.getElem?_eq_getElem (show i<WN.length by simp only [WN,List.length_cons,List.length_nil];omega)⟩
   refine ⟨WN.map V.str,SqL.of AF,.str nm,?_,?_⟩
   ·rw [show (0:Int)+(i:Int)=(i:Int) by omega]
    exact BN (by rw [List.getElem?_map,hnm];rfl)
   refine ⟨l,lw,m3,1,false,tk,ws,rfl,fJ f23 h4 r4 okw nw tk4 hn,by decide,by decide,fun vb b m5 H5 rb sb lb ob _ f5=>⟨by decide,fun p hp=> ?_⟩⟩
   have h5:H5 lw=some (.lst vs):=f5.b _ _ h4 (by simpa using nw)
   have u6:=AI.upd (o:= .tup [.str nm,.int tk,vb]) hp
   have f25:=(f23.trans f5).same u6
   have npl:p≠lw:=(DL h5 hp).symm
   refine ⟨_,u6 _ _ h5,?_,?_⟩
   ·refine CV ?_
    rw [r2.length,List.length_map];omega
   have t7:BK (upd H5 p (.tup [.str nm,.int tk,vb])) (upd (upd H5 p (.tup [.str nm,.int tk,vb])) lw (.lst (vs++[.ref p]))):=(BK.refl _).upd (DW (u6 _ _ h5))
   refine ⟨ws++[⟨nm,tk,b⟩],vs++[.ref p],m5,_,_,none,rfl,AF,?_,by simp [lws],okw.app (by omega) (by rw [lws];exact hnm) ⟨Int.natCast_nonneg _,by show (tk:Int)≤4;omega⟩ ⟨sb.1,sb.2.1⟩ lb ?_,by rw [UU];have:=sb.2.2;have:=f3.le;show wsz ws+Stm.szs b+m5.length≤ns.length;omega,f25.h0,f25.d,f25.le,fun c o e hc=> ?_,by rw [BA nw.symm];exact f25.h⟩
   ·rw [List.map_append]
    refine RpL.t t7 (((r4.t f5.st).same u6).app (RpL.one ?_))
    rw [Wd.D]
    refine BL.mpr ⟨p,_,rfl,SqT.of AF,BC (by rw [Rp]) (BC (by rw [Rp]) (RpL.one (rb.same u6)))⟩
   ·exact ob
   ·have ncp:c≠lw:=DL e hlw
    rw [BA ncp]
    exact f25.b c o e hc
  ·rintro σ H2 ⟨ws,vs,ms,o1,o2,o3,rfl,h2,r2,lws,okw,zs,f2⟩
   walk_at "ro"
   intro v0 H3 s3 rv0
   refine eZ (fW K l lw z1 mo o1 o2 o3 vs ws ns H) (US l) ⟨v0,[],ms,rfl,s3 _ _ h2,r2.same s3,rv0,by rw [Stm.sms,Stm.dps];exact ⟨trivial,Nat.zero_le _⟩,by simp,by rw [Stm.Oks];trivial,by rw [Stm.szs];omega,f2.same s3⟩ ?_
   rintro σ H4 ⟨v,b,m4,rfl,h4,r4,rv,sb,lb,ob,z4,f4⟩
   walk_at "ro"
   have out:∃ ys,SqL K H4 lw ys∧∀ (l:Addr),H4 l=none→2≤sizeLine∧∀ (p:Addr),upd H4 l (HO.tup ys) p=none→Q (V.ref p) (upd (upd H4 l (HO.tup ys)) p (HO.tup [V.ref l,v])):=by
    refine ⟨vs,SqL.of h4,fun pt hpt=>⟨by decide,fun p hp=> ?_⟩⟩
    have u5:=AI.upd (o:= .tup vs) hpt
    have u6:=AI.upd (o:= .tup [.ref pt,v]) hp
    have u56:=u5.trans u6
    refine q _ ws b m4 _ ?_ ⟨okw,sb,lb,ob⟩ (by omega) (f4.same u56)
    exact JO.mpr ⟨p,_,_,rfl,SqT.of AF,BL.mpr ⟨pt,vs,rfl,u6.tup (SqT.of AF),r4.same u56⟩,rv.same u56⟩
   refine ⟨_,.inl (SqL.of f4.h),?_⟩
   rw [List.length_map]
   by_cases c:(0:Int)<m4.length
   ·rw [if_pos c]
    obtain ⟨pb,xb,rfl,hb,rlb,lxb⟩:=LJ rv
    dsimp only
    refine ⟨xb,.inr hb,?_⟩
    by_cases c2:(xb.length:Int)<12
    ·rw [if_pos c2]
     refine ⟨fun σ' H'=>US l σ' H'<m4.length∧fW K l lw z1 mo o1 o2 o3 vs ws ns H σ' H',?_,?_⟩
     ·rintro σ' H' ⟨hv1,hv⟩
      exact ⟨_,by simp only [US,f4.h,List.length_map] at hv1 ⊢;exact hv1,rfl,hv⟩
     ·refine ⟨l,lw,m4,0,false,0,ws,rfl,fJ f4 h4 r4 okw nw (by decide) hn,by decide,by decide,fun vb b2 m5 H5 rb2 sb2 lb2 ob2 ls5 f5=> ?_⟩
      refine ⟨_,Rp.t f5.st rv,_,rb2,?_,fun u H6 s6 r6=> ?_⟩
      ·rw [List.length_map,List.length_map];exact Nat.le_of_lt (CV (by omega))
      ·have f6:=(f4.trans f5).same s6
       refine ⟨?_,u,b++b2,m5,rfl,s6 _ _ (f5.b _ _ h4 (by simpa using nw)),(r4.t f5.st).same s6,by rw [bD,List.map_append];exact r6,⟨OX sb.1 sb2.1,by rw [IC];have:=sb.2;have:=sb2.2.1;omega⟩,by rw [List.length_append];omega,QE ob (Stm.Oks.mono (fun x hx=> ?_) ob2),by rw [FK];have:=sb2.2.2;omega,f6⟩
       ·simp only [US,f6.h,List.length_map]
        exact ls5 (by rintro rfl;simp at c)
       ·rcases hx with ⟨hx,_⟩ | hx
        ·cases hx
        ·simp at hx
    ·rw [if_neg c2];exact out
   ·rw [if_neg c];exact out
end
def GX:Stm→List (List Stm)
 | .again _ b=>[b]
 | .ifs _ b c=>[b,c]
 | _=>[]
def bdW:Str:="body"
def bds (ks:List Str) (ds:List L2.D):List L2.D:=((ks.zip ds).filter fun z=>decide (z.1=bdW)).map (·.2)
theorem jN (s:Stm):∃ (k:Str) (ks:List Str) (ds:List L2.D),s.D= .tup (.str k::ds)∧lkS DZ_SHAPES k=some (.tup (ks.map L2.D.str))∧bds ks ds=(GX s).map bD∧ks.length=ds.length∧ds.length≤4:=by
 cases s with
 | go a=>exact ⟨"go",["amount"],[a.D],by rw [Stm.D],rfl,rfl,rfl,by simp⟩
 | turn a=>exact ⟨"turn",["amount"],[a.D],by rw [Stm.D],rfl,rfl,rfl,by simp⟩
 | ink a=>exact ⟨"ink",["amount"],[a.D],by rw [Stm.D],rfl,rfl,rfl,by simp⟩
 | up=>exact ⟨"up",[],[],by rw [Stm.D],rfl,rfl,rfl,by simp⟩
 | down=>exact ⟨"down",[],[],by rw [Stm.D],rfl,rfl,rfl,by simp⟩
 | mark n=>exact ⟨"mark",["number"],[.int n],by rw [Stm.D],rfl,rfl,rfl,by simp⟩
 | back n=>exact ⟨"back",["number"],[.int n],by rw [Stm.D],rfl,rfl,rfl,by simp⟩
 | again a b=>exact ⟨"again",["amount","body"],[a.D,bD b],by rw [Stm.D,CF],rfl,rfl,rfl,by simp⟩
 | ifs a b c=>exact ⟨"if",["amount","body","body"],[a.D,bD b,bD c],by rw [Stm.D,CF,CF],rfl,rfl,rfl,by simp⟩
 | dow x as=>exact ⟨"do",["name","amounts"],[.str x,.tup (as.map Am.D)],by rw [Stm.D],rfl,rfl,rfl,by simp⟩
theorem RL {xs:List V} (m:Nat):ID xs (some (m:Int)) none=xs.drop m:=by
 unfold ID
 rw [HT.sIx_none,HT.sIx_nat]
 by_cases h:m≤xs.length
 ·rw [Nat.min_eq_left h,List.take_of_length_le (by rw [List.length_drop];omega)]
 ·rw [Nat.min_eq_right (by omega),Nat.sub_self,List.take_zero,List.drop_of_length_le (by omega)]
section
variable {P:Program} {w:World} {K:PySem.W.Frag} {mg:Str→Option Value} {base:Heap} {t:Adr}
def WL (K:PySem.W.Frag):Sp:=fun vs H Q _=>∃ (v:V) (s:Stm),vs=[v]∧Rp K H s.D v∧∀ (p:Addr) (us:List V) (H':Hp),AI H H'→H p=none→H' p=some (.lst us)→RpL K H' ((GX s).map bD) us→Q (.ref p) H'
def jO (K:PySem.W.Frag) (p:Addr) (ks:List Str) (ds:List L2.D) (H:Hp) (i:Nat) (σ:L2.St) (H2:Hp):Prop:=∃ (us:List V) (o1 o2:Option V),σ=[o1,o2]∧AI H H2∧H2 p=some (.lst us)∧RpL K H2 (bds (ks.take i) (ds.take i)) us∧us.length≤i
theorem aU {ks:List Str} {ds:List L2.D} {i:Nat} {k:Str} {d:L2.D} (h1:ks[i]? =some k) (h2:ds[i]? =some d):bds (ks.take (i+1)) (ds.take (i+1))=bds (ks.take i) (ds.take i)++if k=bdW then [d] else []:=by
 have l1:=(List.getElem?_eq_some_iff.mp h1).1
 have l2:=(List.getElem?_eq_some_iff.mp h2).1
 unfold bds
 rw [List.take_add_one,List.take_add_one,h1,h2]
 show (((ks.take i++[k]).zip (ds.take i++[d])).filter _).map _=_
 rw [List.zip_append (by rw [List.length_take,List.length_take];omega),List.filter_append,List.map_append]
 congr 1
 by_cases c:k=bdW
 ·rw [if_pos c];simp [c]
 ·rw [if_neg c];simp [c]
theorem QY (T:Txt w K mg t):BY P w K mg base CX0 1 t.a_bodiesof t.d_bodiesof ["statement"] (WL K):=by
 refine T.bodiesof.F.ok KY (fun vs H Q E h=> ?_) (fun cdv A outer s H vs Q E hr h=> ?_)
 ·obtain ⟨v,s,rfl,_⟩:=h;rfl
 ·obtain ⟨v,s1,rfl,rv,q⟩:=h
  obtain ⟨k,ks,ds,eD,lk,bk,ll,l4⟩:=jN s1
  rw [eD] at rv
  obtain ⟨p0,xs,rfl,h0,rx⟩:=BL.mp rv
  rw [RpL] at rx
  obtain ⟨x0,xs,rfl,e0,rx⟩:=rx
  cases FV e0
  refine ⟨_,s!"1{KY.nd}{Or.inl rfl}{fO (K := K) (w := w) rfl rfl T.x_SHAPES T.r_SHAPES (by decide +kernel) s!"{T.g_SHAPES}{T.r_SHAPES}a" s!"{DF}0BDM" (fun _ _ => rfl)}J{AE DQ}{["statement", "shape"]}{["kind", "part"]}{["kind", "part"]}{[]}{VI (by rfl) T.z_zip s!"1B0BDyzxCAA"}{fun _ _ _ _ => (@UZ _ (K) _ _ _ _ (2) rfl rfl s!"0{show List.Nodup (["kind","part"]:List Str) by decide+kernel}L1{show List.Nodup (["kind","part"]:List Str) by decide+kernel}LiUU" (by rfl) (by rfl))}{fun _ _ _ _ => (@YT _ _ _ s!"{BS}0BIN")}{fun _ _ _ _ => s!"1B"}mKGF",?_⟩
  walk_at "ro"
  refine ⟨_,h0,_,BN (j:=0) rfl,_,rfl,_,lk,fun u ru=>⟨_,h0,fun p H1 s1 h1=> ?_⟩⟩
  rw [show ID (V.str k::xs) (some 1) none=xs from RL 1] at h1
  obtain ⟨pa,ys,rfl,ha,ry⟩:=BL.mp ru
  have lx:=rx.length
  have ly:=ry.length
  rw [List.length_map] at ly
  dsimp only
  refine ⟨⟨_,s1.tup ha⟩,⟨_,h1⟩,fun p2 hp2=> ?_⟩
  have u2:=AI.upd (o:= .lst []) hp2
  have sH:=s1.trans u2
  have emin:min ys.length xs.length=ds.length:=by omega
  refine dM (xs:=ys) (ys:=xs) (jO K p2 ks ds H1) ⟨[],none,none,rfl,u2,AF,RpL.nil,Nat.zero_le _⟩ (fun i σ H2 _ z=>by obtain ⟨_,_,_,rfl,s3,_⟩:=z;exact ⟨s3.tup (s1.tup ha),s3.tup h1⟩) ?_ ?_
  ·rintro i qa x y σ H2 hx hy ⟨us,o1,o2,rfl,s3,h3,r3,l3⟩ hqa
   have hi:i<min ys.length xs.length:=by
    have:=(List.getElem?_eq_some_iff.mp hx).1
    have:=(List.getElem?_eq_some_iff.mp hy).1
    omega
   have hik:i<ks.length:=by omega
   have hid:i<ds.length:=by omega
   have hk:ks[i]? =some ks[i]:=List.getElem?_eq_getElem hik
   have hd:ds[i]? =some ds[i]:=List.getElem?_eq_getElem hid
   have ex:x= .str ks[i]:=by
    obtain ⟨v,e,r⟩:=ry.at (j:=i) (by rw [List.length_map];exact hik)
    rw [hx] at e;cases e
    rw [List.getD_eq_getElem?_getD,List.getElem?_map,hk] at r
    exact FV r
   have rd:Rp K H ds[i] y:=by
    obtain ⟨v,e,r⟩:=rx.at (j:=i) hid
    rw [hy] at e;cases e
    rw [List.getD_eq_getElem?_getD,hd] at r
    exact r
   subst ex
   have u4:=AI.upd (o:= .tup [.str ks[i],y]) hqa
   have h4:=u4 _ _ h3
   have bn:=aU hk hd
   walk_at "ro"
   refine ⟨_,SqT.of AF,rfl,?_⟩
   walk_at "ro"
   by_cases c:ks[i]=bdW
   ·rw [if_pos (show ks[i]=Str.ofString "body" from c)]
    have t5:BK (upd H2 qa (.tup [.str ks[i],y])) (upd (upd H2 qa (.tup [.str ks[i],y])) p2 (.lst (us++[y]))):=(BK.refl _).upd (DW h4)
    refine ⟨us,h4,CV (by omega),nx hi ⟨us++[y],_,_,rfl,(s3.trans u4).upd2 hp2,AF,?_,by simp;omega⟩⟩
    rw [bn,if_pos c]
    exact RpL.t t5 ((r3.same u4).app (RpL.one ((((rd.same s1).same s3).same u4))))
   ·rw [if_neg (show ¬ ks[i]=Str.ofString "body" from c)]
    refine nx hi ⟨us,_,_,rfl,s3.trans u4,h4,?_,by omega⟩
    rw [bn,if_neg c,List.append_nil]
    exact r3.same u4
  ·rintro σ H2 ⟨us,o1,o2,rfl,s3,h3,r3,l3⟩
   rw [emin,List.take_of_length_le (by omega),List.take_of_length_le (Nat.le_refl _),bk] at r3
   exact q p2 us H2 (s1.trans s3) (by cases e:H p2 with | none=>rfl | some o=>rw [s1 _ _ e] at hp2;cases hp2) h3 r3
def zW (wb:List (List Stm)):Nat:=(wb.map Stm.szs).sum
def mW (wb:List (List Stm)):Nat:=(wb.map fun b=>1+2 * Stm.szs b).sum
theorem KP (a b:List (List Stm)):zW (a++b)=zW a+zW b:=by unfold zW;rw [List.map_append,List.sum_append]
theorem IQ (a b:List (List Stm)):mW (a++b)=mW a+mW b:=by unfold mW;rw [List.map_append,List.sum_append]
theorem JS:∀ a:List (List Stm),a.length≤mW a
 | []=>Nat.zero_le _
 | b::a=>by have:=JS a;unfold mW at this ⊢;rw [List.map_cons,List.sum_cons,List.length_cons];omega
def DK (l:List Stm):List (List Stm):=l.flatMap GX
theorem jG (s:Stm):s.sz=1+zW (GX s):=by
 cases s<;> simp only [Stm.sz,GX,zW,List.map_cons,List.map_nil,List.sum_cons,List.sum_nil]<;> omega
theorem hX (s:Stm):mW (GX s)≤2 * s.sz:=by
 cases s<;> simp only [Stm.sz,GX,mW,List.map_cons,List.map_nil,List.sum_cons,List.sum_nil]<;> omega
theorem OZ:∀ l:List Stm,Stm.szs l=l.length+zW (DK l)
 | []=>by simp [Stm.szs,DK,zW]
 | s::l=>by
  have:=OZ l
  have:=jG s
  rw [Stm.szs,DK,List.flatMap_cons,KP,List.length_cons]
  show s.sz+Stm.szs l=l.length+1+(zW (GX s)+zW (DK l))
  omega
theorem HY:∀ l:List Stm,mW (DK l)≤2 * Stm.szs l
 | []=>by simp [DK,mW]
 | s::l=>by
  have:=HY l
  have:=hX s
  rw [Stm.szs,DK,List.flatMap_cons,IQ]
  show mW (GX s)+mW (DK l)≤_
  omega
theorem OI (l:List Stm):(DK l).length≤2 * Stm.szs l:=Nat.le_trans (JS _) (HY l)
theorem IV:∀ (l:List Stm) (i:Nat),Stm.szs (l.take i)≤Stm.szs l
 | [],i=>by simp
 | s::l,0=>by simp [Stm.szs]
 | s::l,i+1=>by rw [List.take_succ_cons,Stm.szs,Stm.szs];have:=IV l i;omega
theorem aR (s:Stm):(GX s).length≤2:=by cases s<;> simp [GX]
theorem ML {K:PySem.W.Frag} {H:Hp} {d:L2.D}:∀ {ds:List L2.D} {us:List V},RpL K H (ds++[d]) us→∃ us' y,us=us'++[y]∧RpL K H ds us'∧Rp K H d y
 | [],us,h=>by
  rw [List.nil_append,RpL] at h
  obtain ⟨v,r,rfl,h1,h2⟩:=h
  rw [RpL] at h2
  subst h2
  exact ⟨[],v,rfl,RpL.nil,h1⟩
 | e::ds,us,h=>by
  rw [List.cons_append,RpL] at h
  obtain ⟨v,r,rfl,h1,h2⟩:=h
  obtain ⟨us',y,rfl,h3,h4⟩:=ML h2
  exact ⟨v::us',y,rfl,BC h1 h3,h4⟩
theorem UI {c:TT} {tb:TS} {D:GI} {σ:L2.St} {H:Hp} (Pv:Nat→L2.St→Hp→Prop) {m0:Nat} (h0:Pv m0 σ H)
  (hs:∀ m σ H,Pv m σ H→c σ H fun b H1=>if b=true then ∃ N:L2.St→Hp→Prop,(∀ σ' H',N σ' H'→∃ m',m'<m∧Pv m' σ' H')∧tb { D with nx:=N,ct:=N,bk:=D.nx } σ H1 else D.nx σ H1):TF c tb D σ H:=
 ⟨Pv,⟨m0,h0⟩,hs⟩
def dH (K:PySem.W.Frag):Sp:=fun vs H Q _=>∃ (v:V) (ws:List Wd) (body:List Stm),vs=[v]∧Rp K H (pD ws body) v∧ws.length≤10∧wsz ws+Stm.szs body≤4000∧∀ (H':Hp),AI H H'→Q (.int ((wsz ws+Stm.szs body:Nat):Int)) H'
def kN (K:PySem.W.Frag) (p:Addr) (ws:List Wd) (H:Hp) (i:Nat) (σ:L2.St) (H2:Hp):Prop:=∃ (us:List V) (o1:Option V),σ=[o1]∧AI H H2∧H2 p=some (.lst us)∧RpL K H2 (((ws.take i).map (·.body)).map bD) us
def fS (K:PySem.W.Frag) (v0 v1 v2:V) (lw:Addr) (tot:Nat) (H:Hp) (m:Nat) (σ:L2.St) (H2:Hp):Prop:=∃ (wb:List (List Stm)) (us:List V) (sz:Nat) (o5 o6:Option V),σ=[some v0,some v1,some v2,some (.ref lw),some (.int sz),o5,o6]∧AI H H2∧H2 lw=some (.lst us)∧RpL K H2 (wb.map bD) us∧sz+zW wb=tot∧m=mW wb∧m≤20000
def jT (K:PySem.W.Frag) (v0 v1 v2:V) (lw:Addr) (sz:Int) (v5:V) (DM:List (List Stm)) (b:List Stm) (H H6:Hp) (i:Nat) (σ:L2.St) (H2:Hp):Prop:=∃ (us:List V) (o6:Option V),σ=[some v0,some v1,some v2,some (.ref lw),some (.int sz),some v5,o6]∧AI H H2∧BK H6 H2∧H2 lw=some (.lst us)∧RpL K H2 ((DM++DK (b.take i)).map bD) us
theorem OM (T:Txt w K mg t):BY P w K mg base CX0 2 t.a_sizeof t.d_sizeof ["program"] (dH K):=by
 refine T.sizeof.F.ok DR (fun vs H Q E h=> ?_) (fun cdv A outer s H vs Q E hr h=> ?_)
 ·obtain ⟨v,ws,body,rfl,_⟩:=h;rfl
 ·obtain ⟨v,ws,body,rfl,rv,hw,hz,q⟩:=h
  obtain ⟨p0,vw,vb,rfl,h0,rw,rb⟩:=JO.mp rv
  obtain ⟨pw,xw,rfl,hpw,rxw⟩:=BL.mp rw
  refine ⟨_,s!"0B1{DR.nd}L2{DR.nd}LiUUrv{@VU _ _ _ _ _ _ (AE FF) _ _ _ _ (3) _ _ _ _ (["program", "words", "body", "waiting", "size", "part", "statement"]) (["word"]) (["word"]) ([]) DR.nd rfl (Or.inl rfl) rfl rfl rfl ⟨by decide +kernel, by decide +kernel, by decide +kernel, by decide +kernel, by decide +kernel, by decide +kernel⟩ s!"1Bs" (fun _ _ _ _ => s!"0{show List.Nodup (["word"]:List Str) by decide+kernel}L") (fun _ _ _ _ => s!"h") (fun _ _ _ _ => s!"{HL (K:=K) rfl}0BDM") (by intro _; rfl) (by rfl) (by first | exact .inl rfl | exact .inr rfl | assumption)}{PySem.F.slot_list_append}{PySem.F.type_list_append}{DO}3B2BCAlR4{DR.nd}{Or.inl rfl}DJ{@cC _ _ _ s!"3B" (fun _ => rfl)}5{DR.nd}{Or.inl rfl}3B$J4{DR.nd}{AS}{T.z_len}{PySem.boot_len}5BCAPw5Bs6{DR.nd}L{PySem.F.slot_list_extend}{PySem.F.type_list_extend}{WT}3B{QY T}{hr.mono (by decide)}{T.bodiesof.m}{T.bodiesof.F.kp}{T.bodiesof.b}6BCAHCAlRGZGFF%4BKGFFFFF",?_⟩
  walk_at "ro"
  refine ⟨_,h0,rfl,?_⟩
  walk_at "ro"
  refine ⟨⟨_,hpw⟩,fun lw hlw=> ?_⟩
  have u1:=AI.upd (o:= .lst []) hlw
  refine ZO (xs:=xw) (kN K lw ws H) ⟨[],none,rfl,u1,AF,RpL.nil⟩ (fun i σ H2 _ z=>by obtain ⟨_,_,rfl,s2,_⟩:=z;exact s2.tup hpw) ?_ ?_
  ·rintro i x σ H2 hx ⟨us,o1,rfl,s2,h2,r2⟩
   have hi:=(List.getElem?_eq_some_iff.mp hx).1
   obtain ⟨z,pz,vz,ez,rfl,hz1,rz⟩:=OO (rxw.same s2) hx
   have lus:us.length≤50000:=by rw [r2.length,List.length_map,List.length_map,List.length_take];omega
   walk_at "ro"
   refine ⟨_,hz1,_,rfl,?_⟩
   have t3:BK H2 (upd H2 lw (.lst (us++[vz]))):=(BK.refl _).upd (DW h2)
   refine ⟨us,h2,CV lus,nx hi ⟨us++[vz],_,rfl,s2.upd2 hlw,AF,?_⟩⟩
   rw [List.take_add_one,ez,List.map_append,List.map_append]
   exact RpL.t t3 (r2.app (RpL.one rz))
  ·rintro σ H2 ⟨us,o1,rfl,s2,h2,r2⟩
   have lw1:xw.length=ws.length:=by rw [rxw.length,List.length_map]
   rw [lw1,List.take_length] at r2
   walk_at "ro"
   have lus:us.length≤50000:=by rw [r2.length,List.length_map,List.length_map];omega
   refine ⟨.inl ⟨_,SqL.of h2⟩,us,h2,CV lus,?_⟩
   have t3:BK H2 (upd H2 lw (.lst (us++[vb]))):=(BK.refl _).upd (DW h2)
   have r3:RpL K (upd H2 lw (.lst (us++[vb]))) ((ws.map (·.body)++[body]).map bD) (us++[vb]):=by
    rw [List.map_append]
    exact RpL.t t3 (r2.app (RpL.one (rb.same s2)))
   have s3:=s2.upd2 (o:= .lst (us++[vb])) hlw
   have z0:zW (ws.map (·.body)++[body])=wsz ws+Stm.szs body:=by
    rw [KP]
    unfold zW wsz
    rw [List.map_map]
    simp [Function.comp_def]
   have m0:mW (ws.map (·.body)++[body])≤20000:=by
    have key:∀ l:List (List Stm),mW l=l.length+2 * zW l:=by
     intro l
     induction l with
     | nil=>rfl
     | cons b l ih=>
      unfold mW zW at ih ⊢
      rw [List.map_cons,List.map_cons,List.sum_cons,List.sum_cons,List.length_cons]
      omega
    rw [key,z0,List.length_append,List.length_map]
    simp only [List.length_cons,List.length_nil]
    omega
   have h3:upd H2 lw (.lst (us++[vb])) lw=some (.lst (us++[vb])):=AF
   generalize upd H2 lw (.lst (us++[vb]))=H3 at r3 s3 h3 ⊢
   clear t3 r2 h2 s2 lus u1
   refine UI (fS K (.ref p0) (.ref pw) vb lw (wsz ws+Stm.szs body) H) ⟨_,_,0,none,none,rfl,s3,h3,r3,by omega,rfl,m0⟩ ?_
   rintro m σ H4 ⟨wb,us,sz,o5,o6,rfl,s4,h4,r4,ez,rfl,em⟩
   walk_at "ro"
   have lus:us.length≤20000:=by rw [r4.length,List.length_map];have:=JS wb;omega
   refine ⟨!us.isEmpty,.inl ⟨us,SqL.of h4,rfl⟩,?_⟩
   rcases List.eq_nil_or_concat wb with rfl | ⟨DM,b,rfl⟩
   ·have:us=[]:=by rw [List.map_nil,RpL] at r4;exact r4
    subst this
    rw [if_neg (by decide)]
    have:sz=wsz ws+Stm.szs body:=by rw [← ez];rfl
    rw [this]
    exact q H4 s4
   ·rw [List.concat_eq_append] at r4 ez em ⊢
    rw [List.map_append] at r4
    obtain ⟨us',y,rfl,r5,ry⟩:=ML r4
    rw [if_pos (by simp)]
    obtain ⟨py,xy,rfl,hy,rxy,lxy⟩:=LJ ry
    rw [KP] at ez
    rw [IQ] at em ⊢
    have zb:zW [b]=Stm.szs b:=by unfold zW;simp
    have mb:mW [b]=1+2 * Stm.szs b:=by unfold mW;simp
    refine ⟨fun σ' H'=>fS K (.ref p0) (.ref pw) vb lw (wsz ws+Stm.szs body) H (mW (DM++DK b)) σ' H',?_,?_⟩
    ·intro σ' H' h
     refine ⟨_,?_,h⟩
     rw [IQ]
     have:=HY b
     omega
    refine ⟨.inl ⟨_,SqL.of h4⟩,us'++[.ref py],h4,.ref py,by simp,?_⟩
    rw [List.dropLast_concat]
    have t6:BK H4 (upd H4 lw (.lst us')):=(BK.refl _).upd (DW h4)
    have hy6:=t6.tup hy
    have r6:=RpL.t t6 r5
    have ry6:=RpL.t t6 rxy
    have s6:AI H (upd H4 lw (.lst us')):=s4.upd2 hlw
    have h6:upd H4 lw (.lst us') lw=some (.lst us'):=AF
    generalize upd H4 lw (.lst us')=H6 at hy6 r6 ry6 s6 h6 ⊢
    clear t6 r5 ry rxy hy h4 r4 s4
    walk_at "ro"
    refine ⟨xy,.inr hy6,⟨_,hy6⟩,?_⟩
    refine LZ (xs:=xy) (jT K (.ref p0) (.ref pw) vb lw (sz+xy.length) (.ref py) DM b H H6) ⟨us',o6,rfl,s6,BK.refl _,h6,by simpa [DK] using r6⟩ (fun i σ H7 _ z=>by obtain ⟨_,_,rfl,_,s7,_⟩:=z;exact s7.tup hy6) ?_ ?_
    ·rintro i x σ H7 hx ⟨us,o6,rfl,s7,t7,h7,r7⟩
     have hi:=(List.getElem?_eq_some_iff.mp hx).1
     have hb:b[i]? =some b[i]:=List.getElem?_eq_getElem (by omega)
     obtain ⟨x',ex,rx⟩:=VD (RpL.t t7 ry6) hb
     rw [hx] at ex;cases ex
     have lu7:us.length≤40000:=by
      rw [r7.length,List.length_map,List.length_append]
      have:=JS DM
      have:=OI (b.take i)
      have:=IV b i
      omega
     walk_at "ro"
     refine ⟨.inl ⟨_,SqL.of h7⟩,x,b[i],rfl,rx,fun p8 us8 H8 s8 hp8 h8 r8=> ?_⟩
     have h78:=s8 _ _ h7
     have lu8:us8.length≤2:=by rw [r8.length,List.length_map];exact aR _
     have t9:BK H8 (upd H8 lw (.lst (us++us8))):=(BK.refl _).upd (DW h78)
     refine ⟨p8,rfl,us,h78,us8,h8,Nat.le_of_lt (CV (by omega)),us++us8,_,rfl,(s7.trans s8).upd2 hlw,(t7.trans s8.t).trans t9,AF,?_⟩
     rw [List.take_add_one,hb]
     show RpL K _ ((DM++DK (b.take i++[b[i]])).map bD) _
     rw [DK,List.flatMap_append,List.flatMap_singleton,← List.append_assoc,List.map_append]
     exact RpL.t t9 ((r7.same s8).app r8)
    ·rintro σ H7 ⟨us,o6,rfl,s7,t7,h7,r7⟩
     rw [lxy,List.take_length] at r7
     have kz:=OZ b
     have km:=HY b
     refine ⟨_,us,sz+b.length,_,_,by rw [lxy];rfl,s7,h7,r7,by rw [KP];omega,rfl,by rw [IQ];omega⟩
end
theorem aP {xs:List V} (m:Nat):ID xs none (some (m:Int))=xs.take m:=by
 unfold ID
 rw [HT.sIx_none,HT.sIx_nat,List.drop_zero,Nat.sub_zero]
 by_cases h:m≤xs.length
 ·rw [Nat.min_eq_left h]
 ·rw [Nat.min_eq_right (by omega),List.take_of_length_le (Nat.le_refl _),List.take_of_length_le (by omega)]
section
variable {P:Program} {w:World} {K:PySem.W.Frag} {mg:Str→Option Value} {base:Heap} {t:Adr}
def eU:Sp:=fun vs H Q _=>∃ (x:Str),vs=[.bl true,.str x]∧Q .non H
theorem BW (T:Txt w K mg t):BY P w K mg base CX0 1 t.a_need t.d_need ["holds","why"] eU:=by
 refine T.need.F.ok eY (fun vs H Q E h=> ?_) (fun cdv A outer s H vs Q E hr h=> ?_)
 ·obtain ⟨x,rfl,_⟩:=h;rfl
 ·obtain ⟨x,rfl,q⟩:=h
  refine ⟨_,s!"0Bqt{@cB _ _}GSQG",?_⟩
  walk_at "ro"
  exact q
def aT (K:PySem.W.Frag):Sp:=fun vs H Q _=>∃ (p:Addr) (xs:List V) (n:Int),vs=[.ref p,.int n]∧SqT K H p xs∧Q (.bl (decide ((xs.length:Int)=n))) H
theorem GP (T:Txt w K mg t):BY P w K mg base CX0 1 t.a_istupleof t.d_istupleof ["thing","many"] (aT K):=by
 refine T.istupleof.F.ok QD (fun vs H Q E h=> ?_) (fun cdv A outer s H vs Q E hr h=> ?_)
 ·obtain ⟨p,xs,n,rfl,_⟩:=h;rfl
 ·obtain ⟨p,xs,n,rfl,hp,q⟩:=h
  refine ⟨_,s!"{BT (c := .type "tuple")}{T.z_isinstance}{boot_isinstance}0B{.ty "tuple"}{T.z_tuple}{boot_tuple}bCAAP{BS}{AS}{T.z_len}{PySem.boot_len}0BCAP1B{AW _}YjnKG",?_⟩
  walk_at "ro"
  refine ⟨rfl,⟨_,rfl⟩,_,.inr ⟨⟨_,hp⟩,rfl⟩,true,CU,?_⟩
  rw [if_pos rfl]
  exact ⟨_,.inr hp,q⟩
def YN:Sp:=fun vs H Q _=>∃ (v a b:Int),vs=[.int v,.int a,.int b]∧(a≤v∧v≤b)∧Q (.bl true) H
theorem FC (T:Txt w K mg t):BY P w K mg base CX0 1 t.a_isintwithin t.d_isintwithin ["thing","low","high"] YN:=by
 refine T.isintwithin.F.ok MI (fun vs H Q E h=> ?_) (fun cdv A outer s H vs Q E hr h=> ?_)
 ·obtain ⟨v,a,b,rfl,_⟩:=h;rfl
 ·obtain ⟨v,a,b,rfl,hv,q⟩:=h
  refine ⟨_,s!"{@PW.pt _ _ _ s!"{BT (c:= .type "int")}{T.z_isinstance}{boot_isinstance}0B{.ty "int"}{T.z_int}{boot_int}bCAAPqt{BT (c:= .type "bool")}{T.z_isinstance}{boot_isinstance}0B{.ty "bool"}{T.z_bool}{boot_bool}bCAAPq&!"}dKGSQ{@RD _ _ _ _ _ _ _ _ _ _ _ _ HG HG s!"1B" s!"0B" s!"2B" (by with_unfolding_all rfl)}KGF",?_⟩
  walk_at "ro"
  refine ⟨rfl,⟨_,rfl⟩,_,.int v,true,LA,?_⟩
  rw [if_neg (by decide)]
  refine ⟨rfl,⟨_,rfl⟩,_,.int v,false,JH,?_⟩
  rw [if_neg (by decide),if_pos hv.1,decide_eq_true hv.2]
  exact q
def ZI:Sp:=fun vs H Q _=>∃ (v:Int),vs=[.int v]∧(-1000000≤v∧v≤1000000)∧Q (.bl true) H
theorem FG (T:Txt w K mg t):BY P w K mg base CX0 2 t.a_isamountint t.d_isamountint ["thing"] ZI:=by
 refine T.isamountint.F.ok ME (fun vs H Q E h=> ?_) (fun cdv A outer s H vs Q E hr h=> ?_)
 ·obtain ⟨v,rfl,_⟩:=h;rfl
 ·obtain ⟨v,rfl,hv,q⟩:=h
  have eM:t.v_MOST_AMOUNT= .int 1000000:=by have:=T.k_MOST_AMOUNT H;rw [FU,Rp] at this;exact this
  refine ⟨_,s!"{FC T}{hr.mono (by decide)}{T.isintwithin.m}{T.isintwithin.F.kp}{T.isintwithin.b}0B{T.g_MOST_AMOUNT}{T.r_MOST_AMOUNT}a'{T.g_MOST_AMOUNT}{T.r_MOST_AMOUNT}aCAAAHKG",?_⟩
  walk_at "ro"
  rw [eM]
  exact ⟨v,-1000000,1000000,rfl,hv,q⟩
structure Sg where
 (p d:Addr)
 (many:Nat)
 (ct:Bool)
 (dp:Nat)
def sf (d:Addr) (m:Nat) (c:Bool) (e:Nat):List (Str×V):=[("known",.ref d),("many",.int m),("counted",.bl c),("depth",.int e)]
structure NR (C:Addr) (H:Hp) (g:Sg) (ks:List (Str×Nat)):Prop where
 o:∃ dx,H g.p=some (.ins C dx (sf g.d g.many g.ct g.dp))
 k:∃ kvs,H g.d=some (.dK kvs)∧As .inr (fun (i:Nat) v=>v=V.int i) ks kvs
 m4:g.many≤4
theorem NR.same {C:Addr} {H H':Hp} {g:Sg} {ks:List (Str×Nat)} (h:NR C H g ks) (s:AI H H'):NR C H' g ks:=by
 obtain ⟨⟨dx,a⟩,⟨kvs,b,c⟩,m⟩:=h
 exact ⟨⟨dx,s _ _ a⟩,⟨kvs,s _ _ b,c⟩,m⟩
def QV (C:Addr):Sp:=fun vs H Q _=>∃ (p dx d:Addr) (m:Nat) (c:Bool) (e:Nat),vs=[.ref p,.ref d,.int m,.bl c,.int e]∧H p=some (.ins C dx [])∧∀ H',H'=upd H p (.ins C dx (sf d m c e))→Q .non H'
theorem EK (T:Txt w K mg t):BY P w K mg base CX0 1 t.a_Setting_init t.d_Setting_init ["self","known","many","counted","depth"] (QV t.c_Setting):=by
 refine T.Setting_init.F.ok LG (fun vs H Q E h=> ?_) (fun cdv A outer s H vs Q E hr h=> ?_)
 ·obtain ⟨p,dx,d,m,c,e,rfl,_⟩:=h;rfl
 ·obtain ⟨p,dx,d,m,c,e,rfl,hp,q⟩:=h
  refine ⟨_,s!"0B1B#0B2B#0B3B#0B4B#GFFF",?_⟩
  walk_at "ro"
  refine ⟨_,_,_,hp,T.cl_Setting,T.n_Setting_known,by decide,?_⟩
  refine ⟨T.cl_Setting,T.n_Setting_many,(show (1:Nat)<1000 by decide),T.cl_Setting,T.n_Setting_counted,(show (2:Nat)<1000 by decide),T.cl_Setting,T.n_Setting_depth,(show (3:Nat)<1000 by decide),?_⟩
  exact q _ rfl
theorem TD {C x dx:Addr} {H H2:Hp} {fs:List (Str×V)} (hx:H x=none) (hdx:H dx=none) (nx:dx≠x) (e2:H2=upd (upd (upd H dx (.own x)) x (.ins C dx [])) x (.ins C dx fs)):AI H H2∧H2 x=some (.ins C dx fs):=by
 subst e2
 refine ⟨fun c o e=> ?_,AF⟩
 have n1:=DL e hx
 have n2:=DL e hdx
 rw [BA n1,BA n1,BA n2]
 exact e
def WS (C:Addr):Sp:=fun vs H Q _=>∃ (g:Sg) (ks:List (Str×Nat)) (x:Str),vs=[.ref g.p,.str x]∧NR C H g ks∧∀ (p:Addr) (H':Hp),AI H H'→NR C H' ⟨p,g.d,g.many,g.ct || decide (x="again"),g.dp+1⟩ ks→Q (.ref p) H'
theorem JB (T:Txt w K mg t):BY P w K mg base CX0 3 t.a_Setting_within t.d_Setting_within ["self","first"] (WS t.c_Setting):=by
 refine T.Setting_within.F.ok FP (fun vs H Q E h=> ?_) (fun cdv A outer s H vs Q E hr h=> ?_)
 ·obtain ⟨g,ks,x,rfl,_⟩:=h;rfl
 ·obtain ⟨g,ks,x,rfl,hg,q⟩:=h
  obtain ⟨⟨dx,hp⟩,⟨kvs,hk,rk⟩,m4⟩:=hg
  refine ⟨_,s!"2{FP.nd}{Or.inl rfl}{@lD _ _ _ _ _ _ _ s!"0Bk" s!"{BS}1BI{AW _}Yj"}J{T.Setting_init.mki}{EK T}{hr.mono (by decide)}{T.mg_Setting}{T.Setting_init.b}0Bk0Bk2B{BO}0BkDECAAAA(KGF",?_⟩
  walk_at "ro"
  refine ⟨_,_,_,hp,T.cl_Setting,T.n_Setting_counted,_,rfl,g.ct,rfl,?_⟩
  have fin:∀ (c:Bool),c=(g.ct || decide (x="again"))→∀ (x1 dx1:Addr),H x1=none→H dx1=none→dx1≠x1→QV t.c_Setting [.ref x1,.ref g.d,.int g.many,.bl c,.int (g.dp+1)] (upd (upd H dx1 (.own x1)) x1 (.ins t.c_Setting dx1 [])) (fun v H2=>v= .non∧Q (.ref x1) H2) E0:=by
   intro c ec x1 dx1 hx1 hdx1 nx
   refine ⟨x1,dx1,g.d,g.many,c,g.dp+1,rfl,AF,fun H2 e2=>⟨rfl,?_⟩⟩
   obtain ⟨s2,h2⟩:=TD hx1 hdx1 nx e2
   subst ec
   exact q x1 H2 s2 ⟨⟨dx1,h2⟩,⟨kvs,s2 _ _ hk,rk⟩,m4⟩
  by_cases c:g.ct=true
  ·rw [if_pos c]
   walk_at "b39"
   exact fin true (by rw [c];rfl)
  ·rw [if_neg c]
   have c:g.ct=false:=by simpa using c
   walk_at "b39"
   exact fin (decide (x="again")) (by rw [c];rfl)
def XH (C:Addr):Sp:=fun vs H Q _=>∃ (g:Sg) (ks:List (Str×Nat)) (x:Str),vs=[.ref g.p,.str x]∧NR C H g ks∧Sc g.ct g.many x∧∀ H',AI H H'→Q (.bl true) H'
theorem HJ (T:Txt w K mg t):BY P w K mg base CX0 1 t.a_Setting_hassource t.d_Setting_hassource ["self","source"] (XH t.c_Setting):=by
 refine T.Setting_hassource.F.ok HC (fun vs H Q E h=> ?_) (fun cdv A outer s H vs Q E hr h=> ?_)
 ·obtain ⟨g,ks,x,rfl,_⟩:=h;rfl
 ·obtain ⟨g,ks,x,rfl,hg,hx,q⟩:=h
  obtain ⟨⟨dx,hp⟩,⟨kvs,hk,rk⟩,m4⟩:=hg
  refine ⟨_,s!"{BS}1BIN0BkKGSQ{XD}1B{T.g_NUMBERS}{T.r_NUMBERS}az0Bkyx{by with_unfolding_all rfl}YKGF",?_⟩
  walk_at "ro"
  by_cases c:x="count"
  ·rw [if_pos c]
   have gc:g.ct=true:=by
    rcases hx with hx | hx
    ·exact hx.1
    ·subst c
     exact absurd (List.mem_of_mem_take hx) (by decide+kernel)
   refine ⟨_,_,_,hp,T.cl_Setting,T.n_Setting_counted,_,rfl,?_⟩
   rw [gc]
   exact q _ (AI.refl H)
  ·rw [if_neg c]
   have hx:x∈NUM.take g.many:=by
    rcases hx with hx | hx
    ·exact absurd hx.2 c
    ·exact hx
   have eN:=T.k_NUMBERS H
   rw [KC] at eN
   obtain ⟨pn,xn,en,hn,rn⟩:=BL.mp eN
   have exn:xn=NUM.map V.str:=by
    rw [RpL] at rn
    obtain ⟨_,_,rfl,a0,rn⟩:=rn
    rw [RpL] at rn
    obtain ⟨_,_,rfl,a1,rn⟩:=rn
    rw [RpL] at rn
    obtain ⟨_,_,rfl,a2,rn⟩:=rn
    rw [RpL] at rn
    obtain ⟨_,_,rfl,a3,rn⟩:=rn
    rw [RpL] at rn
    rw [Rp] at a0 a1 a2 a3
    subst rn a0 a1 a2 a3
    rfl
   refine ⟨_,_,_,hp,T.cl_Setting,T.n_Setting_many,_,rfl,?_⟩
   dsimp only
   refine ⟨pn,en,xn,hn,fun p H' s' hp'=>⟨_,.inr hp',rfl,?_,?_⟩⟩
   ·rw [exn,aP,← List.map_take]
    rw [List.all_eq_true]
    intro y hy
    obtain ⟨z,_,rfl⟩:=List.mem_map.mp hy
    rfl
   ·have ei:inV (.str x) (ID xn none (some (g.many:Int)))=true:=by
     rw [exn,aP,← List.map_take]
     unfold inV
     rw [List.any_eq_true]
     refine ⟨.str x,List.mem_map.mpr ⟨x,hx,rfl⟩,?_⟩
     simp [eqV]
    rw [ei]
    exact q _ s'
end
def AmG (D:Str→Prop):Am→Prop
 | .int i=> -1000000≤i∧i≤1000000
 | .src f s m=>(-1000000≤f∧f≤1000000)∧(-1000000≤m∧m≤1000000)∧D s
theorem FI {K:PySem.W.Frag}:PySem.W.kitOne K (.type "str") (.type "str")=some true:=rfl
theorem NJ {K:PySem.W.Frag}:PySem.W.kitOne K (.type "int") (.type "tuple")=some false:=XY (by decide+kernel) (by decide+kernel) (by decide+kernel)
theorem YF {K:PySem.W.Frag} {H:Hp} {a b c:L2.D} {xs:List V} (h:RpL K H [a,b,c] xs):∃ x y z,xs=[x,y,z]∧Rp K H a x∧Rp K H b y∧Rp K H c z:=by
 rw [RpL] at h
 obtain ⟨x,_,rfl,a0,h⟩:=h
 rw [RpL] at h
 obtain ⟨y,_,rfl,a1,h⟩:=h
 rw [RpL] at h
 obtain ⟨z,_,rfl,a2,h⟩:=h
 rw [RpL] at h
 subst h
 exact ⟨x,y,z,rfl,a0,a1,a2⟩
theorem kC {K:PySem.W.Frag} {H:Hp} {as:List Am} {xs:List V} {i:Nat} {x:V} (h:RpL K H (as.map Am.D) xs) (hx:xs[i]? =some x):∃ a,as[i]? =some a∧Rp K H a.D x:=by
 walk_at "b54"
 walk_at "b12"
 exact ⟨_,List.getElem?_eq_getElem hb,r⟩
section
variable {P:Program} {w:World} {K:PySem.W.Frag} {mg:Str→Option Value} {base:Heap} {t:Adr}
def XZ (K:PySem.W.Frag) (C:Addr):Sp:=fun vs H Q _=>∃ (va:V) (a:Am) (g:Sg) (ks:List (Str×Nat)),vs=[va,.ref g.p]∧Rp K H a.D va∧NR C H g ks∧AmG (Sc g.ct g.many) a∧∀ H',AI H H'→Q .non H'
theorem GZ (T:Txt w K mg t):BY P w K mg base CX0 3 t.a_checkamount t.d_checkamount ["thing","setting"] (XZ K t.c_Setting):=by
 refine T.checkamount.F.ok DX (fun vs H Q E h=> ?_) (fun cdv A outer s H vs Q E hr h=> ?_)
 ·obtain ⟨va,a,g,ks,rfl,_⟩:=h;rfl
 ·obtain ⟨va,a,g,ks,rfl,ra,hg,ha,q⟩:=h
  refine ⟨_,s!"{BT (c := .type "tuple")}{T.z_isinstance}{boot_isinstance}0B{.ty "tuple"}{T.z_tuple}{boot_tuple}bCAAPqt{BW T}{hr.mono (by decide)}{T.need.m}{T.need.F.kp}{T.need.b}{FG T}{hr.mono (by decide)}{T.isamountint.m}{T.isamountint.F.kp}{T.isamountint.b}0BCAHICAAHR{@cQ _ _}GFSQ{BW T}{hr.mono (by decide)}{T.need.m}{T.need.F.kp}{T.need.b}{BS}{AS}{T.z_len}{PySem.boot_len}0BCAPD{AW _}YICAAHR0B2{DX.nd}L3{DX.nd}L4{DX.nd}LiUUUrv{BW T}{hr.mono (by decide)}{T.need.m}{T.need.F.kp}{T.need.b}{FG T}{hr.mono (by decide)}{T.isamountint.m}{T.isamountint.F.kp}{T.isamountint.b}2BCAH{FG T}{hr.mono (by decide)}{T.isamountint.m}{T.isamountint.F.kp}{T.isamountint.b}4BCAHjnICAAHR{BW T}{hr.mono (by decide)}{T.need.m}{T.need.F.kp}{T.need.b}{BT (c := .type "str")}{T.z_isinstance}{boot_isinstance}3B{.ty "str"}{T.z_str}{boot_str}bCAAP{@UQ _ _ _ _ _ _ _ _ _ _ _ _ _ _ _ _ _ _ _ _ s!"1B" T.cl_Setting T.Setting_hassource.mt (HJ T) (hr.mono (by decide)) T.Setting_hassource.b .nil AL s!"3BCA" (by rfl) (by rfl) (by rfl)}jnICAAHRGFFFF",?_⟩
  walk_at "ro"
  cases a with
  | int i=>
   have ra:va= .int i:=by rw [Am.D,Rp] at ra;exact ra
   subst ra
   refine ⟨rfl,⟨_,rfl⟩,_,.inl (.int i),false,NJ,?_⟩
   rw [if_pos rfl]
   exact ⟨i,rfl,ha,_,rfl,q _ (AI.refl H)⟩
  | src f x m=>
   rw [Am.D] at ra
   obtain ⟨p,xs,rfl,hp,rl⟩:=BL.mp ra
   obtain ⟨y0,y1,y2,rfl,r0,r1,r2⟩:=YF rl
   have r0:y0= .int f:=by rw [Rp] at r0;exact r0
   have r2:y2= .int m:=by rw [Rp] at r2;exact r2
   cases FV r1
   subst r0 r2
   refine ⟨rfl,⟨_,rfl⟩,_,.inr ⟨p,rfl,⟨_,hp⟩,rfl⟩,true,CU,?_⟩
   rw [if_neg (by decide)]
   dsimp only
   refine ⟨_,.inr hp,_,rfl,_,hp,rfl,?_⟩
   walk_at "ro"
   refine ⟨f,rfl,ha.1,?_⟩
   dsimp only
   rw [if_pos rfl]
   refine ⟨m,rfl,ha.2.1,_,rfl,rfl,⟨_,rfl⟩,_,.str x,true,FI,?_⟩
   rw [if_pos rfl]
   obtain ⟨dx,hgp⟩:=hg.o
   exact ⟨dx,_,hgp,rfl,g,ks,x,rfl,hg,ha.2.2,fun H' s'=>⟨_,rfl,q _ s'⟩⟩
def dS (K:PySem.W.Frag) (C:Addr):Sp:=fun vs H Q _=>∃ (va:V) (x:Str) (as:List Am) (g:Sg) (ks:List (Str×Nat)),vs=[.str x,va,.ref g.p]∧Rp K H (.tup (as.map Am.D)) va∧NR C H g ks∧(∀ a∈as,AmG (Sc g.ct g.many) a)∧lkA ks x=some as.length∧∀ H',AI H H'→Q .non H'
def kL (x:Str) (pa gp:Addr) (H:Hp) (i:Nat) (σ:L2.St) (H2:Hp):Prop:=∃ (o:Option V),σ=[some (.str x),some (.ref pa),some (.ref gp),o]∧AI H H2
theorem SR (T:Txt w K mg t):BY P w K mg base CX0 4 t.a_checkdo t.d_checkdo ["name","amounts","setting"] (dS K t.c_Setting):=by
 refine T.checkdo.F.ok MV (fun vs H Q E h=> ?_) (fun cdv A outer s H vs Q E hr h=> ?_)
 ·obtain ⟨va,x,as,g,ks,rfl,_⟩:=h;rfl
 ·obtain ⟨va,x,as,g,ks,rfl,ra,hg,ha,hx,q⟩:=h
  refine ⟨_,s!"{BW T}{hr.mono (by decide)}{T.need.m}{T.need.F.kp}{T.need.b}{BT (c := .type "str")}{T.z_isinstance}{boot_isinstance}0B{.ty "str"}{T.z_str}{boot_str}bCAAP{gT (VF hr)}0B2Bk{by with_unfolding_all rfl}YjnICAAHR{BW T}{hr.mono (by decide)}{T.need.m}{T.need.F.kp}{T.need.b}{GP T}{hr.mono (by decide)}{T.istupleof.m}{T.istupleof.F.kp}{T.istupleof.b}1B{cO (VF hr) s!"2Bk" s!"0B" (fun _ _ => rfl)}CAAHICAAHR1Bs3{MV.nd}L{GZ T}{hr.mono (by decide)}{T.checkamount.m}{T.checkamount.F.kp}{T.checkamount.b}3B2BCAAHRGZGFF",?_⟩
  walk_at "ro"
  have hg0:=hg
  obtain ⟨⟨dx,hp⟩,⟨kvs,hk,rk⟩,m4⟩:=hg
  obtain ⟨pa,xa,rfl,hpa,rla⟩:=BL.mp ra
  have lxa:xa.length=as.length:=by rw [rla.length,List.length_map]
  obtain ⟨vn,en,rn⟩:=(As.get PY (k:=x) rk).2 as.length hx
  refine ⟨rfl,⟨_,rfl⟩,_,.str x,true,FI,?_⟩
  rw [if_pos rfl]
  refine ⟨_,_,_,hp,T.cl_Setting,T.n_Setting_known,_,rfl,kvs,.inl hk,.inr x,rfl,?_⟩
  rw [en]
  refine ⟨_,rfl,_,_,_,hp,T.cl_Setting,T.n_Setting_known,_,rfl,kvs,.inl hk,.inr x,rfl,?_⟩
  rw [en]
  subst rn
  refine ⟨_,rfl,pa,xa,_,rfl,hpa,?_⟩
  rw [lxa,decide_eq_true rfl]
  refine ⟨_,rfl,⟨_,hpa⟩,?_⟩
  refine LZ (xs:=xa) (kL x pa g.p H) ⟨none,rfl,AI.refl H⟩ (fun i σ H2 _ z=>by obtain ⟨_,rfl,s2⟩:=z;exact s2.tup hpa) ?_ ?_
  ·rintro i y σ H2 hy ⟨o,rfl,s2⟩
   obtain ⟨a,ea,rya⟩:=kC rla hy
   walk_at "ro"
   exact ⟨y,a,g,ks,rfl,rya.same s2,hg0.same s2,ha a (List.mem_of_getElem? ea),fun H' s'=>⟨_,rfl,s2.trans s'⟩⟩
  ·rintro σ H2 ⟨o,rfl,s2⟩
   exact q _ s2
end
mutual
def Stm.G (ks:List (Str×Nat)) (m:Nat) (c:Bool):Stm→Prop
 | .go a=>AmG (Sc c m) a
 | .turn a=>AmG (Sc c m) a
 | .ink a=>AmG (Sc c m) a
 | .up=>True
 | .down=>True
 | .mark n=>0≤n∧n≤9
 | .back n=>0≤n∧n≤9
 | .again a b=>AmG (Sc c m) a∧Stm.Gs ks m true b
 | .ifs a b d=>AmG (Sc c m) a∧Stm.Gs ks m c b∧Stm.Gs ks m c d
 | .dow x as=>(∀ a∈as,AmG (Sc c m) a)∧lkA ks x=some as.length
def Stm.Gs (ks:List (Str×Nat)) (m:Nat) (c:Bool):List Stm→Prop
 | []=>True
 | s::r=>s.G ks m c∧Stm.Gs ks m c r
end
theorem aX {ks:List (Str×Nat)} {m:Nat} {c:Bool}:∀ {b:List Stm} {i:Nat} {s:Stm},Stm.Gs ks m c b→b[i]? =some s→s.G ks m c
 | s::r,0,_,h,e=>by cases e;rw [Stm.Gs] at h;exact h.1
 | s::r,i+1,_,h,e=>by rw [Stm.Gs] at h;exact aX h.2 (by simpa using e)
theorem kY {K:PySem.W.Frag} {H:Hp} {as:List Stm} {xs:List V} {i:Nat} {x:V} (h:RpL K H (as.map Stm.D) xs) (hx:xs[i]? =some x):∃ a,as[i]? =some a∧Rp K H a.D x:=by
 walk_at "b54"
 walk_at "b12"
 exact ⟨_,List.getElem?_eq_getElem hb,r⟩
theorem PR:∀ {b:List Stm} {i:Nat} {s:Stm},b[i]? =some s→s.dp≤Stm.dps b
 | s::r,0,_,e=>by cases e;rw [Stm.dps];exact Nat.le_max_left _ _
 | s::r,i+1,_,e=>by rw [Stm.dps];exact Nat.le_trans (PR (b:=r) (i:=i) (by simpa using e)) (Nat.le_max_right _ _)
theorem bT {b:List Stm} {i:Nat} {s:Stm} (h:b[i]? =some s):Stm.szs (b.take (i+1))=Stm.szs (b.take i)+s.sz:=by
 rw [List.take_add_one,h,FK]
 show Stm.szs (b.take i)+Stm.szs [s]=_
 rw [Stm.szs,Stm.szs,Nat.add_zero]
def kW (pb gp:Addr) (b:List Stm) (H:Hp) (i:Nat) (σ:L2.St) (H2:Hp):Prop:=∃ (o:Option V),σ=[some (.ref pb),some (.ref gp),some (.int (Stm.szs (b.take i))),o]∧AI H H2
theorem at0 {x:V} {xs:List V}:atI (x::xs) 0=some x:=BN (j:=0) rfl
theorem cP {K:PySem.W.Frag} {a b:Addr} {xs ys:List V} {g:TG} {tb:TS} {D:GI} {σ:L2.St} {H:Hp} (Pv:Nat→L2.St→Hp→Prop) (h0:Pv 0 σ H)
  (hl:∀ i σ H,i≤min xs.length ys.length→Pv i σ H→SqT K H a xs∧SqT K H b ys)
  (hs:∀ i p x y σ H,xs[i]? =some x→ys[i]? =some y→Pv i σ H→H p=none→g (.ref p) σ (upd H p (.tup [x,y])) fun σ2 H2=>tb { D with nx:=Pv (i+1),ct:=Pv (i+1),bk:=D.nx } σ2 H2)
  (hd:∀ σ H,Pv (min xs.length ys.length) σ H→D.nx σ H):FW (cT K a b) g tb D σ H:=by
 walk_at "b27"
 by_cases hlt:i<min xs.length ys.length
 ·have h1:i<xs.length:=by omega
  have h2:i<ys.length:=by omega
  refine .inr ⟨⟨xs,ys,xs[i],ys[i],w1,w2,by simp [h1],by simp [h2]⟩,Pv (i+1),fun σ' H' z=>⟨_,?_,rfl,hlt,z⟩,fun v H' z=> ?_⟩
  ·omega
  ·obtain ⟨p,x,y,rfl,hp,rfl,k⟩:=z
   obtain ⟨e1,e2⟩:=k xs ys w1 w2
   exact hs i p x y σ H e1 e2 q hp
 ·have e:i=min xs.length ys.length:=by omega
  exact .inl ⟨⟨xs,ys,w1,w2,by omega⟩,hd σ H (e ▸ q)⟩
abbrev Prt:=Str×L2.D×Nat
def kA (ks:List (Str×Nat)) (m:Nat) (c:Bool) (dp n:Nat) (k:Str) (z:Prt):Prop:=
 (z.1="amount"∧z.2.2=0∧∃ a:Am,z.2.1=a.D∧AmG (Sc c m) a)∨(z.1="number"∧z.2.2=0∧∃ i:Int,z.2.1= .int i∧0≤i∧i≤9)∨
 (z.1="body"∧∃ b:List Stm,z.2.2=Stm.szs b∧z.2.1=bD b∧Stm.Gs ks m (c || decide (k="again")) b∧Stm.dps b<n∧dp+1+Stm.dps b≤6∧Stm.szs b≤4000)
def zP (l:List Prt):Nat:=(l.map (·.2.2)).sum
theorem gX {ks:List (Str×Nat)} {m:Nat} {c:Bool} {dp n:Nat} (s:Stm) (h:s.G ks m c) (hn:s.dp≤n) (hd:dp+s.dp≤6) (hz:s.sz≤4000):∃ (k:Str) (kn:List Str) (ds:List L2.D),s.D= .tup (.str k::ds)∧lkS DZ_SHAPES k=some (.tup (kn.map L2.D.str))∧kn.length=ds.length∧ds.length≤4∧
  ((k="do"∧∃ x as,s= .dow x as)∨(k≠"do"∧∃ l:List Prt,kn=l.map (·.1)∧ds=l.map (·.2.1)∧zP l+1=s.sz∧∀ z∈l,kA ks m c dp n k z)):=by
 cases s with
 | go a=>rw [Stm.G] at h;exact ⟨"go",["amount"],[a.D],by rw [Stm.D],rfl,rfl,by simp,.inr ⟨by decide+kernel,[("amount",a.D,0)],rfl,rfl,by rw [Stm.sz];rfl,fun z hz=>by rw [List.mem_singleton] at hz;subst hz;exact .inl ⟨rfl,rfl,a,rfl,h⟩⟩⟩
 | turn a=>rw [Stm.G] at h;exact ⟨"turn",["amount"],[a.D],by rw [Stm.D],rfl,rfl,by simp,.inr ⟨by decide+kernel,[("amount",a.D,0)],rfl,rfl,by rw [Stm.sz];rfl,fun z hz=>by rw [List.mem_singleton] at hz;subst hz;exact .inl ⟨rfl,rfl,a,rfl,h⟩⟩⟩
 | ink a=>rw [Stm.G] at h;exact ⟨"ink",["amount"],[a.D],by rw [Stm.D],rfl,rfl,by simp,.inr ⟨by decide+kernel,[("amount",a.D,0)],rfl,rfl,by rw [Stm.sz];rfl,fun z hz=>by rw [List.mem_singleton] at hz;subst hz;exact .inl ⟨rfl,rfl,a,rfl,h⟩⟩⟩
 | up=>exact ⟨"up",[],[],by rw [Stm.D],rfl,rfl,by simp,.inr ⟨by decide+kernel,[],rfl,rfl,by rw [Stm.sz];rfl,fun z hz=>by cases hz⟩⟩
 | down=>exact ⟨"down",[],[],by rw [Stm.D],rfl,rfl,by simp,.inr ⟨by decide+kernel,[],rfl,rfl,by rw [Stm.sz];rfl,fun z hz=>by cases hz⟩⟩
 | mark i=>rw [Stm.G] at h;exact ⟨"mark",["number"],[.int i],by rw [Stm.D],rfl,rfl,by simp,.inr ⟨by decide+kernel,[("number",.int i,0)],rfl,rfl,by rw [Stm.sz];rfl,fun z hz=>by rw [List.mem_singleton] at hz;subst hz;exact .inr (.inl ⟨rfl,rfl,i,rfl,h⟩)⟩⟩
 | back i=>rw [Stm.G] at h;exact ⟨"back",["number"],[.int i],by rw [Stm.D],rfl,rfl,by simp,.inr ⟨by decide+kernel,[("number",.int i,0)],rfl,rfl,by rw [Stm.sz];rfl,fun z hz=>by rw [List.mem_singleton] at hz;subst hz;exact .inr (.inl ⟨rfl,rfl,i,rfl,h⟩)⟩⟩
 | again a b=>
  rw [Stm.G] at h;rw [Stm.dp] at hn hd;rw [Stm.sz] at hz
  refine ⟨"again",["amount","body"],[a.D,bD b],by rw [Stm.D,CF],rfl,rfl,by simp,.inr ⟨by decide+kernel,[("amount",a.D,0),("body",bD b,Stm.szs b)],rfl,rfl,by rw [Stm.sz];simp [zP],fun z hz=> ?_⟩⟩
  rcases List.mem_cons.mp hz with rfl | hz
  ·exact .inl ⟨rfl,rfl,a,rfl,h.1⟩
  ·rw [List.mem_singleton] at hz;subst hz
   exact .inr (.inr ⟨rfl,b,rfl,rfl,by rw [decide_eq_true rfl,Bool.or_true];exact h.2,by omega,by omega,by omega⟩)
 | ifs a b d=>
  rw [Stm.G] at h;rw [Stm.dp] at hn hd;rw [Stm.sz] at hz
  have na:decide ((Str.ofString "if")=(Str.ofString "again"))=false:=by decide+kernel
  refine ⟨"if",["amount","body","body"],[a.D,bD b,bD d],by rw [Stm.D,CF,CF],rfl,rfl,by simp,.inr ⟨by decide+kernel,[("amount",a.D,0),("body",bD b,Stm.szs b),("body",bD d,Stm.szs d)],rfl,rfl,by rw [Stm.sz];simp [zP],fun z hz=> ?_⟩⟩
  rcases List.mem_cons.mp hz with rfl | hz
  ·exact .inl ⟨rfl,rfl,a,rfl,h.1⟩
  rcases List.mem_cons.mp hz with rfl | hz
  ·exact .inr (.inr ⟨rfl,b,rfl,rfl,by rw [na,Bool.or_false];exact h.2.1,by omega,by omega,by omega⟩)
  ·rw [List.mem_singleton] at hz;subst hz
   exact .inr (.inr ⟨rfl,d,rfl,rfl,by rw [na,Bool.or_false];exact h.2.2,by omega,by omega,by omega⟩)
 | dow x as=>exact ⟨"do",["name","amounts"],[.str x,.tup (as.map Am.D)],by rw [Stm.D],rfl,rfl,by simp,.inl ⟨rfl,x,as,rfl⟩⟩
def kZ (ps gp pk:Addr) (k:Str) (l:List Prt) (H:Hp) (i:Nat) (σ:L2.St) (H2:Hp):Prop:=∃ (o5 o6:Option V),σ=[some (.ref ps),some (.ref gp),some (.str k),some (.ref pk),some (.int (zP (l.take i))),o5,o6]∧AI H H2
theorem dZ {l:List Prt} {i:Nat} {z:Prt} (h:l[i]? =some z):zP (l.take (i+1))=zP (l.take i)+z.2.2:=by
 unfold zP
 rw [List.take_add_one,h,List.map_append,List.sum_append]
 rfl
section
variable {P:Program} {w:World} {K:PySem.W.Frag} {mg:Str→Option Value} {base:Heap} {t:Adr}
def KH (K:PySem.W.Frag) (C:Addr) (n:Nat):Sp:=fun vs H Q _=>∃ (vb:V) (b:List Stm) (g:Sg) (ks:List (Str×Nat)),vs=[vb,.ref g.p]∧Rp K H (bD b) vb∧NR C H g ks∧Stm.Gs ks g.many g.ct b∧Stm.dps b<n∧g.dp+Stm.dps b≤6∧Stm.szs b≤4000∧∀ H',AI H H'→Q (.int (Stm.szs b)) H'
def fB (K:PySem.W.Frag) (C:Addr) (n:Nat):Sp:=fun vs H Q _=>∃ (v:V) (s:Stm) (g:Sg) (ks:List (Str×Nat)),vs=[v,.ref g.p]∧Rp K H s.D v∧NR C H g ks∧s.G ks g.many g.ct∧s.dp≤n∧g.dp+s.dp≤6∧s.sz≤4000∧∀ H',AI H H'→Q (.int ((s.sz:Int) - 1)) H'
abbrev IhC (P:Program) (w:World) (K:PySem.W.Frag) (mg:Str→Option Value) (base:Heap) (t:Adr) (n:Nat):Prop:=BY P w K mg base CX0 (3 * n+5) t.a_checkbody t.d_checkbody ["body","setting"] (KH K t.c_Setting n)
theorem IY (T:Txt w K mg t) (n:Nat) (ih:IhC P w K mg base t n):BY P w K mg base CX0 (3 * n+6) t.a_checkstatement t.d_checkstatement ["statement","setting"] (fB K t.c_Setting n):=by
 refine T.checkstatement.F.ok BP (fun vs H Q E h=> ?_) (fun cdv A outer s H vs Q E hr h=> ?_)
 ·obtain ⟨v,s,g,ks,rfl,_⟩:=h;rfl
 ·obtain ⟨v,s1,g,ks,rfl,rv,hg,hs,hn,hd,hz,q⟩:=h
  refine ⟨_,s!"{BW T}{hr.mono (by omega)}{T.need.m}{T.need.F.kp}{T.need.b}{BT (c := .type "tuple")}{T.z_isinstance}{boot_isinstance}0B{.ty "tuple"}{T.z_tuple}{boot_tuple}bCAAP{GM}{AS}{T.z_len}{PySem.boot_len}0BCAPD{AW _}YjnICAAHR2{BP.nd}{Or.inl rfl}{DF}0BDMJ{BW T}{hr.mono (by omega)}{T.need.m}{T.need.F.kp}{T.need.b}{BT (c := .type "str")}{T.z_isinstance}{boot_isinstance}2B{.ty "str"}{T.z_str}{boot_str}bCAAP{iX (K := K) (w := w) rfl rfl T.x_SHAPES T.r_SHAPES (by decide +kernel) T.nz_SHAPES}2B{T.g_SHAPES}{T.r_SHAPES}a{by with_unfolding_all rfl}YjnICAAHR3{BP.nd}{Or.inl rfl}{fO (K := K) (w := w) rfl rfl T.x_SHAPES T.r_SHAPES (by decide +kernel) s!"{T.g_SHAPES}{T.r_SHAPES}a" s!"2B" (fun _ _ => rfl)}J{BW T}{hr.mono (by omega)}{T.need.m}{T.need.F.kp}{T.need.b}{BS}{AS}{T.z_len}{PySem.boot_len}0BCAP{BO}D{AS}{T.z_len}{PySem.boot_len}3BCAPE{AW _}YICAAHR{BS}2BIN{SR T}{hr.mono (by omega)}{T.checkdo.m}{T.checkdo.F.kp}{T.checkdo.b}{DF}0BDM{DF}0BDM1BCAAAHRDKGFSQ4{BP.nd}{Or.inl rfl}DJ{VI (by rfl) T.z_zip s!"3B0BDyzxCAA"}5{BP.nd}L6{BP.nd}LiUUr{BS}5BIN{GZ T}{hr.mono (by omega)}{T.checkamount.m}{T.checkamount.F.kp}{T.checkamount.b}6B1BCAAHRG{BS}5BIN{BW T}{hr.mono (by omega)}{T.need.m}{T.need.F.kp}{T.need.b}{FC T}{hr.mono (by omega)}{T.isintwithin.m}{T.isintwithin.F.kp}{T.isintwithin.b}6BD{T.g_MOST_MARK}{T.r_MOST_MARK}aCAAAHICAAHRG4{BP.nd}{ih}{hr.mono (by omega)}{T.checkbody.m}{T.checkbody.F.kp}{T.checkbody.b}6B{@UQ _ _ _ _ _ _ _ _ _ _ _ _ _ _ _ _ _ _ _ _ s!"1B" T.cl_Setting T.Setting_within.mt (JB T) (hr.mono (by omega)) T.Setting_within.b .nil AL s!"2BCA" (by rfl) (by rfl) (by rfl)}CAAHwGQGQGZ4BKGFFFFFFFF",?_⟩
  walk_at "ro"
  obtain ⟨k,kn,ds,eD,lk,lkd,ld4,wh⟩:=gX s1 hs hn hd hz
  rw [eD] at rv
  obtain ⟨ps,xs,rfl,hps,rls⟩:=BL.mp rv
  rw [RpL] at rls
  obtain ⟨y0,ys,rfl,r0,rl⟩:=rls
  cases FV r0
  have lys:ys.length=ds.length:=rl.length
  refine ⟨rfl,⟨_,rfl⟩,_,.inr ⟨ps,rfl,⟨_,hps⟩,rfl⟩,true,CU,?_⟩
  rw [if_pos rfl]
  refine ⟨_,.inr hps,?_⟩
  rw [decide_eq_true (by rw [List.length_cons];omega)]
  refine ⟨_,rfl,?_⟩
  refine ⟨_,hps,.str k,at0,rfl,⟨_,rfl⟩,_,.inl (.str k),true,FI,?_⟩
  rw [if_pos rfl]
  refine ⟨k,rfl,by rw [lk];rfl,_,rfl,k,rfl,_,lk,fun v2 r2=> ?_⟩
  obtain ⟨pk,xk,rfl,hpk,rlk⟩:=BL.mp r2
  have lxk:xk.length=ds.length:=by rw [rlk.length,List.length_map,lkd]
  dsimp only
  refine ⟨_,.inr hps,_,.inr hpk,?_⟩
  rw [decide_eq_true (by rw [List.length_cons];omega)]
  refine ⟨_,rfl,?_⟩
  walk_at "ro"
  rcases wh with ⟨rfl,x,as,rfl⟩ | ⟨nk,l,rfl,rfl,zl,pl⟩
  ·rw [if_pos rfl]
   rw [Stm.D] at eD
   injection eD with eD
   injection eD with _ eD
   subst eD
   rw [RpL] at rl
   obtain ⟨y1,r1,rfl,a1,rl⟩:=rl
   rw [RpL] at rl
   obtain ⟨y2,r2,rfl,a2,rl⟩:=rl
   cases FV a1
   rw [Stm.G] at hs
   refine ⟨_,hps,_,BN (j:=1) rfl,_,hps,_,BN (j:=2) rfl,y2,x,as,g,ks,rfl,a2,hg,hs.1,hs.2,fun H' s'=> ?_⟩
   have:=q H' s'
   rw [Stm.sz] at this
   exact this
  ·rw [if_neg nk]
   refine ⟨_,hps,fun p H' s' hp'=>⟨⟨_,s'.tup hpk⟩,⟨_,hp'⟩,?_⟩⟩
   have ec:ID (V.str k::ys) (some 1) none=ys:=RL 1
   rw [ec] at hp'
   have lxl:xk.length=l.length:=by rw [lxk,List.length_map]
   have lyl:ys.length=l.length:=by rw [lys,List.length_map]
   have lmn:min xk.length ys.length=l.length:=by rw [lxl,lyl,Nat.min_self]
   have eM:t.v_MOST_MARK= .int 9:=by have:=T.k_MOST_MARK H;rw [HF,Rp] at this;exact this
   refine cP (xs:=xk) (ys:=ys) (kZ ps g.p pk k l H') ⟨none,none,rfl,AI.refl H'⟩ (fun i σ H2 _ z=> ?_) ?_ ?_
   ·obtain ⟨_,_,rfl,s2⟩:=z
    exact ⟨s2.tup (s'.tup hpk),s2.tup hp'⟩
   ·rintro i c x y σ H2 hx hy ⟨o5,o6,rfl,s2⟩ hc
    have hi:i<l.length:=by have:=(List.getElem?_eq_some_iff.mp hx).1;omega
    obtain ⟨z,ez⟩:∃ z,l[i]? =some z:=⟨_,List.getElem?_eq_getElem hi⟩
    have ex:x= .str z.1:=by
     obtain ⟨v,e,r⟩:=rlk.at (j:=i) (by rw [List.length_map,List.length_map];exact hi)
     rw [hx] at e;cases e
     rw [List.getD_eq_getElem?_getD,List.getElem?_map,List.getElem?_map,ez] at r
     exact FV r
    have ry:Rp K H z.2.1 y:=by
     obtain ⟨v,e,r⟩:=rl.at (j:=i) (by rw [List.length_map];exact hi)
     rw [hy] at e;cases e
     rw [List.getD_eq_getElem?_getD,List.getElem?_map,ez] at r
     exact r
    subst ex
    have zn:=dZ ez
    have u2:=AI.upd (o:= .tup [.str z.1,y]) hc
    have s02:=(s'.trans s2).trans u2
    walk_at "ro"
    refine ⟨_,SqT.of AF,rfl,?_⟩
    dsimp only
    have pz:=pl z (List.mem_of_getElem? ez)
    have hg2:=hg.same s02
    have s22:=s2.trans u2
    generalize upd H2 c (HO.tup [V.str z.1,y])=G at *
    rcases pz with ⟨e1,e2,a,e3,ha⟩ | ⟨e1,e2,i1,e3,hi0,hi9⟩ | ⟨e1,b,e2,e3,hb,hbn,hbd,hbz⟩
    ·rw [e1,if_pos rfl]
     rw [e3] at ry
     refine ⟨y,a,g,ks,rfl,ry.same s02,hg2,ha,fun H3 s3=>⟨some (.str "amount"),some y,by rw [zn,e2,Nat.add_zero],s22.trans s3⟩⟩
    ·rw [e1,if_neg (by decide+kernel),if_pos rfl,eM]
     rw [e3,Rp] at ry
     subst ry
     refine ⟨i1,0,9,rfl,⟨hi0,hi9⟩,_,rfl,some (.str "number"),some (.int i1),by rw [zn,e2,Nat.add_zero],s22⟩
    ·rw [e1,if_neg (by decide+kernel),if_neg (by decide+kernel)]
     rw [e3] at ry
     obtain ⟨dx,hgp⟩:=hg2.o
     refine ⟨dx,_,hgp,rfl,g,ks,k,rfl,hg2,fun p3 H3 s3 hg3=> ?_⟩
     refine ⟨y,b,⟨p3,g.d,g.many,g.ct || decide (k="again"),g.dp+1⟩,ks,rfl,(ry.same s02).same s3,hg3,hb,hbn,hbd,hbz,fun H4 s4=>⟨_,rfl,some (.str "body"),some y,by rw [zn,e2];rfl,s22.trans (s3.trans s4)⟩⟩
   ·rintro σ H2 ⟨o5,o6,rfl,s2⟩
    walk_at "ro"
    rw [lmn,List.take_length]
    have:=q H2 (s'.trans s2)
    rw [show (s1.sz:Int) - 1=(zP l:Int) by omega] at this
    exact this
theorem NQ (T:Txt w K mg t) (n:Nat) (ih:IhC P w K mg base t n):IhC P w K mg base t (n+1):=by
 refine (show BY P w K mg base CX0 (3 * n+8) t.a_checkbody t.d_checkbody ["body","setting"] (KH K t.c_Setting (n+1)) from ?_)
 refine T.checkbody.F.ok EO (fun vs H Q E h=> ?_) (fun cdv A outer s H vs Q E hr h=> ?_)
 ·obtain ⟨v,b,g,ks,rfl,_⟩:=h;rfl
 ·obtain ⟨v,b,g,ks,rfl,rv,hg,hs,hn,hd,hz,q⟩:=h
  refine ⟨_,s!"{BW T}{hr.mono (by omega)}{T.need.m}{T.need.F.kp}{T.need.b}{BT (c := .type "tuple")}{T.z_isinstance}{boot_isinstance}0B{.ty "tuple"}{T.z_tuple}{boot_tuple}bCAAPICAAHR{BW T}{hr.mono (by omega)}{T.need.m}{T.need.F.kp}{T.need.b}{HG}1Bk{T.g_MOST_DEPTH}{T.r_MOST_DEPTH}a{AW _}YICAAHR2{EO.nd}{Or.inl rfl}DJ0Bs3{EO.nd}L2{EO.nd}{BO}D{IY T n ih}{hr.mono (by omega)}{T.checkstatement.m}{T.checkstatement.F.kp}{T.checkstatement.b}3B1BCAAHEw{BW T}{hr.mono (by omega)}{T.need.m}{T.need.F.kp}{T.need.b}{HG}2B{T.g_MOST_SIZE}{T.r_MOST_SIZE}a{AW _}YICAAHRGFZ2BKGFFFF",?_⟩
  walk_at "ro"
  obtain ⟨pb,xb,rfl,hpb,rlb,lxb⟩:=LJ rv
  have eD:t.v_MOST_DEPTH= .int 6:=by have:=T.k_MOST_DEPTH H;rw [GJ,Rp] at this;exact this
  have eS:t.v_MOST_SIZE= .int 4000:=by have:=T.k_MOST_SIZE H;rw [FN,Rp] at this;exact this
  refine ⟨rfl,⟨_,rfl⟩,_,.inr ⟨pb,rfl,⟨_,hpb⟩,rfl⟩,true,CU,_,rfl,?_⟩
  obtain ⟨dx,hgp⟩:=hg.o
  refine ⟨_,_,_,hgp,T.cl_Setting,T.n_Setting_depth,_,rfl,?_⟩
  rw [eD]
  dsimp only
  rw [decide_eq_true (show (g.dp:Int)≤6 by omega)]
  refine ⟨_,rfl,⟨_,hpb⟩,?_⟩
  refine LZ (xs:=xb) (kW pb g.p b H) ⟨none,rfl,AI.refl H⟩ (fun i σ H2 _ z=>by obtain ⟨_,rfl,s2⟩:=z;exact s2.tup hpb) ?_ ?_
  ·rintro i y σ H2 hy ⟨o,rfl,s2⟩
   obtain ⟨s1,es,rys⟩:=kY rlb hy
   have d1:=PR es
   have z1:=bT es
   have z2:=IV b (i+1)
   walk_at "ro"
   refine ⟨y,s1,g,ks,rfl,rys.same s2,hg.same s2,aX hs es,by omega,by omega,by omega,fun H' s'=> ?_⟩
   walk_at "ro"
   rw [eS]
   dsimp only
   have e1:(Stm.szs (b.take i):Int)+(1+((s1.sz:Int) - 1))=(Stm.szs (b.take (i+1)):Int):=by rw [z1];omega
   rw [e1,decide_eq_true (show (Stm.szs (b.take (i+1)):Int)≤4000 by omega)]
   exact ⟨_,rfl,_,rfl,s2.trans s'⟩
  ·rintro σ H2 ⟨o,rfl,s2⟩
   walk_at "ro"
   rw [lxb,List.take_length]
   exact q _ s2
theorem NS:IhC P w K mg base t 0:=⟨fun vs H Q E h=>by obtain ⟨_,_,_,_,_,_,_,_,h,_⟩:=h;omega,fun A outer s H args us vs Q E _ _ _ _ h=>by obtain ⟨_,_,_,_,_,_,_,_,h,_⟩:=h;omega⟩
theorem IG (T:Txt w K mg t):∀ n,IhC P w K mg base t n
 | 0=>NS
 | n+1=>NQ T n (IG T n)
theorem JC (T:Txt w K mg t):BY P w K mg base CX0 26 t.a_checkbody t.d_checkbody ["body","setting"] (KH K t.c_Setting 7):=IG T 7
end
def MZ (x:Str):Prop:=1≤x.length∧x.length≤8∧∀ c∈x.cps.toList,97≤c∧c≤122
theorem iH {x:Str} {g:TG} {tt:TT} {te:TE} {p:Addr} {Q:VK} {σ:L2.St} {H:Hp} (Pv:Nat→L2.St→Hp→Prop) (h0:Pv 0 σ H)
  (hs:∀ i c σ H,x.cps[i]? =some c→Pv i σ H→g (.str ⟨#[c]⟩) σ H fun σ2 H2=>tt σ2 H2 fun b H3=>if b=true then te σ2 H3 fun y H4=>∃ ys,H4 p=some (.lst ys)∧ys.length<sizeLine∧Nx x.cps.size i (Pv (i+1) σ2 (upd H4 p (.lst (ys++[y])))) else Nx x.cps.size i (Pv (i+1) σ2 H3))
  (hd:∀ σ H,Pv x.cps.size σ H→Q (.ref p) H):CW (Its x) g tt te p Q σ H:=by
 refine ⟨fun i m σ H=>m=x.cps.size - i∧i≤x.cps.size∧Pv i σ H,⟨_,rfl,Nat.zero_le _,h0⟩,?_⟩
 rintro i m σ H ⟨rfl,hi,q⟩
 by_cases hlt:i<x.cps.size
 ·refine .inr ⟨hlt,fun v H' z=> ?_⟩
  obtain ⟨rfl,c,hc,rfl⟩:=z
  exact hs i c σ H' hc q
 ·have e:i=x.cps.size:=by omega
  exact .inl ⟨Nat.le_of_not_lt hlt,hd σ H (e ▸ q)⟩
def kB (p:Addr) (H:Hp) (i:Nat) (σ:L2.St) (H2:Hp):Prop:=∃ (o:Option V),σ=[o]∧AI H H2∧H2 p=some (.lst (List.replicate i (.bl true)))
section
variable {P:Program} {w:World} {K:PySem.W.Frag} {mg:Str→Option Value} {base:Heap} {t:Adr}
def WK:Sp:=fun vs H Q _=>∃ (x:Str),vs=[.str x]∧MZ x∧∀ H',AI H H'→Q (.bl true) H'
theorem WO (T:Txt w K mg t):BY P w K mg base CX0 1 t.a_isname t.d_isname ["thing"] WK:=by
 refine T.isname.F.ok XM (fun vs H Q E h=> ?_) (fun cdv A outer s H vs Q E hr h=> ?_)
 ·obtain ⟨x,rfl,_⟩:=h;rfl
 ·obtain ⟨x,rfl,hx,q⟩:=h
  have x1:1≤x.length:=hx.1
  have x8:x.length≤8:=hx.2.1
  have eL:t.v_MOST_LETTERS= .int 8:=by have:=T.k_MOST_LETTERS H;rw [FB,Rp] at this;exact this
  refine ⟨_,s!"{@PW.pt _ _ _ s!"{BT (c:= .type "str")}{T.z_isinstance}{boot_isinstance}0B{.ty "str"}{T.z_str}{boot_str}bCAAPqt{@bR _ _ _ _ _ _ _ _ _ _ _ _ HG HG s!"D" s!"{UG}{T.z_len}{PySem.boot_len}0BCAP" s!"{T.g_MOST_LETTERS}{T.r_MOST_LETTERS}a" (by with_unfolding_all rfl)}t&!"}dKGSQ{XU rfl}{T.z_all}{boot_all}{AE FE}{["thing"]}{["letter"]}{["letter"]}{[]}{iC s!"0B"}{fun _ _ _ _ => s!"0{show List.Nodup (["letter"]:List Str) by decide+kernel}L"}{fun _ _ _ _ => s!"h"}{fun _ _ _ _ => (@RD _ _ _ _ _ _ _ _ _ _ _ _ aC aC s!"I" s!"0B" s!"I" (by with_unfolding_all rfl))}mCAPKGF",?_⟩
  walk_at "ro"
  refine ⟨rfl,⟨_,rfl⟩,_,.str x,true,FI,?_⟩
  rw [if_neg (by decide)]
  refine ⟨Nat.le_of_lt (CV (by omega)),?_⟩
  rw [if_pos (by omega),eL]
  dsimp only
  rw [if_neg (by omega)]
  refine ⟨?_,fun p hp=> ?_⟩
  ·rw [Array.all_eq_true']
   intro c hc
   have:=hx.2.2 c (by simpa using hc)
   exact decide_eq_true (by omega)
  have u0:=AI.upd (o:= .lst []) hp
  refine iH (kB p H) ⟨none,rfl,u0,AF⟩ ?_ ?_
  ·rintro i c σ H2 hc ⟨o,rfl,s2,h2⟩
   have hi:i<x.cps.size:=(Array.getElem?_eq_some_iff.mp hc).1
   have hi8:x.cps.size≤8:=hx.2.1
   have bc:=hx.2.2 c (by rw [Array.mem_toList_iff];exact Array.mem_of_getElem? hc)
   have ea:(Str.ofString "a").cps.toList=[97]:=by decide+kernel
   have ez:(Str.ofString "z").cps.toList=[122]:=by decide+kernel
   have n1:¬ [c]<[97]:=by
    intro h
    rcases List.cons_lt_cons_iff.mp h with h | ⟨_,h⟩
    ·omega
    ·exact List.not_lt_nil _ h
   have n2:¬ [122]<[c]:=by
    intro h
    rcases List.cons_lt_cons_iff.mp h with h | ⟨_,h⟩
    ·omega
    ·exact List.not_lt_nil _ h
   walk_at "ro"
   rw [ea,ez,if_pos n1,decide_eq_false n2]
   refine ⟨_,h2,CV (by rw [List.length_replicate];omega),nx hi ⟨_,rfl,s2.upd2 hp,?_⟩⟩
   rw [AF,List.replicate_succ']
   rfl
  ·rintro σ H2 ⟨o,rfl,s2,h2⟩
   dsimp only
   refine ⟨List.replicate x.cps.size true,?_,?_⟩
   ·rw [List.map_replicate];exact SqL.of h2
   ·have e:(List.replicate x.cps.size true).all id=true:=by simp
    rw [e]
    exact q _ s2
def XF (K:PySem.W.Frag) (n:Nat):Sp:=fun vs H Q _=>∃ (v:V) (z:Wd) (d:Addr) (kvs:List (Key×V)) (ks:List (Str×Nat)),vs=[v,.ref d]∧Rp K H z.D v∧H d=some (.dK kvs)∧As .inr (fun (i:Nat) v=>v=V.int i) ks kvs∧MZ z.name∧lkA ks z.name=none∧(0≤z.many∧z.many≤4)∧Stm.Gs ks z.many.toNat false z.body∧Stm.dps z.body≤6∧Stm.szs z.body≤4000∧∀ H',AI H H'→Q (.int (Stm.szs z.body)) H'
theorem PZ (T:Txt w K mg t):BY P w K mg base CX0 27 t.a_checkword t.d_checkword ["word","known"] (XF K 7):=by
 refine T.checkword.F.ok EN (fun vs H Q E h=> ?_) (fun cdv A outer s H vs Q E hr h=> ?_)
 ·obtain ⟨v,z,d,kvs,ks,rfl,_⟩:=h;rfl
 ·obtain ⟨v,z,d,kvs,ks,rfl,rv,hd,rk,hnm,hno,hm,hG,hdp,hz,q⟩:=h
  rw [Wd.D] at rv
  obtain ⟨p,xs,rfl,hp,rl⟩:=BL.mp rv
  obtain ⟨y0,y1,y2,rfl,r0,r1,r2⟩:=YF rl
  cases FV r0
  have r1:y1= .int z.many:=by rw [Rp] at r1;exact r1
  subst r1
  refine ⟨_,s!"{BW T}{hr.mono (by decide)}{T.need.m}{T.need.F.kp}{T.need.b}{GP T}{hr.mono (by decide)}{T.istupleof.m}{T.istupleof.F.kp}{T.istupleof.b}0BDCAAHICAAHR0B2{EN.nd}L3{EN.nd}L4{EN.nd}LiUUUrv{BW T}{hr.mono (by decide)}{T.need.m}{T.need.F.kp}{T.need.b}{WO T}{hr.mono (by decide)}{T.isname.m}{T.isname.F.kp}{T.isname.b}2BCAHICAAHR{BW T}{hr.mono (by decide)}{T.need.m}{T.need.F.kp}{T.need.b}{XX (VF hr)}2B1B{by with_unfolding_all rfl}YICAAHR{BW T}{hr.mono (by decide)}{T.need.m}{T.need.F.kp}{T.need.b}{FC T}{hr.mono (by decide)}{T.isintwithin.m}{T.isintwithin.F.kp}{T.isintwithin.b}3BD{AS}{T.z_len}{PySem.boot_len}{T.g_NUMBERS}{T.r_NUMBERS}aCAPCAAAHICAAHR{JC T}{hr.mono (by decide)}{T.checkbody.m}{T.checkbody.F.kp}{T.checkbody.b}4B{T.Setting_init.mki}{EK T}{hr.mono (by decide)}{T.mg_Setting}{T.Setting_init.b}1B3BdDCAAAA(CAAHKGFFFFF",?_⟩
  walk_at "ro"
  obtain ⟨pn,xn,en,hn,rn⟩:=BL.mp (show Rp K H (.tup [.str "n0",.str "n1",.str "n2",.str "n3"]) t.v_NUMBERS from T.k_NUMBERS H)
  have ln:xn.length=4:=rn.length
  obtain ⟨mn,emn⟩:∃ mn:Nat,z.many=mn:=⟨z.many.toNat,by omega⟩
  refine ⟨p,_,_,rfl,hp,?_⟩
  refine ⟨_,rfl,_,hp,rfl,?_⟩
  refine ⟨_,rfl,hnm,fun H1 s1=>⟨_,rfl,kvs,.inl (s1 _ _ hd),.inr z.name,rfl,?_⟩⟩
  rw [(As.get PY (k:=z.name) rk).1 hno]
  refine ⟨_,rfl,?_⟩
  rw [en]
  dsimp only
  refine ⟨_,.inr (s1.tup hn),?_⟩
  refine ⟨z.many,0,_,rfl,⟨hm.1,by rw [ln];exact hm.2⟩,_,rfl,fun x dx hx hdx nx=> ?_⟩
  rw [emn]
  refine ⟨x,dx,d,mn,false,0,rfl,AF,fun H2 e2=>⟨rfl,?_⟩⟩
  obtain ⟨s2,h2⟩:=TD hx hdx nx e2
  have hmn:z.many.toNat=mn:=by rw [emn];rfl
  refine ⟨y2,z.body,⟨x,d,mn,false,0⟩,ks,rfl,(r2.same s1).same s2,⟨⟨dx,h2⟩,⟨kvs,s2 _ _ (s1 _ _ hd),rk⟩,by show mn≤4;omega⟩,hmn ▸ hG,by omega,by show 0+_≤6;omega,hz,fun H3 s3=>q _ ((s1.trans s2).trans s3)⟩
def kn:List Wd→List (Str×Nat):=List.foldl (fun l z=>ptA l z.name z.many.toNat) []
theorem eT {ws:List Wd} {i:Nat} {z:Wd} (h:ws[i]? =some z):kn (ws.take (i+1))=ptA (kn (ws.take i)) z.name z.many.toNat:=by
 unfold kn
 rw [List.take_add_one,h,List.foldl_append]
 rfl
theorem gO:∀ (ws:List Wd) {n:Nat},ws.length≤n→(kn ws).length≤n:=by
 have h:∀ (ws:List Wd) (l:List (Str×Nat)),(ws.foldl (fun l z=>ptA l z.name z.many.toNat) l).length≤l.length+ws.length:=by
  intro ws
  induction ws with
  | nil=>intro l;exact Nat.le_refl _
  | cons z ws ih=>
   intro l
   refine Nat.le_trans (ih _) ?_
   have:(ptA l z.name z.many.toNat).length≤l.length+1:=by
    unfold ptA
    split
    ·rw [List.length_map];omega
    ·rw [List.length_append];exact Nat.le_refl _
   rw [List.length_cons];show (ptA l z.name z.many.toNat).length+_≤_;omega
 intro ws n hn
 have:=h ws []
 rw [List.length_nil] at this
 unfold kn
 omega
theorem bI {ws:List Wd} {i:Nat} {z:Wd} (h:ws[i]? =some z):wsz (ws.take (i+1))=wsz (ws.take i)+Stm.szs z.body:=by
 rw [List.take_add_one,h]
 exact UU _ _
theorem bV (ws:List Wd):∀ i,wsz (ws.take i)≤wsz ws:=fun i=>by
 conv=>rhs;rw [← List.take_append_drop i ws]
 unfold wsz
 rw [List.map_append,List.sum_append]
 omega
structure NN (ws:List Wd) (body:List Stm):Prop where
 l6:ws.length≤6
 w:∀ (i:Nat) (z:Wd),ws[i]? =some z→MZ z.name∧lkA (kn (ws.take i)) z.name=none∧(0≤z.many∧z.many≤4)∧Stm.Gs (kn (ws.take i)) z.many.toNat false z.body∧Stm.dps z.body≤6
 b:Stm.Gs (kn ws) 0 false body
 d:Stm.dps body≤6
 z:wsz ws+Stm.szs body≤4000
def lG (p pw:Addr) (vb:V) (pd:Addr) (ws:List Wd) (H:Hp) (i:Nat) (σ:L2.St) (H2:Hp):Prop:=∃ (o:Option V) (kvs:List (Key×V)),σ=[some (.ref p),some (.ref pw),some vb,some (.ref pd),some (.int (wsz (ws.take i))),o]∧AI H H2∧H2 pd=some (.dK kvs)∧As .inr (fun (i:Nat) v=>v=V.int i) (kn (ws.take i)) kvs∧kvs.length≤i
def cM (K:PySem.W.Frag):Sp:=fun vs H Q _=>∃ (v:V) (ws:List Wd) (body:List Stm),vs=[v]∧Rp K H (pD ws body) v∧NN ws body∧∀ H',AI H H'→Q (.bl true) H'
theorem RA (T:Txt w K mg t):BY P w K mg base CX0 28 t.a_check t.d_check ["thing"] (cM K):=by
 refine T.check.F.ok EI (fun vs H Q E h=> ?_) (fun cdv A outer s H vs Q E hr h=> ?_)
 ·obtain ⟨v,ws,body,rfl,_⟩:=h;rfl
 ·obtain ⟨v,ws,body,rfl,rv,ok,q⟩:=h
  obtain ⟨p,va,vb,rfl,hp,ra,rb⟩:=JO.mp rv
  obtain ⟨pw,xw,rfl,hw,rlw⟩:=BL.mp ra
  have lxw:xw.length=ws.length:=by rw [rlw.length,List.length_map]
  have eW:t.v_MOST_WORDS= .int 6:=by have:=T.k_MOST_WORDS H;rw [GK,Rp] at this;exact this
  have eS:t.v_MOST_SIZE= .int 4000:=by have:=T.k_MOST_SIZE H;rw [FN,Rp] at this;exact this
  have o6:=ok.l6
  refine ⟨_,s!"{BW T}{hr.mono (by decide)}{T.need.m}{T.need.F.kp}{T.need.b}{GP T}{hr.mono (by decide)}{T.istupleof.m}{T.istupleof.F.kp}{T.istupleof.b}0BDCAAHICAAHR0B1{EI.nd}L2{EI.nd}LiUUrv{BW T}{hr.mono (by decide)}{T.need.m}{T.need.F.kp}{T.need.b}{BT (c := .type "tuple")}{T.z_isinstance}{boot_isinstance}1B{.ty "tuple"}{T.z_tuple}{boot_tuple}bCAAP{HG}{AS}{T.z_len}{PySem.boot_len}1BCAP{T.g_MOST_WORDS}{T.r_MOST_WORDS}a{AW _}YjnICAAHR3{EI.nd}{Or.inl rfl}{@bX _ _}J4{EI.nd}{Or.inl rfl}DJ1Bs5{EI.nd}L4{EI.nd}{PZ T}{hr.mono (by decide)}{T.checkword.m}{T.checkword.F.kp}{T.checkword.b}5B3BCAAHw{dJ (VF hr) s!"3B" s!"{DF}5BDM" s!"{DF}5BDM"}GFZ4{EI.nd}{JC T}{hr.mono (by decide)}{T.checkbody.m}{T.checkbody.F.kp}{T.checkbody.b}2B{T.Setting_init.mki}{EK T}{hr.mono (by decide)}{T.mg_Setting}{T.Setting_init.b}3BDdDCAAAA(CAAHw{BW T}{hr.mono (by decide)}{T.need.m}{T.need.F.kp}{T.need.b}{HG}4B{T.g_MOST_SIZE}{T.r_MOST_SIZE}a{AW _}YICAAHRdKGFFFFFFFF",?_⟩
  walk_at "ro"
  refine ⟨p,_,_,rfl,hp,?_⟩
  refine ⟨_,rfl,_,hp,rfl,?_⟩
  try dsimp only
  refine ⟨rfl,⟨_,rfl⟩,_,.inr ⟨pw,rfl,⟨_,hw⟩,rfl⟩,true,CU,?_⟩
  rw [if_pos rfl]
  try dsimp only
  refine ⟨_,.inr hw,?_⟩
  rw [eW]
  try dsimp only
  rw [decide_eq_true (show (xw.length:Int)≤6 by omega)]
  refine ⟨_,rfl,fun pd hpd=> ?_⟩
  have u0:=AI.upd (o:= .dK []) hpd
  refine ⟨⟨_,u0.tup hw⟩,?_⟩
  refine LZ (xs:=xw) (lG p pw vb pd ws H) ⟨none,[],rfl,u0,AF,.nil,Nat.le_refl _⟩ (fun i σ H2 _ z=>by obtain ⟨_,_,rfl,s2,_⟩:=z;exact s2.tup hw) ?_ ?_
  ·rintro i y σ H2 hy ⟨o,kvs,rfl,s2,h2,rk,lk⟩
   obtain ⟨z,pz,vz,ez,rfl,hz,rz⟩:=OO rlw hy
   obtain ⟨w1,w2,w3,w4,w5⟩:=ok.w i z ez
   have zn:=bI ez
   have zt:=bV ws (i+1)
   have oz:=ok.z
   have hi:i<6:=by have:=(List.getElem?_eq_some_iff.mp ez).1;omega
   have rvz:Rp K H z.D (.ref pz):=by
    rw [Wd.D]
    exact BL.mpr ⟨pz,_,rfl,hz,BC (by rw [Rp]) (BC (by rw [Rp]) (RpL.one rz))⟩
   walk_at "ro"
   refine ⟨.ref pz,z,pd,kvs,kn (ws.take i),rfl,rvz.same s2,h2,rk,w1,w2,w3,w4,w5,by omega,fun H3 s3=> ?_⟩
   walk_at "ro"
   have s23:=s2.trans s3
   have lk2:=lk
   obtain ⟨mn,emn⟩:∃ mn:Nat,z.many=mn:=⟨z.many.toNat,by omega⟩
   have hmn:z.many.toNat=mn:=by rw [emn];rfl
   refine ⟨_,s23.tup hz,.int z.many,BN (j:=1) rfl,_,s23.tup hz,.str z.name,at0,kvs,s3 _ _ h2,.inr z.name,rfl,CV (by omega),?_⟩
   have rk':=As.put PY rk (k:=z.name) (x:=mn) (v:= .int z.many) (by rw [emn])
   rw [← hmn,← eT ez] at rk'
   refine ⟨some (.ref pz),_,by rw [zn];rfl,s23.upd2 hpd,AF,rk',?_⟩
   rw [← rk'.length]
   exact gO _ (by rw [List.length_take];omega)
  ·rintro σ H2 ⟨o,kvs,rfl,s2,h2,rk,lk⟩
   rw [lxw,List.take_length] at *
   walk_at "ro"
   intro x dx hx hdx nx
   refine ⟨x,dx,pd,0,false,0,rfl,AF,fun H3 e3=>⟨rfl,?_⟩⟩
   obtain ⟨s3,h3⟩:=TD hx hdx nx e3
   have oz:=ok.z
   refine ⟨vb,body,⟨x,pd,0,false,0⟩,kn ws,rfl,(rb.same s2).same s3,⟨⟨dx,h3⟩,⟨kvs,s3 _ _ h2,rk⟩,Nat.zero_le _⟩,ok.b,Nat.lt_succ_of_le ok.d,by show 0+_≤6;have:=ok.d;omega,by omega,fun H4 s4=>⟨_,rfl,?_⟩⟩
   rw [eS]
   dsimp only
   rw [decide_eq_true (show (wsz ws:Int)+(Stm.szs body:Int)≤4000 by omega)]
   exact ⟨_,rfl,q _ ((s2.trans s3).trans s4)⟩
end
theorem JZ {D:Str→Prop} {c:Bool} {m:Nat} (hD:∀ x,D x→Sc c m x):∀ {a:Am},a.sm→JQ D a→AmG (Sc c m) a
 | .int i,h,_=>by
  rw [Am.sm] at h
  exact ⟨by omega,by omega⟩
 | .src f s i,h,o=>by
  rw [Am.sm] at h
  exact ⟨⟨by omega,by omega⟩,⟨by omega,by omega⟩,hD _ o.2⟩
theorem dX {c:Bool} {m:Nat} {x:Str} (h:Sc c m x):Sc true m x:=by
 rcases h with ⟨_,h⟩ | h
 ·exact .inl ⟨rfl,h⟩
 ·exact .inr h
mutual
theorem G_of {ar:Str→Option Nat} {ks:List (Str×Nat)} {m:Nat} (har:∀ x n,ar x=some n→lkA ks x=some n):∀ {D:Str→Prop} {c:Bool} (_:∀ x,D x→Sc c m x) (s:Stm),s.sm→s.Ok ar D→s.G ks m c
 | _,_,hD,.go a,h,o=>by rw [Stm.sm] at h;rw [Stm.Ok] at o;rw [Stm.G];exact JZ hD h o
 | _,_,hD,.turn a,h,o=>by rw [Stm.sm] at h;rw [Stm.Ok] at o;rw [Stm.G];exact JZ hD h o
 | _,_,hD,.ink a,h,o=>by rw [Stm.sm] at h;rw [Stm.Ok] at o;rw [Stm.G];exact JZ hD h o
 | _,_,hD,.up,h,o=>by rw [Stm.G];trivial
 | _,_,hD,.down,h,o=>by rw [Stm.G];trivial
 | _,_,hD,.mark n,h,o=>by rw [Stm.Ok] at o;rw [Stm.G];omega
 | _,_,hD,.back n,h,o=>by rw [Stm.Ok] at o;rw [Stm.G];omega
 | _,_,hD,.again a b,h,o=>by
  rw [Stm.sm] at h;rw [Stm.Ok] at o;rw [Stm.G]
  exact ⟨JZ hD h.1 o.1,Gs_of har (fun x hx=>by rcases hx with hx | hx;exact dX (hD _ hx);exact .inl ⟨rfl,hx⟩) b h.2.1 o.2⟩
 | _,_,hD,.ifs a b c,h,o=>by
  rw [Stm.sm] at h;rw [Stm.Ok] at o;rw [Stm.G]
  exact ⟨JZ hD h.1 o.1,Gs_of har hD b h.2.1.1 o.2.1,Gs_of har hD c h.2.2.1 o.2.2⟩
 | _,_,hD,.dow w as,h,o=>by
  rw [Stm.sm] at h;rw [Stm.Ok] at o;rw [Stm.G]
  exact ⟨fun a ha=>JZ hD (h.1 a ha) (o.1 a ha),har _ _ o.2.2⟩
theorem Gs_of {ar:Str→Option Nat} {ks:List (Str×Nat)} {m:Nat} (har:∀ x n,ar x=some n→lkA ks x=some n):∀ {D:Str→Prop} {c:Bool} (_:∀ x,D x→Sc c m x) (b:List Stm),Stm.sms b→Stm.Oks ar D b→Stm.Gs ks m c b
 | _,_,hD,[],h,o=>by rw [Stm.Gs];trivial
 | _,_,hD,s::r,h,o=>by
  rw [Stm.sms] at h;rw [Stm.Oks] at o;rw [Stm.Gs]
  exact ⟨G_of har hD s h.1 o.1,Gs_of har hD r h.2 o.2⟩
end
theorem iW {l:List (Str×Nat)} {k:Str} {n:Nat} (h:k∉l.map (·.1)):ptA l k n=l++[(k,n)]:=by
 unfold ptA
 rw [if_neg]
 intro e
 obtain ⟨z,hz,hk⟩:=List.any_eq_true.mp e
 exact h (List.mem_map.mpr ⟨z,hz,of_decide_eq_true hk⟩)
theorem VE:∀ (ws:List Wd) (l:List (Str×Nat)),(l.map (·.1)++ws.map (·.name)).Nodup→ws.foldl (fun l z=>ptA l z.name z.many.toNat) l=l++ws.map fun z=>(z.name,z.many.toNat)
 | [],l,_=>by rw [List.map_nil,List.append_nil];rfl
 | z::ws,l,h=>by
  have hn:z.name∉l.map (·.1):=by
   intro hm
   rw [List.map_cons] at h
   have:=(List.nodup_append.mp h).2.2 _ hm _ (List.mem_cons_self ..)
   exact this rfl
  rw [List.foldl_cons,iW hn,VE ws]
  ·rw [List.append_assoc];rfl
  ·rw [List.map_append,List.append_assoc];exact h
theorem aF {ws:List Wd} (h:(ws.map (·.name)).Nodup):kn ws=ws.map fun z=>(z.name,z.many.toNat):=by
 unfold kn;rw [VE ws [] h];rfl
theorem TC {ws:List Wd} (h:(ws.map (·.name)).Nodup) (x:Str) (n:Nat) (e:arW ws x=some n):lkA (kn ws) x=some n:=by
 rw [aF h];exact e
theorem fK:∀ x∈WN,MZ x:=by
 intro x hx
 have h:∀ x∈WN,(1≤x.cps.size∧x.cps.size≤8)∧(x.cps.toList.all fun c=>decide (97≤c) && decide (c≤122))=true:=by decide+kernel
 obtain ⟨⟨a,b⟩,c⟩:=h x hx
 walk_at "b14"
theorem iY.pg {ws:List Wd} {body:List Stm} (h:iY ws body) (hz:wsz ws+Stm.szs body≤500):NN ws body:=by
 have nd:=h.w.nd
 have ndt:∀ i,((ws.take i).map (·.name)).Nodup:=fun i=>by rw [List.map_take];exact nd.sublist (List.take_sublist _ _)
 refine ⟨h.w.l6,fun i z ez=> ?_,Gs_of (TC nd) (fun x hx=>hx.elim) body h.s.1 h.o,by have:=h.s.2;omega,by omega⟩
 have hm:=List.mem_of_getElem? ez
 obtain ⟨a,b,c,d⟩:=h.w.ok z hm
 refine ⟨fK _ ?_,?_,⟨a.m0,a.m4⟩,Gs_of (TC (ndt i)) (fun x hx=>hx) z.body b.1 (h.w.ah i z ez),by have:=b.2;omega⟩
 ·have:z.name∈ws.map (·.name):=List.mem_map.mpr ⟨z,hm,rfl⟩
  rw [h.w.nm] at this
  exact List.mem_of_mem_take this
 ·rw [aF (ndt i)]
  unfold lkA
  rw [Option.map_eq_none_iff,List.find?_eq_none]
  rintro y hy e
  obtain ⟨z',hz',rfl⟩:=List.mem_map.mp hy
  have e:z'.name=z.name:=by simpa using e
  obtain ⟨j,hj,ej⟩:=List.getElem_of_mem hz'
  rw [List.length_take] at hj
  rw [List.getElem_take] at ej
  have hi:=(List.getElem?_eq_some_iff.mp ez).1
  have e2:(ws.map (·.name))[j]'(by rw [List.length_map];omega)=(ws.map (·.name))[i]'(by rw [List.length_map];omega):=by
   rw [List.getElem_map,List.getElem_map,ej,(List.getElem?_eq_some_iff.mp ez).2,e]
  exact List.pairwise_iff_getElem.mp nd j i _ _ (by omega) e2
theorem KD (a:Am):dep a.D≤3:=by
 cases a<;> simp [Am.D,dep,depL]
theorem VH:∀ as:List Am,depL (as.map Am.D)≤3
 | []=>by simp [depL]
 | a::as=>by have:=KD a;have:=VH as;rw [List.map_cons,depL];omega
mutual
theorem gN:∀ s:Stm,dep s.D≤2 * s.dp+6
 | .go a=>by have:=KD a;rw [Stm.D];simp only [dep,depL];omega
 | .turn a=>by have:=KD a;rw [Stm.D];simp only [dep,depL];omega
 | .ink a=>by have:=KD a;rw [Stm.D];simp only [dep,depL];omega
 | .up=>by rw [Stm.D];simp only [dep,depL];omega
 | .down=>by rw [Stm.D];simp only [dep,depL];omega
 | .mark n=>by rw [Stm.D];simp only [dep,depL];omega
 | .back n=>by rw [Stm.D];simp only [dep,depL];omega
 | .again a b=>by have:=KD a;have:=dep_sts b;rw [Stm.D,Stm.dp,CF];simp only [dep,depL];omega
 | .ifs a b c=>by have:=KD a;have:=dep_sts b;have:=dep_sts c;rw [Stm.D,Stm.dp,CF,CF];simp only [dep,depL];omega
 | .dow x as=>by have:=VH as;rw [Stm.D];simp only [dep,depL];omega
theorem dep_sts:∀ b:List Stm,depL (b.map Stm.D)≤2 * Stm.dps b+6
 | []=>by simp [depL]
 | s::r=>by have:=gN s;have:=dep_sts r;rw [List.map_cons,Stm.dps,depL];omega
end
theorem VL:∀ wb:List (List Stm),(∀ b∈wb,Stm.dps b≤6)→depL (wb.map bD)≤60
 | [],_=>by simp [depL]
 | b::wb,h=>by
  have h1:=h b (List.mem_cons_self ..)
  have h2:=VL wb fun c hc=>h c (List.mem_cons_of_mem _ hc)
  have h3:=dep_sts b
  rw [List.map_cons,depL,bD]
  simp only [dep]
  omega
theorem cY {s:Stm} {n:Nat} (h:s.dp≤n):∀ b∈GX s,Stm.dps b≤n:=by
 intro b hb
 cases s with
 | again a b0=>rw [GX,List.mem_singleton] at hb;subst hb;rw [Stm.dp] at h;omega
 | ifs a b0 c0=>
  rw [Stm.dp] at h
  rw [GX] at hb
  rcases List.mem_cons.mp hb with rfl | hb
  ·omega
  ·rw [List.mem_singleton] at hb;subst hb;omega
 | _=>simp [GX] at hb
theorem YM {ds:List L2.D} (h:ds≠[]):deqL ds []=false:=by
 cases ds with
 | nil=>exact absurd rfl h
 | cons d ds=>simp [deqL]
theorem st3 (s:Stm):(∃ a b,s= .again a b)∨(∃ a b c,s= .ifs a b c)∨∃ (k:Str) (ds:List L2.D),s.D= .tup (.str k::ds)∧k≠"again"∧k≠"if"∧GX s=[]:=by
 cases s with
 | again a b=>exact .inl ⟨a,b,rfl⟩
 | ifs a b c=>exact .inr (.inl ⟨a,b,c,rfl⟩)
 | go a=>exact .inr (.inr ⟨"go",_,by rw [Stm.D],by decide+kernel,by decide+kernel,rfl⟩)
 | turn a=>exact .inr (.inr ⟨"turn",_,by rw [Stm.D],by decide+kernel,by decide+kernel,rfl⟩)
 | ink a=>exact .inr (.inr ⟨"ink",_,by rw [Stm.D],by decide+kernel,by decide+kernel,rfl⟩)
 | up=>exact .inr (.inr ⟨"up",_,by rw [Stm.D],by decide+kernel,by decide+kernel,rfl⟩)
 | down=>exact .inr (.inr ⟨"down",_,by rw [Stm.D],by decide+kernel,by decide+kernel,rfl⟩)
 | mark n=>exact .inr (.inr ⟨"mark",_,by rw [Stm.D],by decide+kernel,by decide+kernel,rfl⟩)
 | back n=>exact .inr (.inr ⟨"back",_,by rw [Stm.D],by decide+kernel,by decide+kernel,rfl⟩)
 | dow x as=>exact .inr (.inr ⟨"do",_,by rw [Stm.D],by decide+kernel,by decide+kernel,rfl⟩)
def fQ (K:PySem.W.Frag) (v:V) (tot:Nat) (H:Hp) (m:Nat) (σ:L2.St) (H2:Hp):Prop:=∃ (wb:List (List Stm)) (us:List V) (sz:Nat) (lw:Addr) (o:Option V),σ=[some v,some (.int sz),some (.ref lw),o]∧AI H H2∧H lw=none∧H2 lw=some (.lst us)∧RpL K H2 (wb.map bD) us∧sz+zW wb=tot∧m=mW wb∧m≤20000∧∀ b∈wb,Stm.dps b≤6
def kD (K:PySem.W.Frag) (v:V) (sz:Nat) (DM:List (List Stm)) (b:List Stm) (H H6:Hp) (i:Nat) (σ:L2.St) (H2:Hp):Prop:=∃ (us:List V) (lw:Addr) (o:Option V),σ=[some v,some (.int ((sz+i:Nat):Int)),some (.ref lw),o]∧AI H H2∧BK H6 H2∧H lw=none∧H2 lw=some (.lst us)∧RpL K H2 ((DM++DK (b.take i)).map bD) us
section
variable {P:Program} {w:World} {K:PySem.W.Frag} {mg:Str→Option Value} {base:Heap} {t:Adr}
def dP:Sp:=fun vs H Q _=>∃ v:Int,vs=[.int v]∧Q (.bl true) H
theorem dO (T:Txt w K mg t):BY P w K mg base CX0 1 t.a_Lint t.d_Lint ["_law_found"] dP:=by
 refine T.Lint.F.ok eV (fun vs H Q E h=> ?_) (fun cdv A outer s H vs Q E hr h=> ?_)
 ·obtain ⟨v,rfl,_⟩:=h;rfl
 ·obtain ⟨v,rfl,k⟩:=h
  refine ⟨_,s!"{BT (c := .type "int")}{T.z_isinstance}{boot_isinstance}0B{.ty "int"}{T.z_int}{boot_int}bCAAP{@iQ _ _ _ _ s!"{BT (c:= .type "bool")}{T.z_isinstance}{boot_isinstance}0B{.ty "bool"}{T.z_bool}{boot_bool}bCAAP"}jnKG",?_⟩
  walk_at "ro"
  refine ⟨rfl,⟨_,rfl⟩,_,.int v,_,LA,?_⟩
  walk_at "ro"
  refine ⟨rfl,⟨_,rfl⟩,_,.int v,_,JH,?_⟩
  walk_at "ro"
  exact k
def WD (K:PySem.W.Frag):Sp:=fun vs H Q _=>∃ (v:V) (b:List Stm),vs=[v]∧Rp K H (bD b) v∧Stm.szs b≤4000∧Stm.dps b≤6∧∀ H',AI H H'→Q (.int (Stm.szs b)) H'
theorem OL (T:Txt w K mg t):BY P w K mg base CX0 1 t.a_Lcount t.d_Lcount ["_law_body_here"] (WD K):=by
 refine T.Lcount.F.ok EV (fun vs H Q E h=> ?_) (fun cdv A outer s H vs Q E hr h=> ?_)
 ·obtain ⟨v,b,rfl,_⟩:=h;rfl
 ·obtain ⟨v,b,rfl,rv,hz,hdp,q⟩:=h
  have hu:=hr.units
  refine ⟨_,s!"1{EV.nd}{Or.inl rfl}DJ2{EV.nd}{Or.inl rfl}0BCAXJ{hV hu}2BCXN2B$s3{EV.nd}L1{EV.nd}{Or.inl rfl}{BO}1BDEJ{BS}{DF}3BDMIN{PySem.F.slot_list_append}{PySem.F.type_list_append}{DO}2B{DF}3BDMCAlRGSQ{BS}{DF}3BDMIN2{EV.nd}{Or.inl rfl}{PP}2B{DF}3BDM{DF}3BDMCAAXEJGSQGFFZG%1BKGFFF",?_⟩
  walk_at "ro"
  refine ⟨by decide,fun lw0 hlw0=> ?_⟩
  have u0:=AI.upd (o:= .lst [v]) hlw0
  refine UI (fQ K v (Stm.szs b) H) (m0:=mW [b]) ⟨[b],[v],0,lw0,none,rfl,u0,hlw0,AF,RpL.one (rv.same u0),by unfold zW;simp,rfl,by unfold mW;simp;omega,fun c hc=>by rw [List.mem_singleton] at hc;subst hc;exact hdp⟩ ?_
  rintro m σ H4 ⟨wb,us,sz,lw,o,rfl,s4,hlw,h4,r4,ez,rfl,em,dw⟩
  walk_at "ro"
  refine ⟨Nat.zero_le _,fun pe hpe=> ?_⟩
  have s5:=AI.upd (o:= .lst []) hpe
  have h5:=s5 _ _ h4
  have r5:=r4.same s5
  refine ⟨us,SqL.of h5,[],SqL.of AF,wb.map bD,r5,[],RpL.nil,VL wb dw,?_⟩
  have s5:=s4.trans s5
  clear s4 h4 r4
  generalize upd H4 pe (.lst [])=H5 at h5 r5 s5 ⊢
  have lus:us.length≤20000:=by rw [r5.length,List.length_map];have:=JS wb;omega
  rcases List.eq_nil_or_concat wb with rfl | ⟨DM,b1,rfl⟩
  ·rw [if_neg (by simp [deqL])]
   have:sz=Stm.szs b:=by rw [← ez];rfl
   rw [this]
   exact q H5 s5
  ·rw [List.concat_eq_append] at r5 ez em dw ⊢
   rw [if_pos (YM (by simp))]
   rw [List.map_append] at r5
   obtain ⟨us',y,rfl,r6,ry⟩:=ML r5
   obtain ⟨py,xy,rfl,hy,rxy,lxy⟩:=LJ ry
   rw [KP] at ez
   rw [IQ] at em ⊢
   have zb:zW [b1]=Stm.szs b1:=by unfold zW;simp
   have mb:mW [b1]=1+2 * Stm.szs b1:=by unfold mW;simp
   refine ⟨fun σ' H'=>fQ K v (Stm.szs b) H (mW (DM++DK b1)) σ' H',?_,?_⟩
   ·intro σ' H' h
    refine ⟨_,?_,h⟩
    rw [IQ]
    have:=HY b1
    omega
   refine ⟨.inl ⟨_,SqL.of h5⟩,us'++[.ref py],h5,.ref py,by simp,?_⟩
   rw [List.dropLast_concat]
   have t6:BK H5 (upd H5 lw (.lst us')):=(BK.refl _).upd (DW h5)
   have hy6:=t6.tup hy
   have r6:=RpL.t t6 r6
   have ry6:=RpL.t t6 rxy
   have s6:AI H (upd H5 lw (.lst us')):=s5.upd2 hlw
   have h6:upd H5 lw (.lst us') lw=some (.lst us'):=AF
   generalize upd H5 lw (.lst us')=H6 at hy6 r6 ry6 s6 h6 ⊢
   clear t6 r5 ry rxy hy h5 s5
   dsimp only
   refine ⟨⟨_,hy6⟩,?_⟩
   refine LZ (xs:=xy) (kD K v sz DM b1 H H6) ⟨us',lw,o,rfl,s6,BK.refl _,hlw,h6,by simpa [DK] using r6⟩ (fun i σ H7 _ z=>by obtain ⟨_,_,_,rfl,_,s7,_⟩:=z;exact s7.tup hy6) ?_ ?_
   ·rintro i x σ H7 hx ⟨us,lw,o6,rfl,s7,t7,hlw7,h7,r7⟩
    have hi:=(List.getElem?_eq_some_iff.mp hx).1
    have hb:b1[i]? =some b1[i]:=List.getElem?_eq_getElem (by omega)
    obtain ⟨x',ex,rx⟩:=VD (RpL.t t7 ry6) hb
    rw [hx] at ex;cases ex
    have lu7:us.length≤40000:=by
     rw [r7.length,List.length_map,List.length_append]
     have:=JS DM
     have:=OI (b1.take i)
     have:=IV b1 i
     omega
    have e1:((sz+i:Nat):Int)+1=((sz+(i+1):Nat):Int):=by omega
    have kn1:DK (b1.take (i+1))=DK (b1.take i)++GX b1[i]:=by rw [List.take_add_one,hb,DK,List.flatMap_append];simp [DK]
    walk_at "ro"
    rw [e1]
    generalize b1[i]=s1 at rx kn1
    rcases st3 s1 with ⟨a,b0,rfl⟩ | ⟨a,b0,c0,rfl⟩ | ⟨k,ds,eD,nk1,nk2,kd⟩
    ·rw [Stm.D,CF] at rx
     obtain ⟨px,xs,rfl,hp,rl⟩:=BL.mp rx
     obtain ⟨y0,y1,y2,rfl,r0,r1,r2⟩:=YF rl
     cases FV r0
     dsimp only
     refine ⟨_,hp,_,at0,?_⟩
     dsimp only
     rw [if_pos rfl]
     have t8:BK H7 (upd H7 lw (.lst (us++[y2]))):=(BK.refl _).upd (DW h7)
     refine ⟨.inl ⟨_,SqL.of h7⟩,_,hp,y2,BN (j:=2) rfl,us,h7,CV (by omega),_,t8.tup hp,_,at0,?_⟩
     dsimp only
     rw [if_neg (by decide+kernel)]
     refine ⟨us++[y2],lw,some (.ref px),rfl,s7.upd2 hlw7,t7.trans t8,hlw7,AF,?_⟩
     rw [kn1,← List.append_assoc,List.map_append]
     exact RpL.t t8 (r7.app (RpL.one r2))
    ·rw [Stm.D,CF,CF] at rx
     obtain ⟨px,xs,rfl,hp,rl⟩:=BL.mp rx
     rw [RpL] at rl
     obtain ⟨y0,xs,rfl,r0,rl⟩:=rl
     obtain ⟨y1,y2,y3,rfl,r1,r2,r3⟩:=YF rl
     cases FV r0
     dsimp only
     refine ⟨_,hp,_,at0,?_⟩
     dsimp only
     rw [if_neg (by decide+kernel)]
     refine ⟨_,hp,_,at0,?_⟩
     dsimp only
     rw [if_pos rfl]
     refine ⟨_,hp,y2,BN (j:=2) rfl,_,hp,y3,BN (j:=3) rfl,by decide,fun p8 hp8=> ?_⟩
     have u8:=AI.upd (o:= .lst [y2,y3]) hp8
     refine ⟨us,u8 _ _ h7,[y2,y3],rfl,Nat.le_of_lt (CV (by simp only [List.length_cons,List.length_nil];omega)),fun p9 hp9=> ?_⟩
     have u9:=AI.upd (o:= .lst (us++[y2,y3])) hp9
     have u89:=u8.trans u9
     refine ⟨us++[y2,y3],p9,some (.ref px),rfl,s7.trans u89,t7.trans u89.t,?_,AF,?_⟩
     ·cases h:H p9 with
      | none=>rfl
      | some o=>have:=(s7.trans u8) _ _ h;rw [hp9] at this;cases this
     ·rw [kn1,← List.append_assoc,List.map_append]
      exact (r7.same u89).app (BC (r2.same u89) (RpL.one (r3.same u89)))
    ·rw [eD] at rx
     obtain ⟨px,xs,rfl,hp,rl⟩:=BL.mp rx
     rw [RpL] at rl
     obtain ⟨y0,ys,rfl,r0,rl⟩:=rl
     cases FV r0
     dsimp only
     refine ⟨_,hp,_,at0,?_⟩
     dsimp only
     rw [if_neg nk1]
     refine ⟨_,hp,_,at0,?_⟩
     dsimp only
     rw [if_neg nk2]
     exact ⟨us,lw,some (.ref px),rfl,s7,t7,hlw7,h7,by rw [kn1,kd,List.append_nil];exact r7⟩
   ·rintro σ H7 ⟨us,lw,o6,rfl,s7,t7,hlw7,h7,r7⟩
    rw [lxy,List.take_length] at r7
    have kz:=OZ b1
    have km:=HY b1
    refine ⟨_,us,sz+b1.length,lw,_,by rw [lxy],s7,hlw7,h7,r7,by rw [KP];omega,rfl,by rw [IQ];omega,fun c hc=> ?_⟩
    rcases List.mem_append.mp hc with hc | hc
    ·exact dw c (List.mem_append_left _ hc)
    ·obtain ⟨s2,hs2,hc2⟩:=List.mem_flatMap.mp hc
     have d1:=dw b1 (List.mem_append_right _ (List.mem_singleton.mpr rfl))
     obtain ⟨j,hj,ej⟩:=List.getElem_of_mem hs2
     have:=PR (List.getElem?_eq_getElem hj)
     rw [ej] at this
     exact cY (n:=6) (by omega) c hc2
end
def kM (p:Addr) (ws:List Wd) (H:Hp) (i:Nat) (σ:L2.St) (H2:Hp):Prop:=∃ (o1 o2 o3:Option V),σ=[o1,o2,o3]∧AI H H2∧H2 p=some (.lst (((ws.take i).map fun z=>((Stm.szs z.body:Nat):Int)).map V.int))
theorem dI (ws:List Wd):(ws.map fun z=>((Stm.szs z.body:Nat):Int)).sum=(wsz ws:Int):=by
 induction ws with
 | nil=>rfl
 | cons z ws ih=>rw [List.map_cons,List.sum_cons,ih];unfold wsz;rw [List.map_cons,List.sum_cons];omega
theorem UM {ws:List Wd} {z:Wd} (h:z∈ws):Stm.szs z.body≤wsz ws:=by
 induction ws with
 | nil=>cases h
 | cons y ws ih=>
  have e:wsz (y::ws)=Stm.szs y.body+wsz ws:=by unfold wsz;rw [List.map_cons,List.sum_cons]
  rw [e]
  rcases List.mem_cons.mp h with rfl | h
  ·omega
  ·have:=ih h;omega
section
variable {P:Program} {w:World} {K:PySem.W.Frag} {mg:Str→Option Value} {base:Heap} {t:Adr}
def YW (K:PySem.W.Frag):Sp:=fun vs H Q _=>∃ (v:V) (ws:List Wd) (body:List Stm),vs=[v]∧Rp K H (pD ws body) v∧NN ws body∧∀ (H':Hp),AI H H'→Q (.int ((wsz ws+Stm.szs body:Nat):Int)) H'
theorem ZC (T:Txt w K mg t):BY P w K mg base CX0 2 t.a_Lsize t.d_Lsize ["_law_program_here"] (YW K):=by
 refine T.Lsize.F.ok ZA (fun vs H Q E h=> ?_) (fun cdv A outer s H vs Q E hr h=> ?_)
 ·obtain ⟨v,ws,body,rfl,_⟩:=h;rfl
 ·obtain ⟨v,ws,body,rfl,rv,ok,q⟩:=h
  obtain ⟨p0,vw,vb,rfl,h0,rw,rb⟩:=JO.mp rv
  obtain ⟨pw,xw,rfl,hw,rlw⟩:=BL.mp rw
  have lxw:xw.length=ws.length:=by rw [rlw.length,List.length_map]
  have o6:=ok.l6
  have oz:=ok.z
  refine ⟨_,s!"{BO}{WV rfl}{T.z_sum}{boot_sum}{AE GF}{["_law_program_here"]}{["_law_name_here", "_law_many", "_law_body_here"]}{["_law_name_here", "_law_many", "_law_body_here"]}{[]}{HL (K := K) rfl}0BDMs{fun _ _ _ _ => (@UZ _ (K) _ _ _ _ (3) rfl rfl s!"0{show List.Nodup (["_law_name_here","_law_many","_law_body_here"]:List Str) by decide+kernel}L1{show List.Nodup (["_law_name_here","_law_many","_law_body_here"]:List Str) by decide+kernel}L2{show List.Nodup (["_law_name_here","_law_many","_law_body_here"]:List Str) by decide+kernel}LiUUU" (by rfl) (by rfl))}{fun _ _ _ _ => s!"h"}{fun _ _ _ _ => s!"{OL T}{hr.mono (by decide)}{T.Lcount.m}{T.Lcount.F.kp}{T.Lcount.b}2BCAH"}mCAP{OL T}{hr.mono (by decide)}{T.Lcount.m}{T.Lcount.F.kp}{T.Lcount.b}{DF}0BDMCAHEKG",?_⟩
  walk_at "ro"
  refine ⟨_,h0,.ref pw,at0,⟨_,hw⟩,fun p hp=> ?_⟩
  refine ZO (xs:=xw) (kM p ws H) ⟨none,none,none,rfl,AI.upd hp,AF⟩ (fun i σ H2 _ z=>by obtain ⟨_,_,_,rfl,s2,_⟩:=z;exact s2.tup hw) ?_ ?_
  ·rintro i y σ H2 hy ⟨o1,o2,o3,rfl,s2,h2⟩
   obtain ⟨z,pz,vz,ez,rfl,hz,rz⟩:=OO rlw hy
   obtain ⟨w1,w2,w3,w4,w5⟩:=ok.w i z ez
   have hm:=UM (List.mem_of_getElem? ez)
   walk_at "ro"
   refine ⟨_,s2.tup hz,?_⟩
   walk_at "ro"
   refine ⟨vz,z.body,rfl,rz.same s2,by omega,w5,fun H3 s3=>⟨_,s3 _ _ h2,CV (by rw [List.length_map,List.length_map,List.length_take];omega),nx (List.getElem?_eq_some_iff.mp hy).1 ⟨_,_,_,rfl,(s2.trans s3).upd2 hp,?_⟩⟩⟩
   rw [AF,List.take_add_one,ez,List.map_append,List.map_append]
   rfl
  ·rintro σ H2 ⟨o1,o2,o3,rfl,s2,h2⟩
   rw [lxw,List.take_length] at h2
   walk_at "ro"
   refine ⟨_,SqL.of h2,by rw [List.length_map];omega,fun n hn=> ?_,_,s2.tup h0,vb,BN (j:=1) rfl,vb,body,rfl,rb.same s2,by omega,ok.d,fun H3 s3=> ?_⟩
   ·obtain ⟨z,hz,rfl⟩:=List.mem_map.mp hn
    have:=UM hz
    omega
   ·rw [dI]
    have:=q H3 (s2.trans s3)
    rw [Int.natCast_add] at this
    exact this
def LT:Str:="abcdefghijklmnopqrstuvwxyz"
theorem kF {j:Int} (h0:0≤j) (h1:j<26):∃ c,atI LT.cps.toList j=some c∧97≤c∧c≤122:=by
 have h:∀ n:Fin 26,(match atI LT.cps.toList (n.val:Int) with | some c=>decide (97≤c∧c≤122) | none=>false)=true:=by decide+kernel
 have:=h ⟨j.toNat,by omega⟩
 rw [show ((⟨j.toNat,by omega⟩:Fin 26).val:Int)=j from by show (j.toNat:Int)=j;omega] at this
 cases e:atI LT.cps.toList j with
 | none=>rw [e] at this;cases this
 | some c=>rw [e] at this;exact ⟨c,rfl,of_decide_eq_true this⟩
structure IH (H:Hp) (l:Addr) (r:List Int):Prop where
 h:H l=some (.lst (r.map V.int))
 n:r.length=10
 b:∀ x∈r,0≤x∧x<1000
theorem IH.same {H H':Hp} {l:Addr} {r:List Int} (h:IH H l r) (s:AI H H'):IH H' l r:=⟨s _ _ h.h,h.n,h.b⟩
theorem IH.ix {H:Hp} {l:Addr} {r:List Int} (h:IH H l r) {k:Int} (k0:0≤k) (k1:k<10):∃ z,atI (r.map V.int) k=some (.int z)∧0≤z∧z<1000:=by
 obtain ⟨z,hm,hz⟩:=LX (ns:=r) k0 (by rw [h.n];exact k1)
 exact ⟨z,hz,h.b z hm⟩
def ZQ (l:Addr) (k z:Int) (H:Hp) (i:Nat) (σ:L2.St) (H2:Hp):Prop:=∃ (x:Str) (oj os:Option V),σ=[some (.ref l),some (.int k),some (.str LT),some (.int z),some (.str x),oj,os]∧H2=H∧x.length=i∧∀ c∈x.cps.toList,97≤c∧c≤122
def aM:Sp:=fun vs H Q _=>∃ (l:Addr) (r:List Int) (k:Int),vs=[.ref l,.int k]∧IH H l r∧0≤k∧k<6∧∀ x,MZ x→Q (.str x) H
theorem YE (T:Txt w K mg t):BY P w K mg base CX0 1 t.a_Lname t.d_Lname ["_law_row_here","_law_k"] aM:=by
 refine T.Lname.F.ok EH (fun vs H Q E h=> ?_) (fun cdv A outer s H vs Q E hr h=> ?_)
 ·obtain ⟨l,r,k,rfl,_⟩:=h;rfl
 ·obtain ⟨l,r,k,rfl,hR,k0,k1,q⟩:=h
  obtain ⟨z,hz,z0,z1⟩:=hR.ix k0 (by omega)
  refine ⟨_,s!"2{EH.nd}{Or.inl rfl}IJ3{EH.nd}{Or.inl rfl}{BO}D{AV}{BJ}0B1BMDEEJ4{EH.nd}{Or.inl rfl}IJ{T.z_range}3BCAe5{EH.nd}L6{EH.nd}{Or.inl rfl}{BO}{BO}{DV}{BJ}0B1BMDE{CQ}D5BEE1BEJ{BS}5B{DY}3BDEN6{EH.nd}{Or.inl rfl}{BO}6B{CQ}D1BEEJGSQ4{EH.nd}{Or.inl rfl}{PV}4B{gL}2B{AV}6BDEMEJGFFZ4BKGFFFF",?_⟩
  walk_at "ro"
  refine ⟨_,SqL.of hR.h,_,hz,by decide,?_⟩
  walk_at "ro"
  refine ⟨by omega,by omega,?_⟩
  refine FH (ZQ l k (1+z % 8) H) ⟨"",none,none,rfl,rfl,rfl,by intro c hc;cases hc⟩ ?_ ?_
  ·rintro i σ H2 hi ⟨x,oj,os,rfl,rfl,hx,hc⟩
   walk_at "ro"
   refine ⟨_,SqL.of hR.h,_,hz,?_⟩
   walk_at "ro"
   have fin:∀ (y:Int) (oj os:Option V),0<(26:Int)∧LT.length≤sizeLine∧∃ c,atI LT.cps.toList (y % 26)=some c∧x.length+(Str.mk #[c]).length≤sizeLine∧ZQ l k (1+z % 8) H2 (i+1) [some (.ref l),some (.int k),some (.str LT),some (.int (1+z % 8)),some (.str (x++Str.mk #[c])),oj,os] H2:=by
    intro y oj os
    obtain ⟨c,ec,c1,c2⟩:=kF (Int.emod_nonneg y (by decide)) (Int.emod_lt_of_pos y (by decide))
    have l1:(Str.mk #[c]).length=1:=rfl
    refine ⟨by decide,Nat.le_of_lt (CV (by decide+kernel)),c,ec,Nat.le_of_lt (CV (by rw [l1];omega)),_,_,_,rfl,rfl,?_,?_⟩
    ·show (x.cps++ #[c]).size=i+1
     rw [Array.size_append]
     show x.length+1=i+1
     rw [hx]
    ·intro d hd
     have e:(x++Str.mk #[c]).cps.toList=x.cps.toList++[c]:=by show (x.cps++ #[c]).toList=_;simp
     rw [e] at hd
     rcases List.mem_append.mp hd with hd | hd
     ·exact hc d hd
     ·rw [List.mem_singleton.mp hd];exact ⟨c1,c2⟩
   refine ⟨by decide,by decide,FT (by decide) (by decide),?_⟩
   split
   ·exact ⟨FT (by decide) (by decide),fin _ _ _⟩
   ·exact fin _ _ _
  ·rintro σ H2 ⟨x,oj,os,rfl,rfl,hx,hc⟩
   walk_at "ro"
   exact q x ⟨by omega,by omega,hc⟩
theorem BQ {H:Hp} {p:Addr} {d:L2.D} {ds:List L2.D} {xs:List V} (e:d= .tup ds) (hp:H p=none) (h:RpL K H ds xs):Rp K (upd H p (.tup xs)) d (.ref p):=by
 subst e
 exact BL.mpr ⟨p,xs,rfl,SqT.of AF,h.same (AI.upd hp)⟩
theorem JL {H:Hp} (i:Int):Rp K H (.int i) (.int i):=by rw [Rp]
theorem IP {H:Hp} (x:Str):Rp K H (.str x) (.str x):=by rw [Rp]
def s1 (k:Nat):Stm:=if k % 3=0 then .go (.int 1) else if k % 3=1 then .turn (.int (-1)) else .up
def sL (n:Nat):List Stm:=(List.range n).map s1
theorem OT (n:Nat):(sL n).length=n:=by unfold sL;rw [List.length_map,List.length_range]
theorem VT (n:Nat):sL (n+1)=sL n++[s1 n]:=by unfold sL;rw [List.range_succ,List.map_append];rfl
theorem kX (k:Nat):(s1 k).dp=0∧(s1 k).sz=1∧∀ ks m c,(s1 k).G ks m c:=by
 unfold s1
 split
 ·exact ⟨by rw [Stm.dp],by rw [Stm.sz],fun ks m c=>by rw [Stm.G];exact ⟨by decide,by decide⟩⟩
 split
 ·exact ⟨by rw [Stm.dp],by rw [Stm.sz],fun ks m c=>by rw [Stm.G];exact ⟨by decide,by decide⟩⟩
 ·exact ⟨by rw [Stm.dp],by rw [Stm.sz],fun ks m c=>by rw [Stm.G];trivial⟩
theorem PN {ks:List (Str×Nat)} {m:Nat} {c:Bool}:∀ {a b:List Stm},Stm.Gs ks m c a→Stm.Gs ks m c b→Stm.Gs ks m c (a++b)
 | [],b,_,h=>h
 | s::a,b,h,g=>by rw [Stm.Gs] at h;rw [List.cons_append,Stm.Gs];exact ⟨h.1,PN h.2 g⟩
theorem ZG {ks:List (Str×Nat)} {m:Nat} {c:Bool} {s:Stm} (h:s.G ks m c):Stm.Gs ks m c [s]:=by rw [Stm.Gs,Stm.Gs];exact ⟨h,trivial⟩
theorem UW (s:Stm):Stm.dps [s]=s.dp:=by rw [Stm.dps,Stm.dps,Nat.max_zero]
theorem PM (s:Stm):Stm.szs [s]=s.sz:=by rw [Stm.szs,Stm.szs,Nat.add_zero]
theorem QL (ks:List (Str×Nat)) (m:Nat) (c:Bool):∀ n,Stm.dps (sL n)=0∧Stm.szs (sL n)=n∧Stm.Gs ks m c (sL n)
 | 0=>⟨by show Stm.dps []=0;rw [Stm.dps],by show Stm.szs []=0;rw [Stm.szs],by show Stm.Gs ks m c [];rw [Stm.Gs];trivial⟩
 | n+1=>by
  obtain ⟨a,b,g⟩:=QL ks m c n
  obtain ⟨a1,b1,g1⟩:=kX n
  rw [VT,IC,FK,UW,PM]
  exact ⟨by omega,by omega,PN g (ZG (g1 ks m c))⟩
theorem kS {H:Hp} {xs:List V} (h:RpL K H [.tup [.str "go",.int 1],.tup [.str "turn",.int (-1)],.tup [.str "up"]] xs) (i:Nat):∃ x,atI xs ((i:Int) % 3)=some x∧Rp K H (s1 i).D x:=by
 obtain ⟨x,y,z,rfl,rx,ry,rz⟩:=YF h
 unfold s1
 have:i % 3=0∨i % 3=1∨i % 3=2:=by omega
 rcases this with e | e | e
 ·rw [show (i:Int) % 3=((0:Nat):Int) by omega,if_pos e];exact ⟨x,BN (j:=0) rfl,by rw [Stm.D,Am.D];exact rx⟩
 ·rw [show (i:Int) % 3=((1:Nat):Int) by omega,if_neg (by omega),if_pos e];exact ⟨y,BN (j:=1) rfl,by rw [Stm.D,Am.D];exact ry⟩
 ·rw [show (i:Int) % 3=((2:Nat):Int) by omega,if_neg (by omega),if_neg (by omega)];exact ⟨z,BN (j:=2) rfl,by rw [Stm.D];exact rz⟩
theorem cut1 {x:V} {xs:List V}:ID (x::xs) (some 1) none=xs:=by
 unfold ID
 have e1:HT.sIx (x::xs).length 0 (some 1)=1:=by
  unfold HT.sIx;simp
 have e2:HT.sIx (x::xs).length (x::xs).length none=xs.length+1:=by
  unfold HT.sIx;simp
 rw [e1,e2]
 simp
theorem nm_w:MZ "w":=by
 have h:(1≤(Str.ofString "w").cps.size∧(Str.ofString "w").cps.size≤8)∧((Str.ofString "w").cps.toList.all fun c=>decide (97≤c) && decide (c≤122))=true:=by decide+kernel
 obtain ⟨⟨a,b⟩,c⟩:=h
 walk_at "b14"
def lC (K:PySem.W.Frag) (p pv:Addr) (H:Hp) (i:Nat) (σ:L2.St) (H2:Hp):Prop:=∃ (us:List V) (o:Option V),σ=[some (.ref pv),o]∧AI H H2∧H2 p=some (.lst us)∧RpL K H2 ((sL i).map Stm.D) us
def fN (K:PySem.W.Frag) (l:Addr) (H:Hp) (i:Nat) (σ:L2.St) (H2:Hp):Prop:=∃ (vb:V) (b:List Stm) (o:Option V),σ=[some (.ref l),some vb,o]∧AI H H2∧Rp K H2 (bD b) vb∧Stm.Gs [] 0 true b∧(1≤i→Stm.Gs [] 0 false b)∧Stm.dps b≤i∧Stm.szs b≤2+3 * i
def ZK (K:PySem.W.Frag):Sp:=fun vs H Q _=>∃ (l:Addr) (r:List Int),vs=[.ref l]∧IH H l r∧∀ (v:V) (b:List Stm) (H':Hp),AI H H'→Rp K H' (bD b) v→NN [] b→Q v H'
theorem ZL (T:Txt w K mg t):BY P w K mg base CX0 1 t.a_Ldeep t.d_Ldeep ["_law_row_here"] (ZK K):=by
 refine T.Ldeep.F.ok FZ (fun vs H Q E h=> ?_) (fun cdv A outer s H vs Q E hr h=> ?_)
 ·obtain ⟨l,r,rfl,_⟩:=h;rfl
 ·obtain ⟨l,r,rfl,hR,q⟩:=h
  refine ⟨_,s!"1{FZ.nd}{Or.inl rfl}I{HP}DDEI{HP}DDE'CAAAOCTAOI{DY}D{HP}DDEECAAOCTTOJ{T.z_range}DCAe2{FZ.nd}L{@PW.pt _ _ _ s!"{BS}{AV}{BJ}0B2BMDEDN{GM}2BDNpo"}1{FZ.nd}{Or.inl rfl}I{DY}{BJ}0B2BMDE1BWVCTAAAOCTOJG{@PW.pt _ _ _ s!"{BS}{AV}{BJ}0B2BMDEDN{GM}2BDNpo"}1{FZ.nd}{Or.inl rfl}I{BJ}0B2BMWuVWgV1BCATAAOI{AV}{BJ}0B2BMDECAAOCTTOJG1{FZ.nd}{Or.inl rfl}I{BJ}0B2BM1BCAAAOI{AV}{BJ}0B2BMDECAAOCTTOJGQGQGZ1BKGFF",?_⟩
  walk_at "ro"
  have e6:(10:Int) ^ Int.toNat 6=1000000:=by decide
  rw [e6]
  refine ⟨⟨by decide,by decide,by decide⟩,⟨by decide,by decide,by decide⟩,by decide,fun p1 hp1=>⟨by decide,fun p2 hp2=>⟨⟨by decide,by decide,by decide⟩,by decide,fun p3 hp3=>⟨by decide,fun p4 hp4=>⟨by decide,by decide,?_⟩⟩⟩⟩⟩
  have t1:=BQ (K:=K) (d:=(Am.src 1000000 "count" (-1000000)).D) rfl hp1 (BC (JL _) (BC (IP _) (RpL.one (JL _))))
  have t2:=BQ (K:=K) (d:=(Stm.go (.src 1000000 "count" (-1000000))).D) (by rw [Stm.D]) hp2 (BC (IP _) (RpL.one t1))
  have t3:=BQ (K:=K) (d:=(Stm.ink (.int (0 - 1000000))).D) (by rw [Stm.D,Am.D]) hp3 (BC (IP _) (RpL.one (JL _)))
  have t4:=BQ (K:=K) (d:=bD [Stm.go (.src 1000000 "count" (-1000000)),Stm.ink (.int (0 - 1000000))]) rfl hp4 (BC (t2.same (AI.upd hp3)) (RpL.one t3))
  have s4:=(((AI.upd (o:= .tup [.int 1000000,.str "count",.int (-1000000)]) hp1).trans (AI.upd (o:= .tup [.str "go",.ref p1]) hp2)).trans (AI.upd (o:= .tup [.str "ink",.int (0 - 1000000)]) hp3)).trans (AI.upd (o:= .tup [.ref p2,.ref p3]) hp4)
  clear t1 t2 t3 hp1 hp2 hp3 hp4
  refine FH (fN K l H) ⟨.ref p4,_,none,rfl,s4,t4,?_,fun h=>by omega,?_,?_⟩ ?_ ?_
  ·rw [Stm.Gs,Stm.Gs,Stm.Gs,Stm.G,Stm.G]
   exact ⟨⟨⟨by decide,by decide⟩,⟨by decide,by decide⟩,.inl ⟨rfl,rfl⟩⟩,⟨by decide,by decide⟩,trivial⟩
  ·rw [Stm.dps,Stm.dps,Stm.dps,Stm.dp,Stm.dp];decide
  ·rw [Stm.szs,Stm.szs,Stm.szs,Stm.sz,Stm.sz];decide
  ·clear s4 t4
   rintro i σ H2 hi ⟨vb,b,o,rfl,s2,rb,g1,g2,d2,z2⟩
   obtain ⟨z,hz,z0,z1⟩:=(hR.same s2).ix (k:=i) (by omega) (by omega)
   have hR2:=SqL.of (K:=K) (hR.same s2).h
   walk_at "ro"
   rw [Int.zero_add]
   refine ⟨_,hR2,_,hz,by decide,?_⟩
   have gi:∀ {a:Int} {c:Bool},-1000≤a→a≤1000→AmG (Sc c 0) (.int a):=fun h1 h2=>⟨by omega,by omega⟩
   have ag:∀ p1 p2 p3 (hp1:H2 p1=none) (hp2:upd H2 p1 (.tup [.str "again",.int z,vb]) p2=none) (hp3:upd (upd H2 p1 (.tup [.str "again",.int z,vb])) p2 (.tup [.str "back",.int (z % 10)]) p3=none),
     fN K l H (i+1) [some (.ref l),some (.ref p3),some (.int i)] (upd (upd (upd H2 p1 (.tup [.str "again",.int z,vb])) p2 (.tup [.str "back",.int (z % 10)])) p3 (.tup [.ref p1,.ref p2])):=by
    intro p1 p2 p3 hp1 hp2 hp3
    have t1:=BQ (K:=K) (d:=(Stm.again (.int z) b).D) (by rw [Stm.D,Am.D,CF]) hp1 (BC (IP _) (BC (JL _) (RpL.one rb)))
    have t2:=BQ (K:=K) (d:=(Stm.back (z % 10)).D) (by rw [Stm.D]) hp2 (BC (IP _) (RpL.one (JL _)))
    have t3:=BQ (K:=K) (d:=bD [Stm.again (.int z) b,Stm.back (z % 10)]) rfl hp3 (BC (t1.same (AI.upd hp2)) (RpL.one t2))
    refine ⟨_,_,_,rfl,((s2.trans (AI.upd hp1)).trans (AI.upd hp2)).trans (AI.upd hp3),t3,?_,fun _=> ?_,?_,?_⟩
    ·rw [Stm.Gs,Stm.Gs,Stm.Gs,Stm.G,Stm.G];exact ⟨⟨gi (by omega) (by omega),g1⟩,by omega,trivial⟩
    ·rw [Stm.Gs,Stm.Gs,Stm.Gs,Stm.G,Stm.G];exact ⟨⟨gi (by omega) (by omega),g1⟩,by omega,trivial⟩
    ·rw [Stm.dps,Stm.dps,Stm.dps,Stm.dp,Stm.dp];omega
    ·rw [Stm.szs,Stm.szs,Stm.szs,Stm.sz,Stm.sz];omega
   by_cases c1:z % 3=0
   ·rw [if_pos c1]
    by_cases c2:(0:Int)<i
    ·rw [if_pos c2]
     refine ⟨_,hR2,_,hz,fun v0 H3 s3 r0=>⟨by decide,fun p1 hp1=>⟨by decide,fun p2 hp2=> ?_⟩⟩⟩
     have t1:=BQ (K:=K) (d:=(Stm.ifs (.int (z - 500)) b []).D) (ds:=[.str "if",.int (z - 500),bD b,.tup []]) (by rw [Stm.D,Am.D,CF,CF];rfl) hp1 (BC (IP _) (BC (JL _) (BC (rb.same s3) (RpL.one r0))))
     have t2:=BQ (K:=K) (d:=bD [Stm.ifs (.int (z - 500)) b []]) rfl hp2 (RpL.one t1)
     refine ⟨_,_,_,rfl,((s2.trans s3).trans (AI.upd hp1)).trans (AI.upd hp2),t2,?_,fun _=> ?_,?_,?_⟩
     ·rw [Stm.Gs,Stm.Gs,Stm.G,Stm.Gs];exact ⟨⟨gi (by omega) (by omega),g1,trivial⟩,trivial⟩
     ·rw [Stm.Gs,Stm.Gs,Stm.G,Stm.Gs];exact ⟨⟨gi (by omega) (by omega),g2 (by omega),trivial⟩,trivial⟩
     ·rw [Stm.dps,Stm.dps,Stm.dp,Stm.dps];omega
     ·rw [Stm.szs,Stm.szs,Stm.sz,Stm.szs];omega
    ·rw [if_neg c2]
     refine ⟨_,hR2,_,hz,by decide,?_⟩
     rw [if_neg (by omega)]
     walk_at "b9"
   ·rw [if_neg c1]
    refine ⟨_,hR2,_,hz,by decide,?_⟩
    by_cases c3:z % 3=1
    ·rw [if_pos c3]
     by_cases c2:(0:Int)<i
     ·rw [if_pos c2]
      refine ⟨_,hR2,_,hz,fun v0 H3 s3 r0=>⟨by decide,fun p1 hp1=>⟨_,SqL.of (((hR.same s2).same s3).same (AI.upd hp1)).h,_,hz,by decide,by decide,fun p2 hp2=>⟨by decide,fun p3 hp3=> ?_⟩⟩⟩⟩
      have r0:Rp K H3 (bD [Stm.up]) v0:=by show Rp K H3 (.tup [Stm.up.D]) v0;rw [Stm.D];exact r0
      have t1:=BQ (K:=K) (d:=(Stm.ifs (.int z) [.up] b).D) (by rw [Stm.D,Am.D,CF,CF]) hp1 (BC (IP _) (BC (JL _) (BC r0 (RpL.one (rb.same s3)))))
      have t2:=BQ (K:=K) (d:=(Stm.mark (z % 10)).D) (by rw [Stm.D]) hp2 (BC (IP _) (RpL.one (JL _)))
      have t3:=BQ (K:=K) (d:=bD [Stm.ifs (.int z) [.up] b,Stm.mark (z % 10)]) rfl hp3 (BC (t1.same (AI.upd hp2)) (RpL.one t2))
      refine ⟨_,_,_,rfl,(((s2.trans s3).trans (AI.upd hp1)).trans (AI.upd hp2)).trans (AI.upd hp3),t3,?_,fun _=> ?_,?_,?_⟩
      ·rw [Stm.Gs,Stm.Gs,Stm.Gs,Stm.G,Stm.G,Stm.Gs,Stm.Gs,Stm.G];exact ⟨⟨gi (by omega) (by omega),⟨trivial,trivial⟩,g1⟩,by omega,trivial⟩
      ·rw [Stm.Gs,Stm.Gs,Stm.Gs,Stm.G,Stm.G,Stm.Gs,Stm.Gs,Stm.G];exact ⟨⟨gi (by omega) (by omega),⟨trivial,trivial⟩,g2 (by omega)⟩,by omega,trivial⟩
      ·simp only [Stm.dps,Stm.dp];omega
      ·simp only [Stm.szs,Stm.sz];omega
     ·rw [if_neg c2]
      walk_at "b9"
    ·rw [if_neg c3]
     walk_at "b9"
  ·rintro σ H2 ⟨vb,b,o,rfl,s2,rb,g1,g2,d2,z2⟩
   walk_at "ro"
   exact q vb b H2 s2 rb ⟨Nat.zero_le _,fun i z h=>by simp at h,g2 (by decide),d2,by show 0+_≤_;omega⟩
def YA (K:PySem.W.Frag):Sp:=fun vs H Q _=>∃ (l:Addr) (r:List Int),vs=[.ref l]∧IH H l r∧∀ (v:V) (ws:List Wd) (b:List Stm) (H':Hp),AI H H'→Rp K H' (pD ws b) v→NN ws b→wsz ws+Stm.szs b=4000→Q v H'
theorem RJ (T:Txt w K mg t):BY P w K mg base CX0 1 t.a_Llong t.d_Llong ["_law_row_here"] (YA K):=by
 refine T.Llong.F.ok JP (fun vs H Q E h=> ?_) (fun cdv A outer s H vs Q E hr h=> ?_)
 ·obtain ⟨l,r,rfl,_⟩:=h;rfl
 ·obtain ⟨l,r,rfl,hR,q⟩:=h
  obtain ⟨z9,hz9,z90,z91⟩:=hR.ix (k:=9) (by decide) (by decide)
  obtain ⟨z8,hz8,z80,z81⟩:=hR.ix (k:=8) (by decide) (by decide)
  refine ⟨_,s!"1{JP.nd}{Or.inr rfl}{@OH _ _ _ _ _ _ s!"W"}uV{@XG _ _ _ _ _ _ _ s!"W"}uVWuVWgggVJ2{JP.nd}{Or.inl rfl}{BX}{T.z_tuple}{boot_tuple}{AE FM}{["_law_row_here", "_law_some", "_law_inner", "_law_body_here"]}{["_law_some", "_law_k"]}{["_law_k"]}{[1]}{T.z_range}{WI (K := K) rfl}0BDMCAe{fun _ _ _ _ => s!"1{show List.Nodup (["_law_some","_law_k"]:List Str) by decide+kernel}L"}{fun _ _ _ _ => s!"h"}{fun _ _ _ _ => s!"{HL (K:=K) rfl}0B{AV}1BDEM"}mCAfJ3{JP.nd}{Or.inl rfl}{MY}ID2BCAAAOCTO{BX}{T.z_tuple}{boot_tuple}{AE FM}{["_law_row_here", "_law_some", "_law_inner", "_law_body_here"]}{["_law_some", "_law_k"]}{["_law_k"]}{[1]}{T.z_range}{DY}{DY}DDE{AS}{T.z_len}{PySem.boot_len}2BCAPECAe{fun _ _ _ _ => s!"1{show List.Nodup (["_law_some","_law_k"]:List Str) by decide+kernel}L"}{fun _ _ _ _ => s!"h"}{fun _ _ _ _ => s!"{HL (K:=K) rfl}0B{AV}1BDEM"}mCAfEJ{BS}{AV}{BJ}0BDMDEDNID2BCAAAOCTO{MY}3BDyzxWuVWgVECATOKGSQWV3BCATOKGFFFF",?_⟩
  walk_at "ro"
  intro v H0 s0 rv
  obtain ⟨pv,xv,rfl,hv,rl⟩:=BL.mp rv
  have comp:∀ (n:Nat) (H1:Hp) (p:Addr) (Q':VK),n≤4000→AI H0 H1→H1 p=none→(∀ us H2,AI H1 H2→H2 p=some (.lst us)→RpL K H2 ((sL n).map Stm.D) us→us.length=n→Q' (.ref p) H2)→
    CW (Itr 0 n) (LD 1) VX (tOp (LY K) (MD 0) (tOp (rID (fun x j=>0<j) fun i j=>V.int (i % j)) (MD 1) (tC (V.int 3)))) p Q' [some (.ref pv),none] (upd H1 p (.lst [])):=by
   intro n H1 p Q' hn s1 hp k
   refine JM (lC K p pv H1) ⟨[],none,rfl,AI.upd hp,AF,RpL.nil⟩ ?_ ?_
   ·rintro i σ H2 hi ⟨us,o,rfl,s2,h2,r2⟩
    have lu:us.length=i:=by rw [r2.length,List.length_map];exact OT i
    obtain ⟨x,hx,rx⟩:=kS (rl.same (s1.trans s2)) i
    walk_at "ro"
    rw [Int.zero_add]
    refine ⟨by decide,_,(s1.trans s2).tup hv,x,hx,us,h2,CV (by omega),nx hi ⟨us++[x],_,rfl,s2.upd2 hp,AF,?_⟩⟩
    rw [VT,List.map_append]
    exact RpL.t ((BK.refl _).upd (DW h2)) (r2.app (RpL.one rx))
   ·rintro σ H2 ⟨us,o,rfl,s2,h2,r2⟩
    exact k us H2 s2 h2 r2 (by rw [r2.length,List.length_map];exact OT n)
  obtain ⟨n,rfl⟩:∃ n:Nat,z9=n:=⟨z9.toNat,by omega⟩
  refine ⟨_,SqL.of (hR.same s0).h,_,hz9,_,rfl,by omega,by omega,fun p1 hp1=> ?_⟩
  rw [Int.toNat_natCast]
  refine comp n H0 p1 _ (by omega) (AI.refl _) hp1 fun us H2 s2 h2 r2 lu=> ?_
  walk_at "ro"
  refine ⟨us,SqL.of h2,fun p2 hp2=>⟨by decide,fun p3 hp3=>⟨by decide,fun p4 hp4=> ?_⟩⟩⟩
  have ti:=BQ (K:=K) (d:=bD (sL n)) rfl hp2 r2
  have ta:=BQ (K:=K) (d:=(Stm.again (.int 3) (sL n)).D) (by rw [Stm.D,Am.D,CF]) hp3 (BC (IP _) (BC (JL _) (RpL.one ti)))
  have tb:=BQ (K:=K) (d:=bD [Stm.again (.int 3) (sL n)]) rfl hp4 (RpL.one ta)
  have s34:=(AI.upd (o:= .tup [.str "again",.int 3,.ref p2]) hp3).trans (AI.upd (o:= .tup [.ref p3]) hp4)
  have ti:=ti.same s34
  have h4:SqT K _ p2 us:=s34.tup (SqT.of AF)
  have s4:=(s2.trans (AI.upd (o:= .tup us) hp2)).trans s34
  clear ta s34 r2 h2 hp1 hp2 hp3 hp4
  generalize upd (upd (upd H2 p2 (.tup us)) p3 (.tup [.str "again",.int 3,.ref p2])) p4 (.tup [.ref p3])=H4 at *
  refine ⟨us,.inr h4,by omega,by omega,fun p5 hp5=> ?_⟩
  rw [show (4000 - 1 - (us.length:Int)).toNat=3999 - n by omega]
  refine comp (3999 - n) H4 p5 _ (by omega) s4 hp5 fun vs H6 s6 h6 r6 lv=> ?_
  walk_at "ro"
  refine ⟨vs,SqL.of h6,fun p7 hp7=>⟨[(Stm.again (.int 3) (sL n)).D],tb.same (s6.trans (AI.upd hp7)),(sL (3999 - n)).map Stm.D,BQ rfl hp7 r6,Nat.le_of_lt (CV (by rw [List.length_map,OT,List.length_singleton];omega)),fun v H8 s8 rv8=> ?_⟩⟩
  have s68:=(s6.trans (AI.upd hp7)).trans s8
  have s08:=(s0.trans s4).trans s68
  refine ⟨_,SqL.of (hR.same s08).h,_,hz8,by decide,?_⟩
  obtain ⟨ld,lz,lg⟩:=QL [] 0 true n
  obtain ⟨md,mz,mg⟩:=QL [] 0 false (3999 - n)
  by_cases c:z8 % 2=0
  ·rw [if_pos c]
   refine ⟨by decide,fun pw hpw=>⟨by decide,fun px hpx=> ?_⟩⟩
   obtain ⟨pa,xa,rfl,ha,rla⟩:=BL.mp rv8
   rw [List.cons_append,List.nil_append,RpL] at rla
   obtain ⟨xh,xr,rfl,_,rla⟩:=rla
   have sx:=(AI.upd (o:= .tup [.str "w",.int 0,.ref p2]) hpw).trans (AI.upd (o:= .tup [.ref pw]) hpx)
   have tw:=BQ (K:=K) (d:=(Wd.mk "w" 0 (sL n)).D) rfl hpw (BC (IP _) (BC (JL _) (RpL.one (ti.same s68))))
   have tx:=BQ (K:=K) (d:= .tup ([Wd.mk "w" 0 (sL n)].map Wd.D)) rfl hpx (RpL.one tw)
   refine ⟨pa,rfl,_,sx.tup ha,fun pc Hc sc hc v9 H9 s9 r9=> ?_⟩
   rw [cut1] at hc
   have rlc:=(rla.same sx).same sc
   refine ⟨(sL (3999 - n)).map Stm.D,BL.mpr ⟨pc,_,rfl,s9.tup hc,rlc.same s9⟩,[Stm.down.D],by rw [Stm.D];exact r9,Nat.le_of_lt (CV (by rw [List.length_map,OT,List.length_singleton];omega)),fun vA HA sA rA=>⟨by decide,fun pB hpB=> ?_⟩⟩
   have sA2:=(sc.trans s9).trans sA
   obtain ⟨ld,lz,lg⟩:=QL [] 0 false n
   obtain ⟨md,mz,mg⟩:=QL [((Str.ofString "w"),0)] 0 false (3999 - n)
   have hk:kn [Wd.mk "w" 0 (sL n)]=[((Str.ofString "w"),0)]:=rfl
   refine q _ [Wd.mk "w" 0 (sL n)] (sL (3999 - n)++[.down]) _ (((s08.trans sx).trans sA2).trans (AI.upd hpB)) (BQ rfl hpB (BC (tx.same sA2) (RpL.one (by rw [bD,List.map_append];exact rA)))) ⟨Nat.le_of_ble_eq_true rfl,?_,?_,?_,?_⟩ ?_
   ·intro i z h
    cases i with
    | zero=>
     cases h
     exact ⟨nm_w,rfl,⟨Int.le_refl 0,show (0:Int)≤4 by decide⟩,lg,by show Stm.dps (sL n)≤6;omega⟩
    | succ i=>simp at h
   ·rw [hk];exact PN mg (ZG (by rw [Stm.G];trivial))
   ·rw [IC,UW,Stm.dp];omega
   ·rw [FK,PM,Stm.sz];show Stm.szs (sL n)+0+_≤_;omega
   ·rw [FK,PM,Stm.sz];show Stm.szs (sL n)+0+_=_;omega
  ·rw [if_neg c]
   intro v9 H9 s9 r9
   refine ⟨by decide,fun px hpx=> ?_⟩
   refine q _ [] (Stm.again (.int 3) (sL n)::sL (3999 - n)) _ ((s08.trans s9).trans (AI.upd hpx)) (BQ rfl hpx (BC r9 (RpL.one (rv8.same s9)))) ⟨Nat.zero_le _,(fun i z h=>by simp at h),?_,?_,?_⟩ ?_
   ·rw [Stm.Gs,Stm.G];exact ⟨⟨⟨by decide,by decide⟩,lg⟩,mg⟩
   ·rw [Stm.dps,Stm.dp];omega
   ·rw [Stm.szs,Stm.sz];show 0+_≤_;omega
   ·rw [Stm.szs,Stm.sz];show 0+_=_;omega
end
theorem join {c:Prop} [Decidable c] {B:Prop} {R:L2.St→Hp→Prop} {σ:L2.St} {H:Hp} (Ph:L2.St→Hp→Prop) (k:∀ σ H,Ph σ H→cK R σ H) (h1:c→(∀ σ H,Ph σ H→cK R σ H)→B) (h2:¬ c→Ph σ H):if c then B else cK R σ H:=by
 split
 ·exact h1 ‹_› k
 ·exact k _ _ (h2 ‹_›)
def goS (far:Int) (j:Nat):Stm:= .go (.src far (NUM.getD j "") (0 - far))
def goL (far:Int) (n:Nat):List Stm:=(List.range n).map (goS far)
def doS (far:Int) (z:Wd):Stm:= .dow z.name (List.replicate z.many.toNat (.int far))
structure WsG (ws:List Wd):Prop where
 nd:(ws.map (·.name)).Nodup
 w:∀ (i:Nat) (z:Wd),ws[i]? =some z→MZ z.name∧(0≤z.many∧z.many≤4)∧Stm.Gs (kn (ws.take i)) z.many.toNat false z.body∧Stm.dps z.body=0∧Stm.szs z.body≤10
theorem WsG.nil:WsG []:=⟨List.nodup_nil,fun i z h=>by simp at h⟩
theorem OV (far:Int) (n:Nat):(goL far n).length=n:=by unfold goL;rw [List.length_map,List.length_range]
theorem ZD (far:Int) (n:Nat):goL far (n+1)=goL far n++[goS far n]:=by unfold goL;rw [List.range_succ,List.map_append];rfl
theorem TL {α:Type} {ks:List (Str×Nat)} {m:Nat} {c:Bool} {f:α→Stm}:∀ {l:List α},(∀ x∈l,(f x).G ks m c∧(f x).dp=0∧(f x).sz=1)→Stm.Gs ks m c (l.map f)∧Stm.dps (l.map f)=0∧Stm.szs (l.map f)=l.length
 | [],_=>⟨by rw [List.map_nil,Stm.Gs];trivial,by rw [List.map_nil,Stm.dps],by rw [List.map_nil,Stm.szs];rfl⟩
 | x::l,h=>by
  obtain ⟨a,b,c⟩:=h x (List.mem_cons_self ..)
  obtain ⟨a2,b2,c2⟩:=TL fun y hy=>h y (List.mem_cons_of_mem _ hy)
  rw [List.map_cons,Stm.Gs,Stm.dps,Stm.szs,List.length_cons]
  exact ⟨⟨a,a2⟩,by omega,by omega⟩
theorem kJ {ws:List Wd} (h:WsG ws) {z:Wd} (hz:z∈ws):lkA (kn ws) z.name=some z.many.toNat:=TC h.nd _ _ (UE h.nd z hz)
theorem WsG.app {ws:List Wd} (h:WsG ws) {x:Str} {many far:Int} (hl:ws.length≤5) (hx:MZ x) (hn:x∉ws.map (·.name)) (m0:0≤many) (m4:many≤4) (f0: -1000000≤far∧far≤1000000):WsG (ws++[⟨x,many,goL far many.toNat++ws.map (doS far)⟩]):=by
 obtain ⟨n,rfl⟩:∃ n:Nat,many=n:=⟨many.toNat,by omega⟩
 obtain ⟨ga,gb,gc⟩:=TL (ks:=kn ws) (m:=n) (c:=false) (f:=goS far) (l:=List.range n) fun j hj=>by
  have hj:=List.mem_range.mp hj
  unfold goS
  refine ⟨?_,by rw [Stm.dp],by rw [Stm.sz]⟩
  rw [Stm.G]
  refine ⟨f0,⟨by omega,by omega⟩,.inr ?_⟩
  have hn:j<NUM.length:=by show j<4;omega
  rw [List.getD_eq_getElem?_getD,List.getElem?_eq_getElem hn,Option.getD_some]
  exact List.mem_iff_getElem?.mpr ⟨j,by rw [List.getElem?_take,if_pos hj];exact List.getElem?_eq_getElem hn⟩
 obtain ⟨da,db,dc⟩:=TL (ks:=kn ws) (m:=n) (c:=false) (f:=doS far) (l:=ws) fun z hz=>by
  unfold doS
  refine ⟨?_,by rw [Stm.dp],by rw [Stm.sz]⟩
  rw [Stm.G,List.length_replicate]
  exact ⟨fun a ha=>by rw [List.eq_of_mem_replicate ha];exact f0,kJ h hz⟩
 rw [List.length_range] at gc
 refine ⟨?_,fun i z hz=> ?_⟩
 ·rw [List.map_append,List.nodup_append]
  refine ⟨h.nd,by simp,?_⟩
  intro a ha b hb e
  rw [List.map_singleton,List.mem_singleton] at hb
  subst hb;subst e
  exact hn ha
 ·by_cases c:i<ws.length
  ·rw [List.getElem?_append_left c] at hz
   rw [List.take_append_of_le_length (Nat.le_of_lt c)]
   exact h.w i z hz
  ·have hi:=(List.getElem?_eq_some_iff.mp hz).1
   rw [List.length_append,List.length_singleton] at hi
   have hi:i=ws.length:=by omega
   subst hi
   rw [List.getElem?_append_right (Nat.le_refl _),Nat.sub_self] at hz
   cases hz
   rw [List.take_left']
   ·refine ⟨hx,⟨m0,m4⟩,PN ga da,?_,?_⟩
    ·show Stm.dps (goL far n++_)=0
     rw [IC];unfold goL;omega
    ·show Stm.szs (goL far n++_)≤10
     rw [FK];unfold goL;omega
   ·rfl
theorem gW {ws:List Wd} (h:∀ z∈ws,Stm.szs z.body≤10):wsz ws≤10 * ws.length:=by
 induction ws with
 | nil=>exact Nat.le_refl _
 | cons z ws ih=>
  have e:wsz (z::ws)=Stm.szs z.body+wsz ws:=by unfold wsz;rw [List.map_cons,List.sum_cons]
  have h1:=h z (List.mem_cons_self ..)
  have h2:=ih fun y hy=>h y (List.mem_cons_of_mem _ hy)
  rw [e,List.length_cons];omega
theorem dE {l:List (Str×Nat)} {x:Str} (h:x∉l.map (·.1)):lkA l x=none:=by
 unfold lkA
 rw [Option.map_eq_none_iff,List.find?_eq_none]
 rintro y hy e
 exact h (List.mem_map.mpr ⟨y,hy,of_decide_eq_true e⟩)
theorem WsG.pg {ws:List Wd} (h:WsG ws) (hl:ws.length≤6):NN ws []:=by
 refine ⟨hl,fun i z hz=> ?_,by rw [Stm.Gs];trivial,by rw [Stm.dps];decide,?_⟩
 ·obtain ⟨a,b,c,d,e⟩:=h.w i z hz
  refine ⟨a,?_,b,c,by omega⟩
  have ndt:((ws.take i).map (·.name)).Nodup:=by rw [List.map_take];exact h.nd.sublist (List.take_sublist _ _)
  rw [aF ndt]
  refine dE fun hm=> ?_
  rw [List.map_map] at hm
  obtain ⟨y,hy,ey⟩:=List.mem_map.mp hm
  have ey:y.name=z.name:=ey
  obtain ⟨j,hj,ej⟩:=List.getElem_of_mem hy
  rw [List.length_take] at hj
  rw [List.getElem_take] at ej
  have hi:=(List.getElem?_eq_some_iff.mp hz).1
  have e2:(ws.map (·.name))[j]'(by rw [List.length_map];omega)=(ws.map (·.name))[i]'(by rw [List.length_map];omega):=by
   rw [List.getElem_map,List.getElem_map,ej,(List.getElem?_eq_some_iff.mp hz).2,ey]
  exact List.pairwise_iff_getElem.mp h.nd j i _ _ (by omega) e2
 ·have:=gW (ws:=ws) fun z hz=>by
   obtain ⟨i,hi⟩:=List.mem_iff_getElem?.mp hz
   exact (h.w i z hi).2.2.2.2
  rw [Stm.szs];omega
section
variable {P:Program} {w:World} {K:PySem.W.Frag} {mg:Str→Option Value} {base:Heap} {t:Adr}
def jB (K:PySem.W.Frag) (l lw:Addr) (far:Int) (H:Hp) (i:Nat) (σ:L2.St) (H2:Hp):Prop:=∃ (ws:List Wd) (us:List V) (o3 o4 o5 o6 o7 o8 o9:Option V),σ=[some (.ref l),some (.ref lw),some (.int far),o3,o4,o5,o6,o7,o8,o9]∧AI H H2∧H2 lw=some (.lst us)∧RpL K H2 (ws.map Wd.D) us∧WsG ws∧ws.length≤i
theorem wn6 {i:Nat} (h:i<6):∃ x:Str,atI [V.str "a",.str "b",.str "c",.str "go",.str "again",.str "abcdefgh"] (i:Int)=some (.str x)∧MZ x:=by
 have g:∀ x∈[(Str.ofString "a"),"b","c","go","again","abcdefgh"],MZ x:=by
  intro x hx
  have h:∀ x∈[(Str.ofString "a"),"b","c","go","again","abcdefgh"],(1≤x.cps.size∧x.cps.size≤8)∧(x.cps.toList.all fun c=>decide (97≤c) && decide (c≤122))=true:=by decide+kernel
  obtain ⟨⟨a,b⟩,c⟩:=h x hx
  walk_at "b14"
 have:i=0∨i=1∨i=2∨i=3∨i=4∨i=5:=by omega
 rcases this with rfl | rfl | rfl | rfl | rfl | rfl
 ·exact ⟨_,BN (j:=0) rfl,g _ (by simp)⟩
 ·exact ⟨_,BN (j:=1) rfl,g _ (by simp)⟩
 ·exact ⟨_,BN (j:=2) rfl,g _ (by simp)⟩
 ·exact ⟨_,BN (j:=3) rfl,g _ (by simp)⟩
 ·exact ⟨_,BN (j:=4) rfl,g _ (by simp)⟩
 ·exact ⟨_,BN (j:=5) rfl,g _ (by simp)⟩
def Ph_w (l lw:Addr) (far:Int) (i:Nat) (o5 o6 o7 o8 o9:Option V) (H:Hp) (σ:L2.St) (H2:Hp):Prop:=∃ x:Str,σ=[some (.ref l),some (.ref lw),some (.int far),some (.int i),some (.str x),o5,o6,o7,o8,o9]∧H2=H∧MZ x
def jE (p:Addr) (ws:List Wd) (H:Hp) (i:Nat) (σ:L2.St) (H2:Hp):Prop:=∃ (o:Option V),σ=[o]∧AI H H2∧H2 p=some (.lst ((ws.take i).map fun z=>V.str z.name))
theorem cZ {x:Str} {xs:List V} (h:V.str x∈xs):inV (.str x) xs=true:=by
 unfold inV
 rw [List.any_eq_true]
 exact ⟨_,h,by simp [eqV]⟩
theorem num4 {k:Nat} (h:k<4):((k:Int).natAbs.log2<1920)∧((Str.ofString "n").length+(Str.ofString (toString (k:Int))).length≤sizeLine)∧∃ s:Str,NUM.getD k ""=s∧Str.ofString "n"++Str.ofString (toString (k:Int))=s:=by
 have:k=0∨k=1∨k=2∨k=3:=by omega
 rcases this with rfl | rfl | rfl | rfl
 ·exact ⟨by decide,by decide+kernel,_,rfl,by decide+kernel⟩
 ·exact ⟨by decide,by decide+kernel,_,rfl,by decide+kernel⟩
 ·exact ⟨by decide,by decide+kernel,_,rfl,by decide+kernel⟩
 ·exact ⟨by decide,by decide+kernel,_,rfl,by decide+kernel⟩
def jW (K:PySem.W.Frag) (p:Addr) (far:Int) (H:Hp) (i:Nat) (σ:L2.St) (H2:Hp):Prop:=∃ (us:List V) (o:Option V),σ=[some (.int far),o]∧AI H H2∧H2 p=some (.lst us)∧RpL K H2 ((goL far i).map Stm.D) us
def jI (K:PySem.W.Frag) (l lw pb:Addr) (far:Int) (i:Nat) (x:Str) (m:Nat) (ws:List Wd) (H:Hp) (j:Nat) (σ:L2.St) (H2:Hp):Prop:=∃ (us:List V) (o7 o8 o9:Option V),σ=[some (.ref l),some (.ref lw),some (.int far),some (.int i),some (.str x),some (.int m),some (.ref pb),o7,o8,o9]∧AI H H2∧H2 pb=some (.lst us)∧RpL K H2 ((goL far m++(ws.take j).map (doS far)).map Stm.D) us
theorem UK {α:Type} (x:α):∀ n:Nat,(List.replicate n [x]).flatten=List.replicate n x
 | 0=>rfl
 | n+1=>by rw [List.replicate_succ,List.replicate_succ,List.flatten_cons,UK x n];rfl
def WX (K:PySem.W.Frag):Sp:=fun vs H Q _=>∃ (l:Addr) (r:List Int),vs=[.ref l]∧IH H l r∧∀ (v:V) (ws:List Wd) (H':Hp),AI H H'→Rp K H' (.tup (ws.map Wd.D)) v→NN ws []→Q v H'
theorem WQ (T:Txt w K mg t):BY P w K mg base CX0 2 t.a_Lwords t.d_Lwords ["_law_row_here"] (WX K):=by
 refine T.Lwords.F.ok CO (fun vs H Q E h=> ?_) (fun cdv A outer s H vs Q E hr h=> ?_)
 ·obtain ⟨l,r,rfl,_⟩:=h;rfl
 ·obtain ⟨l,r,rfl,hR,q⟩:=h
  obtain ⟨z7,hz7,z70,z71⟩:=hR.ix (k:=7) (by decide) (by decide)
  obtain ⟨z8,hz8,z80,z81⟩:=hR.ix (k:=8) (by decide) (by decide)
  refine ⟨_,s!"1{CO.nd}{Or.inl rfl}CXJ2{CO.nd}{Or.inr rfl}{BJ}{HP}DDE{HP}DDE'DCAAAX{AV}{BJ}0BDMDEMJ{T.z_range}DCAe3{CO.nd}L4{CO.nd}{Or.inl rfl}{BJ}IIIIIICAAAAAAX3BMJ{BS}{AV}{BJ}0BDMDEDN4{CO.nd}{Or.inl rfl}{YE T}{hr.mono (by decide)}{T.Lname.m}{T.Lname.F.kp}{T.Lname.b}0B3BCAAHJGSQ{@AM _ _ _ _ _ _ _ _ SN s!"4B" s!"{AE EG}{["_law_row_here","_law_words_here","_law_far","_law_k","_law_name_here","_law_many","_law_body_here","_law_other","_law_takes","_law_inner"]}{["_law_one"]}{["_law_one"]}{[]}1B){fun _ _ _ _=>s!"0{show List.Nodup (["_law_one"] : List Str) by decide +kernel}L"}{fun _ _ _ _=>s!"h"}{fun _ _ _ _=>s!"{HL (K := K) rfl}0BDM"}m" (by with_unfolding_all rfl)}5{CO.nd}{Or.inl rfl}{AV}{BO}{BJ}0B3BM3BEDEJ{@VU _ _ _ _ _ _ (AE EG) _ _ _ _ (6) _ _ _ _ (["_law_row_here", "_law_words_here", "_law_far", "_law_k", "_law_name_here", "_law_many", "_law_body_here", "_law_other", "_law_takes", "_law_inner"]) (["_law_far", "_law_j"]) (["_law_j"]) ([2]) CO.nd rfl (Or.inl rfl) rfl rfl rfl ⟨by decide +kernel, by decide +kernel, by decide +kernel, by decide +kernel, by decide +kernel, by decide +kernel⟩ s!"{T.z_range}5BCAe" (fun _ _ _ _ => s!"1{show List.Nodup (["_law_far","_law_j"]:List Str) by decide+kernel}L") (fun _ _ _ _ => s!"h") (fun _ _ _ _ => s!"I0B{PV}I{OC}{T.z_str}{boot_str}1BCAfE{DY}D0BECAAAOCTAO") (by intro _; rfl) (by rfl) (by first | exact .inl rfl | exact .inr rfl | assumption)}1B)7{CO.nd}L8{CO.nd}L9{CO.nd}LiUUUr{PySem.F.slot_list_append}{PySem.F.type_list_append}{DO}6BI7B{YV}2BCAO8BECAAAOCTlRGZ{PySem.F.slot_list_append}{PySem.F.type_list_append}{DO}1B4B5B{BX}{T.z_tuple}{boot_tuple}6BCAfCAAAOCTlRGcccSQGccZ{BX}{T.z_tuple}{boot_tuple}1BCAfKGccc",?_⟩
  walk_at "rh"
  refine ⟨Nat.zero_le _,fun lw hlw=> ?_⟩
  walk_at "rh"
  have e6:(10:Int) ^ Int.toNat 6=1000000:=by decide
  rw [e6]
  refine ⟨⟨by decide,by decide,by decide⟩,⟨by decide,by decide,by decide⟩,by decide,fun p1 hp1=> ?_⟩
  have s1:=(AI.upd (o:= .lst []) hlw).trans (AI.upd (o:= .lst [.int 1000000,.int (-1000000),.int 0]) hp1)
  have h1:upd (upd H lw (.lst [])) p1 (.lst [.int 1000000,.int (-1000000),.int 0]) lw=some (.lst []):=(AI.upd hp1) _ _ AF
  refine ⟨_,SqL.of (hR.same s1).h,_,hz7,by decide,_,SqL.of AF,?_⟩
  obtain ⟨far,hf,f0⟩:∃ far:Int,atI [V.int 1000000,.int (-1000000),.int 0] (z7 % 3)=some (.int far)∧ -1000000≤far∧far≤1000000:=by
   have:z7 % 3=((0:Nat):Int)∨z7 % 3=((1:Nat):Int)∨z7 % 3=((2:Nat):Int):=by omega
   rcases this with e | e | e<;> rw [e]
   ·exact ⟨1000000,BN rfl,by decide,by decide⟩
   ·exact ⟨-1000000,BN rfl,by decide,by decide⟩
   ·exact ⟨0,BN rfl,by decide,by decide⟩
  refine ⟨_,hf,?_⟩
  generalize upd (upd H lw (.lst [])) p1 (.lst [.int 1000000,.int (-1000000),.int 0])=H1 at *
  walk_at "rh"
  refine ⟨by decide,by decide,?_⟩
  refine FH (jB K l lw far H) ⟨[],[],none,none,none,none,none,none,none,rfl,s1,h1,RpL.nil,.nil,Nat.le_refl _⟩ ?_ ?_
  ·clear s1 h1 hp1
   rintro i σ H2 hi ⟨ws,us,o3,o4,o5,o6,o7,o8,o9,rfl,s2,h2,r2,gw,lw6⟩
   have hi:i<6:=hi
   walk_at "rh"
   refine ⟨by decide,fun p3 hp3=>⟨_,SqL.of AF,?_⟩⟩
   rw [Int.zero_add]
   obtain ⟨x0,hx0,nx0⟩:=wn6 hi
   refine ⟨_,hx0,?_⟩
   have s3:=s2.trans (AI.upd (o:= .lst [.str "a",.str "b",.str "c",.str "go",.str "again",.str "abcdefgh"]) hp3)
   have h3:=(AI.upd (o:= .lst [.str "a",.str "b",.str "c",.str "go",.str "again",.str "abcdefgh"]) hp3) _ _ h2
   have r3:=r2.same (AI.upd (o:= .lst [.str "a",.str "b",.str "c",.str "go",.str "again",.str "abcdefgh"]) hp3)
   clear s2 h2 r2 hx0
   generalize upd H2 p3 (.lst [.str "a",.str "b",.str "c",.str "go",.str "again",.str "abcdefgh"])=H3 at *
   walk_at "rh"
   refine ⟨_,SqL.of (hR.same s3).h,_,hz8,by decide,?_⟩
   refine join (Ph_w l lw far i o5 o6 o7 o8 o9 H3) (fun σ H4 h=> ?_) (fun c k=> ?_) (fun c=>⟨x0,rfl,rfl,nx0⟩)
   ·obtain ⟨x,rfl,rfl,hnx⟩:=h
    walk_at "rh"
    refine ⟨⟨_,SqL.of h3⟩,fun p4 hp4=> ?_⟩
    have h3':=h3
    refine dA (xs:=us) (jE p4 ws H4) ⟨none,rfl,AI.upd hp4,AF⟩ (fun i σ H2 _ z=>by obtain ⟨_,rfl,s2,_⟩:=z;exact SqL.of (s2 _ _ h3)) ?_ ?_
    ·rintro j y σ H5 hy ⟨o,rfl,s5,h5⟩
     obtain ⟨z,pz,vz,ez,rfl,hz,rz⟩:=OO r3 hy
     walk_at "rh"
     refine ⟨_,s5.tup hz,_,at0,_,h5,CV (by rw [List.length_map,List.length_take];omega),nx (List.getElem?_eq_some_iff.mp hy).1 ⟨_,rfl,s5.upd2 hp4,?_⟩⟩
     rw [AF,List.take_add_one,ez,List.map_append]
     rfl
    ·rintro σ H5 ⟨o,rfl,s5,h5⟩
     have lus:us.length=ws.length:=by rw [r3.length,List.length_map]
     rw [lus,List.take_length] at h5
     dsimp only
     refine ⟨_,.inl (SqL.of h5),rfl,by simp [HM],?_⟩
     have s35:=s3.trans s5
     have h5':=s5 _ _ h3
     have r5:=r3.same s5
     clear h5 hp4 s5 h3 r3
     obtain ⟨zi,hzi,zi0,zi1⟩:=(hR.same s35).ix (k:=i) (by omega) (by omega)
     split
     ·rename_i hin
      have hnot:x∉ws.map (·.name):=by
       intro hm
       obtain ⟨z,hz,rfl⟩:=List.mem_map.mp hm
       rw [cZ (List.mem_map.mpr ⟨z,hz,rfl⟩)] at hin
       cases hin
      refine ⟨_,SqL.of (hR.same s35).h,_,hzi,by decide,?_⟩
      obtain ⟨m,hm⟩:∃ m:Nat,(zi+i) % 5=m:=⟨((zi+i) % 5).toNat,by omega⟩
      have hm4:m≤4:=by omega
      rw [hm]
      walk_at "rh"
      refine ⟨by omega,by omega,fun pb hpb=> ?_⟩
      rw [Int.toNat_natCast]
      have hne:pb≠lw:=(DL h5' hpb).symm
      refine JM (jW K pb far H5) ⟨[],none,rfl,AI.upd hpb,AF,RpL.nil⟩ ?_ ?_
      ·rintro j σ H6 hj ⟨bs,o,rfl,s6,h6,r6⟩
       obtain ⟨e1,e2,s1,e3,e4⟩:=num4 (k:=j) (by omega)
       have lb:bs.length=j:=by rw [r6.length,List.length_map,OV]
       walk_at "rh"
       rw [Int.zero_add]
       refine ⟨e1,e2,by decide,fun pA hpA=>⟨by decide,fun pB hpB=> ?_⟩⟩
       rw [e4] at hpB ⊢
       have t1:=BQ (K:=K) (d:=(Am.src far s1 (0 - far)).D) rfl hpA (BC (JL _) (BC (IP _) (RpL.one (JL _))))
       have t2:=BQ (K:=K) (d:=(goS far j).D) (by unfold goS;rw [Stm.D,e3]) hpB (BC (IP _) (RpL.one t1))
       have sB:=(AI.upd (o:= .tup [.int far,.str s1,.int (0 - far)]) hpA).trans (AI.upd (o:= .tup [.str "go",.ref pA]) hpB)
       refine ⟨bs,sB _ _ h6,CV (by omega),nx hj ⟨bs++[.ref pB],_,rfl,(s6.trans sB).upd2 hpb,AF,?_⟩⟩
       rw [ZD,List.map_append]
       exact RpL.t ((BK.refl _).upd (DW (sB _ _ h6))) ((r6.same sB).app (RpL.one t2))
      ·rintro σ H6 ⟨bs,o,rfl,s6,h6,r6⟩
       walk_at "rh"
       refine ⟨⟨_,SqL.of (s6 _ _ h5')⟩,?_⟩
       refine UY (xs:=us) (jI K l lw pb far i x m ws H5) ⟨bs,o7,o8,o9,rfl,s6,h6,by simpa using r6⟩ (fun j σ H2 _ z=>by obtain ⟨_,_,_,_,rfl,s2,_⟩:=z;exact SqL.of (s2 _ _ h5')) ?_ ?_
       ·rintro j y σ H7 hy ⟨bs,o7,o8,o9,rfl,s7,h7,r7⟩
        obtain ⟨z,pz,vz,ez,rfl,hz,rz⟩:=OO r5 hy
        have hj:=(List.getElem?_eq_some_iff.mp ez).1
        obtain ⟨za,zb,zc,zd,ze⟩:=gw.w j z ez
        have lb:bs.length≤20:=by
         rw [r7.length,List.length_map,List.length_append,OV,List.length_map,List.length_take];omega
        walk_at "rh"
        refine ⟨_,s7.tup hz,?_⟩
        walk_at "rh"
        obtain ⟨zn,hzn⟩:∃ zn:Nat,z.many=zn:=⟨z.many.toNat,by omega⟩
        refine ⟨rfl,.inl ⟨_,SqL.of h7⟩,by decide,fun pA hpA=>⟨[.int far],BQ rfl hpA (RpL.one (JL _)),zb.1,by omega,Nat.le_of_lt (CV (by rw [List.length_singleton];omega)),by simp,fun vA H8 s8 rA=>⟨by decide,fun pB hpB=> ?_⟩⟩⟩
        rw [UK] at rA
        have t2:=BQ (K:=K) (d:=(doS far z).D) (ds:=[.str "do",.str z.name,.tup (List.replicate z.many.toNat (.int far))]) (by unfold doS;rw [Stm.D,List.map_replicate];rfl) hpB (BC (IP _) (BC (IP _) (RpL.one rA)))
        have sB:=((AI.upd (o:= .tup [.int far]) hpA).trans s8).trans (AI.upd (o:= .tup [.str "do",.str z.name,vA]) hpB)
        refine ⟨bs,sB _ _ h7,CV (by omega),bs++[.ref pB],_,_,_,rfl,(s7.trans sB).upd2 hpb,AF,?_⟩
        rw [show (goL far m++(ws.take (j+1)).map (doS far)).map Stm.D=(goL far m++(ws.take j).map (doS far)).map Stm.D++[(doS far z).D] by rw [List.take_add_one,ez];simp]
        exact RpL.t ((BK.refl _).upd (DW (sB _ _ h7))) ((r7.same sB).app (RpL.one t2))
       ·rintro σ H7 ⟨bs,o7,o8,o9,rfl,s7,h7,r7⟩
        have lb:bs.length≤20:=by
         rw [r7.length,List.length_map,List.length_append,OV,List.length_map,List.length_take];omega
        rw [lus,List.take_length] at r7
        walk_at "rh"
        walk_at "rh"
        refine ⟨.inl ⟨_,SqL.of (s7 _ _ h5')⟩,_,SqL.of h7,fun pA hpA=>⟨by decide,fun pB hpB=> ?_⟩⟩
        have t1:=BQ (K:=K) (d:=bD (goL far m++ws.map (doS far))) rfl hpA r7
        have t2:=BQ (K:=K) (d:=(Wd.mk x m (goL far m++ws.map (doS far))).D) rfl hpB (BC (IP _) (BC (JL _) (RpL.one t1)))
        have sB:=(AI.upd (o:= .tup bs) hpA).trans (AI.upd (o:= .tup [.str x,.int m,.ref pA]) hpB)
        have h8:=sB _ _ (s7 _ _ h5')
        refine ⟨us,h8,CV (by omega),ws++[⟨x,m,goL far m++ws.map (doS far)⟩],us++[.ref pB],_,_,_,_,_,_,_,rfl,((s35.trans s7).trans sB).upd2 hlw,AF,?_,?_,?_⟩
        ·rw [List.map_append]
         exact RpL.t ((BK.refl _).upd (DW h8)) (((r5.same s7).same sB).app (RpL.one t2))
        ·exact gw.app (by omega) hnx hnot (by omega) (by omega) f0
        ·rw [List.length_append,List.length_singleton];omega
     ·exact ⟨ws,us,_,_,_,_,_,_,_,rfl,s35,h5',r5,gw,by omega⟩
   ·refine ⟨l,r,i,rfl,hR.same s3,by omega,by omega,fun x hnx=> ?_⟩
    exact k _ _ ⟨x,rfl,rfl,hnx⟩
  ·rintro σ H2 ⟨ws,us,o3,o4,o5,o6,o7,o8,o9,rfl,s2,h2,r2,gw,lw6⟩
   walk_at "rh"
   refine ⟨_,SqL.of h2,fun p hp=> ?_⟩
   exact q _ ws _ (s2.trans (AI.upd hp)) (BQ rfl hp r2) (gw.pg lw6)
end
def PgV (K:PySem.W.Frag) (H:Hp) (v:V):Prop:=∃ ws body,Rp K H (pD ws body) v∧NN ws body
theorem PgV.same {K:PySem.W.Frag} {H H':Hp} {v:V} (h:PgV K H v) (s:AI H H'):PgV K H' v:=by
 obtain ⟨ws,body,r,o⟩:=h
 exact ⟨ws,body,r.same s,o⟩
theorem iP:NN [] []:=⟨Nat.zero_le _,(fun i z h=>by simp at h),by rw [Stm.Gs];trivial,by rw [Stm.dps];decide,by rw [Stm.szs];decide⟩
theorem pg_x:NN [⟨"x",4,[]⟩] []:=by
 refine ⟨Nat.le_of_ble_eq_true rfl,?_,by rw [Stm.Gs];trivial,by rw [Stm.dps];decide,by rw [Stm.szs];show Stm.szs []+0+0≤_;rw [Stm.szs];decide⟩
 intro i z h
 cases i with
 | zero=>
  cases h
  refine ⟨fK _ (by decide+kernel),rfl,⟨show (0:Int)≤4 by decide,Int.le_refl 4⟩,by rw [Stm.Gs];trivial,?_⟩
  show Stm.dps []≤6
  rw [Stm.dps];decide
 | succ i=>simp at h
section
variable {P:Program} {w:World} {K:PySem.W.Frag} {mg:Str→Option Value} {base:Heap} {t:Adr}
def iT (a l ls:Addr) (H:Hp) (i:Nat) (σ:L2.St) (H2:Hp):Prop:=∃ (o3 o4:Option V),σ=[some (.ref a),some (.ref l),some (.ref ls),o3,o4]∧AI H H2
def QB (K:PySem.W.Frag):Sp:=fun vs H Q _=>∃ (a:Addr) (ns:List Int),vs=[.ref a]∧SqL K H a (ns.map V.int)∧ns.length≤63∧∀ H',Q (.bl true) H'
theorem iZ (T:Txt w K mg t):BY P w K mg base CX0 30 t.a_law t.d_law ["_law_script"] (QB K):=by
 refine T.law.F.ok MG (fun vs H Q E h=> ?_) (fun cdv A outer s H vs Q E hr h=> ?_)
 ·obtain ⟨a,ns,rfl,_⟩:=h;rfl
 ·obtain ⟨a,ns,rfl,hS,hl,q⟩:=h
  refine ⟨_,s!"1{MG.nd}{Or.inl rfl}{UT T}{hr.mono (by decide)}{T.Lrow.m}{T.Lrow.F.kp}{T.Lrow.b}{RE T}{hr.mono (by decide)}{T.Lcell.m}{T.Lcell.F.kp}{T.Lcell.b}0BDCAAHDDCAAAHJ2{MG.nd}{Or.inl rfl}{RO T}{hr.mono (by decide)}{T.Lprogram.m}{T.Lprogram.F.kp}{T.Lprogram.b}{aK T}{hr.mono (by decide)}{T.Ldeck.m}{T.Ldeck.F.kp}{T.Ldeck.b}0BDCAAHCAH{WQ T}{hr.mono (by decide)}{T.Lwords.m}{T.Lwords.F.kp}{T.Lwords.b}1BCAHWVCTAOWV{ZL T}{hr.mono (by decide)}{T.Ldeep.m}{T.Ldeep.F.kp}{T.Ldeep.b}1BCAHCATO{RJ T}{hr.mono (by decide)}{T.Llong.m}{T.Llong.F.kp}{T.Llong.b}1BCAHCATTAXJ{PP}2BWVWVWggV{@OH _ _ _ _ _ _ s!"WVWg"}uVWgVWVWggVCTTXE)3{MG.nd}L{VP}{RA T}{hr.mono (by decide)}{T.check.m}{T.check.F.kp}{T.check.b}3BCAHdNdKGSQ4{MG.nd}{Or.inl rfl}{OM T}{hr.mono (by decide)}{T.sizeof.m}{T.sizeof.F.kp}{T.sizeof.b}3BCAHJ{@PW.pt _ _ _ s!"{dO T}{hr.mono (by decide)}{T.Lint.m}{T.Lint.F.kp}{T.Lint.b}4BCAHqt{fX}4B{ZC T}{hr.mono (by decide)}{T.Lsize.m}{T.Lsize.F.kp}{T.Lsize.b}3BCAHN{VP}{RA T}{hr.mono (by decide)}{T.check.m}{T.check.F.kp}{T.check.b}3BCAHdN&!!"}dKGSQGccZ{BS}{OM T}{hr.mono (by decide)}{T.sizeof.m}{T.sizeof.F.kp}{T.sizeof.b}{RJ T}{hr.mono (by decide)}{T.Llong.m}{T.Llong.F.kp}{T.Llong.b}1BCAHCAHD{AW _}YKGccc",?_⟩
  walk_at "rh"
  refine ⟨a,ns,0,rfl,hS,hl,by decide,by decide,fun z=> ?_⟩
  walk_at "rh"
  refine ⟨z,1000,10,rfl,by decide,by decide,by decide,by decide,fun l r H1 s1 hl0 hl1 ln lb=> ?_⟩
  have hR:IH H1 l r:=⟨hl1,ln,lb⟩
  have hS1:=s1.seq hS
  clear hl0 hl1
  walk_at "rh"
  walk_at "rh"
  refine ⟨a,ns,rfl,hS1,hl,fun ld ms H2 s2 hd0 hd1 dm lm=> ?_⟩
  walk_at "rh"
  refine ⟨ld,ms,rfl,hd1,dm,lm,fun v1 ws body m3 H3 rv1 pr1 z1 f3=> ?_⟩
  have g1:PgV K H3 v1:=⟨ws,body,rv1,pr1.pg z1⟩
  have s3:AI H1 H3:=fun b o e=>f3.b b o (s2 b o e) (by
   intro hb
   rw [List.mem_singleton.mp hb,hd0] at e
   cases e)
  clear rv1 f3 hd0 hd1
  have hR3:=hR.same s3
  walk_at "rh"
  refine ⟨l,r,rfl,hR3,fun v2 w2 H4 s4 r2 g2=> ?_⟩
  walk_at "rh"
  intro v3 H5 s5 r3
  refine ⟨by decide,fun p2 hp2=> ?_⟩
  have g2:PgV K _ (.ref p2):=⟨w2,[],BQ rfl hp2 (BC (r2.same s5) (RpL.one r3)),g2⟩
  have s6:=(s4.trans s5).trans (AI.upd (o:= .tup [v2,v3]) hp2)
  have g1:=g1.same s6
  have s6:=s3.trans s6
  clear r2 r3 s5 s4 hR3 s3 hp2
  generalize upd H5 p2 (.tup [v2,v3])=H6 at *
  walk_at "rh"
  intro v4 H7 s7 r4
  refine ⟨l,r,rfl,(hR.same s6).same s7,fun v5 b5 H8 s8 r5 g3=>⟨by decide,fun p3 hp3=> ?_⟩⟩
  have g3:PgV K _ (.ref p3):=⟨[],b5,BQ rfl hp3 (BC (r4.same s8) (RpL.one r5)),g3⟩
  have s9:=(s7.trans s8).trans (AI.upd (o:= .tup [v4,v5]) hp3)
  have g1:=g1.same s9
  have g2:=g2.same s9
  have s9:=s6.trans s9
  clear r4 r5 s8 s7 s6 hp3
  generalize upd H8 p3 (.tup [v4,v5])=H9 at *
  walk_at "rh"
  refine ⟨l,r,rfl,hR.same s9,fun v6 w6 b6 H10 s10 r6 g6 z6=>⟨by decide,fun ls hls=> ?_⟩⟩
  have s11:=s10.trans (AI.upd (o:= .lst [v1,.ref p2,.ref p3,v6]) hls)
  have g1:=g1.same s11
  have g2:=g2.same s11
  have g3:=g3.same s11
  have g4:PgV K _ v6:=⟨w6,b6,r6.same (AI.upd (o:= .lst [v1,.ref p2,.ref p3,v6]) hls),g6⟩
  have h11:upd H10 ls (.lst [v1,.ref p2,.ref p3,v6]) ls=some (.lst [v1,.ref p2,.ref p3,v6]):=AF
  have s11:=s9.trans s11
  clear r6 s10 s9 hls
  generalize upd H10 ls (.lst [v1,.ref p2,.ref p3,v6])=H11 at *
  walk_at "rh"
  walk_at "rh"
  intro v7 H12 s12 r7 v8 H13 s13 r8
  refine ⟨by decide,fun p9 hp9=>⟨_,(AI.upd hp9) _ _ (s13 _ _ (s12 _ _ h11)),_,AF,Nat.le_of_lt (CV (show (6:Nat)≤50000 by decide)),fun pA hpA=> ?_⟩⟩
  have sA:=(AI.upd (o:= .lst [v7,v8]) hp9).trans (AI.upd (o:= .lst ([v1,.ref p2,.ref p3,v6]++[v7,v8])) hpA)
  have sB:=(s12.trans s13).trans sA
  have all:∀ v∈[v1,.ref p2,.ref p3,v6,v7,v8],PgV K (upd (upd H13 p9 (.lst [v7,v8])) pA (.lst ([v1,.ref p2,.ref p3,v6]++[v7,v8]))) v:=by
   have g1:=g1.same sB
   have g2:=g2.same sB
   have g3:=g3.same sB
   have g4:=g4.same sB
   have g5:PgV K _ v7:=⟨[],[],(r7.same s13).same sA,iP⟩
   have g6:PgV K _ v8:=⟨[⟨"x",4,[]⟩],[],r8.same sA,pg_x⟩
   intro v hv
   rcases List.mem_cons.mp hv with rfl | hv
   ·exact g1
   rcases List.mem_cons.mp hv with rfl | hv
   ·exact g2
   rcases List.mem_cons.mp hv with rfl | hv
   ·exact g3
   rcases List.mem_cons.mp hv with rfl | hv
   ·exact g4
   rcases List.mem_cons.mp hv with rfl | hv
   ·exact g5
   rw [List.mem_singleton.mp hv];exact g6
  have hB:upd (upd H13 p9 (.lst [v7,v8])) pA (.lst ([v1,.ref p2,.ref p3,v6]++[v7,v8])) pA=some (.lst [v1,.ref p2,.ref p3,v6,v7,v8]):=AF
  have s14:=s11.trans sB
  clear g1 g2 g3 g4 r7 r8 sA sB s12 s13 h11 hp9 hpA s11
  generalize upd (upd H13 p9 (.lst [v7,v8])) pA (.lst ([v1,.ref p2,.ref p3,v6]++[v7,v8]))=H14 at *
  refine ⟨⟨_,SqL.of hB⟩,?_⟩
  refine UY (xs:=[v1,.ref p2,.ref p3,v6,v7,v8]) (iT a l ls H14) ⟨none,none,rfl,AI.refl _⟩ (fun i σ H2 _ z=>by obtain ⟨_,_,rfl,s2⟩:=z;exact SqL.of (s2 _ _ hB)) ?_ ?_
  ·rintro i y σ H15 hy ⟨o3,o4,rfl,s15⟩
   obtain ⟨wy,byy,ry,oy⟩:=(all y (List.mem_of_getElem? hy)).same s15
   walk_at "rh"
   refine ⟨y,wy,byy,rfl,ry,oy,fun H16 s16=> ?_⟩
   walk_at "rh"
   walk_at "rh"
   refine ⟨y,wy,byy,rfl,ry.same s16,by have:=oy.l6;omega,oy.z,fun H17 s17=> ?_⟩
   walk_at "rh"
   refine ⟨_,rfl,?_⟩
   walk_at "rh"
   refine ⟨y,wy,byy,rfl,(ry.same s16).same s17,oy,fun H18 s18=> ?_⟩
   walk_at "rh"
   refine ⟨y,wy,byy,rfl,((ry.same s16).same s17).same s18,oy,fun H19 s19=> ?_⟩
   walk_at "rh"
   exact ⟨_,_,rfl,(((s15.trans s16).trans s17).trans s18).trans s19⟩
  ·rintro σ H15 ⟨o3,o4,rfl,s15⟩
   walk_at "rh"
   refine ⟨l,r,rfl,(hR.same s14).same s15,fun vL wL bL H16 s16 rL oL zL=> ?_⟩
   walk_at "rh"
   refine ⟨vL,wL,bL,rfl,rL,by have:=oL.l6;omega,oL.z,fun H17 s17=> ?_⟩
   walk_at "rh"
   rw [zL]
   exact q _
end
@[elab_as_elim] theorem JF {α:Type} {Pr:List α→Prop} (us:List α) (hl:us.length=1) (h:∀ a,Pr [a]):Pr us:=by
 match us,hl with
 | [a],_=>exact h a
@[elab_as_elim] theorem LH {α:Type} {Pr:List α→Prop} (us:List α) (hl:us.length=2) (h:∀ a b,Pr [a,b]):Pr us:=by
 match us,hl with
 | [a,b],_=>exact h a b
@[elab_as_elim] theorem dQ {α:Type} {Pr:List α→Prop} (us:List α) (hl:us.length=3) (h:∀ a b c,Pr [a,b,c]):Pr us:=by
 match us,hl with
 | [a,b,c],_=>exact h a b c
@[elab_as_elim] theorem len4 {α:Type} {Pr:List α→Prop} (us:List α) (hl:us.length=4) (h:∀ a b c d,Pr [a,b,c,d]):Pr us:=by
 match us,hl with
 | [a,b,c,d],_=>exact h a b c d
abbrev Qa (K:PySem.W.Frag) (C:Addr) (n:Str) (f:Addr):Prop:=PySem.W.findIn K (.ref C) n=some (some (.ref f))
abbrev Qn (K:PySem.W.Frag) (n:Str) (f:Addr):Prop:=PySem.W.nsIn K mainGlobals n=some (some (.ref f))
abbrev Qi (K:PySem.W.Frag) (f:Addr):Prop:=PySem.W.isFn K (.ref f)=true
abbrev Ql (K:PySem.W.Frag) (f:Addr) (oc:Value) (od:Option Addr) (x y:Str) (st:Stmt) (kV dc pm:Value) (an:Option Addr) (cd ct:Value) (sl:Array (Option Value)):Prop:=K.lookup f=some ⟨oc,od,.func (PySem.W.fnOf x y (AT st) (AR st) (AE st) .none kV dc pm an cd ct),sl⟩
abbrev Qc (K:PySem.W.Frag) (cd:Value) (y:Str):Prop:=PySem.W.codeIn K cd y=true
abbrev Qk (K:PySem.W.Frag) (f:Addr):Prop:=PySem.W.keepIn K (.ref f)=true
theorem all_mk {l:W.OpenLaw} {w:World} {K:W.Frag} {h:Heap} {mg:Str→Option Value} {fa:Addr} (X:K.In h) (G:h.Ns mainGlobals mg) (hfa:mg "law"=some (.ref fa))
  {c_Setting:Addr}
  {f0 f1 f2 f3 f4 f5 f6 f7 f8 f9 f10 f11 f12 f13 f14 f15 f16 f17 f18 f19 f20 f21 f22 f23 f24 f25 f26 f27 f28 f29 f30 f31 f32 f33 f34 f35:Addr} {od0 an0 od1 an1 od2 an2 od3 an3 od4 an4 od5 an5 od6 an6 od7 an7 od8 an8 od9 an9 od10 an10 od11 an11 od12 an12 od13 an13 od14 an14 od15 an15 od16 an16 od17 an17 od18 an18 od19 an19 od20 an20 od21 an21 od22 an22 od23 an23 od24 an24 od25 an25 od26 an26 od27 an27 od28 an28 od29 an29 od30 an30 od31 an31 od32 an32 od33 an33 od34 an34 od35 an35:Option Addr} {sl0 sl1 sl2 sl3 sl4 sl5 sl6 sl7 sl8 sl9 sl10 sl11 sl12 sl13 sl14 sl15 sl16 sl17 sl18 sl19 sl20 sl21 sl22 sl23 sl24 sl25 sl26 sl27 sl28 sl29 sl30 sl31 sl32 sl33 sl34 sl35:Array (Option Value)} {oc0 kV0 dc0 pm0 cd0 ct0 oc1 kV1 dc1 pm1 cd1 ct1 oc2 kV2 dc2 pm2 cd2 ct2 oc3 kV3 dc3 pm3 cd3 ct3 oc4 kV4 dc4 pm4 cd4 ct4 oc5 kV5 dc5 pm5 cd5 ct5 oc6 kV6 dc6 pm6 cd6 ct6 oc7 kV7 dc7 pm7 cd7 ct7 oc8 kV8 dc8 pm8 cd8 ct8 oc9 kV9 dc9 pm9 cd9 ct9 oc10 kV10 dc10 pm10 cd10 ct10 oc11 kV11 dc11 pm11 cd11 ct11 oc12 kV12 dc12 pm12 cd12 ct12 oc13 kV13 dc13 pm13 cd13 ct13 oc14 kV14 dc14 pm14 cd14 ct14 oc15 kV15 dc15 pm15 cd15 ct15 oc16 kV16 dc16 pm16 cd16 ct16 oc17 kV17 dc17 pm17 cd17 ct17 oc18 kV18 dc18 pm18 cd18 ct18 oc19 kV19 dc19 pm19 cd19 ct19 oc20 kV20 dc20 pm20 cd20 ct20 oc21 kV21 dc21 pm21 cd21 ct21 oc22 kV22 dc22 pm22 cd22 ct22 oc23 kV23 dc23 pm23 cd23 ct23 oc24 kV24 dc24 pm24 cd24 ct24 oc25 kV25 dc25 pm25 cd25 ct25 oc26 kV26 dc26 pm26 cd26 ct26 oc27 kV27 dc27 pm27 cd27 ct27 oc28 kV28 dc28 pm28 cd28 ct28 oc29 kV29 dc29 pm29 cd29 ct29 oc30 kV30 dc30 pm30 cd30 ct30 oc31 kV31 dc31 pm31 cd31 ct31 oc32 kV32 dc32 pm32 cd32 ct32 oc33 kV33 dc33 pm33 cd33 ct33 oc34 kV34 dc34 pm34 cd34 ct34 oc35 kV35 dc35 pm35 cd35 ct35:Value}
  (aC_Setting:W.nsIn K mainGlobals "Setting"=some (some (.ref c_Setting))) (pg_Setting:W.plainGet K c_Setting Str.empty=true) (hd_Setting:W.hasDictIn K c_Setting=true) (po_Setting:W.plainOver K c_Setting=true) (sa_Setting:W.findIn K (.ref c_Setting) "__setattr__"=some (some (.builtin "object.__setattr__"))) (mk_Setting:W.makesIn K c_Setting=true) (kc_Setting:W.keepIn K (.ref c_Setting)=true)
  (n_Setting_known:W.findIn K (.ref c_Setting) "known"=some none)
  (n_Setting_many:W.findIn K (.ref c_Setting) "many"=some none)
  (n_Setting_counted:W.findIn K (.ref c_Setting) "counted"=some none)
  (n_Setting_depth:W.findIn K (.ref c_Setting) "depth"=some none)
  (a0:Qa K c_Setting "__init__" f0) (i0:Qi K f0) (l0:Ql K f0 oc0 od0 "__init__" "Setting.__init__" CM kV0 dc0 pm0 an0 cd0 ct0 sl0) (c0:Qc K cd0 "Setting.__init__") (k0:Qk K f0)
  (a1:Qa K c_Setting "within" f1) (i1:Qi K f1) (l1:Ql K f1 oc1 od1 "within" "Setting.within" CB kV1 dc1 pm1 an1 cd1 ct1 sl1) (c1:Qc K cd1 "Setting.within") (k1:Qk K f1)
  (a2:Qa K c_Setting "has_source" f2) (i2:Qi K f2) (l2:Ql K f2 oc2 od2 "has_source" "Setting.has_source" BR kV2 dc2 pm2 an2 cd2 ct2 sl2) (c2:Qc K cd2 "Setting.has_source") (k2:Qk K f2)
  (a3:Qn K "need" f3) (l3:Ql K f3 oc3 od3 "need" "need" KB kV3 dc3 pm3 an3 cd3 ct3 sl3) (c3:Qc K cd3 "need") (k3:Qk K f3)
  (a4:Qn K "is_tuple_of" f4) (l4:Ql K f4 oc4 od4 "is_tuple_of" "is_tuple_of" DS kV4 dc4 pm4 an4 cd4 ct4 sl4) (c4:Qc K cd4 "is_tuple_of") (k4:Qk K f4)
  (a5:Qn K "is_int_within" f5) (l5:Ql K f5 oc5 od5 "is_int_within" "is_int_within" CZ kV5 dc5 pm5 an5 cd5 ct5 sl5) (c5:Qc K cd5 "is_int_within") (k5:Qk K f5)
  (a6:Qn K "is_amount_int" f6) (l6:Ql K f6 oc6 od6 "is_amount_int" "is_amount_int" CY kV6 dc6 pm6 an6 cd6 ct6 sl6) (c6:Qc K cd6 "is_amount_int") (k6:Qk K f6)
  (a7:Qn K "is_name" f7) (l7:Ql K f7 oc7 od7 "is_name" "is_name" FE kV7 dc7 pm7 an7 cd7 ct7 sl7) (c7:Qc K cd7 "is_name") (k7:Qk K f7)
  (a8:Qn K "check_amount" f8) (l8:Ql K f8 oc8 od8 "check_amount" "check_amount" DA kV8 dc8 pm8 an8 cd8 ct8 sl8) (c8:Qc K cd8 "check_amount") (k8:Qk K f8)
  (a9:Qn K "check_do" f9) (l9:Ql K f9 oc9 od9 "check_do" "check_do" EY kV9 dc9 pm9 an9 cd9 ct9 sl9) (c9:Qc K cd9 "check_do") (k9:Qk K f9)
  (a10:Qn K "check_statement" f10) (l10:Ql K f10 oc10 od10 "check_statement" "check_statement" CC kV10 dc10 pm10 an10 cd10 ct10 sl10) (c10:Qc K cd10 "check_statement") (k10:Qk K f10)
  (a11:Qn K "check_body" f11) (l11:Ql K f11 oc11 od11 "check_body" "check_body" DU kV11 dc11 pm11 an11 cd11 ct11 sl11) (c11:Qc K cd11 "check_body") (k11:Qk K f11)
  (a12:Qn K "check_word" f12) (l12:Ql K f12 oc12 od12 "check_word" "check_word" DT kV12 dc12 pm12 an12 cd12 ct12 sl12) (c12:Qc K cd12 "check_word") (k12:Qk K f12)
  (a13:Qn K "check" f13) (l13:Ql K f13 oc13 od13 "check" "check" HZ kV13 dc13 pm13 an13 cd13 ct13 sl13) (c13:Qc K cd13 "check") (k13:Qk K f13)
  (a14:Qn K "bodies_of" f14) (l14:Ql K f14 oc14 od14 "bodies_of" "bodies_of" DQ kV14 dc14 pm14 an14 cd14 ct14 sl14) (c14:Qc K cd14 "bodies_of") (k14:Qk K f14)
  (a15:Qn K "size_of" f15) (l15:Ql K f15 oc15 od15 "size_of" "size_of" FF kV15 dc15 pm15 an15 cd15 ct15 sl15) (c15:Qc K cd15 "size_of") (k15:Qk K f15)
  (a16:Qn K "_law_mixed" f16) (l16:Ql K f16 oc16 od16 "_law_mixed" "_law_mixed" FY kV16 dc16 pm16 an16 cd16 ct16 sl16) (c16:Qc K cd16 "_law_mixed") (k16:Qk K f16)
  (a17:Qn K "_law_row" f17) (l17:Ql K f17 oc17 od17 "_law_row" "_law_row" IN kV17 dc17 pm17 an17 cd17 ct17 sl17) (c17:Qc K cd17 "_law_row") (k17:Qk K f17)
  (a18:Qn K "_law_cell" f18) (l18:Ql K f18 oc18 od18 "_law_cell" "_law_cell" HW kV18 dc18 pm18 an18 cd18 ct18 sl18) (c18:Qc K cd18 "_law_cell") (k18:Qk K f18)
  (a19:Qn K "_law_deck" f19) (l19:Ql K f19 oc19 od19 "_law_deck" "_law_deck" IB kV19 dc19 pm19 an19 cd19 ct19 sl19) (c19:Qc K cd19 "_law_deck") (k19:Qk K f19)
  (a20:Qn K "_law_next" f20) (l20:Ql K f20 oc20 od20 "_law_next" "_law_next" IA kV20 dc20 pm20 an20 cd20 ct20 sl20) (c20:Qc K cd20 "_law_next") (k20:Qk K f20)
  (a21:Qn K "_law_amount" f21) (l21:Ql K f21 oc21 od21 "_law_amount" "_law_amount" EZ kV21 dc21 pm21 an21 cd21 ct21 sl21) (c21:Qc K cd21 "_law_amount") (k21:Qk K f21)
  (a22:Qn K "_law_rounds" f22) (l22:Ql K f22 oc22 od22 "_law_rounds" "_law_rounds" EW kV22 dc22 pm22 an22 cd22 ct22 sl22) (c22:Qc K cd22 "_law_rounds") (k22:Qk K f22)
  (a23:Qn K "_law_choice" f23) (l23:Ql K f23 oc23 od23 "_law_choice" "_law_choice" EX kV23 dc23 pm23 an23 cd23 ct23 sl23) (c23:Qc K cd23 "_law_choice") (k23:Qk K f23)
  (a24:Qn K "_law_call" f24) (l24:Ql K f24 oc24 od24 "_law_call" "_law_call" GG kV24 dc24 pm24 an24 cd24 ct24 sl24) (c24:Qc K cd24 "_law_call") (k24:Qk K f24)
  (a25:Qn K "_law_statement" f25) (l25:Ql K f25 oc25 od25 "_law_statement" "_law_statement" DH kV25 dc25 pm25 an25 cd25 ct25 sl25) (c25:Qc K cd25 "_law_statement") (k25:Qk K f25)
  (a26:Qn K "_law_body" f26) (l26:Ql K f26 oc26 od26 "_law_body" "_law_body" HQ kV26 dc26 pm26 an26 cd26 ct26 sl26) (c26:Qc K cd26 "_law_body") (k26:Qk K f26)
  (a27:Qn K "_law_program" f27) (l27:Ql K f27 oc27 od27 "_law_program" "_law_program" EF kV27 dc27 pm27 an27 cd27 ct27 sl27) (c27:Qc K cd27 "_law_program") (k27:Qk K f27)
  (a28:Qn K "_law_int" f28) (l28:Ql K f28 oc28 od28 "_law_int" "_law_int" JY kV28 dc28 pm28 an28 cd28 ct28 sl28) (c28:Qc K cd28 "_law_int") (k28:Qk K f28)
  (a29:Qn K "_law_count" f29) (l29:Ql K f29 oc29 od29 "_law_count" "_law_count" GA kV29 dc29 pm29 an29 cd29 ct29 sl29) (c29:Qc K cd29 "_law_count") (k29:Qk K f29)
  (a30:Qn K "_law_size" f30) (l30:Ql K f30 oc30 od30 "_law_size" "_law_size" GF kV30 dc30 pm30 an30 cd30 ct30 sl30) (c30:Qc K cd30 "_law_size") (k30:Qk K f30)
  (a31:Qn K "_law_name" f31) (l31:Ql K f31 oc31 od31 "_law_name" "_law_name" HN kV31 dc31 pm31 an31 cd31 ct31 sl31) (c31:Qc K cd31 "_law_name") (k31:Qk K f31)
  (a32:Qn K "_law_words" f32) (l32:Ql K f32 oc32 od32 "_law_words" "_law_words" EG kV32 dc32 pm32 an32 cd32 ct32 sl32) (c32:Qc K cd32 "_law_words") (k32:Qk K f32)
  (a33:Qn K "_law_deep" f33) (l33:Ql K f33 oc33 od33 "_law_deep" "_law_deep" HV kV33 dc33 pm33 an33 cd33 ct33 sl33) (c33:Qc K cd33 "_law_deep") (k33:Qk K f33)
  (a34:Qn K "_law_long" f34) (l34:Ql K f34 oc34 od34 "_law_long" "_law_long" FM kV34 dc34 pm34 an34 cd34 ct34 sl34) (c34:Qc K cd34 "_law_long") (k34:Qk K f34)
  (a35:Qn K "law" f35) (l35:Ql K f35 oc35 od35 "law" "law" OA kV35 dc35 pm35 an35 cd35 ct35 sl35) (c35:Qc K cd35 "law") (k35:Qk K f35)
  (z_all:W.nsIn K mainGlobals "all"=some none)
  (z_bool:W.nsIn K mainGlobals "bool"=some none)
  (z_int:W.nsIn K mainGlobals "int"=some none)
  (z_isinstance:W.nsIn K mainGlobals "isinstance"=some none)
  (z_len:W.nsIn K mainGlobals "len"=some none)
  (z_list:W.nsIn K mainGlobals "list"=some none)
  (z_max:W.nsIn K mainGlobals "max"=some none)
  (z_min:W.nsIn K mainGlobals "min"=some none)
  (z_range:W.nsIn K mainGlobals "range"=some none)
  (z_reversed:W.nsIn K mainGlobals "reversed"=some none)
  (z_str:W.nsIn K mainGlobals "str"=some none)
  (z_sum:W.nsIn K mainGlobals "sum"=some none)
  (z_tuple:W.nsIn K mainGlobals "tuple"=some none)
  (z_zip:W.nsIn K mainGlobals "zip"=some none)
  {u_MOST_WORDS:Value} (g_MOST_WORDS:W.nsIn K mainGlobals "MOST_WORDS"=some (some u_MOST_WORDS)) (k_MOST_WORDS:GV K GK u_MOST_WORDS=true)
  {u_MOST_LETTERS:Value} (g_MOST_LETTERS:W.nsIn K mainGlobals "MOST_LETTERS"=some (some u_MOST_LETTERS)) (k_MOST_LETTERS:GV K FB u_MOST_LETTERS=true)
  {u_MOST_AMOUNT:Value} (g_MOST_AMOUNT:W.nsIn K mainGlobals "MOST_AMOUNT"=some (some u_MOST_AMOUNT)) (k_MOST_AMOUNT:GV K FU u_MOST_AMOUNT=true)
  {u_MOST_MARK:Value} (g_MOST_MARK:W.nsIn K mainGlobals "MOST_MARK"=some (some u_MOST_MARK)) (k_MOST_MARK:GV K HF u_MOST_MARK=true)
  {u_MOST_SIZE:Value} (g_MOST_SIZE:W.nsIn K mainGlobals "MOST_SIZE"=some (some u_MOST_SIZE)) (k_MOST_SIZE:GV K FN u_MOST_SIZE=true)
  {u_MOST_DEPTH:Value} (g_MOST_DEPTH:W.nsIn K mainGlobals "MOST_DEPTH"=some (some u_MOST_DEPTH)) (k_MOST_DEPTH:GV K GJ u_MOST_DEPTH=true)
  {u_NUMBERS:Value} (g_NUMBERS:W.nsIn K mainGlobals "NUMBERS"=some (some u_NUMBERS)) (k_NUMBERS:GV K KC u_NUMBERS=true)
  {c_HouseError:Addr} (aE_HouseError:W.nsIn K mainGlobals "HouseError"=some (some (.ref c_HouseError)))
  {c_NoProgram:Addr} (aE_NoProgram:W.nsIn K mainGlobals "NoProgram"=some (some (.ref c_NoProgram)))
  (xE_NoProgram:LW K c_HouseError c_NoProgram=true)
  {u_SHAPES:Value} (g_SHAPES:W.nsIn K mainGlobals "SHAPES"=some (some u_SHAPES)) (y_SHAPES:KZ K w.params DZ_SHAPES u_SHAPES)
  (nz_SHAPES:KZn u_SHAPES)
  :∃ fd:FuncData,(∀ (s:Shared) (v:Value),BindsTo s fd ⟨[v],[]⟩ [("_law_script",v)])∧∀ base:Heap,K.In base→base.Ns mainGlobals mg→BY l.prog w K mg base CX0 30 fa fd ["_law_script"] (QB K):=by
 have e:=hfa.symm.trans (W.mg_of X G a35)
 cases e
 have F0:=BI (st:=CM) l0 c0 k0
 have b0:=F0.binds (ps:=["self","known","many","counted","depth"]) fun _ _ _ _ _ _ us hl=>match us,hl with | [_,_,_,_,_],_=>rfl
 have F1:=BI (st:=CB) l1 c1 k1
 have b1:=F1.binds (ps:=["self","first"]) fun _ _ _ _ _ _ us hl=>LH us hl (fun _ _=>rfl)
 have F2:=BI (st:=BR) l2 c2 k2
 have b2:=F2.binds (ps:=["self","source"]) fun _ _ _ _ _ _ us hl=>LH us hl (fun _ _=>rfl)
 have F3:=BI (st:=KB) l3 c3 k3
 have b3:=F3.binds (ps:=["holds","why"]) fun _ _ _ _ _ _ us hl=>LH us hl (fun _ _=>rfl)
 have F4:=BI (st:=DS) l4 c4 k4
 have b4:=F4.binds (ps:=["thing","many"]) fun _ _ _ _ _ _ us hl=>LH us hl (fun _ _=>rfl)
 have F5:=BI (st:=CZ) l5 c5 k5
 have b5:=F5.binds (ps:=["thing","low","high"]) fun _ _ _ _ _ _ us hl=>dQ us hl (fun _ _ _=>rfl)
 have F6:=BI (st:=CY) l6 c6 k6
 have b6:=F6.binds (ps:=["thing"]) fun _ _ _ _ _ _ us hl=>JF us hl (fun _=>rfl)
 have F7:=BI (st:=FE) l7 c7 k7
 have b7:=F7.binds (ps:=["thing"]) fun _ _ _ _ _ _ us hl=>JF us hl (fun _=>rfl)
 have F8:=BI (st:=DA) l8 c8 k8
 have b8:=F8.binds (ps:=["thing","setting"]) fun _ _ _ _ _ _ us hl=>LH us hl (fun _ _=>rfl)
 have F9:=BI (st:=EY) l9 c9 k9
 have b9:=F9.binds (ps:=["name","amounts","setting"]) fun _ _ _ _ _ _ us hl=>dQ us hl (fun _ _ _=>rfl)
 have F10:=BI (st:=CC) l10 c10 k10
 have b10:=F10.binds (ps:=["statement","setting"]) fun _ _ _ _ _ _ us hl=>LH us hl (fun _ _=>rfl)
 have F11:=BI (st:=DU) l11 c11 k11
 have b11:=F11.binds (ps:=["body","setting"]) fun _ _ _ _ _ _ us hl=>LH us hl (fun _ _=>rfl)
 have F12:=BI (st:=DT) l12 c12 k12
 have b12:=F12.binds (ps:=["word","known"]) fun _ _ _ _ _ _ us hl=>LH us hl (fun _ _=>rfl)
 have F13:=BI (st:=HZ) l13 c13 k13
 have b13:=F13.binds (ps:=["thing"]) fun _ _ _ _ _ _ us hl=>JF us hl (fun _=>rfl)
 have F14:=BI (st:=DQ) l14 c14 k14
 have b14:=F14.binds (ps:=["statement"]) fun _ _ _ _ _ _ us hl=>JF us hl (fun _=>rfl)
 have F15:=BI (st:=FF) l15 c15 k15
 have b15:=F15.binds (ps:=["program"]) fun _ _ _ _ _ _ us hl=>JF us hl (fun _=>rfl)
 have F16:=BI (st:=FY) l16 c16 k16
 have b16:=F16.binds (ps:=["_law_cell_here","_law_k"]) fun _ _ _ _ _ _ us hl=>LH us hl (fun _ _=>rfl)
 have F17:=BI (st:=IN) l17 c17 k17
 have b17:=F17.binds (ps:=["_law_cell_here","_law_most","_law_many"]) fun _ _ _ _ _ _ us hl=>dQ us hl (fun _ _ _=>rfl)
 have F18:=BI (st:=HW) l18 c18 k18
 have b18:=F18.binds (ps:=["_law_script","_law_k"]) fun _ _ _ _ _ _ us hl=>LH us hl (fun _ _=>rfl)
 have F19:=BI (st:=IB) l19 c19 k19
 have b19:=F19.binds (ps:=["_law_script","_law_start"]) fun _ _ _ _ _ _ us hl=>LH us hl (fun _ _=>rfl)
 have F20:=BI (st:=IA) l20 c20 k20
 have b20:=F20.binds (ps:=["_law_deck_here"]) fun _ _ _ _ _ _ us hl=>JF us hl (fun _=>rfl)
 have F21:=BI (st:=EZ) l21 c21 k21
 have b21:=F21.binds (ps:=["_law_deck_here","_law_inside","_law_takes"]) fun _ _ _ _ _ _ us hl=>dQ us hl (fun _ _ _=>rfl)
 have F22:=BI (st:=EW) l22 c22 k22
 have b22:=F22.binds (ps:=["_law_deck_here","_law_deep_here","_law_inside","_law_takes","_law_words_here"]) fun _ _ _ _ _ _ us hl=>match us,hl with | [_,_,_,_,_],_=>rfl
 have F23:=BI (st:=EX) l23 c23 k23
 have b23:=F23.binds (ps:=["_law_deck_here","_law_deep_here","_law_inside","_law_takes","_law_words_here"]) fun _ _ _ _ _ _ us hl=>match us,hl with | [_,_,_,_,_],_=>rfl
 have F24:=BI (st:=GG) l24 c24 k24
 have b24:=F24.binds (ps:=["_law_deck_here","_law_inside","_law_takes","_law_words_here"]) fun _ _ _ _ _ _ us hl=>len4 us hl (fun _ _ _ _=>rfl)
 have F25:=BI (st:=DH) l25 c25 k25
 have b25:=F25.binds (ps:=["_law_deck_here","_law_deep_here","_law_inside","_law_takes","_law_words_here"]) fun _ _ _ _ _ _ us hl=>match us,hl with | [_,_,_,_,_],_=>rfl
 have F26:=BI (st:=HQ) l26 c26 k26
 have b26:=F26.binds (ps:=["_law_deck_here","_law_deep_here","_law_inside","_law_takes","_law_words_here"]) fun _ _ _ _ _ _ us hl=>match us,hl with | [_,_,_,_,_],_=>rfl
 have F27:=BI (st:=EF) l27 c27 k27
 have b27:=F27.binds (ps:=["_law_deck_here"]) fun _ _ _ _ _ _ us hl=>JF us hl (fun _=>rfl)
 have F28:=BI (st:=JY) l28 c28 k28
 have b28:=F28.binds (ps:=["_law_found"]) fun _ _ _ _ _ _ us hl=>JF us hl (fun _=>rfl)
 have F29:=BI (st:=GA) l29 c29 k29
 have b29:=F29.binds (ps:=["_law_body_here"]) fun _ _ _ _ _ _ us hl=>JF us hl (fun _=>rfl)
 have F30:=BI (st:=GF) l30 c30 k30
 have b30:=F30.binds (ps:=["_law_program_here"]) fun _ _ _ _ _ _ us hl=>JF us hl (fun _=>rfl)
 have F31:=BI (st:=HN) l31 c31 k31
 have b31:=F31.binds (ps:=["_law_row_here","_law_k"]) fun _ _ _ _ _ _ us hl=>LH us hl (fun _ _=>rfl)
 have F32:=BI (st:=EG) l32 c32 k32
 have b32:=F32.binds (ps:=["_law_row_here"]) fun _ _ _ _ _ _ us hl=>JF us hl (fun _=>rfl)
 have F33:=BI (st:=HV) l33 c33 k33
 have b33:=F33.binds (ps:=["_law_row_here"]) fun _ _ _ _ _ _ us hl=>JF us hl (fun _=>rfl)
 have F34:=BI (st:=FM) l34 c34 k34
 have b34:=F34.binds (ps:=["_law_row_here"]) fun _ _ _ _ _ _ us hl=>JF us hl (fun _=>rfl)
 have F35:=BI (st:=OA) l35 c35 k35
 have b35:=F35.binds (ps:=["_law_script"]) fun _ _ _ _ _ _ us hl=>JF us hl (fun _=>rfl)
 obtain ⟨v_MOST_WORDS,r_MOST_WORDS,p_MOST_WORDS⟩:=JK k_MOST_WORDS
 obtain ⟨v_MOST_LETTERS,r_MOST_LETTERS,p_MOST_LETTERS⟩:=JK k_MOST_LETTERS
 obtain ⟨v_MOST_AMOUNT,r_MOST_AMOUNT,p_MOST_AMOUNT⟩:=JK k_MOST_AMOUNT
 obtain ⟨v_MOST_MARK,r_MOST_MARK,p_MOST_MARK⟩:=JK k_MOST_MARK
 obtain ⟨v_MOST_SIZE,r_MOST_SIZE,p_MOST_SIZE⟩:=JK k_MOST_SIZE
 obtain ⟨v_MOST_DEPTH,r_MOST_DEPTH,p_MOST_DEPTH⟩:=JK k_MOST_DEPTH
 obtain ⟨v_NUMBERS,r_NUMBERS,p_NUMBERS⟩:=JK k_NUMBERS
 obtain ⟨v_SHAPES,q_SHAPES⟩:∃ v,AZ v u_SHAPES:=by obtain ⟨p,_,_,_,e,_⟩:=y_SHAPES.ex;exact ⟨.ref p,e⟩
 have T:Txt w K mg ⟨_,_,_,_,_,_,_,_,_,_,_,_,_,_,_,_,_,_,_,_,_,_,_,_,_,_,_,_,_,_,_,_,_,_,_,_,_,_,_,_,_,_,_,_,_,_,_,_,_,_,_,_,_,_,_,_,_,_,_,_,_,_,_,_,_,_,_,_,_,_,_,_,_,_,_,_,_,_,_,_,_,_,_,_,_,_,_,u_SHAPES,v_SHAPES,c_HouseError,c_NoProgram⟩:=⟨⟨F0,b0,⟨mk_Setting,a0,i0,kc_Setting⟩⟩,⟨F1,b1,⟨a1,i1,k1⟩⟩,⟨F2,b2,⟨a2,i2,k2⟩⟩,⟨F3,b3,W.mg_of X G a3⟩,⟨F4,b4,W.mg_of X G a4⟩,⟨F5,b5,W.mg_of X G a5⟩,⟨F6,b6,W.mg_of X G a6⟩,⟨F7,b7,W.mg_of X G a7⟩,⟨F8,b8,W.mg_of X G a8⟩,⟨F9,b9,W.mg_of X G a9⟩,⟨F10,b10,W.mg_of X G a10⟩,⟨F11,b11,W.mg_of X G a11⟩,⟨F12,b12,W.mg_of X G a12⟩,⟨F13,b13,W.mg_of X G a13⟩,⟨F14,b14,W.mg_of X G a14⟩,⟨F15,b15,W.mg_of X G a15⟩,⟨F16,b16,W.mg_of X G a16⟩,⟨F17,b17,W.mg_of X G a17⟩,⟨F18,b18,W.mg_of X G a18⟩,⟨F19,b19,W.mg_of X G a19⟩,⟨F20,b20,W.mg_of X G a20⟩,⟨F21,b21,W.mg_of X G a21⟩,⟨F22,b22,W.mg_of X G a22⟩,⟨F23,b23,W.mg_of X G a23⟩,⟨F24,b24,W.mg_of X G a24⟩,⟨F25,b25,W.mg_of X G a25⟩,⟨F26,b26,W.mg_of X G a26⟩,⟨F27,b27,W.mg_of X G a27⟩,⟨F28,b28,W.mg_of X G a28⟩,⟨F29,b29,W.mg_of X G a29⟩,⟨F30,b30,W.mg_of X G a30⟩,⟨F31,b31,W.mg_of X G a31⟩,⟨F32,b32,W.mg_of X G a32⟩,⟨F33,b33,W.mg_of X G a33⟩,⟨F34,b34,W.mg_of X G a34⟩,⟨F35,b35,W.mg_of X G a35⟩,⟨pg_Setting,hd_Setting,po_Setting,sa_Setting⟩,W.mg_of X G aC_Setting,n_Setting_known,n_Setting_many,n_Setting_counted,n_Setting_depth,W.mg_none_of X G z_all,W.mg_none_of X G z_bool,W.mg_none_of X G z_int,W.mg_none_of X G z_isinstance,W.mg_none_of X G z_len,W.mg_none_of X G z_list,W.mg_none_of X G z_max,W.mg_none_of X G z_min,W.mg_none_of X G z_range,W.mg_none_of X G z_reversed,W.mg_none_of X G z_str,W.mg_none_of X G z_sum,W.mg_none_of X G z_tuple,W.mg_none_of X G z_zip,W.mg_of X G g_MOST_WORDS,r_MOST_WORDS,p_MOST_WORDS,W.mg_of X G g_MOST_LETTERS,r_MOST_LETTERS,p_MOST_LETTERS,W.mg_of X G g_MOST_AMOUNT,r_MOST_AMOUNT,p_MOST_AMOUNT,W.mg_of X G g_MOST_MARK,r_MOST_MARK,p_MOST_MARK,W.mg_of X G g_MOST_SIZE,r_MOST_SIZE,p_MOST_SIZE,W.mg_of X G g_MOST_DEPTH,r_MOST_DEPTH,p_MOST_DEPTH,W.mg_of X G g_NUMBERS,r_NUMBERS,p_NUMBERS,W.mg_of X G g_SHAPES,q_SHAPES,y_SHAPES,nz_SHAPES,W.mg_of X G aE_NoProgram,xE_NoProgram⟩
 exact ⟨_,fun s v=> .of_eq rfl,fun base _ _=>iZ T⟩
theorem walk {l:PySem.W.OpenLaw} {q:Program} {loose:List Str} {XP:(Str→Option Value)→Heap→Prop} {YP:World→Heap→Prop} {d:DefRec} {K:Params→PySem.W.Frag} (hn:l.most=some 63) (hdf:d.params.defaults=[])
  (hY:∀ (w:World) (h:Heap),YP w h→(K w.params).In h)
  (F:∀ (w:World) (mg:Str→Option Value) (fa:Addr) (h:Heap),(K w.params).In h→h.Ns mainGlobals mg→mg d.name=some (.ref fa)→
   ∃ fd:FuncData,(∀ (s:Shared) (u:Value),BindsTo s fd ⟨[u],[]⟩ [("_law_script",u)])∧∀ base:Heap,(K w.params).In base→base.Ns mainGlobals mg→BY l.prog w (K w.params) mg base CX0 30 fa fd ["_law_script"] (QB (K w.params))):
  PySem.W.WalkO q loose XP YP l.row.toRowW d [] (fun f vs=>PySem.call f vs):=
 L2.walk_of (n:=63) (k:=30) (x:="_law_script") (CX:=fun _=>CX0) (sp:=fun w=>QB (K w.params)) hn (by decide) hdf ⟨rfl,by decide,by decide⟩ hY F (fun _ _ a ns hl _ hS=>⟨a,ns,rfl,hS,hl,fun _=>rfl⟩) fun _ _ _ _ _ z=>z
end My
namespace Hd
open PySem PySem.Spec PyProof.Rows L2
noncomputable def la:List Str:=List.map Str.ofString ["_law_size","_law_program_here","sum","_law_count","_law_body_here","_law_name_here","_law_many",".0","fast","_law_name","_law_row_here","_law_k","_law_letters","abcdefghijklmnopqrstuvwxyz","_law_size_here","","_law_j","range","_law_step","_law_words","_law_words_here","_law_far","a","b","c","go","again","abcdefgh","_law_one","n","str","_law_other","_law_takes","_law_inner","append","do","tuple","_law_deep","count","ink","if","up","mark","back","_law_long","_law_some","turn","len","w","down","law","_law_script","_law_row","_law_cell","_law_program","_law_deck","x","check","_law_found","size_of","_law_int","_law_call","_law_deck_here","_law_inside","_law_next","_law_amount","_law_statement","_law_deep_here","_law_way","_law_choice","_law_rounds","_law_body","int","_law_kind","_law_most","leaf","star","isinstance","bool","_law_waiting","pop","_law_number","_law_start","max","min","list","reversed","_law_amount_here","thing","need","is_tuple_of","a program is a tuple of words and a body","words","body","MOST_WORDS","words are a tuple, and not too many","known","size","word","check_word","check_body","Setting","MOST_SIZE","there are too many statements","bodies_of","statement","shape","SHAPES","part","kind","zip","program","waiting","extend","__name__","law_turtlehouse_k11_good_programs","_law_mixed","_law_cell_here","_law_rest","is_name","MOST_LETTERS","all","letter","z","check_amount","setting","is_amount_int","an amount is an int within its bounds, or a tuple","an amount that is a tuple has three things","times","source","more","times and more are ints within their bounds","has_source","there is no such source here","check_do","name","amounts","no such word stands ahead","amounts are a tuple, as many as the word takes","amount","check_statement","a statement is a tuple of some things","first","there is no such statement","a statement has just the things that follow its first","number","is_int_within","MOST_MARK","the number of a mark is an int within its bounds","within","a body is a tuple","depth","MOST_DEPTH","too many agains and ifs stand one within another","a word is a tuple of a name, how many numbers it takes, and a body","many","a name is a text of some small letters","the names of words are unlike","NUMBERS","how many numbers a word takes is an int within its bounds","__init__","self","counted","holds","why","NoProgram","low","high","MOST_AMOUNT","n0","n1","n2","n3","turtlehouse.errors","HouseError","ValueError","turtlehouse.programs","/claim/cut.py","__doc__","__package__","__loader__","__spec__","__annotations__","__builtins__","__file__","__cached__","__module__","__firstlineno__","__static_attributes__","__weakref__","Setting.__init__","Setting.within","Setting.has_source","__dict__"]
noncomputable def lb:List Str:=[⟨⟨[95,108,97,119,95,115,105,122,101]⟩⟩,⟨⟨[95,108,97,119,95,112,114,111,103,114,97,109,95,104,101,114,101]⟩⟩,⟨⟨[115,117,109]⟩⟩,⟨⟨[95,108,97,119,95,99,111,117,110,116]⟩⟩,⟨⟨[95,108,97,119,95,98,111,100,121,95,104,101,114,101]⟩⟩,⟨⟨[95,108,97,119,95,110,97,109,101,95,104,101,114,101]⟩⟩,⟨⟨[95,108,97,119,95,109,97,110,121]⟩⟩,⟨⟨[46,48]⟩⟩,⟨⟨[102,97,115,116]⟩⟩,⟨⟨[95,108,97,119,95,110,97,109,101]⟩⟩,⟨⟨[95,108,97,119,95,114,111,119,95,104,101,114,101]⟩⟩,⟨⟨[95,108,97,119,95,107]⟩⟩,⟨⟨[95,108,97,119,95,108,101,116,116,101,114,115]⟩⟩,⟨⟨[97,98,99,100,101,102,103,104,105,106,107,108,109,110,111,112,113,114,115,116,117,118,119,120,121,122]⟩⟩,⟨⟨[95,108,97,119,95,115,105,122,101,95,104,101,114,101]⟩⟩,⟨⟨[]⟩⟩,⟨⟨[95,108,97,119,95,106]⟩⟩,⟨⟨[114,97,110,103,101]⟩⟩,⟨⟨[95,108,97,119,95,115,116,101,112]⟩⟩,⟨⟨[95,108,97,119,95,119,111,114,100,115]⟩⟩,⟨⟨[95,108,97,119,95,119,111,114,100,115,95,104,101,114,101]⟩⟩,⟨⟨[95,108,97,119,95,102,97,114]⟩⟩,⟨⟨[97]⟩⟩,⟨⟨[98]⟩⟩,⟨⟨[99]⟩⟩,⟨⟨[103,111]⟩⟩,⟨⟨[97,103,97,105,110]⟩⟩,⟨⟨[97,98,99,100,101,102,103,104]⟩⟩,⟨⟨[95,108,97,119,95,111,110,101]⟩⟩,⟨⟨[110]⟩⟩,⟨⟨[115,116,114]⟩⟩,⟨⟨[95,108,97,119,95,111,116,104,101,114]⟩⟩,⟨⟨[95,108,97,119,95,116,97,107,101,115]⟩⟩,⟨⟨[95,108,97,119,95,105,110,110,101,114]⟩⟩,⟨⟨[97,112,112,101,110,100]⟩⟩,⟨⟨[100,111]⟩⟩,⟨⟨[116,117,112,108,101]⟩⟩,⟨⟨[95,108,97,119,95,100,101,101,112]⟩⟩,⟨⟨[99,111,117,110,116]⟩⟩,⟨⟨[105,110,107]⟩⟩,⟨⟨[105,102]⟩⟩,⟨⟨[117,112]⟩⟩,⟨⟨[109,97,114,107]⟩⟩,⟨⟨[98,97,99,107]⟩⟩,⟨⟨[95,108,97,119,95,108,111,110,103]⟩⟩,⟨⟨[95,108,97,119,95,115,111,109,101]⟩⟩,⟨⟨[116,117,114,110]⟩⟩,⟨⟨[108,101,110]⟩⟩,⟨⟨[119]⟩⟩,⟨⟨[100,111,119,110]⟩⟩,⟨⟨[108,97,119]⟩⟩,⟨⟨[95,108,97,119,95,115,99,114,105,112,116]⟩⟩,⟨⟨[95,108,97,119,95,114,111,119]⟩⟩,⟨⟨[95,108,97,119,95,99,101,108,108]⟩⟩,⟨⟨[95,108,97,119,95,112,114,111,103,114,97,109]⟩⟩,⟨⟨[95,108,97,119,95,100,101,99,107]⟩⟩,⟨⟨[120]⟩⟩,⟨⟨[99,104,101,99,107]⟩⟩,⟨⟨[95,108,97,119,95,102,111,117,110,100]⟩⟩,⟨⟨[115,105,122,101,95,111,102]⟩⟩,⟨⟨[95,108,97,119,95,105,110,116]⟩⟩,⟨⟨[95,108,97,119,95,99,97,108,108]⟩⟩,⟨⟨[95,108,97,119,95,100,101,99,107,95,104,101,114,101]⟩⟩,⟨⟨[95,108,97,119,95,105,110,115,105,100,101]⟩⟩,⟨⟨[95,108,97,119,95,110,101,120,116]⟩⟩,⟨⟨[95,108,97,119,95,97,109,111,117,110,116]⟩⟩,⟨⟨[95,108,97,119,95,115,116,97,116,101,109,101,110,116]⟩⟩,⟨⟨[95,108,97,119,95,100,101,101,112,95,104,101,114,101]⟩⟩,⟨⟨[95,108,97,119,95,119,97,121]⟩⟩,⟨⟨[95,108,97,119,95,99,104,111,105,99,101]⟩⟩,⟨⟨[95,108,97,119,95,114,111,117,110,100,115]⟩⟩,⟨⟨[95,108,97,119,95,98,111,100,121]⟩⟩,⟨⟨[105,110,116]⟩⟩,⟨⟨[95,108,97,119,95,107,105,110,100]⟩⟩,⟨⟨[95,108,97,119,95,109,111,115,116]⟩⟩,⟨⟨[108,101,97,102]⟩⟩,⟨⟨[115,116,97,114]⟩⟩,⟨⟨[105,115,105,110,115,116,97,110,99,101]⟩⟩,⟨⟨[98,111,111,108]⟩⟩,⟨⟨[95,108,97,119,95,119,97,105,116,105,110,103]⟩⟩,⟨⟨[112,111,112]⟩⟩,⟨⟨[95,108,97,119,95,110,117,109,98,101,114]⟩⟩,⟨⟨[95,108,97,119,95,115,116,97,114,116]⟩⟩,⟨⟨[109,97,120]⟩⟩,⟨⟨[109,105,110]⟩⟩,⟨⟨[108,105,115,116]⟩⟩,⟨⟨[114,101,118,101,114,115,101,100]⟩⟩,⟨⟨[95,108,97,119,95,97,109,111,117,110,116,95,104,101,114,101]⟩⟩,⟨⟨[116,104,105,110,103]⟩⟩,⟨⟨[110,101,101,100]⟩⟩,⟨⟨[105,115,95,116,117,112,108,101,95,111,102]⟩⟩,⟨⟨[97,32,112,114,111,103,114,97,109,32,105,115,32,97,32,116,117,112,108,101,32,111,102,32,119,111,114,100,115,32,97,110,100,32,97,32,98,111,100,121]⟩⟩,⟨⟨[119,111,114,100,115]⟩⟩,⟨⟨[98,111,100,121]⟩⟩,⟨⟨[77,79,83,84,95,87,79,82,68,83]⟩⟩,⟨⟨[119,111,114,100,115,32,97,114,101,32,97,32,116,117,112,108,101,44,32,97,110,100,32,110,111,116,32,116,111,111,32,109,97,110,121]⟩⟩,⟨⟨[107,110,111,119,110]⟩⟩,⟨⟨[115,105,122,101]⟩⟩,⟨⟨[119,111,114,100]⟩⟩,⟨⟨[99,104,101,99,107,95,119,111,114,100]⟩⟩,⟨⟨[99,104,101,99,107,95,98,111,100,121]⟩⟩,⟨⟨[83,101,116,116,105,110,103]⟩⟩,⟨⟨[77,79,83,84,95,83,73,90,69]⟩⟩,⟨⟨[116,104,101,114,101,32,97,114,101,32,116,111,111,32,109,97,110,121,32,115,116,97,116,101,109,101,110,116,115]⟩⟩,⟨⟨[98,111,100,105,101,115,95,111,102]⟩⟩,⟨⟨[115,116,97,116,101,109,101,110,116]⟩⟩,⟨⟨[115,104,97,112,101]⟩⟩,⟨⟨[83,72,65,80,69,83]⟩⟩,⟨⟨[112,97,114,116]⟩⟩,⟨⟨[107,105,110,100]⟩⟩,⟨⟨[122,105,112]⟩⟩,⟨⟨[112,114,111,103,114,97,109]⟩⟩,⟨⟨[119,97,105,116,105,110,103]⟩⟩,⟨⟨[101,120,116,101,110,100]⟩⟩,⟨⟨[95,95,110,97,109,101,95,95]⟩⟩,⟨⟨[108,97,119,95,116,117,114,116,108,101,104,111,117,115,101,95,107,49,49,95,103,111,111,100,95,112,114,111,103,114,97,109,115]⟩⟩,⟨⟨[95,108,97,119,95,109,105,120,101,100]⟩⟩,⟨⟨[95,108,97,119,95,99,101,108,108,95,104,101,114,101]⟩⟩,⟨⟨[95,108,97,119,95,114,101,115,116]⟩⟩,⟨⟨[105,115,95,110,97,109,101]⟩⟩,⟨⟨[77,79,83,84,95,76,69,84,84,69,82,83]⟩⟩,⟨⟨[97,108,108]⟩⟩,⟨⟨[108,101,116,116,101,114]⟩⟩,⟨⟨[122]⟩⟩,⟨⟨[99,104,101,99,107,95,97,109,111,117,110,116]⟩⟩,⟨⟨[115,101,116,116,105,110,103]⟩⟩,⟨⟨[105,115,95,97,109,111,117,110,116,95,105,110,116]⟩⟩,⟨⟨[97,110,32,97,109,111,117,110,116,32,105,115,32,97,110,32,105,110,116,32,119,105,116,104,105,110,32,105,116,115,32,98,111,117,110,100,115,44,32,111,114,32,97,32,116,117,112,108,101]⟩⟩,⟨⟨[97,110,32,97,109,111,117,110,116,32,116,104,97,116,32,105,115,32,97,32,116,117,112,108,101,32,104,97,115,32,116,104,114,101,101,32,116,104,105,110,103,115]⟩⟩,⟨⟨[116,105,109,101,115]⟩⟩,⟨⟨[115,111,117,114,99,101]⟩⟩,⟨⟨[109,111,114,101]⟩⟩,⟨⟨[116,105,109,101,115,32,97,110,100,32,109,111,114,101,32,97,114,101,32,105,110,116,115,32,119,105,116,104,105,110,32,116,104,101,105,114,32,98,111,117,110,100,115]⟩⟩,⟨⟨[104,97,115,95,115,111,117,114,99,101]⟩⟩,⟨⟨[116,104,101,114,101,32,105,115,32,110,111,32,115,117,99,104,32,115,111,117,114,99,101,32,104,101,114,101]⟩⟩,⟨⟨[99,104,101,99,107,95,100,111]⟩⟩,⟨⟨[110,97,109,101]⟩⟩,⟨⟨[97,109,111,117,110,116,115]⟩⟩,⟨⟨[110,111,32,115,117,99,104,32,119,111,114,100,32,115,116,97,110,100,115,32,97,104,101,97,100]⟩⟩,⟨⟨[97,109,111,117,110,116,115,32,97,114,101,32,97,32,116,117,112,108,101,44,32,97,115,32,109,97,110,121,32,97,115,32,116,104,101,32,119,111,114,100,32,116,97,107,101,115]⟩⟩,⟨⟨[97,109,111,117,110,116]⟩⟩,⟨⟨[99,104,101,99,107,95,115,116,97,116,101,109,101,110,116]⟩⟩,⟨⟨[97,32,115,116,97,116,101,109,101,110,116,32,105,115,32,97,32,116,117,112,108,101,32,111,102,32,115,111,109,101,32,116,104,105,110,103,115]⟩⟩,⟨⟨[102,105,114,115,116]⟩⟩,⟨⟨[116,104,101,114,101,32,105,115,32,110,111,32,115,117,99,104,32,115,116,97,116,101,109,101,110,116]⟩⟩,⟨⟨[97,32,115,116,97,116,101,109,101,110,116,32,104,97,115,32,106,117,115,116,32,116,104,101,32,116,104,105,110,103,115,32,116,104,97,116,32,102,111,108,108,111,119,32,105,116,115,32,102,105,114,115,116]⟩⟩,⟨⟨[110,117,109,98,101,114]⟩⟩,⟨⟨[105,115,95,105,110,116,95,119,105,116,104,105,110]⟩⟩,⟨⟨[77,79,83,84,95,77,65,82,75]⟩⟩,⟨⟨[116,104,101,32,110,117,109,98,101,114,32,111,102,32,97,32,109,97,114,107,32,105,115,32,97,110,32,105,110,116,32,119,105,116,104,105,110,32,105,116,115,32,98,111,117,110,100,115]⟩⟩,⟨⟨[119,105,116,104,105,110]⟩⟩,⟨⟨[97,32,98,111,100,121,32,105,115,32,97,32,116,117,112,108,101]⟩⟩,⟨⟨[100,101,112,116,104]⟩⟩,⟨⟨[77,79,83,84,95,68,69,80,84,72]⟩⟩,⟨⟨[116,111,111,32,109,97,110,121,32,97,103,97,105,110,115,32,97,110,100,32,105,102,115,32,115,116,97,110,100,32,111,110,101,32,119,105,116,104,105,110,32,97,110,111,116,104,101,114]⟩⟩,⟨⟨[97,32,119,111,114,100,32,105,115,32,97,32,116,117,112,108,101,32,111,102,32,97,32,110,97,109,101,44,32,104,111,119,32,109,97,110,121,32,110,117,109,98,101,114,115,32,105,116,32,116,97,107,101,115,44,32,97,110,100,32,97,32,98,111,100,121]⟩⟩,⟨⟨[109,97,110,121]⟩⟩,⟨⟨[97,32,110,97,109,101,32,105,115,32,97,32,116,101,120,116,32,111,102,32,115,111,109,101,32,115,109,97,108,108,32,108,101,116,116,101,114,115]⟩⟩,⟨⟨[116,104,101,32,110,97,109,101,115,32,111,102,32,119,111,114,100,115,32,97,114,101,32,117,110,108,105,107,101]⟩⟩,⟨⟨[78,85,77,66,69,82,83]⟩⟩,⟨⟨[104,111,119,32,109,97,110,121,32,110,117,109,98,101,114,115,32,97,32,119,111,114,100,32,116,97,107,101,115,32,105,115,32,97,110,32,105,110,116,32,119,105,116,104,105,110,32,105,116,115,32,98,111,117,110,100,115]⟩⟩,⟨⟨[95,95,105,110,105,116,95,95]⟩⟩,⟨⟨[115,101,108,102]⟩⟩,⟨⟨[99,111,117,110,116,101,100]⟩⟩,⟨⟨[104,111,108,100,115]⟩⟩,⟨⟨[119,104,121]⟩⟩,⟨⟨[78,111,80,114,111,103,114,97,109]⟩⟩,⟨⟨[108,111,119]⟩⟩,⟨⟨[104,105,103,104]⟩⟩,⟨⟨[77,79,83,84,95,65,77,79,85,78,84]⟩⟩,⟨⟨[110,48]⟩⟩,⟨⟨[110,49]⟩⟩,⟨⟨[110,50]⟩⟩,⟨⟨[110,51]⟩⟩,⟨⟨[116,117,114,116,108,101,104,111,117,115,101,46,101,114,114,111,114,115]⟩⟩,⟨⟨[72,111,117,115,101,69,114,114,111,114]⟩⟩,⟨⟨[86,97,108,117,101,69,114,114,111,114]⟩⟩,⟨⟨[116,117,114,116,108,101,104,111,117,115,101,46,112,114,111,103,114,97,109,115]⟩⟩,⟨⟨[47,99,108,97,105,109,47,99,117,116,46,112,121]⟩⟩,⟨⟨[95,95,100,111,99,95,95]⟩⟩,⟨⟨[95,95,112,97,99,107,97,103,101,95,95]⟩⟩,⟨⟨[95,95,108,111,97,100,101,114,95,95]⟩⟩,⟨⟨[95,95,115,112,101,99,95,95]⟩⟩,⟨⟨[95,95,97,110,110,111,116,97,116,105,111,110,115,95,95]⟩⟩,⟨⟨[95,95,98,117,105,108,116,105,110,115,95,95]⟩⟩,⟨⟨[95,95,102,105,108,101,95,95]⟩⟩,⟨⟨[95,95,99,97,99,104,101,100,95,95]⟩⟩,⟨⟨[95,95,109,111,100,117,108,101,95,95]⟩⟩,⟨⟨[95,95,102,105,114,115,116,108,105,110,101,110,111,95,95]⟩⟩,⟨⟨[95,95,115,116,97,116,105,99,95,97,116,116,114,105,98,117,116,101,115,95,95]⟩⟩,⟨⟨[95,95,119,101,97,107,114,101,102,95,95]⟩⟩,⟨⟨[83,101,116,116,105,110,103,46,95,95,105,110,105,116,95,95]⟩⟩,⟨⟨[83,101,116,116,105,110,103,46,119,105,116,104,105,110]⟩⟩,⟨⟨[83,101,116,116,105,110,103,46,104,97,115,95,115,111,117,114,99,101]⟩⟩,⟨⟨[95,95,100,105,99,116,95,95]⟩⟩]
theorem hl:la=lb:=by
 unfold la lb
 iterate 195 (refine kG (atom _ _ (by kernel_rfl) (by kernel_rfl)) ?_)
 rfl
noncomputable def Gp:{ G:Str→Str→Str→Str→Str→Str→Str→Str→Str→Str→Str→Str→Str→Str→Str→Str→Str→Str→Str→Str→Str→Str→Str→Str→Str→Str→Str→Str→Str→Str→Str→Str→Str→Str→Str→Str→Str→Str→Str→Str→Str→Str→Str→Str→Str→Str→Str→Str→Str→Str→Str→Str→Str→Str→Str→Str→Str→Str→Str→Str→Str→Str→Str→Str→Str→Str→Str→Str→Str→Str→Str→Str→Str→Str→Str→Str→Str→Str→Str→Str→Str→Str→Str→Str→Str→Str→Str→Str→Str→Str→Str→Str→Str→Str→Str→Str→Str→Str→Str→Str→Str→Str→Str→Str→Str→Str→Str→Str→Str→Str→Str→Str→Str→Str→Str→Str→Str→Str→Str→Str→Str→Str→Str→Str→Str→Str→Str→Str→Str→Str→Str→Str→Str→Str→Str→Str→Str→Str→Str→Str→Str→Str→Str→Str→Str→Str→Str→Str→Str→Str→Str→Str→Str→Str→Str→Str→Str→Str→Str→Str→Str→Str→Str→Str→Str→Str→Str→Str→Str→Str→Str→Str→Str→Str→Str→Str→Str→Str→Str→Program // PySem.Challenge.pw_turtlehouse_k11_good_programs=G (Str.ofString "_law_size") (Str.ofString "_law_program_here") (Str.ofString "sum") (Str.ofString "_law_count") (Str.ofString "_law_body_here") (Str.ofString "_law_name_here") (Str.ofString "_law_many") (Str.ofString ".0") (Str.ofString "fast") (Str.ofString "_law_name") (Str.ofString "_law_row_here") (Str.ofString "_law_k") (Str.ofString "_law_letters") (Str.ofString "abcdefghijklmnopqrstuvwxyz") (Str.ofString "_law_size_here") (Str.ofString "") (Str.ofString "_law_j") (Str.ofString "range") (Str.ofString "_law_step") (Str.ofString "_law_words") (Str.ofString "_law_words_here") (Str.ofString "_law_far") (Str.ofString "a") (Str.ofString "b") (Str.ofString "c") (Str.ofString "go") (Str.ofString "again") (Str.ofString "abcdefgh") (Str.ofString "_law_one") (Str.ofString "n") (Str.ofString "str") (Str.ofString "_law_other") (Str.ofString "_law_takes") (Str.ofString "_law_inner") (Str.ofString "append") (Str.ofString "do") (Str.ofString "tuple") (Str.ofString "_law_deep") (Str.ofString "count") (Str.ofString "ink") (Str.ofString "if") (Str.ofString "up") (Str.ofString "mark") (Str.ofString "back") (Str.ofString "_law_long") (Str.ofString "_law_some") (Str.ofString "turn") (Str.ofString "len") (Str.ofString "w") (Str.ofString "down") (Str.ofString "law") (Str.ofString "_law_script") (Str.ofString "_law_row") (Str.ofString "_law_cell") (Str.ofString "_law_program") (Str.ofString "_law_deck") (Str.ofString "x") (Str.ofString "check") (Str.ofString "_law_found") (Str.ofString "size_of") (Str.ofString "_law_int") (Str.ofString "_law_call") (Str.ofString "_law_deck_here") (Str.ofString "_law_inside") (Str.ofString "_law_next") (Str.ofString "_law_amount") (Str.ofString "_law_statement") (Str.ofString "_law_deep_here") (Str.ofString "_law_way") (Str.ofString "_law_choice") (Str.ofString "_law_rounds") (Str.ofString "_law_body") (Str.ofString "int") (Str.ofString "_law_kind") (Str.ofString "_law_most") (Str.ofString "leaf") (Str.ofString "star") (Str.ofString "isinstance") (Str.ofString "bool") (Str.ofString "_law_waiting") (Str.ofString "pop") (Str.ofString "_law_number") (Str.ofString "_law_start") (Str.ofString "max") (Str.ofString "min") (Str.ofString "list") (Str.ofString "reversed") (Str.ofString "_law_amount_here") (Str.ofString "thing") (Str.ofString "need") (Str.ofString "is_tuple_of") (Str.ofString "a program is a tuple of words and a body") (Str.ofString "words") (Str.ofString "body") (Str.ofString "MOST_WORDS") (Str.ofString "words are a tuple, and not too many") (Str.ofString "known") (Str.ofString "size") (Str.ofString "word") (Str.ofString "check_word") (Str.ofString "check_body") (Str.ofString "Setting") (Str.ofString "MOST_SIZE") (Str.ofString "there are too many statements") (Str.ofString "bodies_of") (Str.ofString "statement") (Str.ofString "shape") (Str.ofString "SHAPES") (Str.ofString "part") (Str.ofString "kind") (Str.ofString "zip") (Str.ofString "program") (Str.ofString "waiting") (Str.ofString "extend") (Str.ofString "__name__") (Str.ofString "law_turtlehouse_k11_good_programs") (Str.ofString "_law_mixed") (Str.ofString "_law_cell_here") (Str.ofString "_law_rest") (Str.ofString "is_name") (Str.ofString "MOST_LETTERS") (Str.ofString "all") (Str.ofString "letter") (Str.ofString "z") (Str.ofString "check_amount") (Str.ofString "setting") (Str.ofString "is_amount_int") (Str.ofString "an amount is an int within its bounds, or a tuple") (Str.ofString "an amount that is a tuple has three things") (Str.ofString "times") (Str.ofString "source") (Str.ofString "more") (Str.ofString "times and more are ints within their bounds") (Str.ofString "has_source") (Str.ofString "there is no such source here") (Str.ofString "check_do") (Str.ofString "name") (Str.ofString "amounts") (Str.ofString "no such word stands ahead") (Str.ofString "amounts are a tuple, as many as the word takes") (Str.ofString "amount") (Str.ofString "check_statement") (Str.ofString "a statement is a tuple of some things") (Str.ofString "first") (Str.ofString "there is no such statement") (Str.ofString "a statement has just the things that follow its first") (Str.ofString "number") (Str.ofString "is_int_within") (Str.ofString "MOST_MARK") (Str.ofString "the number of a mark is an int within its bounds") (Str.ofString "within") (Str.ofString "a body is a tuple") (Str.ofString "depth") (Str.ofString "MOST_DEPTH") (Str.ofString "too many agains and ifs stand one within another") (Str.ofString "a word is a tuple of a name, how many numbers it takes, and a body") (Str.ofString "many") (Str.ofString "a name is a text of some small letters") (Str.ofString "the names of words are unlike") (Str.ofString "NUMBERS") (Str.ofString "how many numbers a word takes is an int within its bounds") (Str.ofString "__init__") (Str.ofString "self") (Str.ofString "counted") (Str.ofString "holds") (Str.ofString "why") (Str.ofString "NoProgram") (Str.ofString "low") (Str.ofString "high") (Str.ofString "MOST_AMOUNT") (Str.ofString "n0") (Str.ofString "n1") (Str.ofString "n2") (Str.ofString "n3") (Str.ofString "turtlehouse.errors") (Str.ofString "HouseError") (Str.ofString "ValueError") (Str.ofString "turtlehouse.programs") (Str.ofString "/claim/cut.py") }:=⟨_,by
 unfold PySem.Challenge.pw_turtlehouse_k11_good_programs
 generalize Str.ofString "_law_size"=s0
 generalize Str.ofString "_law_program_here"=s1
 generalize Str.ofString "sum"=s2
 generalize Str.ofString "_law_count"=s3
 generalize Str.ofString "_law_body_here"=s4
 generalize Str.ofString "_law_name_here"=s5
 generalize Str.ofString "_law_many"=s6
 generalize Str.ofString ".0"=s7
 generalize Str.ofString "fast"=s8
 generalize Str.ofString "_law_name"=s9
 generalize Str.ofString "_law_row_here"=s10
 generalize Str.ofString "_law_k"=s11
 generalize Str.ofString "_law_letters"=s12
 generalize Str.ofString "abcdefghijklmnopqrstuvwxyz"=s13
 generalize Str.ofString "_law_size_here"=s14
 generalize Str.ofString ""=s15
 generalize Str.ofString "_law_j"=s16
 generalize Str.ofString "range"=s17
 generalize Str.ofString "_law_step"=s18
 generalize Str.ofString "_law_words"=s19
 generalize Str.ofString "_law_words_here"=s20
 generalize Str.ofString "_law_far"=s21
 generalize Str.ofString "a"=s22
 generalize Str.ofString "b"=s23
 generalize Str.ofString "c"=s24
 generalize Str.ofString "go"=s25
 generalize Str.ofString "again"=s26
 generalize Str.ofString "abcdefgh"=s27
 generalize Str.ofString "_law_one"=s28
 generalize Str.ofString "n"=s29
 generalize Str.ofString "str"=s30
 generalize Str.ofString "_law_other"=s31
 generalize Str.ofString "_law_takes"=s32
 generalize Str.ofString "_law_inner"=s33
 generalize Str.ofString "append"=s34
 generalize Str.ofString "do"=s35
 generalize Str.ofString "tuple"=s36
 generalize Str.ofString "_law_deep"=s37
 generalize Str.ofString "count"=s38
 generalize Str.ofString "ink"=s39
 generalize Str.ofString "if"=s40
 generalize Str.ofString "up"=s41
 generalize Str.ofString "mark"=s42
 generalize Str.ofString "back"=s43
 generalize Str.ofString "_law_long"=s44
 generalize Str.ofString "_law_some"=s45
 generalize Str.ofString "turn"=s46
 generalize Str.ofString "len"=s47
 generalize Str.ofString "w"=s48
 generalize Str.ofString "down"=s49
 generalize Str.ofString "law"=s50
 generalize Str.ofString "_law_script"=s51
 generalize Str.ofString "_law_row"=s52
 generalize Str.ofString "_law_cell"=s53
 generalize Str.ofString "_law_program"=s54
 generalize Str.ofString "_law_deck"=s55
 generalize Str.ofString "x"=s56
 generalize Str.ofString "check"=s57
 generalize Str.ofString "_law_found"=s58
 generalize Str.ofString "size_of"=s59
 generalize Str.ofString "_law_int"=s60
 generalize Str.ofString "_law_call"=s61
 generalize Str.ofString "_law_deck_here"=s62
 generalize Str.ofString "_law_inside"=s63
 generalize Str.ofString "_law_next"=s64
 generalize Str.ofString "_law_amount"=s65
 generalize Str.ofString "_law_statement"=s66
 generalize Str.ofString "_law_deep_here"=s67
 generalize Str.ofString "_law_way"=s68
 generalize Str.ofString "_law_choice"=s69
 generalize Str.ofString "_law_rounds"=s70
 generalize Str.ofString "_law_body"=s71
 generalize Str.ofString "int"=s72
 generalize Str.ofString "_law_kind"=s73
 generalize Str.ofString "_law_most"=s74
 generalize Str.ofString "leaf"=s75
 generalize Str.ofString "star"=s76
 generalize Str.ofString "isinstance"=s77
 generalize Str.ofString "bool"=s78
 generalize Str.ofString "_law_waiting"=s79
 generalize Str.ofString "pop"=s80
 generalize Str.ofString "_law_number"=s81
 generalize Str.ofString "_law_start"=s82
 generalize Str.ofString "max"=s83
 generalize Str.ofString "min"=s84
 generalize Str.ofString "list"=s85
 generalize Str.ofString "reversed"=s86
 generalize Str.ofString "_law_amount_here"=s87
 generalize Str.ofString "thing"=s88
 generalize Str.ofString "need"=s89
 generalize Str.ofString "is_tuple_of"=s90
 generalize Str.ofString "a program is a tuple of words and a body"=s91
 generalize Str.ofString "words"=s92
 generalize Str.ofString "body"=s93
 generalize Str.ofString "MOST_WORDS"=s94
 generalize Str.ofString "words are a tuple, and not too many"=s95
 generalize Str.ofString "known"=s96
 generalize Str.ofString "size"=s97
 generalize Str.ofString "word"=s98
 generalize Str.ofString "check_word"=s99
 generalize Str.ofString "check_body"=s100
 generalize Str.ofString "Setting"=s101
 generalize Str.ofString "MOST_SIZE"=s102
 generalize Str.ofString "there are too many statements"=s103
 generalize Str.ofString "bodies_of"=s104
 generalize Str.ofString "statement"=s105
 generalize Str.ofString "shape"=s106
 generalize Str.ofString "SHAPES"=s107
 generalize Str.ofString "part"=s108
 generalize Str.ofString "kind"=s109
 generalize Str.ofString "zip"=s110
 generalize Str.ofString "program"=s111
 generalize Str.ofString "waiting"=s112
 generalize Str.ofString "extend"=s113
 generalize Str.ofString "__name__"=s114
 generalize Str.ofString "law_turtlehouse_k11_good_programs"=s115
 generalize Str.ofString "_law_mixed"=s116
 generalize Str.ofString "_law_cell_here"=s117
 generalize Str.ofString "_law_rest"=s118
 generalize Str.ofString "is_name"=s119
 generalize Str.ofString "MOST_LETTERS"=s120
 generalize Str.ofString "all"=s121
 generalize Str.ofString "letter"=s122
 generalize Str.ofString "z"=s123
 generalize Str.ofString "check_amount"=s124
 generalize Str.ofString "setting"=s125
 generalize Str.ofString "is_amount_int"=s126
 generalize Str.ofString "an amount is an int within its bounds, or a tuple"=s127
 generalize Str.ofString "an amount that is a tuple has three things"=s128
 generalize Str.ofString "times"=s129
 generalize Str.ofString "source"=s130
 generalize Str.ofString "more"=s131
 generalize Str.ofString "times and more are ints within their bounds"=s132
 generalize Str.ofString "has_source"=s133
 generalize Str.ofString "there is no such source here"=s134
 generalize Str.ofString "check_do"=s135
 generalize Str.ofString "name"=s136
 generalize Str.ofString "amounts"=s137
 generalize Str.ofString "no such word stands ahead"=s138
 generalize Str.ofString "amounts are a tuple, as many as the word takes"=s139
 generalize Str.ofString "amount"=s140
 generalize Str.ofString "check_statement"=s141
 generalize Str.ofString "a statement is a tuple of some things"=s142
 generalize Str.ofString "first"=s143
 generalize Str.ofString "there is no such statement"=s144
 generalize Str.ofString "a statement has just the things that follow its first"=s145
 generalize Str.ofString "number"=s146
 generalize Str.ofString "is_int_within"=s147
 generalize Str.ofString "MOST_MARK"=s148
 generalize Str.ofString "the number of a mark is an int within its bounds"=s149
 generalize Str.ofString "within"=s150
 generalize Str.ofString "a body is a tuple"=s151
 generalize Str.ofString "depth"=s152
 generalize Str.ofString "MOST_DEPTH"=s153
 generalize Str.ofString "too many agains and ifs stand one within another"=s154
 generalize Str.ofString "a word is a tuple of a name, how many numbers it takes, and a body"=s155
 generalize Str.ofString "many"=s156
 generalize Str.ofString "a name is a text of some small letters"=s157
 generalize Str.ofString "the names of words are unlike"=s158
 generalize Str.ofString "NUMBERS"=s159
 generalize Str.ofString "how many numbers a word takes is an int within its bounds"=s160
 generalize Str.ofString "__init__"=s161
 generalize Str.ofString "self"=s162
 generalize Str.ofString "counted"=s163
 generalize Str.ofString "holds"=s164
 generalize Str.ofString "why"=s165
 generalize Str.ofString "NoProgram"=s166
 generalize Str.ofString "low"=s167
 generalize Str.ofString "high"=s168
 generalize Str.ofString "MOST_AMOUNT"=s169
 generalize Str.ofString "n0"=s170
 generalize Str.ofString "n1"=s171
 generalize Str.ofString "n2"=s172
 generalize Str.ofString "n3"=s173
 generalize Str.ofString "turtlehouse.errors"=s174
 generalize Str.ofString "HouseError"=s175
 generalize Str.ofString "ValueError"=s176
 generalize Str.ofString "turtlehouse.programs"=s177
 generalize Str.ofString "/claim/cut.py"=s178
 exact rfl⟩
noncomputable def GL (l:List Str):Program:=Gp.1 (nm l 0) (nm l 1) (nm l 2) (nm l 3) (nm l 4) (nm l 5) (nm l 6) (nm l 7) (nm l 8) (nm l 9) (nm l 10) (nm l 11) (nm l 12) (nm l 13) (nm l 14) (nm l 15) (nm l 16) (nm l 17) (nm l 18) (nm l 19) (nm l 20) (nm l 21) (nm l 22) (nm l 23) (nm l 24) (nm l 25) (nm l 26) (nm l 27) (nm l 28) (nm l 29) (nm l 30) (nm l 31) (nm l 32) (nm l 33) (nm l 34) (nm l 35) (nm l 36) (nm l 37) (nm l 38) (nm l 39) (nm l 40) (nm l 41) (nm l 42) (nm l 43) (nm l 44) (nm l 45) (nm l 46) (nm l 47) (nm l 48) (nm l 49) (nm l 50) (nm l 51) (nm l 52) (nm l 53) (nm l 54) (nm l 55) (nm l 56) (nm l 57) (nm l 58) (nm l 59) (nm l 60) (nm l 61) (nm l 62) (nm l 63) (nm l 64) (nm l 65) (nm l 66) (nm l 67) (nm l 68) (nm l 69) (nm l 70) (nm l 71) (nm l 72) (nm l 73) (nm l 74) (nm l 75) (nm l 76) (nm l 77) (nm l 78) (nm l 79) (nm l 80) (nm l 81) (nm l 82) (nm l 83) (nm l 84) (nm l 85) (nm l 86) (nm l 87) (nm l 88) (nm l 89) (nm l 90) (nm l 91) (nm l 92) (nm l 93) (nm l 94) (nm l 95) (nm l 96) (nm l 97) (nm l 98) (nm l 99) (nm l 100) (nm l 101) (nm l 102) (nm l 103) (nm l 104) (nm l 105) (nm l 106) (nm l 107) (nm l 108) (nm l 109) (nm l 110) (nm l 111) (nm l 112) (nm l 113) (nm l 114) (nm l 115) (nm l 116) (nm l 117) (nm l 118) (nm l 119) (nm l 120) (nm l 121) (nm l 122) (nm l 123) (nm l 124) (nm l 125) (nm l 126) (nm l 127) (nm l 128) (nm l 129) (nm l 130) (nm l 131) (nm l 132) (nm l 133) (nm l 134) (nm l 135) (nm l 136) (nm l 137) (nm l 138) (nm l 139) (nm l 140) (nm l 141) (nm l 142) (nm l 143) (nm l 144) (nm l 145) (nm l 146) (nm l 147) (nm l 148) (nm l 149) (nm l 150) (nm l 151) (nm l 152) (nm l 153) (nm l 154) (nm l 155) (nm l 156) (nm l 157) (nm l 158) (nm l 159) (nm l 160) (nm l 161) (nm l 162) (nm l 163) (nm l 164) (nm l 165) (nm l 166) (nm l 167) (nm l 168) (nm l 169) (nm l 170) (nm l 171) (nm l 172) (nm l 173) (nm l 174) (nm l 175) (nm l 176) (nm l 177) (nm l 178)
theorem hp:PySem.Challenge.pw_turtlehouse_k11_good_programs=GL lb:=Gp.2.trans (congrArg GL hl)
noncomputable def _root_.PySem.W.Fast.tw16014568742968654384:Program:=GL lb
theorem _root_.PySem.W.Fast.te16014568742968654384:PySem.Challenge.pw_turtlehouse_k11_good_programs=PySem.W.Fast.tw16014568742968654384:=hp
noncomputable def KL (p:Program) (l:List Str) (P:Params):PySem.W.Frag:=[
 (3,⟨(.type "dict"),none,.dict ⟨[de P (nm l 114) 165 (.str (nm l 115) 444),de P (nm l 179) 166 .none,de P (nm l 180) 167 .none,de P (nm l 181) 168 (.builtin "__main__.__loader__#opaque"),de P (nm l 182) 169 .none,de P (nm l 183) 170 (.ref 6),de P (nm l 184) 171 (.ref 4),de P (nm l 185) 173 (.str (nm l 178) 172),de P (nm l 186) 174 .none,de P (nm l 175) 206 (.ref 24),de P (nm l 166) 222 (.ref 37),de P (nm l 94) 226 (.int (6) 225),de P (nm l 120) 228 (.int (8) 227),de P (nm l 169) 230 (.int (1000000) 229),de P (nm l 148) 232 (.int (9) 231),de P (nm l 102) 234 (.int (4000) 233),de P (nm l 153) 236 (.int (6) 235),de P (nm l 159) 241 (.ref 40),de P (nm l 107) 274 (.ref 41),de P (nm l 101) 326 (.ref 82),de P (nm l 89) 334 (.ref 93),de P (nm l 90) 342 (.ref 100),de P (nm l 147) 351 (.ref 107),de P (nm l 126) 358 (.ref 114),de P (nm l 119) 364 (.ref 119),de P (nm l 124) 375 (.ref 126),de P (nm l 135) 385 (.ref 133),de P (nm l 141) 398 (.ref 140),de P (nm l 100) 408 (.ref 147),de P (nm l 99) 419 (.ref 154),de P (nm l 57) 431 (.ref 161),de P (nm l 104) 437 (.ref 166),de P (nm l 59) 443 (.ref 171),de P (nm l 116) 454 (.ref 178),de P (nm l 52) 460 (.ref 183),de P (nm l 53) 469 (.ref 190),de P (nm l 55) 479 (.ref 197),de P (nm l 64) 486 (.ref 204),de P (nm l 65) 496 (.ref 211),de P (nm l 70) 509 (.ref 218),de P (nm l 69) 522 (.ref 225),de P (nm l 61) 528 (.ref 230),de P (nm l 66) 540 (.ref 237),de P (nm l 71) 553 (.ref 244),de P (nm l 54) 566 (.ref 251),de P (nm l 60) 573 (.ref 258),de P (nm l 3) 583 (.ref 265),de P (nm l 0) 589 (.ref 270),de P (nm l 9) 602 (.ref 277),de P (nm l 19) 608 (.ref 282),de P (nm l 37) 617 (.ref 289),de P (nm l 44) 623 (.ref 294),de P (nm l 50) 634 (.ref 301)]⟩ 53,⟨[]⟩⟩),
 (22,⟨(.type "tuple"),none,.seq ⟨[]⟩ 0,⟨[]⟩⟩),
 (23,⟨(.type "dict"),none,.dict ⟨[de P (nm l 187) 196 (.str (nm l 174) 187),de P (nm l 188) 200 (.int (2) 199),de P (nm l 189) 201 (.ref 22),de P (nm l 190) 203 (.ref 25),de P (nm l 179) 204 .none]⟩ 3,⟨[]⟩⟩),
 (24,⟨(.type "type"),none,.cls { name:=nm l 175,bases:=[(.type "ValueError")],mro:=[(.ref 24),(.type "ValueError"),(.type "Exception"),(.type "BaseException"),(.type "object")],ns:=23,qualname:=nm l 175,hasDict:=true,slotNames:=[],subclasses:=[(.ref 37)],abstract:=false,collection:=none,hasDel:=false },⟨[(some (.ref 15)),none,(some (.str (nm l 175) 189)),(some (.str (nm l 175) 197)),(some (.builtin "ValueError.__new__")),(some (.bool true))]⟩⟩),
 (25,⟨(.type "getset_descriptor"),none,.fields ⟨[(.str (nm l 190) 202),(.ref 24),(.builtin "ExceptionGroup.__weakref__"),.none]⟩,⟨[]⟩⟩),
 (35,⟨(.type "tuple"),none,.seq ⟨[]⟩ 0,⟨[]⟩⟩),
 (36,⟨(.type "dict"),none,.dict ⟨[de P (nm l 187) 214 (.str (nm l 174) 187),de P (nm l 188) 218 (.int (4) 217),de P (nm l 189) 219 (.ref 35),de P (nm l 179) 220 .none]⟩ 2,⟨[]⟩⟩),
 (37,⟨(.type "type"),none,.cls { name:=nm l 166,bases:=[(.ref 24)],mro:=[(.ref 37),(.ref 24),(.type "ValueError"),(.type "Exception"),(.type "BaseException"),(.type "object")],ns:=36,qualname:=nm l 166,hasDict:=true,slotNames:=[],subclasses:=[],abstract:=false,collection:=none,hasDel:=false },⟨[(some (.ref 28)),none,(some (.str (nm l 166) 207)),(some (.str (nm l 166) 215)),(some (.builtin "ValueError.__new__")),(some (.bool true))]⟩⟩),
 (40,⟨(.type "tuple"),none,.seq ⟨[(.str (nm l 170) 237),(.str (nm l 171) 238),(.str (nm l 172) 239),(.str (nm l 173) 240)]⟩ 0,⟨[]⟩⟩),
 (41,⟨(.type "dict"),none,.dict ⟨[de P (nm l 25) 242 (.ref 42),de P (nm l 46) 244 (.ref 43),de P (nm l 41) 246 (.ref 44),de P (nm l 49) 247 (.ref 45),de P (nm l 39) 248 (.ref 46),de P (nm l 42) 250 (.ref 47),de P (nm l 43) 252 (.ref 48),de P (nm l 26) 254 (.ref 49),de P (nm l 40) 257 (.ref 50),de P (nm l 35) 261 (.ref 51)]⟩ 10,⟨[]⟩⟩),
 (42,⟨(.type "tuple"),none,.seq ⟨[(.str (nm l 140) 243)]⟩ 0,⟨[]⟩⟩),
 (43,⟨(.type "tuple"),none,.seq ⟨[(.str (nm l 140) 245)]⟩ 0,⟨[]⟩⟩),
 (44,⟨(.type "tuple"),none,.seq ⟨[]⟩ 0,⟨[]⟩⟩),
 (45,⟨(.type "tuple"),none,.seq ⟨[]⟩ 0,⟨[]⟩⟩),
 (46,⟨(.type "tuple"),none,.seq ⟨[(.str (nm l 140) 249)]⟩ 0,⟨[]⟩⟩),
 (47,⟨(.type "tuple"),none,.seq ⟨[(.str (nm l 146) 251)]⟩ 0,⟨[]⟩⟩),
 (48,⟨(.type "tuple"),none,.seq ⟨[(.str (nm l 146) 253)]⟩ 0,⟨[]⟩⟩),
 (49,⟨(.type "tuple"),none,.seq ⟨[(.str (nm l 140) 255),(.str (nm l 93) 256)]⟩ 0,⟨[]⟩⟩),
 (50,⟨(.type "tuple"),none,.seq ⟨[(.str (nm l 140) 258),(.str (nm l 93) 259),(.str (nm l 93) 260)]⟩ 0,⟨[]⟩⟩),
 (51,⟨(.type "tuple"),none,.seq ⟨[(.str (nm l 136) 262),(.str (nm l 137) 263)]⟩ 0,⟨[]⟩⟩),
 (64,⟨(.type "code"),none,.fields ⟨[(.str (nm l 161) 287),(.str (nm l 191) 288),(.str (nm l 178) 289),(.int (17) 0),(.int (5) 0),(.int (0) 0),(.int (0) 0),(.int (3) 0),(.ref 59),(.bool true),(.int (181) 0),(.ref 60),.none,(.ref 61),(.ref 62),(.ref 63),(.int (295) 0),(.int (17) 0),(.str (nm l 178) 296)]⟩,⟨[]⟩⟩),
 (65,fnM p (nm l 161) (nm l 191) 12 0 .none .none (.str (nm l 177) 223) none (.ref 64) .none),
 (71,⟨(.type "code"),none,.fields ⟨[(.str (nm l 150) 298),(.str (nm l 192) 299),(.str (nm l 178) 300),(.int (23) 0),(.int (2) 0),(.int (0) 0),(.int (0) 0),(.int (3) 0),(.ref 66),(.bool true),(.int (181) 0),(.ref 67),.none,(.ref 68),(.ref 69),(.ref 70),(.int (304) 0),(.int (23) 0),(.str (nm l 178) 305)]⟩,⟨[]⟩⟩),
 (72,fnM p (nm l 150) (nm l 192) 12 1 .none .none (.str (nm l 177) 223) none (.ref 71) .none),
 (78,⟨(.type "code"),none,.fields ⟨[(.str (nm l 133) 307),(.str (nm l 193) 308),(.str (nm l 178) 309),(.int (27) 0),(.int (2) 0),(.int (0) 0),(.int (0) 0),(.int (3) 0),(.ref 73),(.bool true),(.int (181) 0),(.ref 74),.none,(.ref 75),(.ref 76),(.ref 77),(.int (312) 0),(.int (27) 0),(.str (nm l 178) 313)]⟩,⟨[]⟩⟩),
 (79,fnM p (nm l 133) (nm l 193) 12 2 .none .none (.str (nm l 177) 223) none (.ref 78) .none),
 (80,⟨(.type "tuple"),none,.seq ⟨[(.str (nm l 163) 315),(.str (nm l 152) 316),(.str (nm l 96) 317),(.str (nm l 156) 318)]⟩ 0,⟨[]⟩⟩),
 (81,⟨(.type "dict"),none,.dict ⟨[de P (nm l 187) 282 (.str (nm l 177) 223),de P (nm l 188) 286 (.int (15) 285),de P (nm l 161) 297 (.ref 65),de P (nm l 150) 306 (.ref 72),de P (nm l 133) 314 (.ref 79),de P (nm l 189) 319 (.ref 80),de P (nm l 194) 321 (.ref 83),de P (nm l 190) 323 (.ref 84),de P (nm l 179) 324 .none]⟩ 4,⟨[]⟩⟩),
 (82,⟨(.type "type"),none,.cls { name:=nm l 101,bases:=[(.type "object")],mro:=[(.ref 82),(.type "object")],ns:=81,qualname:=nm l 101,hasDict:=true,slotNames:=[],subclasses:=[],abstract:=false,collection:=none,hasDel:=false },⟨[none,none,(some (.str (nm l 101) 275)),(some (.str (nm l 101) 283)),(some (.builtin "object.__new__")),(some (.bool true))]⟩⟩),
 (83,⟨(.type "getset_descriptor"),none,.fields ⟨[(.str (nm l 194) 320),(.ref 82),(.builtin "function.__dict__"),(.builtin "function.__dict__#set")]⟩,⟨[]⟩⟩),
 (84,⟨(.type "getset_descriptor"),none,.fields ⟨[(.str (nm l 190) 322),(.ref 82),(.builtin "ExceptionGroup.__weakref__"),.none]⟩,⟨[]⟩⟩),
 (92,⟨(.type "code"),none,.fields ⟨[(.str (nm l 89) 327),(.str (nm l 89) 328),(.str (nm l 178) 329),(.int (31) 0),(.int (2) 0),(.int (0) 0),(.int (0) 0),(.int (3) 0),(.ref 87),(.bool true),(.int (181) 0),(.ref 88),.none,(.ref 89),(.ref 90),(.ref 91),(.int (332) 0),(.int (31) 0),(.str (nm l 178) 333)]⟩,⟨[]⟩⟩),
 (93,fnO p (nm l 89) 13 .none .none (.str (nm l 177) 223) none (.ref 92) .none),
 (99,⟨(.type "code"),none,.fields ⟨[(.str (nm l 90) 335),(.str (nm l 90) 336),(.str (nm l 178) 337),(.int (34) 0),(.int (2) 0),(.int (0) 0),(.int (0) 0),(.int (3) 0),(.ref 94),(.bool true),(.int (181) 0),(.ref 95),.none,(.ref 96),(.ref 97),(.ref 98),(.int (340) 0),(.int (34) 0),(.str (nm l 178) 341)]⟩,⟨[]⟩⟩),
 (100,fnO p (nm l 90) 14 .none .none (.str (nm l 177) 223) none (.ref 99) .none),
 (106,⟨(.type "code"),none,.fields ⟨[(.str (nm l 147) 343),(.str (nm l 147) 344),(.str (nm l 178) 345),(.int (36) 0),(.int (3) 0),(.int (0) 0),(.int (0) 0),(.int (3) 0),(.ref 101),(.bool true),(.int (181) 0),(.ref 102),.none,(.ref 103),(.ref 104),(.ref 105),(.int (349) 0),(.int (36) 0),(.str (nm l 178) 350)]⟩,⟨[]⟩⟩),
 (107,fnO p (nm l 147) 15 .none .none (.str (nm l 177) 223) none (.ref 106) .none),
 (113,⟨(.type "code"),none,.fields ⟨[(.str (nm l 126) 352),(.str (nm l 126) 353),(.str (nm l 178) 354),(.int (40) 0),(.int (1) 0),(.int (0) 0),(.int (0) 0),(.int (3) 0),(.ref 108),(.bool true),(.int (181) 0),(.ref 109),.none,(.ref 110),(.ref 111),(.ref 112),(.int (356) 0),(.int (40) 0),(.str (nm l 178) 357)]⟩,⟨[]⟩⟩),
 (114,fnO p (nm l 126) 16 .none .none (.str (nm l 177) 223) none (.ref 113) .none),
 (118,⟨(.type "code"),none,.fields ⟨[(.str (nm l 119) 359),(.str (nm l 119) 360),(.str (nm l 178) 361),(.int (42) 0),(.int (1) 0),(.int (0) 0),(.int (0) 0),(.int (3) 0),(.ref 115),(.bool true),(.int (181) 0),(.ref 116),.none,.none,.none,(.ref 117),(.int (362) 0),(.int (42) 0),(.str (nm l 178) 363)]⟩,⟨[]⟩⟩),
 (119,fnO p (nm l 119) 17 .none .none (.str (nm l 177) 223) none (.ref 118) .none),
 (125,⟨(.type "code"),none,.fields ⟨[(.str (nm l 124) 365),(.str (nm l 124) 366),(.str (nm l 178) 367),(.int (46) 0),(.int (2) 0),(.int (0) 0),(.int (0) 0),(.int (3) 0),(.ref 120),(.bool true),(.int (181) 0),(.ref 121),.none,(.ref 122),(.ref 123),(.ref 124),(.int (373) 0),(.int (46) 0),(.str (nm l 178) 374)]⟩,⟨[]⟩⟩),
 (126,fnO p (nm l 124) 18 .none .none (.str (nm l 177) 223) none (.ref 125) .none),
 (132,⟨(.type "code"),none,.fields ⟨[(.str (nm l 135) 376),(.str (nm l 135) 377),(.str (nm l 178) 378),(.int (54) 0),(.int (3) 0),(.int (0) 0),(.int (0) 0),(.int (3) 0),(.ref 127),(.bool true),(.int (181) 0),(.ref 128),.none,(.ref 129),(.ref 130),(.ref 131),(.int (383) 0),(.int (54) 0),(.str (nm l 178) 384)]⟩,⟨[]⟩⟩),
 (133,fnO p (nm l 135) 19 .none .none (.str (nm l 177) 223) none (.ref 132) .none),
 (139,⟨(.type "code"),none,.fields ⟨[(.str (nm l 141) 386),(.str (nm l 141) 387),(.str (nm l 178) 388),(.int (59) 0),(.int (2) 0),(.int (0) 0),(.int (0) 0),(.int (3) 0),(.ref 134),(.bool true),(.int (181) 0),(.ref 135),.none,(.ref 136),(.ref 137),(.ref 138),(.int (396) 0),(.int (59) 0),(.str (nm l 178) 397)]⟩,⟨[]⟩⟩),
 (140,fnO p (nm l 141) 20 .none .none (.str (nm l 177) 223) none (.ref 139) .none),
 (146,⟨(.type "code"),none,.fields ⟨[(.str (nm l 100) 399),(.str (nm l 100) 400),(.str (nm l 178) 401),(.int (77) 0),(.int (2) 0),(.int (0) 0),(.int (0) 0),(.int (3) 0),(.ref 141),(.bool true),(.int (181) 0),(.ref 142),.none,(.ref 143),(.ref 144),(.ref 145),(.int (406) 0),(.int (77) 0),(.str (nm l 178) 407)]⟩,⟨[]⟩⟩),
 (147,fnO p (nm l 100) 21 .none .none (.str (nm l 177) 223) none (.ref 146) .none),
 (153,⟨(.type "code"),none,.fields ⟨[(.str (nm l 99) 409),(.str (nm l 99) 410),(.str (nm l 178) 411),(.int (85) 0),(.int (2) 0),(.int (0) 0),(.int (0) 0),(.int (3) 0),(.ref 148),(.bool true),(.int (181) 0),(.ref 149),.none,(.ref 150),(.ref 151),(.ref 152),(.int (417) 0),(.int (85) 0),(.str (nm l 178) 418)]⟩,⟨[]⟩⟩),
 (154,fnO p (nm l 99) 22 .none .none (.str (nm l 177) 223) none (.ref 153) .none),
 (160,⟨(.type "code"),none,.fields ⟨[(.str (nm l 57) 420),(.str (nm l 57) 421),(.str (nm l 178) 422),(.int (92) 0),(.int (1) 0),(.int (0) 0),(.int (0) 0),(.int (3) 0),(.ref 155),(.bool true),(.int (181) 0),(.ref 156),.none,(.ref 157),(.ref 158),(.ref 159),(.int (429) 0),(.int (92) 0),(.str (nm l 178) 430)]⟩,⟨[]⟩⟩),
 (161,fnO p (nm l 57) 23 .none .none (.str (nm l 177) 223) none (.ref 160) .none),
 (165,⟨(.type "code"),none,.fields ⟨[(.str (nm l 104) 432),(.str (nm l 104) 433),(.str (nm l 178) 434),(.int (104) 0),(.int (1) 0),(.int (0) 0),(.int (0) 0),(.int (3) 0),(.ref 162),(.bool true),(.int (181) 0),(.ref 163),.none,.none,.none,(.ref 164),(.int (435) 0),(.int (104) 0),(.str (nm l 178) 436)]⟩,⟨[]⟩⟩),
 (166,fnO p (nm l 104) 24 .none .none (.str (nm l 177) 223) none (.ref 165) .none),
 (170,⟨(.type "code"),none,.fields ⟨[(.str (nm l 59) 438),(.str (nm l 59) 439),(.str (nm l 178) 440),(.int (107) 0),(.int (1) 0),(.int (0) 0),(.int (0) 0),(.int (3) 0),(.ref 167),(.bool true),(.int (181) 0),(.ref 168),.none,.none,.none,(.ref 169),(.int (441) 0),(.int (107) 0),(.str (nm l 178) 442)]⟩,⟨[]⟩⟩),
 (171,fnO p (nm l 59) 25 .none .none (.str (nm l 177) 223) none (.ref 170) .none),
 (177,⟨(.type "code"),none,.fields ⟨[(.str (nm l 116) 446),(.str (nm l 116) 447),(.str (nm l 178) 448),(.int (119) 0),(.int (2) 0),(.int (0) 0),(.int (0) 0),(.int (3) 0),(.ref 172),(.bool true),(.int (181) 0),(.ref 173),.none,(.ref 174),(.ref 175),(.ref 176),(.int (452) 0),(.int (119) 0),(.str (nm l 178) 453)]⟩,⟨[]⟩⟩),
 (178,fnO p (nm l 116) 27 .none .none (.str (nm l 115) 444) none (.ref 177) .none),
 (182,⟨(.type "code"),none,.fields ⟨[(.str (nm l 52) 455),(.str (nm l 52) 456),(.str (nm l 178) 457),(.int (124) 0),(.int (3) 0),(.int (0) 0),(.int (0) 0),(.int (3) 0),(.ref 179),(.bool true),(.int (181) 0),(.ref 180),.none,.none,.none,(.ref 181),(.int (458) 0),(.int (124) 0),(.str (nm l 178) 459)]⟩,⟨[]⟩⟩),
 (183,fnO p (nm l 52) 28 .none .none (.str (nm l 115) 444) none (.ref 182) .none),
 (189,⟨(.type "code"),none,.fields ⟨[(.str (nm l 53) 461),(.str (nm l 53) 462),(.str (nm l 178) 463),(.int (133) 0),(.int (2) 0),(.int (0) 0),(.int (0) 0),(.int (3) 0),(.ref 184),(.bool true),(.int (181) 0),(.ref 185),.none,(.ref 186),(.ref 187),(.ref 188),(.int (467) 0),(.int (133) 0),(.str (nm l 178) 468)]⟩,⟨[]⟩⟩),
 (190,fnO p (nm l 53) 29 .none .none (.str (nm l 115) 444) none (.ref 189) .none),
 (196,⟨(.type "code"),none,.fields ⟨[(.str (nm l 55) 470),(.str (nm l 55) 471),(.str (nm l 178) 472),(.int (140) 0),(.int (2) 0),(.int (0) 0),(.int (0) 0),(.int (3) 0),(.ref 191),(.bool true),(.int (181) 0),(.ref 192),.none,(.ref 193),(.ref 194),(.ref 195),(.int (477) 0),(.int (140) 0),(.str (nm l 178) 478)]⟩,⟨[]⟩⟩),
 (197,fnO p (nm l 55) 30 .none .none (.str (nm l 115) 444) none (.ref 196) .none),
 (203,⟨(.type "code"),none,.fields ⟨[(.str (nm l 64) 480),(.str (nm l 64) 481),(.str (nm l 178) 482),(.int (145) 0),(.int (1) 0),(.int (0) 0),(.int (0) 0),(.int (3) 0),(.ref 198),(.bool true),(.int (181) 0),(.ref 199),.none,(.ref 200),(.ref 201),(.ref 202),(.int (484) 0),(.int (145) 0),(.str (nm l 178) 485)]⟩,⟨[]⟩⟩),
 (204,fnO p (nm l 64) 31 .none .none (.str (nm l 115) 444) none (.ref 203) .none),
 (210,⟨(.type "code"),none,.fields ⟨[(.str (nm l 65) 487),(.str (nm l 65) 488),(.str (nm l 178) 489),(.int (149) 0),(.int (3) 0),(.int (0) 0),(.int (0) 0),(.int (3) 0),(.ref 205),(.bool true),(.int (181) 0),(.ref 206),.none,(.ref 207),(.ref 208),(.ref 209),(.int (494) 0),(.int (149) 0),(.str (nm l 178) 495)]⟩,⟨[]⟩⟩),
 (211,fnO p (nm l 65) 32 .none .none (.str (nm l 115) 444) none (.ref 210) .none),
 (217,⟨(.type "code"),none,.fields ⟨[(.str (nm l 70) 497),(.str (nm l 70) 498),(.str (nm l 178) 499),(.int (156) 0),(.int (5) 0),(.int (0) 0),(.int (0) 0),(.int (3) 0),(.ref 212),(.bool true),(.int (181) 0),(.ref 213),.none,(.ref 214),(.ref 215),(.ref 216),(.int (507) 0),(.int (156) 0),(.str (nm l 178) 508)]⟩,⟨[]⟩⟩),
 (218,fnO p (nm l 70) 33 .none .none (.str (nm l 115) 444) none (.ref 217) .none),
 (224,⟨(.type "code"),none,.fields ⟨[(.str (nm l 69) 510),(.str (nm l 69) 511),(.str (nm l 178) 512),(.int (162) 0),(.int (5) 0),(.int (0) 0),(.int (0) 0),(.int (3) 0),(.ref 219),(.bool true),(.int (181) 0),(.ref 220),.none,(.ref 221),(.ref 222),(.ref 223),(.int (520) 0),(.int (162) 0),(.str (nm l 178) 521)]⟩,⟨[]⟩⟩),
 (225,fnO p (nm l 69) 34 .none .none (.str (nm l 115) 444) none (.ref 224) .none),
 (229,⟨(.type "code"),none,.fields ⟨[(.str (nm l 61) 523),(.str (nm l 61) 524),(.str (nm l 178) 525),(.int (166) 0),(.int (4) 0),(.int (0) 0),(.int (0) 0),(.int (3) 0),(.ref 226),(.bool true),(.int (181) 0),(.ref 227),.none,.none,.none,(.ref 228),(.int (526) 0),(.int (166) 0),(.str (nm l 178) 527)]⟩,⟨[]⟩⟩),
 (230,fnO p (nm l 61) 35 .none .none (.str (nm l 115) 444) none (.ref 229) .none),
 (236,⟨(.type "code"),none,.fields ⟨[(.str (nm l 66) 529),(.str (nm l 66) 530),(.str (nm l 178) 531),(.int (169) 0),(.int (5) 0),(.int (0) 0),(.int (0) 0),(.int (3) 0),(.ref 231),(.bool true),(.int (181) 0),(.ref 232),.none,(.ref 233),(.ref 234),(.ref 235),(.int (538) 0),(.int (169) 0),(.str (nm l 178) 539)]⟩,⟨[]⟩⟩),
 (237,fnO p (nm l 66) 36 .none .none (.str (nm l 115) 444) none (.ref 236) .none),
 (243,⟨(.type "code"),none,.fields ⟨[(.str (nm l 71) 541),(.str (nm l 71) 542),(.str (nm l 178) 543),(.int (188) 0),(.int (5) 0),(.int (0) 0),(.int (0) 0),(.int (3) 0),(.ref 238),(.bool true),(.int (181) 0),(.ref 239),.none,(.ref 240),(.ref 241),(.ref 242),(.int (551) 0),(.int (188) 0),(.str (nm l 178) 552)]⟩,⟨[]⟩⟩),
 (244,fnO p (nm l 71) 37 .none .none (.str (nm l 115) 444) none (.ref 243) .none),
 (250,⟨(.type "code"),none,.fields ⟨[(.str (nm l 54) 554),(.str (nm l 54) 555),(.str (nm l 178) 556),(.int (194) 0),(.int (1) 0),(.int (0) 0),(.int (0) 0),(.int (3) 0),(.ref 245),(.bool true),(.int (181) 0),(.ref 246),.none,(.ref 247),(.ref 248),(.ref 249),(.int (564) 0),(.int (194) 0),(.str (nm l 178) 565)]⟩,⟨[]⟩⟩),
 (251,fnO p (nm l 54) 38 .none .none (.str (nm l 115) 444) none (.ref 250) .none),
 (257,⟨(.type "code"),none,.fields ⟨[(.str (nm l 60) 567),(.str (nm l 60) 568),(.str (nm l 178) 569),(.int (205) 0),(.int (1) 0),(.int (0) 0),(.int (0) 0),(.int (3) 0),(.ref 252),(.bool true),(.int (181) 0),(.ref 253),.none,(.ref 254),(.ref 255),(.ref 256),(.int (571) 0),(.int (205) 0),(.str (nm l 178) 572)]⟩,⟨[]⟩⟩),
 (258,fnO p (nm l 60) 39 .none .none (.str (nm l 115) 444) none (.ref 257) .none),
 (264,⟨(.type "code"),none,.fields ⟨[(.str (nm l 3) 574),(.str (nm l 3) 575),(.str (nm l 178) 576),(.int (207) 0),(.int (1) 0),(.int (0) 0),(.int (0) 0),(.int (3) 0),(.ref 259),(.bool true),(.int (181) 0),(.ref 260),.none,(.ref 261),(.ref 262),(.ref 263),(.int (581) 0),(.int (207) 0),(.str (nm l 178) 582)]⟩,⟨[]⟩⟩),
 (265,fnO p (nm l 3) 40 .none .none (.str (nm l 115) 444) none (.ref 264) .none),
 (269,⟨(.type "code"),none,.fields ⟨[(.str (nm l 0) 584),(.str (nm l 0) 585),(.str (nm l 178) 586),(.int (218) 0),(.int (1) 0),(.int (0) 0),(.int (0) 0),(.int (3) 0),(.ref 266),(.bool true),(.int (181) 0),(.ref 267),.none,.none,.none,(.ref 268),(.int (587) 0),(.int (218) 0),(.str (nm l 178) 588)]⟩,⟨[]⟩⟩),
 (270,fnO p (nm l 0) 41 .none .none (.str (nm l 115) 444) none (.ref 269) .none),
 (276,⟨(.type "code"),none,.fields ⟨[(.str (nm l 9) 590),(.str (nm l 9) 591),(.str (nm l 178) 592),(.int (220) 0),(.int (2) 0),(.int (0) 0),(.int (0) 0),(.int (3) 0),(.ref 271),(.bool true),(.int (181) 0),(.ref 272),.none,(.ref 273),(.ref 274),(.ref 275),(.int (600) 0),(.int (220) 0),(.str (nm l 178) 601)]⟩,⟨[]⟩⟩),
 (277,fnO p (nm l 9) 42 .none .none (.str (nm l 115) 444) none (.ref 276) .none),
 (281,⟨(.type "code"),none,.fields ⟨[(.str (nm l 19) 603),(.str (nm l 19) 604),(.str (nm l 178) 605),(.int (230) 0),(.int (1) 0),(.int (0) 0),(.int (0) 0),(.int (3) 0),(.ref 278),(.bool true),(.int (181) 0),(.ref 279),.none,.none,.none,(.ref 280),(.int (606) 0),(.int (230) 0),(.str (nm l 178) 607)]⟩,⟨[]⟩⟩),
 (282,fnO p (nm l 19) 43 .none .none (.str (nm l 115) 444) none (.ref 281) .none),
 (288,⟨(.type "code"),none,.fields ⟨[(.str (nm l 37) 609),(.str (nm l 37) 610),(.str (nm l 178) 611),(.int (244) 0),(.int (1) 0),(.int (0) 0),(.int (0) 0),(.int (3) 0),(.ref 283),(.bool true),(.int (181) 0),(.ref 284),.none,(.ref 285),(.ref 286),(.ref 287),(.int (615) 0),(.int (244) 0),(.str (nm l 178) 616)]⟩,⟨[]⟩⟩),
 (289,fnO p (nm l 37) 44 .none .none (.str (nm l 115) 444) none (.ref 288) .none),
 (293,⟨(.type "code"),none,.fields ⟨[(.str (nm l 44) 618),(.str (nm l 44) 619),(.str (nm l 178) 620),(.int (254) 0),(.int (1) 0),(.int (0) 0),(.int (0) 0),(.int (3) 0),(.ref 290),(.bool true),(.int (181) 0),(.ref 291),.none,.none,.none,(.ref 292),(.int (621) 0),(.int (254) 0),(.str (nm l 178) 622)]⟩,⟨[]⟩⟩),
 (294,fnO p (nm l 44) 45 .none .none (.str (nm l 115) 444) none (.ref 293) .none),
 (300,⟨(.type "code"),none,.fields ⟨[(.str (nm l 50) 624),(.str (nm l 50) 625),(.str (nm l 178) 626),(.int (261) 0),(.int (1) 0),(.int (0) 0),(.int (0) 0),(.int (3) 0),(.ref 295),(.bool true),(.int (181) 0),(.ref 296),.none,(.ref 297),(.ref 298),(.ref 299),(.int (632) 0),(.int (261) 0),(.str (nm l 178) 633)]⟩,⟨[]⟩⟩),
 (301,fnO p (nm l 50) 46 .none .none (.str (nm l 115) 444) none (.ref 300) .none)]
noncomputable def loose (l:List Str):List Str:=[nm l 175,nm l 166,nm l 94,nm l 120,nm l 169,nm l 148,nm l 102,nm l 153,nm l 159,nm l 107,nm l 101,nm l 89,nm l 90,nm l 147,nm l 126,nm l 119,nm l 124,nm l 135,nm l 141,nm l 100,nm l 99,nm l 57,nm l 104,nm l 59,nm l 116,nm l 52,nm l 53,nm l 55,nm l 64,nm l 65,nm l 70,nm l 69,nm l 61,nm l 66,nm l 71,nm l 54,nm l 60,nm l 3,nm l 0,nm l 9,nm l 19,nm l 37,nm l 44]
noncomputable def vw (p:Program):Program:=PySem.W.view p [46]
noncomputable def ad:List Addr:=[3,22,23,24,25,35,36,37,40,41,42,43,44,45,46,47,48,49,50,51,64,65,71,72,78,79,80,81,82,83,84,92,93,99,100,106,107,113,114,118,119,125,126,132,133,139,140,146,147,153,154,160,161,165,166,170,171,177,178,182,183,189,190,196,197,203,204,210,211,217,218,224,225,229,230,236,237,243,244,250,251,257,258,264,265,269,270,276,277,281,282,288,289,293,294,300,301]
noncomputable abbrev yf (s:Shared):List (Option Obj):=ad.map s.heap.get?
noncomputable abbrev ya (p:Program) (l:List Str) (w:World):List (Option Obj):=(KL p l w.params).map fun x=>some x.2
abbrev aS (p:Program) (l:List Str) (w:World):Prop:=VA p (vw p) (loose l) (fun s=>PySem.W.recOk [] s) yf (ya p l) 4096 w
theorem run0 (w:World):aS (GL lb) lb (w.withFollow "special-get-raises" false):=by unfold aS VA;kernel_rfl
theorem run1 (w:World):aS (GL lb) lb (w.withFollow "special-get-raises" true):=by unfold aS VA;kernel_rfl
theorem left:PySem.W.LeftO PySem.Challenge.pw_turtlehouse_k11_good_programs (vw PySem.Challenge.pw_turtlehouse_k11_good_programs) (loose la) (fun s=>PySem.W.recOk [] s) yf (ya PySem.Challenge.pw_turtlehouse_k11_good_programs la) 4096:=
 tr2 (C:=fun p l=>PySem.W.LeftO p (vw p) (loose l) (fun s=>PySem.W.recOk [] s) yf (ya p l) 4096) hp hl
  (XI (by kernel_rfl) (by kernel_rfl) (fun s=>by kernel_rfl) (PySem.W.byRow2 "special-get-raises" (P:=fun w=>aS (GL lb) lb w) run0 run1))
def DC (p:Program) (l:List Str) (P:Params) (x i f c m t:Nat):Prop:=PySem.W.nsIn (KL p l P) mainGlobals (nm l x)=some (some (.ref f))∧(KL p l P).lookup f=some (fnO p (nm l x) i .none .none (.str (nm l m) t) none (.ref c) .none)∧PySem.W.codeIn (KL p l P) (.ref c) (nm l x)=true∧PySem.W.keepIn (KL p l P) (.ref f)=true
theorem CA {P:Params} (x i f c m t:Nat) (h:DC (GL lb) lb P x i f c m t):DC PySem.Challenge.pw_turtlehouse_k11_good_programs la P x i f c m t:=tr2 (C:=fun p l=>DC p l P x i f c m t) hp hl h
theorem ns_in {P:Params} (x:Nat) (v:Option Value) (h:PySem.W.nsIn (KL (GL lb) lb P) mainGlobals (nm lb x)=some v):PySem.W.nsIn (KL PySem.Challenge.pw_turtlehouse_k11_good_programs la P) mainGlobals (nm la x)=some v:=tr2 (C:=fun p l=>PySem.W.nsIn (KL p l P) mainGlobals (nm l x)=some v) hp hl h
def VZ (p:Program) (l:List Str) (P:Params) (a x q i j f c m t:Nat):Prop:=PySem.W.findIn (KL p l P) (.ref a) (nm l x)=some (some (.ref f))∧PySem.W.isFn (KL p l P) (.ref f)=true∧(KL p l P).lookup f=some (fnM p (nm l x) (nm l q) i j .none .none (.str (nm l m) t) none (.ref c) .none)∧PySem.W.codeIn (KL p l P) (.ref c) (nm l q)=true∧PySem.W.keepIn (KL p l P) (.ref f)=true
theorem YY {P:Params} (a x q i j f c m t:Nat) (h:VZ (GL lb) lb P a x q i j f c m t):VZ PySem.Challenge.pw_turtlehouse_k11_good_programs la P a x q i j f c m t:=tr2 (C:=fun p l=>VZ p l P a x q i j f c m t) hp hl h
theorem mm0 (P:Params):VZ PySem.Challenge.pw_turtlehouse_k11_good_programs la P 82 161 191 12 0 65 64 177 223:=YY 82 161 191 12 0 65 64 177 223 ⟨by kernel_rfl,by kernel_rfl,by kernel_rfl,by kernel_rfl,by kernel_rfl⟩
theorem mm1 (P:Params):VZ PySem.Challenge.pw_turtlehouse_k11_good_programs la P 82 150 192 12 1 72 71 177 223:=YY 82 150 192 12 1 72 71 177 223 ⟨by kernel_rfl,by kernel_rfl,by kernel_rfl,by kernel_rfl,by kernel_rfl⟩
theorem mm2 (P:Params):VZ PySem.Challenge.pw_turtlehouse_k11_good_programs la P 82 133 193 12 2 79 78 177 223:=YY 82 133 193 12 2 79 78 177 223 ⟨by kernel_rfl,by kernel_rfl,by kernel_rfl,by kernel_rfl,by kernel_rfl⟩
theorem ff3 (P:Params):DC PySem.Challenge.pw_turtlehouse_k11_good_programs la P 89 13 93 92 177 223:=CA 89 13 93 92 177 223 ⟨by kernel_rfl,by kernel_rfl,by kernel_rfl,by kernel_rfl⟩
theorem ff4 (P:Params):DC PySem.Challenge.pw_turtlehouse_k11_good_programs la P 90 14 100 99 177 223:=CA 90 14 100 99 177 223 ⟨by kernel_rfl,by kernel_rfl,by kernel_rfl,by kernel_rfl⟩
theorem ff5 (P:Params):DC PySem.Challenge.pw_turtlehouse_k11_good_programs la P 147 15 107 106 177 223:=CA 147 15 107 106 177 223 ⟨by kernel_rfl,by kernel_rfl,by kernel_rfl,by kernel_rfl⟩
theorem ff6 (P:Params):DC PySem.Challenge.pw_turtlehouse_k11_good_programs la P 126 16 114 113 177 223:=CA 126 16 114 113 177 223 ⟨by kernel_rfl,by kernel_rfl,by kernel_rfl,by kernel_rfl⟩
theorem ff7 (P:Params):DC PySem.Challenge.pw_turtlehouse_k11_good_programs la P 119 17 119 118 177 223:=CA 119 17 119 118 177 223 ⟨by kernel_rfl,by kernel_rfl,by kernel_rfl,by kernel_rfl⟩
theorem ff8 (P:Params):DC PySem.Challenge.pw_turtlehouse_k11_good_programs la P 124 18 126 125 177 223:=CA 124 18 126 125 177 223 ⟨by kernel_rfl,by kernel_rfl,by kernel_rfl,by kernel_rfl⟩
theorem ff9 (P:Params):DC PySem.Challenge.pw_turtlehouse_k11_good_programs la P 135 19 133 132 177 223:=CA 135 19 133 132 177 223 ⟨by kernel_rfl,by kernel_rfl,by kernel_rfl,by kernel_rfl⟩
theorem ff10 (P:Params):DC PySem.Challenge.pw_turtlehouse_k11_good_programs la P 141 20 140 139 177 223:=CA 141 20 140 139 177 223 ⟨by kernel_rfl,by kernel_rfl,by kernel_rfl,by kernel_rfl⟩
theorem ff11 (P:Params):DC PySem.Challenge.pw_turtlehouse_k11_good_programs la P 100 21 147 146 177 223:=CA 100 21 147 146 177 223 ⟨by kernel_rfl,by kernel_rfl,by kernel_rfl,by kernel_rfl⟩
theorem ff12 (P:Params):DC PySem.Challenge.pw_turtlehouse_k11_good_programs la P 99 22 154 153 177 223:=CA 99 22 154 153 177 223 ⟨by kernel_rfl,by kernel_rfl,by kernel_rfl,by kernel_rfl⟩
theorem ff13 (P:Params):DC PySem.Challenge.pw_turtlehouse_k11_good_programs la P 57 23 161 160 177 223:=CA 57 23 161 160 177 223 ⟨by kernel_rfl,by kernel_rfl,by kernel_rfl,by kernel_rfl⟩
theorem ff14 (P:Params):DC PySem.Challenge.pw_turtlehouse_k11_good_programs la P 104 24 166 165 177 223:=CA 104 24 166 165 177 223 ⟨by kernel_rfl,by kernel_rfl,by kernel_rfl,by kernel_rfl⟩
theorem ff15 (P:Params):DC PySem.Challenge.pw_turtlehouse_k11_good_programs la P 59 25 171 170 177 223:=CA 59 25 171 170 177 223 ⟨by kernel_rfl,by kernel_rfl,by kernel_rfl,by kernel_rfl⟩
theorem ff16 (P:Params):DC PySem.Challenge.pw_turtlehouse_k11_good_programs la P 116 27 178 177 115 444:=CA 116 27 178 177 115 444 ⟨by kernel_rfl,by kernel_rfl,by kernel_rfl,by kernel_rfl⟩
theorem ff17 (P:Params):DC PySem.Challenge.pw_turtlehouse_k11_good_programs la P 52 28 183 182 115 444:=CA 52 28 183 182 115 444 ⟨by kernel_rfl,by kernel_rfl,by kernel_rfl,by kernel_rfl⟩
theorem ff18 (P:Params):DC PySem.Challenge.pw_turtlehouse_k11_good_programs la P 53 29 190 189 115 444:=CA 53 29 190 189 115 444 ⟨by kernel_rfl,by kernel_rfl,by kernel_rfl,by kernel_rfl⟩
theorem ff19 (P:Params):DC PySem.Challenge.pw_turtlehouse_k11_good_programs la P 55 30 197 196 115 444:=CA 55 30 197 196 115 444 ⟨by kernel_rfl,by kernel_rfl,by kernel_rfl,by kernel_rfl⟩
theorem ff20 (P:Params):DC PySem.Challenge.pw_turtlehouse_k11_good_programs la P 64 31 204 203 115 444:=CA 64 31 204 203 115 444 ⟨by kernel_rfl,by kernel_rfl,by kernel_rfl,by kernel_rfl⟩
theorem ff21 (P:Params):DC PySem.Challenge.pw_turtlehouse_k11_good_programs la P 65 32 211 210 115 444:=CA 65 32 211 210 115 444 ⟨by kernel_rfl,by kernel_rfl,by kernel_rfl,by kernel_rfl⟩
theorem ff22 (P:Params):DC PySem.Challenge.pw_turtlehouse_k11_good_programs la P 70 33 218 217 115 444:=CA 70 33 218 217 115 444 ⟨by kernel_rfl,by kernel_rfl,by kernel_rfl,by kernel_rfl⟩
theorem ff23 (P:Params):DC PySem.Challenge.pw_turtlehouse_k11_good_programs la P 69 34 225 224 115 444:=CA 69 34 225 224 115 444 ⟨by kernel_rfl,by kernel_rfl,by kernel_rfl,by kernel_rfl⟩
theorem ff24 (P:Params):DC PySem.Challenge.pw_turtlehouse_k11_good_programs la P 61 35 230 229 115 444:=CA 61 35 230 229 115 444 ⟨by kernel_rfl,by kernel_rfl,by kernel_rfl,by kernel_rfl⟩
theorem ff25 (P:Params):DC PySem.Challenge.pw_turtlehouse_k11_good_programs la P 66 36 237 236 115 444:=CA 66 36 237 236 115 444 ⟨by kernel_rfl,by kernel_rfl,by kernel_rfl,by kernel_rfl⟩
theorem ff26 (P:Params):DC PySem.Challenge.pw_turtlehouse_k11_good_programs la P 71 37 244 243 115 444:=CA 71 37 244 243 115 444 ⟨by kernel_rfl,by kernel_rfl,by kernel_rfl,by kernel_rfl⟩
theorem ff27 (P:Params):DC PySem.Challenge.pw_turtlehouse_k11_good_programs la P 54 38 251 250 115 444:=CA 54 38 251 250 115 444 ⟨by kernel_rfl,by kernel_rfl,by kernel_rfl,by kernel_rfl⟩
theorem ff28 (P:Params):DC PySem.Challenge.pw_turtlehouse_k11_good_programs la P 60 39 258 257 115 444:=CA 60 39 258 257 115 444 ⟨by kernel_rfl,by kernel_rfl,by kernel_rfl,by kernel_rfl⟩
theorem ff29 (P:Params):DC PySem.Challenge.pw_turtlehouse_k11_good_programs la P 3 40 265 264 115 444:=CA 3 40 265 264 115 444 ⟨by kernel_rfl,by kernel_rfl,by kernel_rfl,by kernel_rfl⟩
theorem ff30 (P:Params):DC PySem.Challenge.pw_turtlehouse_k11_good_programs la P 0 41 270 269 115 444:=CA 0 41 270 269 115 444 ⟨by kernel_rfl,by kernel_rfl,by kernel_rfl,by kernel_rfl⟩
theorem ff31 (P:Params):DC PySem.Challenge.pw_turtlehouse_k11_good_programs la P 9 42 277 276 115 444:=CA 9 42 277 276 115 444 ⟨by kernel_rfl,by kernel_rfl,by kernel_rfl,by kernel_rfl⟩
theorem ff32 (P:Params):DC PySem.Challenge.pw_turtlehouse_k11_good_programs la P 19 43 282 281 115 444:=CA 19 43 282 281 115 444 ⟨by kernel_rfl,by kernel_rfl,by kernel_rfl,by kernel_rfl⟩
theorem ff33 (P:Params):DC PySem.Challenge.pw_turtlehouse_k11_good_programs la P 37 44 289 288 115 444:=CA 37 44 289 288 115 444 ⟨by kernel_rfl,by kernel_rfl,by kernel_rfl,by kernel_rfl⟩
theorem ff34 (P:Params):DC PySem.Challenge.pw_turtlehouse_k11_good_programs la P 44 45 294 293 115 444:=CA 44 45 294 293 115 444 ⟨by kernel_rfl,by kernel_rfl,by kernel_rfl,by kernel_rfl⟩
theorem ff35 (P:Params):DC PySem.Challenge.pw_turtlehouse_k11_good_programs la P 50 46 301 300 115 444:=CA 50 46 301 300 115 444 ⟨by kernel_rfl,by kernel_rfl,by kernel_rfl,by kernel_rfl⟩
theorem ex_NoProgram (P:Params):LW (KL PySem.Challenge.pw_turtlehouse_k11_good_programs la P) 24 37=true:=tr2 (C:=fun p l=>LW (KL p l P) 24 37=true) hp hl (by kernel_rfl)
theorem ky_SHAPES (P:Params):KZ (KL PySem.Challenge.pw_turtlehouse_k11_good_programs la P) P My.DZ_SHAPES (.ref 41):=lE (tr2 (C:=fun p l=>gU (KL p l P) (.ref 41)=true) hp hl (by kernel_rfl)) (tr2 (C:=fun p l=>(cJ (KL p l P) (.ref 41)).map (fun e=>(gJ e.key,e.hash))=My.DZ_SHAPES.map (fun k=>(some k.1,PyData.keyHash P k.1))) hp hl (by kernel_rfl)) (tr2 (C:=fun p l=>kzV (KL p l P) My.DZ_SHAPES (cJ (KL p l P) (.ref 41))=true) hp hl (by kernel_rfl))
end Hd
open PySem PySem.W PyProof.Rows
set_option maxRecDepth 100000 in
set_option maxHeartbeats 0 in
theorem PySem.Challenge.cw_turtlehouse_k11_good_programs_holds : PySem.Challenge.rw_turtlehouse_k11_good_programs.Holds := by
 w_on;o_law
 refine PySem.W.holds_open (r:=PySem.Challenge.rw_turtlehouse_k11_good_programs.row) (q:=Hd.vw PySem.Challenge.pw_turtlehouse_k11_good_programs) (loose:=Hd.loose Hd.la) (Xt:=fun s=>recOk [] s) (XP:=fun _ _=>True) (Yf:=Hd.yf) (Ya:=Hd.ya PySem.Challenge.pw_turtlehouse_k11_good_programs Hd.la) (YP:=InK (Hd.KL PySem.Challenge.pw_turtlehouse_k11_good_programs Hd.la)) (N:=4096) Hd.left (InK.of fun P=>by kernel_rfl) InK.keeps (fun _ _=>trivial) (fun _ _ _ _ _=>trivial) (by rfl) (by rfl) (by rfl) (fun _ e=>recFacts_of e) (by rfl) (by assumption) (by decide+kernel) ⟨rfl,rfl,rfl,rfl,rfl,by decide+kernel⟩ ?hw ?hc
 case hw=>w_witness2
 case hc=>
  refine My.walk (l:=PySem.Challenge.rw_turtlehouse_k11_good_programs) rfl rfl (fun w h Y=>Y) ?F
  intro w mg fa h KX G hmg
  exact My.all_mk KX G hmg (Hd.ns_in 101 (some (.ref 82)) (by kernel_rfl)) (by kernel_rfl) (by kernel_rfl) (by kernel_rfl) (by kernel_rfl) (by kernel_rfl) (by kernel_rfl) (by kernel_rfl) (by kernel_rfl) (by kernel_rfl) (by kernel_rfl) (Hd.mm0 _).1 (Hd.mm0 _).2.1 (Hd.mm0 _).2.2.1 (Hd.mm0 _).2.2.2.1 (Hd.mm0 _).2.2.2.2 (Hd.mm1 _).1 (Hd.mm1 _).2.1 (Hd.mm1 _).2.2.1 (Hd.mm1 _).2.2.2.1 (Hd.mm1 _).2.2.2.2 (Hd.mm2 _).1 (Hd.mm2 _).2.1 (Hd.mm2 _).2.2.1 (Hd.mm2 _).2.2.2.1 (Hd.mm2 _).2.2.2.2 (Hd.ff3 _).1 (Hd.ff3 _).2.1 (Hd.ff3 _).2.2.1 (Hd.ff3 _).2.2.2 (Hd.ff4 _).1 (Hd.ff4 _).2.1 (Hd.ff4 _).2.2.1 (Hd.ff4 _).2.2.2 (Hd.ff5 _).1 (Hd.ff5 _).2.1 (Hd.ff5 _).2.2.1 (Hd.ff5 _).2.2.2 (Hd.ff6 _).1 (Hd.ff6 _).2.1 (Hd.ff6 _).2.2.1 (Hd.ff6 _).2.2.2 (Hd.ff7 _).1 (Hd.ff7 _).2.1 (Hd.ff7 _).2.2.1 (Hd.ff7 _).2.2.2 (Hd.ff8 _).1 (Hd.ff8 _).2.1 (Hd.ff8 _).2.2.1 (Hd.ff8 _).2.2.2 (Hd.ff9 _).1 (Hd.ff9 _).2.1 (Hd.ff9 _).2.2.1 (Hd.ff9 _).2.2.2 (Hd.ff10 _).1 (Hd.ff10 _).2.1 (Hd.ff10 _).2.2.1 (Hd.ff10 _).2.2.2 (Hd.ff11 _).1 (Hd.ff11 _).2.1 (Hd.ff11 _).2.2.1 (Hd.ff11 _).2.2.2 (Hd.ff12 _).1 (Hd.ff12 _).2.1 (Hd.ff12 _).2.2.1 (Hd.ff12 _).2.2.2 (Hd.ff13 _).1 (Hd.ff13 _).2.1 (Hd.ff13 _).2.2.1 (Hd.ff13 _).2.2.2 (Hd.ff14 _).1 (Hd.ff14 _).2.1 (Hd.ff14 _).2.2.1 (Hd.ff14 _).2.2.2 (Hd.ff15 _).1 (Hd.ff15 _).2.1 (Hd.ff15 _).2.2.1 (Hd.ff15 _).2.2.2 (Hd.ff16 _).1 (Hd.ff16 _).2.1 (Hd.ff16 _).2.2.1 (Hd.ff16 _).2.2.2 (Hd.ff17 _).1 (Hd.ff17 _).2.1 (Hd.ff17 _).2.2.1 (Hd.ff17 _).2.2.2 (Hd.ff18 _).1 (Hd.ff18 _).2.1 (Hd.ff18 _).2.2.1 (Hd.ff18 _).2.2.2 (Hd.ff19 _).1 (Hd.ff19 _).2.1 (Hd.ff19 _).2.2.1 (Hd.ff19 _).2.2.2 (Hd.ff20 _).1 (Hd.ff20 _).2.1 (Hd.ff20 _).2.2.1 (Hd.ff20 _).2.2.2 (Hd.ff21 _).1 (Hd.ff21 _).2.1 (Hd.ff21 _).2.2.1 (Hd.ff21 _).2.2.2 (Hd.ff22 _).1 (Hd.ff22 _).2.1 (Hd.ff22 _).2.2.1 (Hd.ff22 _).2.2.2 (Hd.ff23 _).1 (Hd.ff23 _).2.1 (Hd.ff23 _).2.2.1 (Hd.ff23 _).2.2.2 (Hd.ff24 _).1 (Hd.ff24 _).2.1 (Hd.ff24 _).2.2.1 (Hd.ff24 _).2.2.2 (Hd.ff25 _).1 (Hd.ff25 _).2.1 (Hd.ff25 _).2.2.1 (Hd.ff25 _).2.2.2 (Hd.ff26 _).1 (Hd.ff26 _).2.1 (Hd.ff26 _).2.2.1 (Hd.ff26 _).2.2.2 (Hd.ff27 _).1 (Hd.ff27 _).2.1 (Hd.ff27 _).2.2.1 (Hd.ff27 _).2.2.2 (Hd.ff28 _).1 (Hd.ff28 _).2.1 (Hd.ff28 _).2.2.1 (Hd.ff28 _).2.2.2 (Hd.ff29 _).1 (Hd.ff29 _).2.1 (Hd.ff29 _).2.2.1 (Hd.ff29 _).2.2.2 (Hd.ff30 _).1 (Hd.ff30 _).2.1 (Hd.ff30 _).2.2.1 (Hd.ff30 _).2.2.2 (Hd.ff31 _).1 (Hd.ff31 _).2.1 (Hd.ff31 _).2.2.1 (Hd.ff31 _).2.2.2 (Hd.ff32 _).1 (Hd.ff32 _).2.1 (Hd.ff32 _).2.2.1 (Hd.ff32 _).2.2.2 (Hd.ff33 _).1 (Hd.ff33 _).2.1 (Hd.ff33 _).2.2.1 (Hd.ff33 _).2.2.2 (Hd.ff34 _).1 (Hd.ff34 _).2.1 (Hd.ff34 _).2.2.1 (Hd.ff34 _).2.2.2 (Hd.ff35 _).1 (Hd.ff35 _).2.1 (Hd.ff35 _).2.2.1 (Hd.ff35 _).2.2.2 (Hd.ns_in 121 none (by kernel_rfl)) (Hd.ns_in 78 none (by kernel_rfl)) (Hd.ns_in 72 none (by kernel_rfl)) (Hd.ns_in 77 none (by kernel_rfl)) (Hd.ns_in 47 none (by kernel_rfl)) (Hd.ns_in 85 none (by kernel_rfl)) (Hd.ns_in 83 none (by kernel_rfl)) (Hd.ns_in 84 none (by kernel_rfl)) (Hd.ns_in 17 none (by kernel_rfl)) (Hd.ns_in 86 none (by kernel_rfl)) (Hd.ns_in 30 none (by kernel_rfl)) (Hd.ns_in 2 none (by kernel_rfl)) (Hd.ns_in 36 none (by kernel_rfl)) (Hd.ns_in 110 none (by kernel_rfl)) (Hd.ns_in 94 (some (.int (6) 225)) (by kernel_rfl)) (by kernel_rfl) (Hd.ns_in 120 (some (.int (8) 227)) (by kernel_rfl)) (by kernel_rfl) (Hd.ns_in 169 (some (.int (1000000) 229)) (by kernel_rfl)) (by kernel_rfl) (Hd.ns_in 148 (some (.int (9) 231)) (by kernel_rfl)) (by kernel_rfl) (Hd.ns_in 102 (some (.int (4000) 233)) (by kernel_rfl)) (by kernel_rfl) (Hd.ns_in 153 (some (.int (6) 235)) (by kernel_rfl)) (by kernel_rfl) (Hd.ns_in 159 (some (.ref 40)) (by kernel_rfl)) (by kernel_rfl) (Hd.ns_in 175 (some (.ref 24)) (by kernel_rfl)) (Hd.ns_in 166 (some (.ref 37)) (by kernel_rfl)) (Hd.ex_NoProgram _) (Hd.ns_in 107 (some (.ref 41)) (by kernel_rfl)) (Hd.ky_SHAPES _) (fun p e=>by cases e;rfl)
