import PyProof.Rows.All
import Wide.All
import OpenK.AllK
import Wide.FinOn
import Lean
import PyProof.EqAt
import PyProof.EqKinds
import PyProof.TupleCall
import PyProof.NeKinds
import PyProof.SumWalk
import PyProof.StrWalks
import PyProof.FString5
import PyProof.StrOps
import PyProof.StrBlock
import PyProof.CallStr
import PyProof.FactsAll.zip_1
import PyProof.AttrMissSeq
import KE.KDictOf
import PyProof.Rows.TupIter
import PyProof.Rows.TopTwo
import KE.KTryDeep
import PyProof.MeetsDict
import PyProof.TupleOfGen
import PyProof.CollectIter
import KE.KRevIter
import PyProof.ZipIter
import PyProof.DictItems
import PyProof.DictWalks
import KE.KPairComp
import KE.KSortTup
import PyProof.Rows.SetFrom
import PyProof.WalksMore
import PySem.Challenge.RW_turtlehouse_k56_changes_refused
set_option Elab.async false
set_option linter.all false
set_option maxRecDepth 100000
set_option maxHeartbeats 4000000
set_option hygiene false in
local macro_rules | `(tactic| walk_at "b0") => `(tactic| (
 obtain ⟨it,fp,tn,J,H1,e,I2,T,st2,f2,hW⟩:=h2
 subst e
 refine wpAny_newObj_type (wpAny_newFunctionEnv ok.cell (by intro y hy;simp at hy) (fun h₁ hns₁ hsb₁=> ?_) ok.kind)
 dsimp only at hns₁ hsb₁ ⊢
 have hfr:H1 s2.heap.objs.size=none:=I2.fresh
 have I3:=I2.lnew (ys:=[]) (its:=[]) (t':=s2.toks) .nil (Nat.zero_le _)
 generalize hs3:({ s2 with heap:=s2.heap.push { cls:= .type "list",data:= .seq ([]:List Value).toArray },toks:=s2.toks }:Shared)=s₃ at I3
 have eh:s2.heap.push { cls:= .type "list",dict:=none,data:= .seq ([]:List Value).toArray }=s₃.heap:=by rw [← hs3]
 rw [eh] at hns₁ hsb₁ ⊢
 have k23:∀ b o,s2.heap.get? b=some o→s₃.heap.get? b=some o:=fun b o q=>by rw [← eh];exact Heap.get?_push_of_some _ q))
set_option hygiene false in
local macro_rules | `(tactic| walk_at "b1") => `(tactic| (
 rw [if_pos rfl] at q9 ⊢
 have e9:=he' _ s9 σ8 H9 _ I9 q9
 rw [eX] at e9
 refine thn e9 fun y s10 ⟨z,H10,I10,r10,ys,hy,hlen,m',hm,w10⟩=> ?_
 have a10:=EF (X:=X') _ s10 σ8 H10 (.ref s2.heap.objs.size) [z] _ _ (fun _ H11=>H11=upd H10 s2.heap.objs.size (.lst (ys++[z]))) I10 rfl (.cons r10 .nil) ⟨_,ys,z,rfl,rfl,hy,hlen,rfl⟩
 rw [eX] at a10
 refine thn a10 fun _ s11 ⟨_,H11,I11,_,e11⟩=> ?_
 subst e11
 exact ⟨m',hm,i+1,σ8,_,I11.unpinned,(again I11).1,(again I11).2,w10⟩))
set_option hygiene false in
local macro_rules | `(tactic| walk_at "b2") => `(tactic| (
 have sz3:s2.heap.objs.size≤s₃.heap.objs.size:=by rw [← eh,Heap.size_push];exact Nat.le_succ _
 have f3:∀ b∈fp,FD X pins (upd H1 s2.heap.objs.size (.lst [])) b:=fun b hb=>⟨by rw [BE (Nat.ne_of_lt (lt2 b hb))];exact (f2 b hb).1,(f2 b hb).2⟩
 have k34:∀ b o,s₃.heap.get? b=some o→h₁.get? b=some o:=fun b o q=>hsb₁.extBut b o (Nat.ne_of_lt (Heap.lt_size q)) (Heap.get?_push_of_some _ q)))
set_option hygiene false in
local macro_rules | `(tactic| walk_at "b3") => `(tactic| (
 rw [eX] at this
 rw [← ePr,← eW] at this
 refine thn this fun r s6 ⟨u,hr,h6⟩=> ?_
 subst hr
 dsimp only
 refine thn h6 fun _ s7 ⟨x,H7,I7,r7,y7,st7,fr7⟩=> ?_
 have I7':=I7.pinned (stat fr7) (T.obj _ _ st7)
 have g7:=hg' _ s7 σ5 H7 x u _ I7' r7 (step x H7 y7)
 rw [eX] at g7
 refine thn g7 fun _ s8 ⟨σ8,H8,I8,q8⟩=> ?_
 have t8:=ht' _ s8 σ8 H8 _ I8 q8
 rw [eX] at t8))
set_option hygiene false in
local macro_rules | `(tactic| walk_at "b4") => `(tactic| (
 have es:({ s2 with heap:=h₁,toks:=s2.toks+([]:List (Str×Value)).length }:Shared)={ s₃ with heap:=h₁,toks:=s₃.toks }:=by rw [← hs3];rfl
 rw [show ({ s2 with heap:=h₁,toks:=s2.toks+([]:List (Str×Value)).length }:Shared)={ s₃ with heap:=h₁,toks:=s₃.toks } from es]
 exact codeAny_compStart_list loop (T.self _ 0 _ _ _ st4 loop)))
set_option hygiene false in
local macro_rules | `(tactic| walk_at "b5") => `(tactic| (
 show wpAny _ _ (field (.ref z) 2 >>= _) _ _ _
 refine wpAny_bind (wpAny_field hz rfl (x:= .bool false) rfl ?_)
 show wpAny _ _ (field (.ref z) 3 >>= _) _ _ _
 refine wpAny_bind (wpAny_field hz rfl (x:= .ref TI) rfl (wpAny_bind (wpAny_seqItems ti rfl ?_)))
 show wpAny _ _ (Builtin.SmallTypes.ownedTupleIsFree (.ref z) >>= _) _ _ _
 refine wpAny_bind ?_
 unfold Builtin.SmallTypes.ownedTupleIsFree
 refine wpAny_bind (wpAny_field hz rfl (x:= .none) rfl (wpAny_pure ?_))
 simp only [if_true]
 refine wpAny_bind (wpAny_rule (wpAny_bind (wpAny_field hz rfl (x:= .ref TO) rfl (wpAny_bind (wpAny_setField_rec hz (by simp) fun g1 z1 e1=> ?_)))))
 replace z1:DK g1 z TI TO .ellipsis (.bool false):=z1
 have e1:=e1.extBut
 refine wpAny_bind ?_
 simp only [List.zipIdx_cons,List.zipIdx_nil,List.forIn_cons,List.forIn_nil]
 refine wpAny_bind (wpAny_bind (wpAny_onRaise ?_))
 show wpAny _ _ (Builtin.SmallTypes.nextOf (.ref i1) >>= _) _ _ _))
set_option hygiene false in
local macro_rules | `(tactic| walk_at "b6") => `(tactic| (
 have ePr:X'.prog=X.prog:=by subst hX';rfl
 have eW:X'.w=X.w:=by subst hX';rfl
 have eK:X'.K=X.K:=by subst hX';rfl
 have eA:X'.A=X.A:=by subst hX';rfl
 have eE:X'.env=compEnvC scope (CL X.env.cells scope.names []) s₃.heap.objs.size X.env:=by subst hX';rfl
 have eC:X'.calm=true:=by subst hX';rfl))
set_option hygiene false in
local macro_rules | `(tactic| walk_at "b7") => `(tactic| (
 refine ⟨T.keep _ _ _ st7 fun b hb o e=>(I9.pin (b,o) (List.mem_append_right _ (List.mem_append_right _ (BS hb e)))).1,fun b hb=> ?_⟩
 obtain ⟨o,e,d⟩:=T.obj _ _ st7 b hb
 exact (I9.pin (b,o) (List.mem_append_right _ (List.mem_append_right _ (BS hb e)))).2.1))
set_option hygiene false in
local macro_rules | `(tactic| walk_at "b8") => `(tactic| (
 have j2:j<its'.length:=by simpa using h2
 obtain ⟨v1,e1,r1⟩:=AM.get' rv (List.getElem?_eq_getElem j1)
 obtain ⟨v2,e2,r2⟩:=AM.get' rv' (List.getElem?_eq_getElem j2)))
set_option hygiene false in
local macro_rules | `(tactic| walk_at "b9") => `(tactic| (
 show wpAny _ _ (field (.ref i) 0 >>= _) _ _ _
 refine wpAny_bind (wpAny_field p1 p3 (x:= .ref t) rfl ?_)
 show wpAny _ _ (if (Value.ref t == Value.none)=true then _ else _) _ _ _
 rw [if_neg (show ¬ (Value.ref t == Value.none)=true by simp)]
 show wpAny _ _ (field (.ref i) 1 >>= _) _ _ _
 refine wpAny_bind (wpAny_field p1 p3 (x:= .int k 0) rfl ?_)
 show wpAny _ _ (seqItems? (.ref t) >>= _) _ _ _
 refine wpAny_bind (wpAny_seqItems q1 q2 ?_)
 simp only [Int.toNat_natCast,hx]))
set_option hygiene false in
local macro_rules | `(tactic| walk_at "b10") => `(tactic| (
 have I4:=(GO (t':=s₃.toks) hc hsc hN ok I3 f3 (fun b hb=>Nat.lt_of_lt_of_le (lt2 b hb) sz3) hns₁ k34).wish (XB X E s₃ (upd H1 s2.heap.objs.size (.lst [])) fp)
 generalize hX':(cxC X scope (CL X.env.cells scope.names []) N s₃ (upd H1 s2.heap.objs.size (.lst [])) fp).wish (XB X E s₃ (upd H1 s2.heap.objs.size (.lst [])) fp)=X' at I4
 obtain ⟨W,⟨m0,w0⟩,turn⟩:=hW _ hfr
 have st4:tn 0 h₁:=T.keep _ _ _ st2 fun b hb o q=>k34 b o (k23 b o q)))
set_option hygiene false in
local macro_rules | `(tactic| walk_at "b11") => `(tactic| (
 have hg':PG X' tg g:=by subst hX';exact hg _ _ _ _
 have ht':KF X' ifs tt:=by subst hX';exact ht _ _ _ _
 have he':PE X' elt te:=by subst hX';exact he _ _ _ _))
set_option hygiene false in
local macro_rules | `(tactic| walk_at "b12") => `(tactic| (
 refine JI (EB:=XB X E s₃ (upd H1 s2.heap.objs.size (.lst [])) fp) (fun n s'=>∃ i σ' H',Inv X' [] σ' H' s'∧tn i s'.heap∧(∀ b∈fp,H' b=none)∧W i n σ' H') ?_ (fun x s z=>ND hL I3 hst hfL (fun b hb=>⟨(f2 b hb).2.2.2.1,(f2 b hb).2.1,(f2 b hb).2.2.2.2.1,(f2 b hb).2.2.2.2.2⟩) z) m0 ⟨0,_,_,I4,st4,fun b hb=>(f3 b hb).1,w0⟩
 rintro n s5 ⟨i,σ5,H5,I5,st5,fr5,w5⟩
 rw [← ePr,← eW,← eA,← eE]))
set_option hygiene false in
local macro_rules | `(tactic| walk_at "b13") => `(tactic| (
 rw [eX] at this
 rw [← ePr,← eW] at this
 refine thn this fun r s6 ⟨hr,I6⟩=> ?_
 subst hr
 dsimp only
 rw [ePr,eW,eA]
 exact fin I6 fr5 qn))
set_option hygiene false in
local macro_rules | `(tactic| walk_at "b14") => `(tactic| (
 intro pins s σ H x y v u Q I rx ry h
 obtain ⟨ds,es,h1,h2,hd,q⟩:=h
 rw [Rp] at h1 h2
 obtain ⟨p,xs,rfl,hs,hl⟩:=h1
 obtain ⟨p',xs',rfl,hs',hl'⟩:=h2
 cases rx
 cases ry
 obtain ⟨its,rv,ht,_⟩:=I.tuple hs
 obtain ⟨its',rv',ht',_⟩:=I.tuple hs'
 have l1:its.length=ds.length:=by rw [← rv.length,hl.length]
 have l2:its'.length=es.length:=by rw [← rv'.length,hl'.length]))
set_option hygiene false in
local macro_rules | `(tactic| walk_at "b15") => `(tactic| (
 rw [if_neg Bool.false_ne_true] at q9 ⊢
 obtain ⟨m',hm,w9⟩:=q9
 exact ⟨m',hm,i+1,σ8,H9,I9.unpinned,(again I9).1,(again I9).2,w9⟩))
set_option hygiene false in
local macro_rules | `(tactic| walk_at "b16") => `(tactic| (
 subst hX'
 refine ⟨hn b hb,Nat.ne_of_lt (Nat.lt_of_lt_of_le (lt2 b hb) sz3),fun z=> ?_,.inl hb,fun x c e=> ?_,fun p hp=>by cases hp⟩))
set_option hygiene false in
local macro_rules | `(tactic| walk_at "b17") => `(tactic| (
 obtain ⟨a,xs,rfl,ha,la⟩:=BF.mp hx
 cases rx
 obtain ⟨t,rfl⟩:=ry
 obtain ⟨its,r1,p1,_⟩:=I.tuple ha
 obtain ⟨⟨cls,dd,data,sl⟩,e,hc,n,hd⟩:=id p1
 simp only at hc hd
 subst hc hd))
set_option hygiene false in
local macro_rules | `(tactic| walk_at "b18") => `(tactic| (
 have I4:=GO (t':=s₃.toks) hc hsc hN ok I3 f3 (fun b hb=>Nat.lt_of_lt_of_le (lt2 b hb) sz3) hns₁ k34
 generalize hX':cxC X scope (CL X.env.cells scope.names []) N s₃ (upd H1 s2.heap.objs.size (.lst [])) fp=X' at I4
 obtain ⟨W,⟨m0,w0⟩,turn⟩:=hW _ hfr
 have st4:tn 0 h₁:=T.keep _ _ _ st2 fun b hb o q=>k34 b o (k23 b o q)))
set_option hygiene false in
local macro_rules | `(tactic| walk_at "b19") => `(tactic| (
 refine ⟨fun i m σ H=>m=xs.length - i∧i≤xs.length∧Pv i σ H,⟨xs.length,by simp,Nat.zero_le _,h0⟩,?_⟩))
set_option hygiene false in
local macro_rules | `(tactic| walk_at "b20") => `(tactic| (
 intro pins s σ H D I h
 rw [exec_Assign_Name_used _ _ _ _ hsw]
 refine wpAny_bind (wpAny_standAt (wpAny_bind ?_))
 show wpAny _ X.A (do let _ ← comprehension (.ListComp elt [⟨tg,iter,ifs,0⟩] scope pos) scope X.env _ (newList []) false (eval iter X.env) (some (assign (.Name y py) X.env))) _ _ s))
set_option hygiene false in
local macro_rules | `(tactic| walk_at "b21") => `(tactic| (
 obtain ⟨p,p1,p2,p3⟩:=id hi
 obtain ⟨q,q1,_,n,q2⟩:=ht
 unfold Builtin.SmallTypes.nextOf
 refine wpAny_bind (wpAny_callSpecial?_slot (name:=Str.ofString "__next__") hi.typeIs slot_tupleiter_next (wpAny_call_entry slot_tupleiter_next hi.typeIs entry_tupleiter_next ?_ (args_tupleiter_next _)))))
set_option hygiene false in
local macro_rules | `(tactic| walk_at "b22") => `(tactic| (
 refine wpAny_bind (wpAny_mono (wpAny_comprehension_free (use:=some (assign (.Name y py) X.env)) (Q:=fun _ s'=>SP X pins D .next s') rfl hs (IG hfree) ok.kind ok.names (thn (hi pins s σ H _ I h) fun v s1 h1=>thn h1 fun itv s2 h2=> ?_)) (fun _ s' hq=>wpAny_pure (wpAny_pure hq)) fun _ _ e=>e)))
set_option hygiene false in
local macro_rules | `(tactic| walk_at "b23") => `(tactic| (
 intro prog w A R s ⟨e,h⟩
 show wpAny _ _ (asIndex (.int k t) >>= _) _ _ s
 refine wpAny_bind ?_
 rw [show asIndex (.int k t)=pure k from rfl]
 refine wpAny_pure ?_
 dsimp only
 rw [if_neg (by simp;omega)]
 refine wpAny_bind (wpAny_tupleItemsOf e rfl ?_)
 try dsimp only))
set_option hygiene false in
local macro_rules | `(tactic| walk_at "b24") => `(tactic| (
 have r2:AM (vs++dvs) (us++ds):=r.append hd
 have hl:(us++ds).length=ps.length:=by rw [← r2.length];exact F.len _ _ _ _ h
 refine wpAny_call (codeAny_mono (F.run X.A X.stack s H ⟨us,[]⟩ (us++ds) (vs++dvs) Q E hr I.env0 (hb s us I.kIn hl) r2 h) fun r s' hq=> ?_)))
set_option hygiene false in
local macro_rules | `(tactic| walk_at "b25") => `(tactic| (
 obtain ⟨m,hn,hl⟩:=id I.loc
 have hcls:(X.env.scope.kind == .class || (X.env.scope.kind == .module && X.env.locals != X.env.globals))=false:=by rw [I.ok.kind];rfl
 have hiσ:i<σ.length:=by rw [I.len];exact (List.getElem?_eq_some_iff.mp hi).1
 have cne:=I.cne))
set_option hygiene false in
local macro_rules | `(tactic| walk_at "b26") => `(tactic| (
 intro X hP hw hK hc i pins s σ H E I hf st hg
 subst hP hw hK))
set_option hygiene false in
local macro_rules | `(tactic| walk_at "b27") => `(tactic| (
 intro pins s σ H D a C a0 B ok fl st h
 obtain ⟨c,rfl,hc,h⟩:=h
 have I0:=st s.heap fl.1 (IN _)
 obtain ⟨oe,he,hcls⟩:=fl.there
 refine wpAny_handleBy_cons (codeAny_handlers_test (FN (X:=X.sub a) (I0.sub a) hg hm ?_ hdb)) (by intro q;cases q)))
set_option hygiene false in
local macro_rules | `(tactic| walk_at "b28") => `(tactic| (
 refine codeAny_loop rfl I (fun n s hI=> ?_) n h
 show wpAny _ A ((compTurn (.ListComp elt [⟨target,iter,ifs,0⟩] scope pos) 0 it acc env).onRaise (fun x=>do noteFrame x env;theTreesLotGoes x)) _ _ s
 refine wpAny_noted ?_
 rw [compTurn_list]))
set_option hygiene false in
local macro_rules | `(tactic| walk_at "b29") => `(tactic| (
 have u1:=AE.upd (o:= .tup [.ref t.c_NoMark,.ref t.c_NoProgram]) hp1
 have u2:=AE.upd (o:= .tup [.ref t.c_NoText,.ref t.c_NotWhole]) hp2
 refine ⟨_,u2 _ _ (u1 _ _ AD),(show (3:Nat)<sizeLine by decide),by decide,fun p3 hp3=> .inr ⟨?_,?_⟩⟩))
set_option hygiene false in
local macro_rules | `(tactic| walk_at "b30") => `(tactic| (
 refine LM (fun n s'=>∃ i σ' H',Inv X' [] σ' H' s'∧tn i s'.heap∧(∀ b∈fp,H' b=none)∧W i n σ' H') ?_ m0 ⟨0,_,_,I4,st4,fun b hb=>(f3 b hb).1,w0⟩
 rintro n s5 ⟨i,σ5,H5,I5,st5,fr5,w5⟩
 rw [← ePr,← eW,← eA,← eE]))
set_option hygiene false in
local macro_rules | `(tactic| walk_at "b31") => `(tactic| (
 simp only [Bool.false_eq_true,if_false]
 simp only [List.forIn_toArray,List.forIn_cons,List.forIn_nil]
 refine wpAny_bind (wpAny_bind (wpAny_bind (wpAny_holding ?_)))
 show wpAny _ _ (Builtin.SmallTypes.nextOf (.ref i1) >>= _) _ _ _))
set_option hygiene false in
local macro_rules | `(tactic| walk_at "b32") => `(tactic| (
 unfold Builtin.Tuple.tupleIsExact
 refine wpAny_bind (wpAny_bind (wpAny_typeOf (show s.TypeIs (.ref l) "tuple" from ⟨_,e,rfl⟩) (wpAny_pure ?_)))
 rw [if_pos (by decide)]
 refine wpAny_bind (wpAny_rule ?_)
 exact wpAny_pure h))
set_option hygiene false in
local macro_rules | `(tactic| walk_at "b33") => `(tactic| (
 obtain ⟨rfl,rfl⟩:=hb
 rw [if_neg (by decide)]
 refine wpAny_pure ?_
 dsimp only))
set_option hygiene false in
local macro_rules | `(tactic| walk_at "b34") => `(tactic| (
 intro pins s σ H Q I h))
set_option hygiene false in
local macro_rules | `(tactic| walk_at "b35") => `(tactic| (
 have Ip:=I3.call' (s':=s') (ch:=fp) I'.os u1 I'.hok I'.bare fun b hb=>⟨(f2 b hb).2.2.2.1,(f2 b hb).2.1,(f2 b hb).2.2.2.2.1,(f2 b hb).2.2.2.2.2⟩
 have cl:X.env.locals≠s₃.heap.objs.size:=Nat.ne_of_lt I3.lt))
set_option hygiene false in
local macro_rules | `(tactic| walk_at "b36") => `(tactic| (
 show wpAny (model X.prog X.w) X.A (assign (.Name y py) X.env (.ref s2.heap.objs.size)) _ _ s'
 refine wpAny_assign_Name (HJ Ip hNd hiN hx (v:= .ref s2.heap.objs.size) rfl (fun s'' I'' ⟨a,sa,ha⟩=> ?_) hf)))
set_option hygiene false in
local macro_rules | `(tactic| walk_at "b37") => `(tactic| (
 refine ⟨_,hp,_,at0,?_⟩
 dsimp only))
set_option hygiene false in
local macro_rules | `(tactic| walk_at "b38") => `(tactic| (
 unfold pyNext
 refine wpAny_bind (wpAny_attempt (wpAny_callSpecial?_slot (name:=Str.ofString "__next__") ty F.slot_zip_next (wpAny_call_entry F.slot_zip_next ty F.entry_zip_next ?_ (F.args_zip_next_1 _))))))
set_option hygiene false in
local macro_rules | `(tactic| walk_at "b39") => `(tactic| (
 obtain ⟨its,r,ht,hz⟩:=I.tuple hx
 have hlen:its.toArray.size=xs.length:=by rw [List.size_toArray];exact r.length.symm
 refine ⟨"tuple",_,PyProof.Rows.slot_tuple_getitem.lookup,ht.typeIs,?_⟩))
set_option hygiene false in
local macro_rules | `(tactic| walk_at "b40") => `(tactic| (
 intro σ' H' s' I' hn q
 obtain ⟨m,hm,_⟩:=id I'.loc
 subst hX'
 refine ⟨m,hm,fun h'' sb=>⟨.ref s2.heap.objs.size,H',?_,rfl,q⟩⟩
 have fC:H' s₃.heap.objs.size=none:=I'.free))
set_option hygiene false in
local macro_rules | `(tactic| walk_at "b41") => `(tactic| (
 obtain ⟨f0,f1,f2,f3,f4,f5⟩:=hf it (by simp)))
set_option hygiene false in
local macro_rules | `(tactic| walk_at "b42") => `(tactic| (
 have e2:=e2.extBut
 have o2:IsPair g2 TO a b:=e2 _ _ D.TOi1 (e1 _ _ D.TOz tt)
 refine wpAny_bind (wpAny_seqItems o2 rfl (wpAny_bind (wpAny_updateSeq_pair o2 fun g3 o3 e3=> ?_)))))
set_option hygiene false in
local macro_rules | `(tactic| walk_at "b43") => `(tactic| (
 rw [if_neg (by decide)]
 obtain ⟨o,e,c,n',d⟩:=ht
 rw [seqItems?.eq_1]
 refine wpAny_bind (wpAny_bind (wpAny_load e ?_))
 rw [d]
 refine wpAny_pure ?_
 refine wpAny_bind ?_))
set_option hygiene false in
local macro_rules | `(tactic| walk_at "b44") => `(tactic| (
 have e3:=e3.extBut
 refine wpAny_bind (wpAny_letGo (wpAny_pure (wpAny_bind (wpAny_bind (wpAny_onRaise ?_)))))
 show wpAny _ _ (Builtin.SmallTypes.nextOf (.ref i2) >>= _) _ _ _))
set_option hygiene false in
local macro_rules | `(tactic| walk_at "b45") => `(tactic| (
 have b0:=I'.base
 exact ⟨fun b o e n hb hx=>b0.keep b o e n hb hx,fun b o e n hb hx=>b0.slot b o e n hb hx,b0.free,fun b o e hx=>b0.there b o e hx,b0.tups,b0.frzs,b0.tbls⟩))
set_option hygiene false in
local macro_rules | `(tactic| walk_at "b46") => `(tactic| (
 show wpAny _ _ (Builtin.Tuple.tupleItemsOf (.ref t) >>= _) _ _ s
 refine wpAny_bind (tupleItemsOf_ ht ?_)
 refine wpAny_bind (wpAny_typeOf hTs ?_)
 rw [if_pos (by decide)]))
set_option hygiene false in
local macro_rules | `(tactic| walk_at "b47") => `(tactic| (
 rw [Rp] at h2
 obtain ⟨p,xs,rfl,hs,_⟩:=h2
 cases r2
 obtain ⟨its,_,ht,_⟩:=I.tuple hs))
set_option hygiene false in
local macro_rules | `(tactic| walk_at "b48") => `(tactic| (
 obtain ⟨⟨cls,dd,data,sl⟩,ho,hc,n,hd⟩:=id ht
 obtain ⟨⟨cls2,dd2,data2,sl2⟩,ho2,hc2,n2,hd2⟩:=id hb
 simp only at hc hd hc2 hd2
 subst hc hd hc2 hd2))
set_option hygiene false in
local macro_rules | `(tactic| walk_at "b49") => `(tactic| (
 exact I3.call' (s':={ s' with heap:=h'' }) (ch:=fp) I'.os u1 hok' I'.bare fun b hb=>⟨(f2 b hb).2.2.2.1,(f2 b hb).2.1,(f2 b hb).2.2.2.2.1,(f2 b hb).2.2.2.2.2⟩))
set_option hygiene false in
local macro_rules | `(tactic| walk_at "b50") => `(tactic| (
 obtain ⟨o,q,_⟩:=T.obj _ _ st2 b hb
 exact Heap.lt_size q))
set_option hygiene false in
local macro_rules | `(tactic| walk_at "b51") => `(tactic| (
 obtain ⟨nm,q,N,bs,hdct,sn,sub,ab,col,dd,k0,k1,k2,k3,k5,_,hC,_,_,_⟩:=BY.obj qC k))
set_option hygiene false in
local macro_rules | `(tactic| walk_at "b52") => `(tactic| (
 rw [List.mem_singleton.mp hb]
 exact ⟨.inr I3.sz,Ne.symm cl,cc,fun p hp e=>absurd (Heap.lt_size (I3.pin p hp).1) (by rw [e];exact Nat.lt_irrefl _)⟩))
set_option hygiene false in
local macro_rules | `(tactic| walk_at "b53") => `(tactic| (
 obtain ⟨j,h1,h2,h3,h4,h5⟩:=QS he
 obtain ⟨w,ew,rw'⟩:=r.get h2
 have hl:=r.length
 have hn:=LW
 have fin:EP X pins σ Q w s:=⟨z,H,I,rw',q⟩))
set_option hygiene false in
local macro_rules | `(tactic| walk_at "b54") => `(tactic| (
 obtain ⟨os,hos,hcs,hds⟩:=id hs
 have hTs:s.TypeIs (.ref sl) "slice":=⟨os,hos,hcs⟩
 unfold getItem
 try with_reducible refine wpAny_holding ?_))
set_option hygiene false in
local macro_rules | `(tactic| walk_at "b55") => `(tactic| (
 intro pins s σ H R I h
 refine thn (hl pins s σ H _ I h) fun v s1 ⟨x,H1,I1,r1,q1⟩=> ?_
 obtain ⟨a,e,⟨xs,hq⟩,q⟩:=q1
 subst e
 cases r1))
set_option hygiene false in
local macro_rules | `(tactic| walk_at "b56") => `(tactic| (
 have I1:Inv X pins σ H { s with heap:=h' }:=I.turned (t':=s.toks) (fun b o hb e=>(sb.2 b hb).trans e) f0 f1 f3 f4 f5
 obtain ⟨o,e,c,d⟩:=id st'))
set_option hygiene false in
local macro_rules | `(tactic| walk_at "b57") => `(tactic| (
 refine wpAny_comprehension_free (use:=none) rfl hs (IG hfree) ok.kind ok.names (thn (hi pins s σ H _ I h) fun v s1 h1=>thn h1 fun itv s2 h2=> ?_)))
set_option hygiene false in
local macro_rules | `(tactic| walk_at "b58") => `(tactic| (
 rw [if_neg (by decide)]
 refine ⟨by decide,fun p2 hp2=>⟨hk,false,.inr ⟨[t.c_NoText,t.c_NotWhole],SqT.of AD,exK.any T.xK hm _ ?_⟩,?_⟩⟩))
set_option hygiene false in
local macro_rules | `(tactic| walk_at "b59") => `(tactic| (
 simp only [List.mem_cons,List.not_mem_nil,or_false] at hd))
set_option hygiene false in
local macro_rules | `(tactic| walk_at "b60") => `(tactic| (
 refine ⟨by decide,fun p3 h3=> ?_⟩
 have u3:=AE.upd (o:= .tup [.ref p1]) h3))
set_option hygiene false in
local macro_rules | `(tactic| walk_at "b61") => `(tactic| (
 have nit:∀ b u,H b=some u→b∉fp:=fun b u e z=>by rw [(hf b z).1] at e;cases e
 have hL:X.env.locals∉fp:=fun z=>(hf _ z).2.1 rfl))
set_option hygiene false in
local macro_rules | `(tactic| walk_at "b62") => `(tactic| (
 intro value slice pins s σ H x y v u Q I rx ry h hs
 obtain ⟨p,xs,i,z,rfl,rfl,hq,he,q⟩:=h
 cases rx
 obtain ⟨t,rfl⟩:=ry))
set_option hygiene false in
local macro_rules | `(tactic| walk_at "b63") => `(tactic| (
 refine wpAny_pure (wpAny_bind (wpAny_bind (wpAny_holding ?_)))
 show wpAny _ _ (Builtin.SmallTypes.nextOf (.ref i2) >>= _) _ _ _))
set_option hygiene false in
local macro_rules | `(tactic| walk_at "b64") => `(tactic| (
 have:=ok.free y hy e
 rw [← hsc] at this))
set_option hygiene false in
local macro_rules | `(tactic| walk_at "b65") => `(tactic| (
 have b0:=I'.base
 have ne:∀ b o,s₃.heap.get? b=some o→b≠s₃.heap.objs.size:=fun b o e=>Nat.ne_of_lt (Heap.lt_size e)))
set_option hygiene false in
local macro_rules | `(tactic| walk_at "b66") => `(tactic| (
 subst e
 exact I1.fpOk (Nat.le_refl _) (I1.hok.fresh (Nat.le_refl _))))
set_option hygiene false in
local macro_rules | `(tactic| walk_at "b67") => `(tactic| (
 refine wpAny_pure ?_
 dsimp only
 rw [if_neg (by decide)]
 refine wpAny_bind (wpAny_tupleItemsOf e rfl ?_)
 try dsimp only))
set_option hygiene false in
local macro_rules | `(tactic| walk_at "b68") => `(tactic| (
 intro pins s σ H x y v u Q I rx ry h
 obtain ⟨i,j,rfl,rfl,q⟩:=h
 obtain ⟨t,rfl⟩:=rx
 obtain ⟨t',rfl⟩:=ry))
set_option hygiene false in
local macro_rules | `(tactic| walk_at "b69") => `(tactic| (
 have e:b=it:=by simpa using hb
 subst e
 obtain ⟨o,e,c,d⟩:=st
 exact ⟨o,e,fun v z=>by rw [d] at z;cases z⟩))
set_option hygiene false in
local macro_rules | `(tactic| walk_at "b70") => `(tactic| (
 cases (show u=Value.ref a from rx)))
set_option hygiene false in
local macro_rules | `(tactic| walk_at "b71") => `(tactic| (
 intro pins s σ H x y v u Q I rx ry h))
set_option hygiene false in
local macro_rules | `(tactic| walk_at "b72") => `(tactic| (
 intro pins s σ H D I h))
namespace L2
open PySem PySem.Spec PyProof.Rows
abbrev Key:=Sum Int Str
def LI:Key→Value→Bool
 | .inl k,v=>Value.isInt k v
 | .inr x,v=>Value.isStrOf x v
def keyH (w:World):Key→Int
 | .inl k=>hashInt k
 | .inr x=>hashStr w x
theorem BQ:∀ {k:Key} {v:Value},LI k v=true→(∃ i t,k=Sum.inl i∧v=Value.int i t)∨(∃ x t,k=Sum.inr x∧v=Value.str x t)
 | .inl i,v,h=>by
  obtain ⟨t,e⟩:=Value.isInt_shape (k:=i) (v:=v) h
  exact .inl ⟨i,t,rfl,e⟩
 | .inr x,v,h=>by
  obtain ⟨t,e⟩:=Value.isStrOf_shape (x:=x) (v:=v) h
  exact .inr ⟨x,t,rfl,e⟩
theorem TN (i:Int) (t:Tok):LI (.inl i) (.int i t)=true:=by simp [LI,Value.isInt]
theorem RO (x:Str) (t:Tok):LI (.inr x) (.str x t)=true:=by simp [LI,Value.isStrOf]
theorem aU (a b:Int):decide ((Sum.inl a:Key)=Sum.inl b)=(a == b):=by
 by_cases e:a=b
 ·subst e;simp
 ·have h:¬ (Sum.inl a:Key)=Sum.inl b:=fun q=>e (Sum.inl.inj q)
  rw [decide_eq_false h]
  exact (beq_eq_false_iff_ne.mpr e).symm
theorem cZ (a b:Str):decide ((Sum.inr a:Key)=Sum.inr b)=decide (a=b):=by
 by_cases e:a=b
 ·subst e;simp
 ·have h:¬ (Sum.inr a:Key)=Sum.inr b:=fun q=>e (Sum.inr.inj q)
  rw [decide_eq_false h,decide_eq_false e]
theorem bP (a:Int) (b:Str):decide ((Sum.inl a:Key)=Sum.inr b)=false:=decide_eq_false (fun q=>nomatch q)
theorem cJ (a:Str) (b:Int):decide ((Sum.inr a:Key)=Sum.inl b)=false:=decide_eq_false (fun q=>nomatch q)
def CM (prog:Program) (w:World):PySem.KeyKind prog w Key where
 is:=LI
 hash:=keyH w
 inj:=fun v a b ha hb=>by
  rcases BQ ha with ⟨i,t,rfl,rfl⟩ | ⟨x,t,rfl,rfl⟩
  ·rcases BQ hb with ⟨j,u,rfl,e⟩ | ⟨y,u,rfl,e⟩
   ·injection e with e1 _;rw [e1]
   ·exact nomatch e
  ·rcases BQ hb with ⟨j,u,rfl,e⟩ | ⟨y,u,rfl,e⟩
   ·exact nomatch e
   ·injection e with e1 _;rw [e1]
 byValue:=fun k v h=>by
  rcases BQ h with ⟨i,t,rfl,rfl⟩ | ⟨x,t,rfl,rfl⟩<;> rfl
 pyHash:=fun hv h=>by
  rcases BQ hv with ⟨i,t,rfl,rfl⟩ | ⟨x,t,rfl,rfl⟩
  ·exact wpAny_pyHash_int h
  ·exact wpAny_pyHash_str h
 eqBool:=fun hu hv h=>by
  rcases BQ hu with ⟨i,t,rfl,rfl⟩ | ⟨x,t,rfl,rfl⟩
  ·rcases BQ hv with ⟨j,u,rfl,rfl⟩ | ⟨y,u,rfl,rfl⟩
   ·rw [aU] at h;exact wpAny_eqBool_int h
   ·rw [bP] at h;exact SeqAt.EqAt.int_str i t y u _ _ _ _ h
  ·rcases BQ hv with ⟨j,u,rfl,rfl⟩ | ⟨y,u,rfl,rfl⟩
   ·rw [cJ] at h;exact SeqAt.EqAt.str_int x t j u _ _ _ _ h
   ·rw [cZ] at h;exact wpAny_eqBool_str h
 «strs» :=fun k x t v h=>by
  rcases BQ h with ⟨i,u,rfl,e⟩ | ⟨y,u,rfl,e⟩
  ·exact nomatch e
  ·injection e with e1 _
   subst e1
   cases v<;> rfl
theorem OM (prog:Program) (w:World) (i:Int) (t:Tok):(CM prog w).is (.inl i) (.int i t)=true:=TN i t
theorem MN (prog:Program) (w:World) (x:Str) (t:Tok):(CM prog w).is (.inr x) (.str x t)=true:=RO x t
inductive V where
 | non | bl (b:Bool) | int (i:Int) | str (x:Str) | byt (b:Array UInt8) | flt (b:UInt64) | ref (a:Addr) | ty (n:String)
 deriving DecidableEq
def AY:V→Value→Prop
 | .non,u=>u=Value.none
 | .bl b,u=>u=Value.bool b
 | .int i,u=>∃ t,u=Value.int i t
 | .str x,u=>∃ t,u=Value.str x t
 | .byt b,u=>∃ t,u=Value.bytes b t
 | .flt b,u=>∃ t,u=Value.float b t
 | .ref a,u=>u=Value.ref a
 | .ty n,u=>u=Value.type n
abbrev AM:List V→List Value→Prop:=Paired AY
theorem AM.length {xs:List V} {us:List Value} (r:AM xs us):xs.length=us.length:=Paired.length r
theorem AM.get:∀ {xs:List V} {us:List Value} {i:Nat} {x:V},AM xs us→xs[i]? =some x→∃ u,us[i]? =some u∧AY x u
 | _,_,_,_,.nil,e=>by simp at e
 | _,_,0,_,.cons r _,e=>by simp at e;subst e;exact ⟨_,rfl,r⟩
 | _,_,i+1,x,.cons _ t,e=>by
  obtain ⟨u,h1,h2⟩:=AM.get (i:=i) (x:=x) t (by simpa using e)
  exact ⟨u,by simpa using h1,h2⟩
theorem AM.append:∀ {xs ys:List V} {us ws:List Value},AM xs us→AM ys ws→AM (xs++ys) (us++ws)
 | _,_,_,_,.nil,s=>s
 | _,_,_,_,.cons r t,s=> .cons r (AM.append t s)
theorem AM.take:∀ {xs:List V} {us:List Value} (n:Nat),AM xs us→AM (xs.take n) (us.take n)
 | _,_,0,_=> .nil
 | _,_,_+1,.nil=> .nil
 | _,_,n+1,.cons r t=> .cons r (AM.take n t)
theorem AM.drop:∀ {xs:List V} {us:List Value} (n:Nat),AM xs us→AM (xs.drop n) (us.drop n)
 | _,_,0,r=>r
 | _,_,_+1,.nil=> .nil
 | _,_,n+1,.cons _ t=>AM.drop n t
def cX:Option V→Option Value→Prop
 | some v,some u=>AY v u
 | none,none=>True
 | _,_=>False
def KV {κ:Type}:List (κ×V)→List (κ×Value)→Prop:=Paired fun (p:κ×V) (q:κ×Value)=>p.1=q.1∧AY p.2 q.2
def kV:Key→V
 | .inl i=> .int i
 | .inr x=> .str x
inductive HO where
 | lst (xs:List V)
 | tup (xs:List V)
 | dK (kvs:List (Key×V)) | dT (kvs:List (List Key×V))
 | set (S:Int→Bool) (n:Nat)
 | ins (C dx:Addr) (fs:List (Str×V))
 | own (x:Addr)
 | xd (fs:List (Str×V))
 | met (f x:Addr)
 | rng (lo hi:Int)
 | frz (o:Obj) (u:HO)
 | tbl (ps:Array Value)
 | ext (φ:Heap→Prop)
abbrev Hp:=Addr→Option HO
def upd (H:Hp) (a:Addr) (o:HO):Hp:=fun b=>if b=a then some o else H b
theorem AD {H:Hp} {a:Addr} {o:HO}:upd H a o a=some o:=by unfold upd;rw [if_pos rfl]
theorem BE {H:Hp} {a b:Addr} {o:HO} (h:b≠a):upd H a o b=H b:=by unfold upd;rw [if_neg h]
theorem RB {H:Hp} {a:Addr} {o u:HO}:upd (upd H a o) a u=upd H a u:=by
 funext b;unfold upd;split<;> rfl
theorem BL {H:Hp} {a b:Addr} {o:HO} (h:H a=some o) (h':H b=none):a≠b:=by
 intro e;subst e;rw [h] at h';cases h'
section
variable (P:Program) (w:World)
def BX (H:Hp) (h:Heap) (a:Addr):HO→Prop
 | .lst xs=>xs.length≤sizeLine∧∃ (its:List Value) (n:Nat),AM xs its∧h.get? a=some { cls:= .type "list",data:= .seq its.toArray n }
 | .tup xs=>xs.length≤sizeLine∧∃ its:List Value,AM xs its∧IsTup h a its.toArray
 | .dK kvs=>kvs.length≤sizeLine∧(a == sysModules)=false∧∃ vs,KV kvs vs∧h.DictOf (CM P w) a vs
 | .dT kvs=>kvs.length≤sizeLine∧(a == sysModules)=false∧∃ xs:List (List Key×Addr×Value),
   Paired (fun (p:List Key×V) (q:List Key×Addr×Value)=>p.1=q.1∧H q.2.1=some (.tup (p.1.map kV))∧AY p.2 q.2.2) kvs xs∧
   ∃ o es ep,h.get? a=some o∧o.ExactDict∧o.data= .dict es ep∧es.toList=xs.map (entryOfKey (tupleKind (CM P w)))∧(xs.map (·.1)).Nodup
 | .set S n=>h.SetOf (intKind P w) a S n
 | .ins C dx fs=>H dx=some (.own a)∧fs.length≤1000∧dx≠a∧h.get? a=some (PySem.W.instObj C dx)∧
   ∃ mA,h.Ns1 dx mA∧(∀ f,cX (fs.lookup f) (mA f))∧PySem.Within mA (fs.map (·.1))
 | .own _=>∃ o,h.get? a=some o
 | .xd fs=>∃ mA,h.Ns1 a mA∧∀ f,cX (fs.lookup f) (mA f)
 | .rng lo hi=>∃ t u v,h.get? a=some { cls:= .type "range",data:= .fields #[.int lo t,.int hi u,.int 1 v] }
 | .frz o u=>h.get? a=some o∧BX H h a u
 | .tbl ps=>h.get? a=some { cls:= .none,data:= .fields ps }
 | .met f x=>h.get? a=some (PySem.W.methodObj (.ref f) (.ref x))
 | .ext φ=>φ h∧(∃ o,h.get? a=some o)∧∀ h1 h2:Heap,φ h1→(∀ o,h1.get? a=some o→h2.get? a=some o)→φ h2
def HOk (H:Hp) (h:Heap):Prop:=∀ a o,H a=some o→BX P w H h a o
end
section
variable {P:Program} {w:World} {H H':Hp} {h h':Heap} {a:Addr} {o:HO}
theorem BX.lt (x:BX P w H h a o):a<h.objs.size:=by
 cases o with
 | lst xs=>obtain ⟨_,_,_,_,e⟩:=x;exact Heap.lt_size e
 | tup xs=>obtain ⟨_,_,_,p⟩:=x;exact p.lt
 | dK kvs=>obtain ⟨_,_,_,_,o,_,_,e,_⟩:=x;exact Heap.lt_size e
 | dT kvs=>obtain ⟨_,_,_,_,o,_,_,e,_⟩:=x;exact Heap.lt_size e
 | set S n=>obtain ⟨o,_,_,_,e,_⟩:=x;exact Heap.lt_size e
 | ins C dx fs=>obtain ⟨_,_,_,e,_⟩:=x;exact Heap.lt_size e
 | own y=>obtain ⟨_,e⟩:=x;exact Heap.lt_size e
 | xd fs=>obtain ⟨_,⟨_,_,_,e,_⟩,_⟩:=x;exact Heap.lt_size e
 | rng lo hi=>obtain ⟨_,_,_,e⟩:=x;exact Heap.lt_size e
 | frz ob u=>obtain ⟨e,_⟩:=x;exact Heap.lt_size e
 | tbl ps=>exact Heap.lt_size (show h.get? a=some _ from x)
 | met f y=>exact Heap.lt_size (show h.get? a=some _ from x)
 | ext φ=>obtain ⟨_,⟨_,e⟩,_⟩:=x;exact Heap.lt_size e
theorem Paired.mapP {α β:Type} {F G:α→β→Prop}:∀ {l₁:List α} {l₂:List β},Paired F l₁ l₂→(∀ a b,F a b→G a b)→Paired G l₁ l₂
 | _,_,.nil,_=> .nil
 | _,_,.cons r t,f=> .cons (f _ _ r) (Paired.mapP t f)
theorem BX.stay (x:BX P w H h a o) (k:∀ b u,(b=a∨H b=some (.own a))→h.get? b=some u→h'.get? b=some u)
  (ho:∀ b,H b=some (.own a)→H' b=some (.own a)) (ht:∀ b xs,H b=some (.tup xs)→H' b=some (.tup xs)):BX P w H' h' a o:=by
 induction o with
 | lst xs=>obtain ⟨z,its,n,r,e⟩:=x;exact ⟨z,its,n,r,k _ _ (.inl rfl) e⟩
 | tup xs=>obtain ⟨z,its,r,ob,e,c⟩:=x;exact ⟨z,its,r,ob,k _ _ (.inl rfl) e,c⟩
 | dK kvs=>obtain ⟨z,y,vs,r,ob,es,ep,e,c⟩:=x;exact ⟨z,y,vs,r,ob,es,ep,k _ _ (.inl rfl) e,c⟩
 | dT kvs=>
  obtain ⟨z,y,xs,r,ob,es,ep,e,c⟩:=x
  exact ⟨z,y,xs,Paired.mapP r fun p q z=>⟨z.1,ht _ _ z.2.1,z.2.2⟩,ob,es,ep,k _ _ (.inl rfl) e,c⟩
 | set S n=>obtain ⟨ob,es,ep,t,e,c⟩:=x;exact ⟨ob,es,ep,t,k _ _ (.inl rfl) e,c⟩
 | ins C dx fs=>
  obtain ⟨d,z,ne,e,mA,⟨od,es,ep,e2,c⟩,r⟩:=x
  exact ⟨ho _ d,z,ne,k _ _ (.inl rfl) e,mA,⟨od,es,ep,k _ _ (.inr d) e2,c⟩,r⟩
 | own y=>obtain ⟨ob,e⟩:=x;exact ⟨ob,k _ _ (.inl rfl) e⟩
 | xd fs=>obtain ⟨mA,⟨od,es,ep,e,c⟩,r⟩:=x;exact ⟨mA,⟨od,es,ep,k _ _ (.inl rfl) e,c⟩,r⟩
 | rng lo hi=>obtain ⟨t,u,v,e⟩:=x;exact ⟨t,u,v,k _ _ (.inl rfl) e⟩
 | frz ob u ih=>obtain ⟨e,q⟩:=x;exact ⟨k _ _ (.inl rfl) e,ih q⟩
 | tbl ps=>
  have e:h.get? a=some { cls:= .none,data:= .fields ps }:=x
  show h'.get? a=some { cls:= .none,data:= .fields ps }
  exact k a _ (.inl rfl) e
 | met f y=>
  have e:h.get? a=some (PySem.W.methodObj (.ref f) (.ref y)):=x
  show h'.get? a=some (PySem.W.methodObj (.ref f) (.ref y))
  exact k a _ (.inl rfl) e
 | ext φ=>obtain ⟨p,⟨o,e⟩,st⟩:=x;exact ⟨st _ _ p fun o q=>k _ _ (.inl rfl) q,⟨o,k _ _ (.inl rfl) e⟩,st⟩
theorem HOk.lt (x:HOk P w H h) (e:H a=some o):a<h.objs.size:=(x a o e).lt
theorem HOk.fresh (x:HOk P w H h) (e:h.objs.size≤a):H a=none:=by
 cases q:H a with
 | none=>rfl
 | some u=>exact absurd (Nat.lt_of_lt_of_le (x.lt q) e) (Nat.lt_irrefl _)
theorem HOk.kept (x:HOk P w H h) (k:∀ b u,h.get? b=some u→h'.get? b=some u):HOk P w H h':=fun a o e=>
 (x a o e).stay (fun b u _ q=>k b u q) (fun _ q=>q) fun _ _ q=>q
theorem HOk.laid (x:HOk P w H h) (k:∀ b u,h.get? b=some u→h'.get? b=some u) (hp:h.objs.size≤a) (new:BX P w (upd H a o) h' a o):HOk P w (upd H a o) h':=fun b u e=>by
 have hn:=x.fresh hp
 by_cases hb:b=a
 ·subst hb;rw [AD] at e;cases e;exact new
 ·rw [BE hb] at e
  exact (x b u e).stay (fun c v _ q=>k c v q) (fun c q=>by rw [BE (BL q hn)];exact q) fun c xs q=>by rw [BE (BL q hn)];exact q
end
def Rd (H:Hp) (a:Addr) (u:HO):Prop:=H a=some u∨∃ o,H a=some (.frz o u)
theorem Rd.ok {P:Program} {w:World} {H:Hp} {h:Heap} {a:Addr} {u:HO} (r:Rd H a u) (x:HOk P w H h):BX P w H h a u:=by
 rcases r with r | ⟨o,r⟩
 ·exact x a u r
 ·obtain ⟨_,q⟩:=x a _ r
  exact q
def Mut:Option HO→Prop
 | some (.lst _)=>True
 | some (.dK _)=>True
 | some (.dT _)=>True
 | some (.set _ _)=>True
 | some (.ins _ _ _)=>True
 | some (.ext _)=>True
 | _=>False
section
variable {P:Program} {w:World} {H:Hp} {h h':Heap} {x e:Addr} {o':HO}
theorem HOk.write (ok:HOk P w H h) (mu:Mut (H x)) (he:e=x∨H e=some (.own x)) (k:∀ b u,b≠e→h.get? b=some u→h'.get? b=some u) (heo:∃ u,h'.get? e=some u)
  (new:BX P w (upd H x o') h' x o'):HOk P w (upd H x o') h':=fun b u q=>by
 have nown:∀ c y,H c=some (.own y)→c≠x:=fun c y r z=>by subst z;rw [r] at mu;exact mu
 have ntup:∀ c xs,H c=some (.tup xs)→c≠x:=fun c xs r z=>by subst z;rw [r] at mu;exact mu
 by_cases hb:b=x
 ·subst hb;rw [AD] at q;cases q;exact new
 ·rw [BE hb] at q
  by_cases hbe:b=e
  ·have q':H b=some (.own x):=by
    rcases he with z | z
    ·exact absurd (hbe.trans z) hb
    ·rw [hbe];exact z
   rw [q] at q';cases q'
   obtain ⟨v,hv⟩:=heo
   exact ⟨v,by rw [hbe];exact hv⟩
  ·refine (ok b u q).stay (fun c v hc r=>k c v ?_ r) (fun c r=>by rw [BE (nown c b r)];exact r) fun c xs r=>by rw [BE (ntup c xs r)];exact r
   rcases hc with rfl | hc
   ·exact hbe
   ·rintro rfl
    rcases he with z | z
    ·exact nown c b hc z
    ·rw [hc] at z;cases z;exact hb rfl
end
structure Un (fs ex:List Addr) (H H':Hp) (h h':Heap):Prop where
 keep:∀ b o,h.get? b=some o→H b=none→b∉fs→b∉ex→h'.get? b=some o
 slot:∀ b o,h.get? b=some o→H b=none→b∈fs→b∉ex→∃ sl,h'.get? b=some { o with slots:=sl }
 free:∀ b o,h.get? b=some o→H b=none→b∉ex→H' b=none
 there:∀ b o,h.get? b=some o→b∉ex→∃ o',h'.get? b=some o'
 tups:∀ b xs,H b=some (.tup xs)→H' b=some (.tup xs)
 frzs:∀ b o u,H b=some (.frz o u)→H' b=some (.frz o u)
 tbls:∀ b ps,H b=some (.tbl ps)→∃ more,H' b=some (.tbl (ps++more))
section
variable {fs fs' ex ex':List Addr} {H H1 H2:Hp} {h h1 h2 h':Heap} {a x e:Addr} {o:HO}
theorem Un.any (u:Un fs ex H H1 h h1) {b:Addr} {ob:Obj} (q:h.get? b=some ob) (n:H b=none) (hx:b∉ex):∃ sl,h1.get? b=some { ob with slots:=sl }:=by
 by_cases hb:b∈fs
 ·exact u.slot b ob q n hb hx
 ·exact ⟨ob.slots,u.keep b ob q n hb hx⟩
theorem Un.trans (a:Un fs ex H H1 h h1) (b:Un fs ex H1 H2 h1 h2):Un fs ex H H2 h h2 where
 keep:=fun c ob q n hc hx=>b.keep c ob (a.keep c ob q n hc hx) (a.free c ob q n hx) hc hx
 slot:=fun c ob q n hc hx=>by
  obtain ⟨sl,e1⟩:=a.slot c ob q n hc hx
  obtain ⟨sl',e2⟩:=b.slot c _ e1 (a.free c ob q n hx) hc hx
  exact ⟨sl',e2⟩
 free:=fun c ob q n hx=>by
  obtain ⟨o',e1⟩:=a.there c ob q hx
  exact b.free c o' e1 (a.free c ob q n hx) hx
 there:=fun c ob q hx=>by
  obtain ⟨o',e1⟩:=a.there c ob q hx
  exact b.there c o' e1 hx
 tups:=fun c xs q=>b.tups c xs (a.tups c xs q)
 frzs:=fun c ob xs q=>b.frzs c ob xs (a.frzs c ob xs q)
 tbls:=fun c ps q=>by
  obtain ⟨m1,e1⟩:=a.tbls c ps q
  obtain ⟨m2,e2⟩:=b.tbls c _ e1
  exact ⟨m1++m2,by rw [e2,Array.append_assoc]⟩
theorem Un.kept (k:∀ b u,h.get? b=some u→h'.get? b=some u):Un fs ex H H h h':=
 ⟨fun b ob q _ _ _=>k b ob q,fun b ob q _ _ _=>⟨ob.slots,k b ob q⟩,fun _ _ _ n _=>n,fun b ob q _=>⟨ob,k b ob q⟩,fun _ _ q=>q,fun _ _ _ q=>q,fun _ ps q=>⟨#[],by rw [q];simp⟩⟩
theorem Un.refl:Un fs ex H H h h:=Un.kept fun _ _ q=>q
theorem Un.laid (k:∀ b u,h.get? b=some u→h'.get? b=some u) (hp:h.objs.size≤a) (hn:H a=none):Un fs ex H (upd H a o) h h' where
 keep:=fun b u q _ _ _=>k b u q
 slot:=fun b u q _ _ _=>⟨u.slots,k b u q⟩
 free:=fun b u q n _=>by rw [BE (Nat.ne_of_lt (Nat.lt_of_lt_of_le (Heap.lt_size q) hp))];exact n
 there:=fun b u q _=>⟨u,k b u q⟩
 tups:=fun b xs q=>by rw [BE (BL q hn)];exact q
 frzs:=fun b u xs q=>by rw [BE (BL q hn)];exact q
 tbls:=fun b ps q=>⟨#[],by rw [BE (BL q hn),q];simp⟩
theorem Un.write (mu:Mut (H x)) (he:e=x∨H e=some (.own x)) (k:∀ b u,b≠e→h.get? b=some u→h'.get? b=some u) (heo:∃ u,h'.get? e=some u):Un fs ex H (upd H x o) h h':=by
 have hx:∀ b,H b=none→b≠x:=fun b n z=>by subst z;rw [n] at mu;exact mu
 have hb:∀ b,H b=none→b≠e:=fun b n z=>by
  subst z
  rcases he with r | r
  ·exact hx b n r
  ·rw [n] at r;cases r
 have hm:∀ b u,H b=some u→¬ Mut (some u)→b≠x:=fun b u q nm z=>by subst z;rw [q] at mu;exact nm mu
 refine ⟨fun b u q n _ _=>k b u (hb b n) q,fun b u q n _ _=>⟨u.slots,k b u (hb b n) q⟩,fun b u q n _=>by rw [BE (hx b n)];exact n,fun b u q _=> ?_,
  fun b xs q=>by rw [BE (hm b _ q fun z=>z)];exact q,fun b u xs q=>by rw [BE (hm b _ q fun z=>z)];exact q,fun b ps q=>⟨#[],by rw [BE (hm b _ q fun z=>z),q];simp⟩⟩
 by_cases hbe:b=e
 ·subst hbe;exact heo
 ·exact ⟨u,k b u hbe q⟩
theorem Un.mono (u:Un fs ex H H1 h h1) (hs:∀ b∈fs,b∈fs') (hx:∀ b∈ex,b∈ex'):Un fs' ex' H H1 h h1:=
 ⟨fun b ob q n hb he=>u.keep b ob q n (fun z=>hb (hs b z)) fun z=>he (hx b z),fun _ _ q n _ he=>u.any q n fun z=>he (hx _ z),fun b ob q n he=>u.free b ob q n fun z=>he (hx b z),fun b ob q he=>u.there b ob q fun z=>he (hx b z),u.tups,u.frzs,u.tbls⟩
end
def trk (h:Heap) (H:Hp):List Addr:=(List.range h.objs.size).filter fun a=>(H a).isSome
def LY (h:Heap) (H:Hp):Heap:=PySem.W.hideAll h (trk h H)
theorem SG (h:Heap) (H:Hp):(LY h H).objs.size=h.objs.size:=PySem.W.hideAll_size _ _
theorem WN {h:Heap} {H:Hp} {b:Addr} {o:Obj} (e:h.get? b=some o) (n:H b=none):(LY h H).get? b=some o:=
 PySem.W.hideAll_get _ e fun hm=>by
  have q:(H b).isSome=true:=(List.mem_filter.mp hm).2
  rw [n] at q;simp at q
theorem ZI {h:Heap} {H:Hp} {b:Addr} {o:Obj} (e:(LY h H).get? b=some o):h.get? b=some o∧H b=none:=by
 have e':h.get? b=some o:=PySem.W.of_hideAll (trk h H) e
 refine ⟨e',?_⟩
 cases q:H b with
 | none=>rfl
 | some x=>
  have hm:b∈trk h H:=List.mem_filter.mpr ⟨List.mem_range.mpr (Heap.lt_size e'),by simp [q]⟩
  have z:(LY h H).get? b=none:=PySem.W.hideAll_none (trk h H) hm
  rw [z] at e;cases e
def ZJ (g h:Heap) (L:Addr):List (Addr×Obj):=(List.range h.objs.size).filterMap fun a=>if a=L∨(g.get? a).isSome=true then none else (h.get? a).map fun o=>(a,o)
def CH (g h:Heap) (L d:Addr):List (Addr×Obj):=(ZJ g h L).filter fun p=>decide (p.1≠d)
structure Mod (K:PySem.W.Frag) (mg:Str→Option Value) (base:Heap):Prop where
 kin:K.In base
 glob:base.Ns mainGlobals mg
 blt:∃ mb,base.Ns builtinsNs mb∧∀ x:Str,x≠"__name__"→mb x=bootBuiltins x
 nolimit:base.NoLimit
structure Cx where
 prog:Program
 w:World
 K:PySem.W.Frag
 mg:Str→Option Value
 base:Heap
 A:Around
 N:List Str
 s₀:Shared
 H₀:Hp
 env:Env
 outer:List Env
 stack:List Env
 ex:List Addr
 fn:Str→Bool
 calm:Bool
 pn:List (Addr×Obj)
 xe:Value→Shared→Prop
def frs (l:List Env):List Addr:=l.filterMap (·.frame)
abbrev Cx.fs (X:Cx):List Addr:=frs X.outer
def Vis (sc:Scope) (x:Str):Prop:=sc.names.lookup x=some .local∨sc.names.lookup x=some .cell∨sc.names.lookup x=some .free
def Loc (sc:Scope) (x:Str):Prop:=sc.names.lookup x=some .local∨sc.names.lookup x=some .cell
def Look (env:Env) (h:Heap) (m:Str→Option Value) (x:Str) (u:Value):Prop:=
 (env.kindOf x=some .local∧m x=some u)∨((env.kindOf x=some .cell∨env.kindOf x=some .free)∧∃ c,env.cells.lookup x=some c∧h.IsCell c (some u))
structure Cx.Ok (X:Cx):Prop where
 mod:Mod X.K X.mg X.base
 kind:X.env.scope.kind= .function
 glob:X.env.globals=mainGlobals
 blt:X.env.builtins=builtinsNs
 above:X.s₀.heap.objs.size≤X.env.locals
 inj:∀ x y c,X.env.cells.lookup x=some c→X.env.cells.lookup y=some c→x=y
 has:∀ x,(X.env.kindOf x=some .cell∨X.env.kindOf x=some .free)→∃ c,X.env.cells.lookup x=some c
 cab:∀ x c,X.fn x=true→X.env.cells.lookup x=some c→X.s₀.heap.objs.size≤c
 hd:X.calm=true→X.A.handled=none
 frames:X.A.frames=some X.stack
 stk:X.stack=X.outer∨(X.stack=X.env::X.outer∧X.env.frame=some X.env.locals)
 exf:∀ b∈X.ex,b≠X.env.locals∧∀ x c,X.env.cells.lookup x=some c→c≠b
 bs:∀ b o,X.base.get? b=some o→X.s₀.heap.get? b=some o∧X.H₀ b=none
 bsz:X.base.objs.size≤X.s₀.heap.objs.size
 noex:∀ b o,X.base.get? b=some o→b∉X.ex
 exfs:∀ b∈X.ex,b∉X.fs
 funs:X.s₀.heap.FunFrames X.base X.outer
 frf:∀ b∈X.fs,X.H₀ b=none
structure Inv (X:Cx) (pins:List (Addr×Obj)) (σ:List (Option V)) (H:Hp) (s:Shared):Prop where
 ok:X.Ok
 os:s.os=X.s₀.os
 bare:AllBare s.gens
 base:Un X.fs X.ex X.H₀ H X.s₀.heap s.heap
 loc:∃ m,s.heap.Ns X.env.locals m∧∀ (i:Nat) (x:Str) (v:V),X.N[i]? =some x→σ[i]? =some (some v)→Vis X.env.scope x→∃ u,AY v u∧Look X.env s.heap m x u
 cell:∀ x c,X.env.cells.lookup x=some c→∃ v,s.heap.IsCell c v
 free:H X.env.locals=none
 freeC:∀ x c,X.env.cells.lookup x=some c→H c=none
 pin:∀ p∈X.pn++pins,s.heap.get? p.1=some p.2∧H p.1=none∧p.1≠X.env.locals∧p.1∉X.fs∧∀ v,p.2.data≠ .cell v
 hok:HOk X.prog X.w H s.heap
 len:σ.length=X.N.length
section
variable {X:Cx} {pins:List (Addr×Obj)} {σ:List (Option V)} {H H':Hp} {s:Shared} {h':Heap}
theorem Cx.Ok.nofr (ok:X.Ok) {b:Addr} {o:Obj} (e:X.base.get? b=some o):b∉X.fs:=fun hb=>by
 have:=(ok.funs.mem hb).1
 rw [e] at this;cases this
theorem Inv.bs (I:Inv X pins σ H s):∀ b o,X.base.get? b=some o→s.heap.get? b=some o∧H b=none:=fun b o e=>
 ⟨I.base.keep b o (I.ok.bs b o e).1 (I.ok.bs b o e).2 (I.ok.nofr e) (I.ok.noex b o e),I.base.free b o (I.ok.bs b o e).1 (I.ok.bs b o e).2 (I.ok.noex b o e)⟩
theorem Inv.bk (I:Inv X pins σ H s):∀ b o,X.base.get? b=some o→s.heap.get? b=some o:=fun b o e=>(I.bs b o e).1
theorem Inv.mod (I:Inv X pins σ H s):Mod X.K X.mg X.base:=I.ok.mod
theorem Inv.kIn (I:Inv X pins σ H s):X.K.In s.heap:=I.ok.mod.kin.keeps I.bk
theorem Inv.fr (I:Inv X pins σ H s):∃ m,Fr X.base X.env.locals s.heap m:=
 let ⟨m,hn,_⟩:=I.loc
 ⟨m,hn,I.bk,Nat.le_trans I.ok.bsz I.ok.above⟩
theorem Inv.lt (I:Inv X pins σ H s):X.env.locals<s.heap.objs.size:=let ⟨_,hn,_⟩:=I.loc;hn.lt
theorem Inv.sz (I:Inv X pins σ H s):X.s₀.heap.objs.size≤s.heap.objs.size:=Nat.le_trans I.ok.above (Nat.le_of_lt I.lt)
theorem Inv.nofs (I:Inv X pins σ H s) {a:Addr} (h:s.heap.objs.size≤a):a∉X.fs:=fun hb=>by
 obtain ⟨_,o,ho,_⟩:=I.ok.funs.mem hb
 exact absurd (Nat.lt_of_lt_of_le (Heap.lt_size ho) (Nat.le_trans I.sz h)) (Nat.lt_irrefl _)
theorem Inv.cne (I:Inv X pins σ H s):∀ x c,X.env.cells.lookup x=some c→c≠X.env.locals:=fun x c e z=>by
 obtain ⟨v,o,ho,hd⟩:=I.cell x c e
 obtain ⟨m,⟨o',es,ep,ho',hd',_⟩,_⟩:=I.loc
 rw [z,ho'] at ho;cases ho;rw [hd'] at hd;cases hd
theorem Inv.funs (I:Inv X pins σ H s):s.heap.FunFrames X.base X.outer:=by
 have all:∀ (l:List Env),(∀ b∈frs l,b∈X.fs)→X.s₀.heap.FunFrames X.base l→s.heap.FunFrames X.base l:=by
  intro l
  induction l with
  | nil=>intro _ _;trivial
  | cons env r ih=>
   intro hs hl
   obtain ⟨hk,⟨L,o,hf,hn,ho,hd⟩,hr⟩:=hl
   have hL:L∈X.fs:=hs L (by unfold frs;rw [List.filterMap_cons,hf];exact List.mem_cons_self)
   obtain ⟨sl,e⟩:=I.base.slot L o ho (I.ok.frf L hL) hL fun z=>I.ok.exfs L z hL
   exact ⟨hk,⟨L,_,hf,hn,e,hd⟩,ih (fun b hb=>hs b (by unfold frs;rw [List.filterMap_cons,hf];exact List.mem_cons_of_mem _ hb)) hr⟩
 exact all X.outer (fun _ hb=>hb) I.ok.funs
theorem Inv.stack (I:Inv X pins σ H s):s.heap.FunFrames X.base X.stack:=by
 rcases I.ok.stk with e | ⟨e,hf⟩
 ·rw [e];exact I.funs
 ·rw [e]
  obtain ⟨m,hn,_⟩:=I.loc
  refine .cons (by rw [I.ok.kind];decide) hf hn ?_ I.funs
  exact Heap.get?_none_of_le (Nat.le_trans I.ok.bsz I.ok.above)
theorem Inv.stkSub (I:Inv X pins σ H s):∀ b∈frs X.stack,b∈X.env.locals::X.fs:=fun b hb=>by
 rcases I.ok.stk with e | ⟨e,hf⟩
 ·rw [e] at hb;exact List.mem_cons_of_mem _ hb
 ·rw [e] at hb
  unfold frs at hb
  rw [List.filterMap_cons,hf] at hb
  exact hb
theorem Inv.stkFree (I:Inv X pins σ H s):∀ b∈frs X.stack,H b=none:=fun b hb=>by
 rcases List.mem_cons.mp (I.stkSub b hb) with e | hb
 ·rw [e];exact I.free
 ·obtain ⟨_,o,ho,_⟩:=I.ok.funs.mem hb
  exact I.base.free b o ho (I.ok.frf b hb) fun z=>I.ok.exfs b z hb
theorem Inv.step {g':Array GenState} {t':Nat} {d':Drawn} {ch:List Addr} (I:Inv X pins σ H s)
  (hch:∀ b∈ch,(b∈X.ex∨X.s₀.heap.objs.size≤b)∧b≠X.env.locals∧(∀ x c,X.env.cells.lookup x=some c→c≠b)∧∀ p∈X.pn++pins,p.1≠b)
  (keep:∀ b o,b≠X.env.locals→b∉X.fs→b∉ch→s.heap.get? b=some o→H b=none→h'.get? b=some o)
  (slot:∀ b o,b≠X.env.locals→b∈X.fs→b∉ch→s.heap.get? b=some o→H b=none→∃ sl,h'.get? b=some { o with slots:=sl }) (free:∀ b o,b∉ch→s.heap.get? b=some o→H b=none→H' b=none)
  (there:∀ b o,b∉ch→s.heap.get? b=some o→∃ o',h'.get? b=some o')
  (tups:∀ b xs,H b=some (.tup xs)→H' b=some (.tup xs)) (frzs:∀ b o u,H b=some (.frz o u)→H' b=some (.frz o u)) (tbls:∀ b ps,H b=some (.tbl ps)→∃ more,H' b=some (.tbl (ps++more)))
  (ns:∀ m,s.heap.Ns X.env.locals m→h'.Ns X.env.locals m) (hok:HOk X.prog X.w H' h') (hg:AllBare g'):
  Inv X pins σ H' { s with heap:=h',gens:=g',drawn:=d',toks:=t' }:=by
 have neL:∀ b o,X.s₀.heap.get? b=some o→b≠X.env.locals:=fun b o e=>Nat.ne_of_lt (Nat.lt_of_lt_of_le (Heap.lt_size e) I.ok.above)
 have neC:∀ b o,X.s₀.heap.get? b=some o→b∉X.ex→b∉ch:=fun b o e hx hb=>by
  rcases (hch b hb).1 with z | z
  ·exact hx z
  ·exact absurd (Nat.lt_of_lt_of_le (Heap.lt_size e) z) (Nat.lt_irrefl _)
 have cellK:∀ x c,X.env.cells.lookup x=some c→∀ v,s.heap.IsCell c v→h'.IsCell c v:=fun x c e v ⟨o,ho,hd⟩=>by
  have nch:c∉ch:=fun z=>(hch c z).2.2.1 x c e rfl
  by_cases hc:c∈X.fs
  ·obtain ⟨sl,q⟩:=slot c o (I.cne x c e) hc nch ho (I.freeC x c e)
   exact ⟨_,q,hd⟩
  ·exact ⟨o,keep c o (I.cne x c e) hc nch ho (I.freeC x c e),hd⟩
 refine ⟨I.ok,I.os,hg,⟨fun b o e n hb hx=> ?_,fun b o e n hb hx=> ?_,fun b o e n hx=> ?_,fun b o e hx=> ?_,fun b xs e=>tups b xs (I.base.tups b xs e),fun b o xs e=>frzs b o xs (I.base.frzs b o xs e),fun b ps e=> ?_⟩,?_,fun x c e=> ?_,?_,fun x c e=> ?_,fun p hp=> ?_,hok,I.len⟩
 ·exact keep b o (neL b o e) hb (neC b o e hx) (I.base.keep b o e n hb hx) (I.base.free b o e n hx)
 ·obtain ⟨sl,e1⟩:=I.base.slot b o e n hb hx
  obtain ⟨sl',e2⟩:=slot b _ (neL b o e) hb (neC b o e hx) e1 (I.base.free b o e n hx)
  exact ⟨sl',e2⟩
 ·obtain ⟨o',e1⟩:=I.base.there b o e hx
  exact free b o' (neC b o e hx) e1 (I.base.free b o e n hx)
 ·obtain ⟨o',e1⟩:=I.base.there b o e hx
  exact there b o' (neC b o e hx) e1
 ·obtain ⟨m1,e1⟩:=I.base.tbls b ps e
  obtain ⟨m2,e2⟩:=tbls b _ e1
  exact ⟨m1++m2,by rw [e2,Array.append_assoc]⟩
 ·obtain ⟨m,hn,hl⟩:=I.loc
  refine ⟨m,ns m hn,fun i x v e1 e2 e3=> ?_⟩
  obtain ⟨u,r,l⟩:=hl i x v e1 e2 e3
  refine ⟨u,r,?_⟩
  rcases l with l | ⟨k,c,e,z⟩
  ·exact .inl l
  ·exact .inr ⟨k,c,e,cellK x c e _ z⟩
 ·obtain ⟨v,z⟩:=I.cell x c e
  exact ⟨v,cellK x c e v z⟩
 ·obtain ⟨m,⟨o,_,_,ho,_⟩,_⟩:=I.loc
  exact free _ o (fun z=>(hch _ z).2.1 rfl) ho I.free
 ·obtain ⟨v,o,ho,hd⟩:=I.cell x c e
  exact free c o (fun z=>(hch c z).2.2.1 x c e rfl) ho (I.freeC x c e)
 ·obtain ⟨e,n,ne,nf,d⟩:=I.pin p hp
  have nch:p.1∉ch:=fun z=>(hch p.1 z).2.2.2 p hp rfl
  exact ⟨keep p.1 p.2 ne nf nch e n,free p.1 p.2 nch e n,ne,nf,d⟩
theorem Inv.un {t':Nat} (I:Inv X pins σ H s) (u:Un X.fs [] H H' s.heap h') (hok:HOk X.prog X.w H' h'):Inv X pins σ H' { s with heap:=h',toks:=t' }:=by
 obtain ⟨m,⟨o,es,ep,ho,r⟩,_⟩:=id I.loc
 obtain ⟨sl,hL⟩:=u.any ho I.free (by simp)
 exact I.step (g':=s.gens) (d':=s.drawn) (ch:=[]) (fun _ z=>nomatch z) (fun b o _ hb _ e n=>u.keep b o e n hb (by simp)) (fun b o _ hb _ e n=>u.slot b o e n hb (by simp)) (fun b o _ e n=>u.free b o e n (by simp)) (fun b o _ e=>u.there b o e (by simp)) u.tups u.frzs u.tbls (fun m' hm=>by
  obtain ⟨o',es',ep',ho',r'⟩:=hm
  rw [ho] at ho';cases ho'
  exact ⟨_,es',ep',hL,r'⟩) hok I.bare
theorem Inv.call {g':Array GenState} {t':Nat} {d':Drawn} {ch:List Addr} (I:Inv X pins σ H s) (u:Un (frs X.stack) ch H H' s.heap h') (hok:HOk X.prog X.w H' h') (hg:AllBare g')
  (hch:∀ b∈ch,(b∈X.ex∨X.s₀.heap.objs.size≤b)∧b≠X.env.locals∧(∀ x c,X.env.cells.lookup x=some c→c≠b)∧∀ p∈X.pn++pins,p.1≠b):
  Inv X pins σ H' { s with heap:=h',gens:=g',drawn:=d',toks:=t' }:=by
 obtain ⟨m,⟨o,es,ep,ho,r⟩,_⟩:=id I.loc
 obtain ⟨sl,hL⟩:=u.any ho I.free fun z=>(hch _ z).2.1 rfl
 exact I.step (ch:=ch) hch (fun b o hL hb hc e n=>u.keep b o e n (fun z=>(List.mem_cons.mp (I.stkSub b z)).elim hL hb) hc) (fun b o _ _ hc e n=>u.any e n hc) (fun b o hc e n=>u.free b o e n hc) (fun b o hc e=>u.there b o e hc) u.tups u.frzs u.tbls (fun m' hm=>by
  obtain ⟨o',es',ep',ho',r'⟩:=hm
  rw [ho] at ho';cases ho'
  exact ⟨_,es',ep',hL,r'⟩) hok hg
theorem Inv.turned {t':Nat} {it:Addr} (I:Inv X pins σ H s) (k:∀ b o,b≠it→s.heap.get? b=some o→h'.get? b=some o) (hn:H it=none) (hL:it≠X.env.locals)
  (h1:it∈X.ex∨X.s₀.heap.objs.size≤it) (h2:∀ x c,X.env.cells.lookup x=some c→c≠it) (h3:∀ p∈X.pn++pins,p.1≠it):Inv X pins σ H { s with heap:=h',toks:=t' }:=by
 have nit:∀ b u,H b=some u→b≠it:=fun b u e z=>by rw [z,hn] at e;cases e
 refine I.step (g':=s.gens) (d':=s.drawn) (ch:=[it]) (fun b hb=> ?_) (fun b o _ _ hc e _=>k b o (fun z=>hc (by simp [z])) e) (fun b o _ _ hc e _=>⟨o.slots,k b o (fun z=>hc (by simp [z])) e⟩) (fun _ _ _ _ n=>n)
  (fun b o hc e=>⟨o,k b o (fun z=>hc (by simp [z])) e⟩) (fun _ _ e=>e) (fun _ _ _ e=>e) (fun b ps e=>⟨#[],by rw [e];simp⟩) (fun m hm=> ?_) (fun b u e=> ?_) I.bare
 ·have e:b=it:=by simpa using hb
  subst e
  exact ⟨h1,hL,h2,h3⟩
 ·obtain ⟨o,es,ep,ho,r⟩:=hm
  exact ⟨o,es,ep,k _ o (Ne.symm hL) ho,r⟩
 ·refine (I.hok b u e).stay (fun c v hc q=>k c v ?_ q) (fun _ q=>q) fun _ _ q=>q
  rcases hc with z | z
  ·rw [z];exact nit b u e
  ·exact nit c _ z
theorem Inv.tok (I:Inv X pins σ H s) (t:Nat):Inv X pins σ H { s with toks:=t }:=I.un (h':=s.heap) (t':=t) Un.refl I.hok
theorem Inv.kept {t':Nat} (I:Inv X pins σ H s) (k:∀ b u,s.heap.get? b=some u→h'.get? b=some u):Inv X pins σ H { s with heap:=h',toks:=t' }:=I.un (Un.kept k) (I.hok.kept k)
theorem Inv.laid {a:Addr} {o:HO} {t':Nat} (I:Inv X pins σ H s) (k:∀ b u,s.heap.get? b=some u→h'.get? b=some u) (hp:s.heap.objs.size≤a) (new:BX X.prog X.w (upd H a o) h' a o):
  Inv X pins σ (upd H a o) { s with heap:=h',toks:=t' }:=I.un (Un.laid k hp (I.hok.fresh hp)) (I.hok.laid k hp new)
theorem Inv.write {x e:Addr} {o:HO} {t':Nat} (I:Inv X pins σ H s) (mu:Mut (H x)) (he:e=x∨H e=some (.own x)) (k:∀ b u,b≠e→s.heap.get? b=some u→h'.get? b=some u) (heo:∃ u,h'.get? e=some u)
  (new:BX X.prog X.w (upd H x o) h' x o):Inv X pins σ (upd H x o) { s with heap:=h',toks:=t' }:=I.un (Un.write mu he k heo) (I.hok.write mu he k heo new)
theorem Inv.pins_of {pins':List (Addr×Obj)} (I:Inv X pins σ H s) (h:∀ p∈pins',s.heap.get? p.1=some p.2∧H p.1=none∧p.1≠X.env.locals∧p.1∉X.fs∧∀ v,p.2.data≠ .cell v):Inv X pins' σ H s:=
 ⟨I.ok,I.os,I.bare,I.base,I.loc,I.cell,I.free,I.freeC,fun p hp=>(List.mem_append.mp hp).elim (fun z=>I.pin p (List.mem_append_left _ z)) (h p),I.hok,I.len⟩
theorem KB {N:List Str} (hN:N.Nodup) {i j:Nat} {x:Str} (a:N[i]? =some x) (b:N[j]? =some x):i=j:=by
 obtain ⟨h1,e1⟩:=List.getElem?_eq_some_iff.mp a
 obtain ⟨h2,e2⟩:=List.getElem?_eq_some_iff.mp b
 exact (List.getElem_inj hN).mp (e1.trans e2.symm)
theorem HJ {M:Model} {A:Around} {E:Value→Shared→Prop} {i:Nat} {x:Str} {v:V} {u:Value} {Q:Unit→Shared→Prop} (I:Inv X pins σ H s) (hN:X.N.Nodup) (hi:X.N[i]? =some x) (hx:Loc X.env.scope x) (r:AY v u)
  (h:∀ s',Inv X pins (σ.set i (some v)) H s'→(∃ a,Heap.SameBut a s.heap s'.heap∧(a=X.env.locals∨X.env.cells.lookup x=some a))→Q () s') (hf:X.fn x=true∨X.env.scope.names.lookup x=some .local:=by first | exact .inl rfl | exact .inr rfl | assumption):wpAny M A (storeName X.env x u) Q E s:=by
 walk_at "b25"
 have tracked:∀ {a:Addr} {h':Heap},(∃ o,s.heap.get? a=some o∧H a=none)→Heap.SameBut a s.heap h'→HOk X.prog X.w H h':=fun {a h'} ha hs b ob e=>by
  obtain ⟨_,_,hfree⟩:=ha
  refine (I.hok b ob e).stay (fun c w' hc q=>(hs.2 c ?_).trans q) (fun _ q=>q) fun _ _ q=>q
  rintro rfl
  rcases hc with rfl | hc
  ·rw [hfree] at e;cases e
  ·rw [hfree] at hc;cases hc
 rcases hx with hk | hk
 ·refine wpAny_storeName_local hk hn (fun h' hn' hs=> ?_) hcls
  obtain ⟨oL,_,_,hoL,_⟩:=id hn
  refine h _ ⟨I.ok,I.os,I.bare,⟨fun b o e n hb hx=> ?_,fun b o e n hb hx=> ?_,I.base.free,fun b o e hx=> ?_,I.base.tups,I.base.frzs,I.base.tbls⟩,⟨_,hn',fun j y v' e1 e2 e3=> ?_⟩,fun y c e=> ?_,I.free,I.freeC,fun p hp=> ?_,tracked ⟨oL,hoL,I.free⟩ hs,by simpa using I.len⟩ ⟨_,hs,.inl rfl⟩
  ·exact (hs.2 b (Nat.ne_of_lt (Nat.lt_of_lt_of_le (Heap.lt_size e) I.ok.above))).trans (I.base.keep b o e n hb hx)
  ·obtain ⟨sl,e1⟩:=I.base.slot b o e n hb hx
   exact ⟨sl,(hs.2 b (Nat.ne_of_lt (Nat.lt_of_lt_of_le (Heap.lt_size e) I.ok.above))).trans e1⟩
  ·obtain ⟨o',e1⟩:=I.base.there b o e hx
   exact ⟨o',(hs.2 b (Nat.ne_of_lt (Nat.lt_of_lt_of_le (Heap.lt_size e) I.ok.above))).trans e1⟩
  ·by_cases hj:j=i
   ·subst hj
    rw [hi] at e1;cases e1
    rw [List.getElem?_set_self hiσ] at e2
    cases e2
    exact ⟨u,r,.inl ⟨hk,by simp⟩⟩
   ·rw [List.getElem?_set_ne (Ne.symm hj)] at e2
    obtain ⟨u',r',q⟩:=hl j y v' e1 e2 e3
    refine ⟨u',r',?_⟩
    rcases q with ⟨k,e⟩ | ⟨k,c,e,z⟩
    ·refine .inl ⟨k,?_⟩
     have:y≠x:=fun e=>hj (KB hN e1 (e ▸ hi))
     simp [this,e]
    ·exact .inr ⟨k,c,e,z.sameBut hs (cne y c e)⟩
  ·obtain ⟨w',z⟩:=I.cell y c e
   exact ⟨w',z.sameBut hs (cne y c e)⟩
  ·obtain ⟨e,n,ne,nf,d⟩:=I.pin p hp
   exact ⟨(hs.2 p.1 ne).trans e,n,ne,nf,d⟩
 ·have hfn:X.fn x=true:=by
   rcases hf with z | z
   ·exact z
   ·rw [z] at hk;cases hk
  obtain ⟨c,hc⟩:=I.ok.has x (.inl hk)
  obtain ⟨w',z⟩:=I.cell x c hc
  refine wpAny_storeName_cell I.ok.kind hk hc z (fun h' hc' hs=> ?_)
  obtain ⟨oc,hoc,hocd⟩:=id z
  refine h { s with heap:=h' } ⟨I.ok,I.os,I.bare,⟨fun b o e n hb hx=> ?_,fun b o e n hb hx=> ?_,I.base.free,fun b o e hx=> ?_,I.base.tups,I.base.frzs,I.base.tbls⟩,⟨m,hn.sameBut hs (Ne.symm (cne x c hc)),fun j y v' e1 e2 e3=> ?_⟩,fun y c' e=> ?_,I.free,I.freeC,fun p hp=> ?_,tracked ⟨oc,hoc,I.freeC x c hc⟩ hs,by simpa using I.len⟩ ⟨c,hs,.inr hc⟩
  ·exact (hs.2 b (Nat.ne_of_lt (Nat.lt_of_lt_of_le (Heap.lt_size e) (I.ok.cab x c hfn hc)))).trans (I.base.keep b o e n hb hx)
  ·obtain ⟨sl,e1⟩:=I.base.slot b o e n hb hx
   exact ⟨sl,(hs.2 b (Nat.ne_of_lt (Nat.lt_of_lt_of_le (Heap.lt_size e) (I.ok.cab x c hfn hc)))).trans e1⟩
  ·obtain ⟨o',e1⟩:=I.base.there b o e hx
   exact ⟨o',(hs.2 b (Nat.ne_of_lt (Nat.lt_of_lt_of_le (Heap.lt_size e) (I.ok.cab x c hfn hc)))).trans e1⟩
  ·by_cases hj:j=i
   ·subst hj
    rw [hi] at e1;cases e1
    rw [List.getElem?_set_self hiσ] at e2
    cases e2
    exact ⟨u,r,.inr ⟨.inl hk,c,hc,hc'⟩⟩
   ·rw [List.getElem?_set_ne (Ne.symm hj)] at e2
    obtain ⟨u',r',q⟩:=hl j y v' e1 e2 e3
    refine ⟨u',r',?_⟩
    rcases q with q | ⟨k,c',e,z'⟩
    ·exact .inl q
    ·refine .inr ⟨k,c',e,z'.sameBut hs ?_⟩
     rintro rfl
     exact hj (KB hN e1 (I.ok.inj _ _ _ e hc ▸ hi))
  ·by_cases hcc:c'=c
   ·subst hcc;exact ⟨_,hc'⟩
   ·obtain ⟨w2,z2⟩:=I.cell y c' e
    exact ⟨w2,z2.sameBut hs hcc⟩
  ·obtain ⟨e,n,ne,nf,d⟩:=I.pin p hp
   refine ⟨(hs.2 p.1 ?_).trans e,n,ne,nf,d⟩
   intro q
   rw [q,hoc] at e
   have q':oc=p.2:=Option.some.inj e
   exact d w' (by rw [← q'];exact hocd)
theorem GN {M:Model} {A:Around} {E:Value→Shared→Prop} {i:Nat} {x:Str} {v:V} {u:Value} {Q:Unit→Shared→Prop} (I:Inv X pins σ H s) (hN:X.N.Nodup) (hi:X.N[i]? =some x) (hx:Loc X.env.scope x) (r:AY v u)
  (h:∀ s',Inv X pins (σ.set i (some v)) H s'→Q () s') (hf:X.fn x=true∨X.env.scope.names.lookup x=some .local:=by first | exact .inl rfl | exact .inr rfl | assumption):wpAny M A (storeName X.env x u) Q E s:=
 HJ I hN hi hx r (fun s' I' _=>h s' I') hf
theorem Inv.call' {s':Shared} {ch:List Addr} (I:Inv X pins σ H s) (ho:s'.os=s.os) (u:Un (frs X.stack) ch H H' s.heap s'.heap) (hok:HOk X.prog X.w H' s'.heap) (hg:AllBare s'.gens)
  (hch:∀ b∈ch,(b∈X.ex∨X.s₀.heap.objs.size≤b)∧b≠X.env.locals∧(∀ x c,X.env.cells.lookup x=some c→c≠b)∧∀ p∈X.pn++pins,p.1≠b):Inv X pins σ H' s':=by
 obtain ⟨h',g',d',t',o'⟩:=s'
 have e:o'=s.os:=ho
 subst e
 exact I.call (g':=g') (t':=t') (d':=d') u hok hg hch
end
abbrev XK:=Value→Option Addr→Hp→Prop
abbrev St:=List (Option V)
abbrev VK:=V→Hp→Prop
abbrev TE:=St→Hp→VK→Prop
abbrev TT:=St→Hp→(Bool→Hp→Prop)→Prop
abbrev TA:=St→Hp→(List V→Hp→Prop)→Prop
structure DW where
 nx:St→Hp→Prop
 rt:VK
 bk:St→Hp→Prop:=fun _ _=>False
 ct:St→Hp→Prop:=fun _ _=>False
abbrev TS:=DW→St→Hp→Prop
def EP (X:Cx) (pins:List (Addr×Obj)) (σ:St) (Q:VK) (u:Value) (s':Shared):Prop:=∃ v H',Inv X pins σ H' s'∧AY v u∧Q v H'
def TP (X:Cx) (pins:List (Addr×Obj)) (σ:St) (Q:Bool→Hp→Prop) (b:Bool) (s':Shared):Prop:=∃ H',Inv X pins σ H' s'∧Q b H'
def AP (X:Cx) (pins:List (Addr×Obj)) (σ:St) (Q:List V→Hp→Prop) (us:List Value) (s':Shared):Prop:=∃ vs H',Inv X pins σ H' s'∧AM vs us∧Q vs H'
def SP (X:Cx) (pins:List (Addr×Obj)) (D:DW) (f:Flow) (s':Shared):Prop:=
 match f with
 | .next=>∃ σ' H',Inv X pins σ' H' s'∧D.nx σ' H'
 | .brk=>∃ σ' H',Inv X pins σ' H' s'∧D.bk σ' H'
 | .cont=>∃ σ' H',Inv X pins σ' H' s'∧D.ct σ' H'
 | .ret u=>∃ v σ' H',Inv X pins σ' H' s'∧AY v u∧D.rt v H'
def PE (X:Cx) (e:Expr) (t:TE):Prop:=
 ∀ (pins:List (Addr×Obj)) (s:Shared) (σ:St) (H:Hp) (Q:VK),Inv X pins σ H s→t σ H Q→wpAny (model X.prog X.w) X.A (eval e X.env) (EP X pins σ Q) X.xe s
def PT (X:Cx) (e:Expr) (t:TT):Prop:=
 ∀ (pins:List (Addr×Obj)) (s:Shared) (σ:St) (H:Hp) (Q:Bool→Hp→Prop),Inv X pins σ H s→t σ H Q→wpAny (model X.prog X.w) X.A (isTrue e X.env (eval e X.env)) (TP X pins σ Q) X.xe s
def PW (X:Cx) (e:Expr) (t:TT):Prop:=
 ∀ (whole:Sem Value) (pins:List (Addr×Obj)) (s:Shared) (σ:St) (H:Hp) (Q:Bool→Hp→Prop),Inv X pins σ H s→t σ H Q→wpAny (model X.prog X.w) X.A (isTrue e X.env whole) (TP X pins σ Q) X.xe s
theorem PW.pt {X:Cx} {e:Expr} {t:TT} (h:PW X e t):PT X e t:=h _
def PA (X:Cx) (es:List Expr) (t:TA):Prop:=
 ∀ (pos:Pos) (pins:List (Addr×Obj)) (s:Shared) (σ:St) (H:Hp) (Q:List V→Hp→Prop),Inv X pins σ H s→t σ H Q→wpAny (model X.prog X.w) X.A (spliced (backTo pos (starEach es X.env))) (AP X pins σ Q) X.xe s
def PS (X:Cx) (st:Stmt) (t:TS):Prop:=
 ∀ (pins:List (Addr×Obj)) (s:Shared) (σ:St) (H:Hp) (D:DW),Inv X pins σ H s→t D σ H→wpAny (model X.prog X.w) X.A (exec st X.env) (SP X pins D) X.xe s
def PSs (X:Cx) (st:List Stmt) (t:TS):Prop:=
 ∀ (pins:List (Addr×Obj)) (s:Shared) (σ:St) (H:Hp) (D:DW),Inv X pins σ H s→t D σ H→wpAny (model X.prog X.w) X.A (execs st X.env) (SP X pins D) X.xe s
theorem thn {α:Type} {t:Sem α} {Q Q':α→Shared→Prop} {M:Model} {A:Around} {E:Value→Shared→Prop} {s:Shared} (h:wpAny M A t Q E s) (hQ:∀ a s,Q a s→Q' a s):wpAny M A t Q' E s:=wpAny_mono h hQ fun _ _ x=>x
section
variable {X:Cx}
def RV (i:Nat):TE:=fun σ H Q=>∃ v,σ[i]? =some (some v)∧Q v H
def tC (v:V):TE:=fun _ H Q=>Q v H
theorem cW {i:Nat} {x:Str} {pos:Pos} (hN:X.N[i]? =some x) (hv:Vis X.env.scope x) (hd:(x == ("__debug__":Str))=false:=by decide) (hcd:(x == ("__classdict__":Str))=false:=by decide):PE X (.Name x pos) (RV i):=by
 walk_at "b34"
 obtain ⟨v,e,h⟩:=h
 obtain ⟨m,hn,hl⟩:=I.loc
 obtain ⟨u,r,l⟩:=hl i x v hN e hv
 have fin:EP X pins σ Q u s:=⟨v,H,I,r,h⟩
 rcases l with ⟨hk,hm⟩ | ⟨hk,c,hc,hcell⟩
 ·exact wpAny_Name (wpAny_loadName_local I.ok.kind hk hn hm fin) hd
 ·rcases hk with hk | hk
  ·exact wpAny_Name (wpAny_loadName_cell I.ok.kind hk hc hcell fin) hd
  ·exact wpAny_Name (wpAny_loadName_free I.ok.kind hk hc hcell fin hcd) hd
theorem AC {i j pos}:PE X (.Constant (.int i) j pos) (tC (.int i)):=fun _ _ _ H _ I h=>wpAny_Constant_int ⟨.int i,H,I.tok _,⟨_,rfl⟩,h⟩
theorem JX {b j pos}:PE X (.Constant (.bool b) j pos) (tC (.bl b)):=fun _ _ _ H _ I h=>Constant_bool ⟨.bl b,H,I,rfl,h⟩
theorem cC {j pos}:PE X (.Constant .none j pos) (tC .non):=fun _ _ _ H _ I h=>Constant_none ⟨.non,H,I,rfl,h⟩
theorem BB {x j pos}:PE X (.Constant (.str x) j pos) (tC (.str x)):=fun _ _ _ H _ I h=>Calls.Constant_str ⟨.str x,H,I.tok _,⟨_,rfl⟩,h⟩
def Gl (X:Cx) (x:Str):Prop:=X.env.kindOf x=some .globalImplicit
theorem FN {E:Value→Shared→Prop} {pins:List (Addr×Obj)} {s:Shared} {σ:St} {H:Hp} {x:Str} {u:Value} {pos:Pos} {Q:Value→Shared→Prop} (I:Inv X pins σ H s) (hg:Gl X x) (hm:X.mg x=some u) (h:Q u s)
  (hd:(x == ("__debug__":Str))=false:=by decide):wpAny (model X.prog X.w) X.A (eval (.Name x pos) X.env) Q E s:=
 Calls.Name_function_global I.ok.kind hg (Calls.loadGlobal_global (by rw [I.ok.glob];exact I.mod.glob.keeps I.bk) hm h) hd
theorem EW {E:Value→Shared→Prop} {pins:List (Addr×Obj)} {s:Shared} {σ:St} {H:Hp} {x:Str} {u:Value} {pos:Pos} {Q:Value→Shared→Prop} (I:Inv X pins σ H s) (hg:Gl X x) (hm:X.mg x=none) (hv:bootBuiltins x=some u) (h:Q u s)
  (hn:x≠"__name__":=by decide) (hd:(x == ("__debug__":Str))=false:=by decide):wpAny (model X.prog X.w) X.A (eval (.Name x pos) X.env) Q E s:=by
 obtain ⟨mb,h1,h2⟩:=I.mod.blt
 exact Calls.Name_function_global I.ok.kind hg (Calls.loadGlobal_builtin (by rw [I.ok.glob];exact I.mod.glob.keeps I.bk) hm (by rw [I.ok.blt];exact h1.keeps I.bk) ((h2 x hn).trans hv) h) hd
theorem CN {x:Str} {v:V} {u:Value} {pos:Pos} (hg:Gl X x) (hm:X.mg x=some u) (r:AY v u) (hd:(x == ("__debug__":Str))=false:=by decide):PE X (.Name x pos) (tC v):=
 fun _ _ _ H _ I h=>FN I hg hm ⟨v,H,I,r,h⟩ hd
theorem MI {x:Str} {v:V} {u:Value} {pos:Pos} (hg:Gl X x) (hm:X.mg x=none) (hv:bootBuiltins x=some u) (r:AY v u) (hn:x≠"__name__":=by decide) (hd:(x == ("__debug__":Str))=false:=by decide):PE X (.Name x pos) (tC v):=
 fun _ _ _ H _ I h=>EW I hg hm hv ⟨v,H,I,r,h⟩ hn hd
variable {a b:Expr} {ta tb:TE} {pos:Pos}
def tB (t:TE):TT:=fun σ H Q=>t σ H fun x H1=>∃ c,x= .bl c∧Q c H1
theorem bS {e:Expr} {t:TE} (h:PE X e t) (he:∀ whole,isTrue e X.env whole=(do let v ← whole;standAt e.pos;holding [v] (truthy v)):=by intro _;rfl):PT X e (tB t):=by
 intro pins s σ H Q I hw
 refine isTrue_plain (thn (h pins s σ H _ I hw) fun v s1 ⟨x,H1,I1,r1,q1⟩=> ?_) (he _)
 obtain ⟨d,rfl,q⟩:=q1
 cases r1
 exact wpAny_truthy_bool ⟨H1,I1,q⟩
variable {tA tB':TT} {CH:List Expr}
def WG (t u:TT):TT:=fun σ H Q=>t σ H fun c H1=>if c=true then u σ H1 Q else Q false H1
def VC (t:TT):TT:=fun σ H Q=>t σ H fun c H1=>Q (!c) H1
theorem YV (ha:PT X a tA):PW X (.BoolOp .And [a] pos) tA:=by
 intro wh pins s σ H Q I h
 refine isTrue_and (thn (ha pins s σ H Q I h) fun c s1 e=> ?_)
 cases c with
 | true=>exact isTrue_and_nil e
 | false=>exact e
theorem aP (ha:PT X a tA) (hb:PW X (.BoolOp .And (b::CH) pos) tB'):PW X (.BoolOp .And (a::b::CH) pos) (WG tA tB'):=by
 intro wh pins s σ H Q I h
 refine isTrue_and (thn (ha pins s σ H _ I h) fun c s1 ⟨H1,I1,q1⟩=> ?_)
 cases c with
 | true=>exact hb wh pins s1 σ H1 Q I1 q1
 | false=>exact ⟨H1,I1,q1⟩
theorem UW (ha:PT X a tA):PT X (.UnaryOp .Not a pos) (VC tA):=by
 walk_at "b34"
 exact isTrue_not (ha pins s σ H (fun c H1=>Q (!c) H1) I h)
def NY (ta tb:TE):TE:=fun σ H Q=>ta σ H fun x H1=>∃ c,x= .bl c∧if c=true then tb σ H1 Q else Q (.bl false) H1
def UZ (ta tb:TE):TE:=fun σ H Q=>ta σ H fun x H1=>∃ c,x= .bl c∧if c=true then Q (.bl true) H1 else tb σ H1 Q
theorem XL {op} {t:TE} (h:PE X a t):PE X (.BoolOp op [a] pos) t:=fun pins s σ H Q I hw=>BoolOp_one (h pins s σ H Q I hw)
theorem cQ (ha:PE X a ta) (hb:PE X (.BoolOp .And (b::CH) pos) tb):PE X (.BoolOp .And (a::b::CH) pos) (NY ta tb):=by
 walk_at "b34"
 refine BoolOp_and (thn (ha pins s σ H _ I h) fun v s1 ⟨x,H1,I1,r1,q1⟩=> ?_)
 obtain ⟨c,rfl,q1⟩:=q1
 cases r1
 refine wpAny_truthy_bool ?_
 cases c with
 | true=>exact hb pins s1 σ H1 Q I1 q1
 | false=>exact ⟨.bl false,H1,I1,rfl,q1⟩
theorem eL (ha:PE X a ta) (hb:PE X (.BoolOp .Or (b::CH) pos) tb):PE X (.BoolOp .Or (a::b::CH) pos) (UZ ta tb):=by
 walk_at "b34"
 refine BoolOp_or (thn (ha pins s σ H _ I h) fun v s1 ⟨x,H1,I1,r1,q1⟩=> ?_)
 obtain ⟨c,rfl,q1⟩:=q1
 cases r1
 refine wpAny_truthy_bool ?_
 cases c with
 | false=>exact hb pins s1 σ H1 Q I1 q1
 | true=>exact ⟨.bl true,H1,I1,rfl,q1⟩
end
def SqL (K:PySem.W.Frag) (H:Hp) (a:Addr) (xs:List V):Prop:=
 Rd H a (.lst xs)∨
  ∃ (o:Obj) (its:Array Value) (n:Nat),K.lookup a=some o∧o.cls= .type "list"∧o.dict=none∧o.data= .seq its n∧its.size≤sizeLine∧AM xs its.toList
def SqT (K:PySem.W.Frag) (H:Hp) (a:Addr) (xs:List V):Prop:=
 Rd H a (.tup xs)∨
  ∃ (o:Obj) (its:Array Value) (n:Nat),K.lookup a=some o∧o.cls= .type "tuple"∧o.data= .seq its n∧its.size≤sizeLine∧AM xs its.toList
def absV:Value→Option V
 | .none=>some .non
 | .bool b=>some (.bl b)
 | .int i _=>some (.int i)
 | .str x _=>some (.str x)
 | .bytes b _=>some (.byt b)
 | .float b _=>some (.flt b)
 | .ref a=>some (.ref a)
 | .type n=>some (.ty n)
 | _=>none
theorem AY.abs {x:V} {u:Value} (r:AY x u):absV u=some x:=by
 cases x with
 | non=>cases r;rfl
 | bl _=>cases r;rfl
 | int _=>obtain ⟨t,rfl⟩:=r;rfl
 | str _=>obtain ⟨t,rfl⟩:=r;rfl
 | byt _=>obtain ⟨t,rfl⟩:=r;rfl
 | flt _=>obtain ⟨t,rfl⟩:=r;rfl
 | ref _=>cases r;rfl
 | ty _=>cases r;rfl
theorem AY.inj {x y:V} {u:Value} (r:AY x u) (q:AY y u):x=y:=Option.some.inj (r.abs.symm.trans q.abs)
theorem AM.inj:∀ {xs ys:List V} {us:List Value},AM xs us→AM ys us→xs=ys
 | _,_,_,.nil,.nil=>rfl
 | _,_,_,.cons r t,.cons r' t'=>by rw [r.inj r',AM.inj t t']
section
variable {X:Cx} {pins:List (Addr×Obj)} {σ:St} {H:Hp} {s:Shared} {a:Addr} {xs ys:List V}
theorem SqL.of {K:PySem.W.Frag} (h:H a=some (.lst xs)):SqL K H a xs:= .inl (.inl h)
theorem SqT.of {K:PySem.W.Frag} (h:H a=some (.tup xs)):SqT K H a xs:= .inl (.inl h)
theorem Inv.list (I:Inv X pins σ H s) (h:SqL X.K H a xs):∃ its:List Value,AM xs its∧PlainL s.heap a its.toArray∧xs.length≤sizeLine:=by
 rcases h with h | ⟨o,its,n,hk,hc,hd,hs,hz,r⟩
 ·obtain ⟨z,its,n,r,e⟩:=h.ok I.hok
  exact ⟨its,r,⟨_,n,e,rfl,rfl,rfl⟩,z⟩
 ·refine ⟨its.toList,r,⟨o,n,I.kIn a o hk,hc,hd,by simpa using hs⟩,?_⟩
  have e:=r.length
  simp only [Array.length_toList] at e
  omega
theorem Inv.tuple (I:Inv X pins σ H s) (h:SqT X.K H a xs):∃ its:List Value,AM xs its∧IsTup s.heap a its.toArray∧xs.length≤sizeLine:=by
 rcases h with h | ⟨o,its,n,hk,hc,hs,hz,r⟩
 ·obtain ⟨z,its,r,p⟩:=h.ok I.hok
  exact ⟨its,r,p,z⟩
 ·refine ⟨its.toList,r,⟨o,I.kIn a o hk,hc,n,by simpa using hs⟩,?_⟩
  have e:=r.length
  simp only [Array.length_toList] at e
  omega
theorem Inv.list_inj (I:Inv X pins σ H s) (h:SqL X.K H a xs) (h':SqL X.K H a ys):xs=ys:=by
 obtain ⟨its,r,⟨o,n,e,_,_,d⟩,_⟩:=I.list h
 obtain ⟨its',r',⟨o',n',e',_,_,d'⟩,_⟩:=I.list h'
 rw [e] at e';cases e'
 rw [d] at d'
 injection d' with d1 _
 have:its=its':=by simpa using congrArg Array.toList d1
 subst this
 exact r.inj r'
theorem Inv.tuple_inj (I:Inv X pins σ H s) (h:SqT X.K H a xs) (h':SqT X.K H a ys):xs=ys:=by
 obtain ⟨its,r,⟨o,e,_,n,d⟩,_⟩:=I.tuple h
 obtain ⟨its',r',⟨o',e',_,n',d'⟩,_⟩:=I.tuple h'
 rw [e] at e';cases e'
 rw [d] at d'
 injection d' with d1 _
 have:its=its':=by simpa using congrArg Array.toList d1
 subst this
 exact r.inj r'
end
abbrev Cx.wish (X:Cx) (E:Value→Shared→Prop):Cx:={ X with xe:=E }
abbrev Cx.nox (X:Cx):Cx:=X.wish fun _ _=>False
theorem Cx.Ok.wish {X:Cx} (ok:X.Ok) (E:Value→Shared→Prop):(X.wish E).Ok:=
 ⟨ok.mod,ok.kind,ok.glob,ok.blt,ok.above,ok.inj,ok.has,ok.cab,ok.hd,ok.frames,ok.stk,ok.exf,ok.bs,ok.bsz,ok.noex,ok.exfs,ok.funs,ok.frf⟩
theorem Cx.Ok.unwish {X:Cx} {E:Value→Shared→Prop} (ok:(X.wish E).Ok):X.Ok:=
 ⟨ok.mod,ok.kind,ok.glob,ok.blt,ok.above,ok.inj,ok.has,ok.cab,ok.hd,ok.frames,ok.stk,ok.exf,ok.bs,ok.bsz,ok.noex,ok.exfs,ok.funs,ok.frf⟩
section
variable {X:Cx} {pins:List (Addr×Obj)} {σ:St} {H:Hp} {s:Shared} {E:Value→Shared→Prop}
theorem Inv.wish (I:Inv X pins σ H s) (E:Value→Shared→Prop):Inv (X.wish E) pins σ H s:=⟨I.ok.wish E,I.os,I.bare,I.base,I.loc,I.cell,I.free,I.freeC,I.pin,I.hok,I.len⟩
theorem Inv.unwish (I:Inv (X.wish E) pins σ H s):Inv X pins σ H s:=⟨I.ok.unwish,I.os,I.bare,I.base,I.loc,I.cell,I.free,I.freeC,I.pin,I.hok,I.len⟩
theorem SP.unwish {D:DW} {f:Flow} {s':Shared} (h:SP (X.wish E) pins D f s'):SP X pins D f s':=by
 cases f with
 | next=>obtain ⟨σ',H',I,q⟩:=h;exact ⟨σ',H',I.unwish,q⟩
 | brk=>obtain ⟨σ',H',I,q⟩:=h;exact ⟨σ',H',I.unwish,q⟩
 | cont=>obtain ⟨σ',H',I,q⟩:=h;exact ⟨σ',H',I.unwish,q⟩
 | ret u=>obtain ⟨v,σ',H',I,r,q⟩:=h;exact ⟨v,σ',H',I.unwish,r,q⟩
theorem PSs.nox {st:List Stmt} {t:TS} (h:PSs X.nox st t):PSs X st t:=fun pins s σ H D I hw=>
 wpAny_mono (h pins s σ H D (I.wish _) hw) (fun _ _ q=>q.unwish) fun _ _ z=>False.elim z
end
section
variable {X:Cx} {st:Stmt} {CH:List Stmt} {t u:TS} {e:Expr} {te:TE} {pos:Pos}
def NX:TS:=fun D σ H=>D.nx σ H
def UJ (t u:TS):TS:=fun D σ H=>t { D with nx:=u D } σ H
theorem BD:PSs X [] NX:=fun _ _ σ H _ I h=>wpAny_execs_nil ⟨σ,H,I,h⟩
theorem AF (h1:PS X st t) (h2:PSs X CH u):PSs X (st::CH) (UJ t u):=by
 walk_at "b72"
 refine wpAny_execs_cons (thn (h1 pins s σ H { D with nx:=u D } I h) fun f s1 q=> ?_)
 cases f with
 | next=>
  obtain ⟨σ',H',I',q⟩:=q
  exact h2 pins s1 σ' H' D I' q
 | ret v=>exact q
 | brk=>exact q
 | cont=>exact q
theorem AH (h1:PS X st t):PSs X [st] t:=by
 walk_at "b72"
 refine wpAny_execs_cons (thn (h1 pins s σ H D I h) fun f s1 q=> ?_)
 cases f with
 | next=>exact wpAny_execs_nil q
 | ret v=>exact q
 | brk=>exact q
 | cont=>exact q
theorem Inv.quiet {pins:List (Addr×Obj)} {σ:St} {H:Hp} {s:Shared} (I:Inv X pins σ H s):interactive X.env=false:=by simp [interactive,I.ok.kind]
def MR (te:TE):TS:=fun D σ H=>te σ H fun _ H1=>D.nx σ H1
theorem GZ (he:PE X e te) (hs:swapsWith e none pos.line X.env=pure false:=by rfl):PS X (.Expr e pos) (MR te):=by
 walk_at "b72"
 exact wpAny_Expr_any (thn (he pins s σ H _ I h) fun v s1 ⟨x,H1,I1,r1,q1⟩=>⟨σ,H1,I1,q1⟩) I.quiet hs
def TZ (te:TE):TS:=fun D σ H=>te σ H D.rt
theorem AN (he:PE X e te):PS X (.Return (some e) pos) (TZ te):=by
 walk_at "b72"
 exact wpAny_Return_some (thn (he pins s σ H _ I h) fun v s1 ⟨x,H1,I1,r1,q1⟩=>⟨x,σ,H1,I1,r1,q1⟩)
def WA (c:TT) (t u:TS):TS:=fun D σ H=>c σ H fun b H1=>if b=true then t D σ H1 else u D σ H1
theorem BV {c:Expr} {a b:List Stmt} {tc:TT} (hc:PT X c tc) (ha:PSs X a t) (hb:PSs X b u):PS X (.If c a b pos) (WA tc t u):=by
 walk_at "b72"
 refine wpAny_If (thn (hc pins s σ H _ I h) fun d s1 ⟨H1,I1,q1⟩=> ?_)
 cases d with
 | true=>exact ha pins s1 σ H1 D I1 q1
 | false=>exact hb pins s1 σ H1 D I1 q1
end
abbrev TG:=V→St→Hp→(St→Hp→Prop)→Prop
abbrev TGs:=List V→St→Hp→(St→Hp→Prop)→Prop
def PG (X:Cx) (target:Expr) (t:TG):Prop:=
 ∀ (pins:List (Addr×Obj)) (s:Shared) (σ:St) (H:Hp) (v:V) (u:Value) (Q:St→Hp→Prop),Inv X pins σ H s→AY v u→t v σ H Q→
  wpAny (model X.prog X.w) X.A (assign target X.env u) (fun _ s'=>∃ σ' H',Inv X pins σ' H' s'∧Q σ' H') X.xe s
def PGs (X:Cx) (ts:List Expr) (t:TGs):Prop:=
 ∀ (pins:List (Addr×Obj)) (s:Shared) (σ:St) (H:Hp) (vs:List V) (us:List Value) (Q:St→Hp→Prop),Inv X pins σ H s→AM vs us→t vs σ H Q→
  wpAny (model X.prog X.w) X.A (assignInOrder ((assignEach ts X.env).map (·.2)) us) (fun _ s'=>∃ σ' H',Inv X pins σ' H' s'∧Q σ' H') X.xe s
abbrev TIp:=V→V→Hp→VK→Prop
def PIp (X:Cx) (op:Operator) (t:TIp):Prop:=
 ∀ (pins:List (Addr×Obj)) (s:Shared) (σ:St) (H:Hp) (x y:V) (v u:Value) (Q:VK),Inv X pins σ H s→AY x v→AY y u→t x y H Q→
  wpAny (model X.prog X.w) X.A (inplaceOp op v u) (EP X pins σ Q) X.xe s
section
variable {X:Cx} {pos:Pos}
def IB (i:Nat):TG:=fun v σ H Q=>Q (σ.set i (some v)) H
theorem AX {i:Nat} {x:Str} (hN:X.N.Nodup) (hi:X.N[i]? =some x) (hx:Loc X.env.scope x) (hf:X.fn x=true∨X.env.scope.names.lookup x=some .local:=by first | exact .inl rfl | exact .inr rfl | assumption):PG X (.Name x pos) (IB i):=by
 intro pins s σ H v u Q I r h
 exact wpAny_assign_Name (GN I hN hi hx r (fun s' I'=>⟨_,H,I',h⟩) hf)
def WT:TGs:=fun vs σ H Q=>vs=[]∧Q σ H
def NU (t:TG) (u:TGs):TGs:=fun vs σ H Q=>∃ v r,vs=v::r∧t v σ H fun σ' H'=>u r σ' H' Q
theorem YM:PGs X [] WT:=by
 intro pins s σ H vs us Q I r h
 obtain ⟨e,h⟩:=h
 subst e
 cases r
 exact assignInOrder_nil ⟨σ,H,I,h⟩
theorem XI {e:Expr} {es:List Expr} {t:TG} {u:TGs} (h1:PG X e t) (h2:PGs X es u)
  (hs:(assignEach (e::es) X.env).map (·.2)=assign e X.env::(assignEach es X.env).map (·.2):=by rfl):PGs X (e::es) (NU t u):=by
 intro pins s σ H vs us Q I r h
 obtain ⟨v,vr,e1,h⟩:=h
 subst e1
 cases r with
 | cons r rr=>
  rw [hs]
  refine assignInOrder_cons (thn (h1 pins s σ H _ _ _ I r h) fun _ s1 ⟨σ1,H1,I1,q1⟩=> ?_)
  exact h2 pins s1 σ1 H1 _ _ Q I1 rr q1
def UU (K:PySem.W.Frag) (n:Nat) (t:TGs):TG:=fun v σ H Q=>∃ a xs,v= .ref a∧SqT K H a xs∧xs.length=n∧t xs σ H Q
theorem bI {es:List Expr} {k:Nat} {t:TGs} {n:Nat} (hc:X.calm=true) (h:PGs X es t)
  (hn:(assignEach es X.env).length=n:=by rfl) (hst:(assignEach es X.env).findIdx? (·.1)=none:=by rfl):PG X (.Tuple es k pos) (UU X.K n t):=by
 intro pins s σ H v u Q I r hw
 obtain ⟨a,xs,e1,hq,hl,hw⟩:=hw
 subst e1
 cases r
 obtain ⟨its,rv,ht,hz⟩:=I.tuple hq
 refine assign_Tuple_tuple (I.ok.hd hc) ht (by simp [hn,← hl,rv.length]) hst fun h' hx=> ?_
 have I1:Inv X pins σ H { s with heap:=h' }:=I.kept (t':=s.toks) fun b o e=>hx b o (Nat.ne_of_lt (Heap.lt_size e)) e
 exact h pins _ σ H xs _ Q I1 (by simpa using rv) hw
def OF (te:TE) (g:TG):TS:=fun D σ H=>te σ H fun x H1=>g x σ H1 D.nx
theorem JN {tg e:Expr} {te:TE} {g:TG} (he:PE X e te) (hg:PG X tg g) (hs:swapsWithSole [tg] e pos.line X.env=pure false:=by rfl) (hw:swappedStores [tg] e X.env=pure none:=by rfl)
  (h1:(assignEach [tg] X.env).map (·.2)=[assign tg X.env]:=by rfl):PS X (.Assign [tg] e pos) (OF te g):=by
 walk_at "b72"
 refine wpAny_Assign_stores (thn (he pins s σ H _ I h) fun v s1 ⟨x,H1,I1,r1,q1⟩=> ?_) hs hw
 rw [h1]
 exact thn (hg pins s1 σ H1 x v _ I1 r1 q1) fun _ s2 q=>q
theorem AR {i:Nat} {x:Str} {e:Expr} {te:TE} {pos':Pos} (hN:X.N.Nodup) (hi:X.N[i]? =some x) (hx:Loc X.env.scope x) (he:PE X e te) (hs:swapsWith e (some (.Name x pos')) pos.line X.env=pure false:=by rfl) (hf:X.fn x=true∨X.env.scope.names.lookup x=some .local:=by first | exact .inl rfl | exact .inr rfl | assumption):
  PS X (.Assign [.Name x pos'] e pos) (OF te (IB i)):=by
 walk_at "b72"
 refine wpAny_Assign_Name (thn (he pins s σ H _ I h) fun v s1 ⟨y,H1,I1,r1,q1⟩=> ?_) hs
 exact GN I1 hN hi hx r1 (fun s2 I2=>⟨_,H1,I2,q1⟩) hf
def VV (i:Nat) (te:TE) (ti:TIp):TS:=fun D σ H=>∃ x,σ[i]? =some (some x)∧te σ H fun y H1=>ti x y H1 fun z H2=>D.nx (σ.set i (some z)) H2
theorem dA {i:Nat} {x:Str} {e:Expr} {te:TE} {op:Operator} {ti:TIp} {pos':Pos} (hN:X.N.Nodup) (hi:X.N[i]? =some x) (hx:Loc X.env.scope x) (he:PE X e te) (ho:PIp X op ti) (hf:X.fn x=true∨X.env.scope.names.lookup x=some .local:=by first | exact .inl rfl | exact .inr rfl | assumption):
  PS X (.AugAssign (.Name x pos') op e pos) (VV i te ti):=by
 walk_at "b72"
 obtain ⟨v,e1,h⟩:=h
 obtain ⟨m,hn,hl⟩:=I.loc
 have vis:Vis X.env.scope x:=by rcases hx with k | k;exact .inl k;exact .inr (.inl k)
 obtain ⟨u,r,l⟩:=hl i x v hi e1 vis
 refine wpAny_AugAssign_Name ?_
 have go:wpAny (model X.prog X.w) X.A (eval e X.env) (fun w s₂=>wpAny (model X.prog X.w) X.A (inplaceOp op u w) (fun r s₃=>wpAny (model X.prog X.w) X.A (storeName X.env x r) (fun _=>SP X pins D .next) X.xe s₃) X.xe s₂) X.xe s:=by
  refine thn (he pins s σ H _ I h) fun w s1 ⟨y,H1,I1,r1,q1⟩=> ?_
  refine thn (ho pins s1 σ H1 v y u w _ I1 r r1 q1) fun z s2 ⟨zv,H2,I2,r2,q2⟩=> ?_
  exact GN I2 hN hi hx r2 (fun s3 I3=>⟨_,H2,I3,q2⟩) hf
 rcases l with ⟨hk,hm⟩ | ⟨hk,c,hc,hcell⟩
 ·exact wpAny_loadName_local I.ok.kind hk hn hm go
 ·rcases hk with hk | hk
  ·exact wpAny_loadName_cell I.ok.kind hk hc hcell go
  ·rcases hx with k | k
   ·have:X.env.scope.names.lookup x=some .free:=hk
    rw [k] at this;cases this
   ·have:X.env.scope.names.lookup x=some .free:=hk
    rw [k] at this;cases this
def ipI (f:Int→Int→Int):TIp:=fun x y H Q=>∃ i j,x= .int i∧y= .int j∧Q (.int (f i j)) H
theorem bQ:PIp X .Add (ipI fun i j=>i+j):=by
 intro pins s σ H x y v u Q I r1 r2 h
 obtain ⟨i,j,e1,e2,q⟩:=h
 subst e1;subst e2
 obtain ⟨t,rfl⟩:=r1
 obtain ⟨t',rfl⟩:=r2
 exact iadd_int ⟨.int _,H,I.tok _,⟨_,rfl⟩,q⟩
end
section
variable {X:Cx} {pos:Pos}
def VF (c:TT) (tb:TS):TS:=fun D σ H=>∃ W:Nat→St→Hp→Prop,(∃ m,W m σ H)∧∀ m σ H,W m σ H→
 c σ H fun b H1=>if b=true then ∃ N:St→Hp→Prop,(∀ σ' H',N σ' H'→∃ m',m'<m∧W m' σ' H')∧tb { D with nx:=N,ct:=N,bk:=D.nx } σ H1 else D.nx σ H1
theorem TY {c:Expr} {body:List Stmt} {tc:TT} {tb:TS} (hp:PassesOwn (model X.prog X.w) X.A X.env X.xe) (hc:PT X c tc) (hb:PSs X body tb):PS X (.While c body [] pos) (VF tc tb):=by
 walk_at "b72"
 obtain ⟨W,⟨m0,w0⟩,turn⟩:=h
 refine wpAny_While (codeAny_whileLoop (fun n s'=>∃ σ' H',Inv X pins σ' H' s'∧W n σ' H') ?_ m0 ⟨σ,H,I,w0⟩)
 rintro n s1 ⟨σ1,H1,I1,w1⟩
 refine wpAny_passesOwn hp (thn (hc pins s1 σ1 H1 _ I1 (turn n σ1 H1 w1)) fun b s2 ⟨H2,I2,q2⟩=> ?_)
 cases b with
 | true=>
  obtain ⟨N,hN,q2⟩:=q2
  rw [if_pos rfl]
  refine wpAny_passesOwn hp (thn (hb pins s2 σ1 H2 _ I2 q2) fun f s3 q3=> ?_)
  cases f with
  | next=>
   obtain ⟨σ3,H3,I3,n3⟩:=q3
   obtain ⟨m',hm,w3⟩:=hN σ3 H3 n3
   exact ⟨m',hm,σ3,H3,I3,w3⟩
  | cont=>
   obtain ⟨σ3,H3,I3,n3⟩:=q3
   obtain ⟨m',hm,w3⟩:=hN σ3 H3 n3
   exact ⟨m',hm,σ3,H3,I3,w3⟩
  | brk=>exact q3
  | ret v=>exact q3
 | false=>
  rw [if_neg Bool.false_ne_true]
  exact wpAny_execs_nil ⟨σ1,H2,I2,q2⟩
end
structure It where
 go:Nat→Hp→Prop
 yld:Nat→Hp→V→Hp→Prop
 stop:Nat→Hp→Prop
def FD (X:Cx) (pins:List (Addr×Obj)) (H:Hp) (b:Addr):Prop:=
 H b=none∧b≠X.env.locals∧b∉X.fs∧(b∈X.ex∨X.s₀.heap.objs.size≤b)∧(∀ x c,X.env.cells.lookup x=some c→c≠b)∧∀ p∈X.pn++pins,p.1≠b
theorem Inv.fpOk {X:Cx} {pins:List (Addr×Obj)} {σ:St} {H H':Hp} {s:Shared} {b:Addr} (I:Inv X pins σ H s) (hb:s.heap.objs.size≤b) (hn:H' b=none):FD X pins H' b:=by
 refine ⟨hn,Nat.ne_of_gt (Nat.lt_of_lt_of_le I.lt hb),I.nofs hb,.inr (Nat.le_trans I.sz hb),fun x c e z=> ?_,fun p hp z=> ?_⟩
 ·obtain ⟨v,q⟩:=I.cell x c e
  exact absurd (Nat.lt_of_lt_of_le q.lt (by rw [z];exact hb)) (Nat.lt_irrefl _)
 ·exact absurd (Nat.lt_of_lt_of_le (Heap.lt_size (I.pin p hp).1) (by rw [z];exact hb)) (Nat.lt_irrefl _)
structure UF (P:Program) (w:World) (K:PySem.W.Frag) (tg:Expr) (J:It) (fp:List Addr) (it:Addr) (tn:Nat→Heap→Prop):Prop where
 mem:it∈fp
 obj:∀ i h,tn i h→∀ b∈fp,∃ o,h.get? b=some o∧∀ v,o.data≠ .cell v
 keep:∀ i h h',tn i h→(∀ b∈fp,∀ o,h.get? b=some o→h'.get? b=some o)→tn i h'
 item:∀ (X:Cx),X.prog=P→X.w=w→X.K=K→X.calm=true→∀ (i:Nat) (pins:List (Addr×Obj)) (s:Shared) (σ:St) (H:Hp) (E:Value→Shared→Prop),Inv X pins σ H s→(∀ b∈fp,FD X pins H b)→tn i s.heap→J.go i H→
  wpAny (model P w) X.A (pyNext (.ref it)) (fun r s1=>∃ u,r=some u∧
   wpAny (model P w) X.A (letOwnedTupleGo tg (.ref it) u) (fun _ s2=>∃ x H',Inv X pins σ H' s2∧AY x u∧J.yld i H x H'∧tn (i+1) s2.heap∧∀ b∈fp,H' b=none) E s1) E s
 done:∀ (X:Cx),X.prog=P→X.w=w→X.K=K→X.calm=true→∀ (i:Nat) (pins:List (Addr×Obj)) (s:Shared) (σ:St) (H:Hp) (E:Value→Shared→Prop),Inv X pins σ H s→(∀ b∈fp,FD X pins H b)→tn i s.heap→J.stop i H→
  wpAny (model P w) X.A (pyNext (.ref it)) (fun r s1=>r=none∧Inv X pins σ H s1) E s
 self:∀ (A:Around) (i:Nat) (s:Shared) (Q:Value→Shared→Prop) (E:Value→Shared→Prop),tn i s.heap→Q (.ref it) s→wpAny (model P w) A (pyIter (.ref it)) Q E s
abbrev TI:=St→Hp→(It→Hp→Prop)→Prop
def PIE (X:Cx) (pins:List (Addr×Obj)) (σ:St) (tg:Expr) (R:It→Hp→Prop) (itv:Value) (s2:Shared):Prop:=
 ∃ (it:Addr) (fp:List Addr) (tn:Nat→Heap→Prop) (J:It) (H':Hp),itv= .ref it∧Inv X pins σ H' s2∧UF X.prog X.w X.K tg J fp it tn∧tn 0 s2.heap∧(∀ b∈fp,FD X pins H' b)∧R J H'
def PI (X:Cx) (tg iter:Expr) (wi:TI):Prop:=
 ∀ (pins:List (Addr×Obj)) (s:Shared) (σ:St) (H:Hp) (R:It→Hp→Prop),Inv X pins σ H s→wi σ H R→
  wpAny (model X.prog X.w) X.A (eval iter X.env) (fun v s1=>wpAny (model X.prog X.w) X.A (pyIter v) (PIE X pins σ tg R) X.xe s1) X.xe s
theorem WL {M:Model} {A:Around} {E:Value→Shared→Prop} {s:Shared} {tg:Expr} {it:Addr} {u:Value} {o:Obj} {n:String} {vs:Array Value} {Q:Unit→Shared→Prop} (ho:s.heap.get? it=some o) (hc:o.cls= .type n) (hd:o.data= .fields vs)
  (hn:["enumerate","zip","dict_itemiterator","dict_reverseitemiterator","odict_iterator","itertools.zip_longest","itertools.pairwise"].contains n=false) (hQ:Q () s):wpAny M A (letOwnedTupleGo tg (.ref it) u) Q E s:=by
 unfold letOwnedTupleGo
 cases tg<;> first
  | exact wpAny_pure hQ
  | (cases u<;> first
    | exact wpAny_pure hQ
    | (refine wpAny_bind (wpAny_load ho ?_)
       rw [hc,hd]
       show wpAny M A (if (["enumerate","zip","dict_itemiterator","dict_reverseitemiterator","odict_iterator","itertools.zip_longest","itertools.pairwise"].contains n && vs[0]? == some (rawInt _))=true then _ else _) Q E s
       rw [if_neg (by intro h;rw [hn,Bool.false_and] at h;cases h)]
       exact wpAny_pure hQ))
def Itl (K:PySem.W.Frag) (a:Addr):It:=
 ⟨fun i H=>∃ xs x,SqL K H a xs∧xs[i]? =some x,fun i H x H'=>H'=H∧∀ xs,SqL K H a xs→xs[i]? =some x,fun i H=>∃ xs,SqL K H a xs∧xs.length≤i⟩
def Itt (K:PySem.W.Frag) (a:Addr):It:=
 ⟨fun i H=>∃ xs x,SqT K H a xs∧xs[i]? =some x,fun i H x H'=>H'=H∧∀ xs,SqT K H a xs→xs[i]? =some x,fun i H=>∃ xs,SqT K H a xs∧xs.length≤i⟩
def Itr (lo:Int) (n:Nat):It:=⟨fun i _=>i<n,fun i H x H'=>H'=H∧x= .int (lo+i),fun i _=>n≤i⟩
theorem TM {P:Program} {w:World} {K:PySem.W.Frag} {tg:Expr} (a it:Addr):UF P w K tg (Itl K a) [it] it (fun i h=>h.IsListIter it a i) where
 mem:=by simp
 obj:=fun i h st b hb=>by
  walk_at "b69"
 keep:=fun i h h' st k=>st.at fun o e=>k it (by simp) o e
 item:=by
  walk_at "b26"
  obtain ⟨xs,x,hq,hx⟩:=hg
  obtain ⟨its,rv,p,hz⟩:=I.list hq
  obtain ⟨u,hu,ru⟩:=rv.get hx
  walk_at "b41"
  refine wpAny_pyNext_list_item st p.isList (x:=u) (by simpa using hu) fun h' st' sb=> ?_
  walk_at "b56"
  exact ⟨u,rfl,WL (s:={ s with heap:=h' }) e c d (by decide) ⟨x,H,I1,ru,⟨rfl,fun ys hy=>by rw [I.list_inj hy hq];exact hx⟩,st',fun b hb=>(hf b hb).1⟩⟩
 done:=by
  walk_at "b26"
  obtain ⟨xs,hq,hx⟩:=hg
  obtain ⟨its,rv,p,hz⟩:=I.list hq
  walk_at "b41"
  have hl:=rv.length
  exact wpAny_pyNext_list_end (I.ok.hd hc) st p.isList (by simp;omega) fun h' eb=>⟨rfl,I.turned (t':=s.toks) (fun b o hb e=>eb b o hb e) f0 f1 f3 f4 f5⟩
 self:=fun _ _ _ _ _ st h=>wpAny_pyIter_listiter st h
theorem PF {P:Program} {w:World} {K:PySem.W.Frag} {tg:Expr} (a it:Addr):UF P w K tg (Itt K a) [it] it (fun i h=>h.IsTupleIter it a i) where
 mem:=by simp
 obj:=fun i h st b hb=>by
  walk_at "b69"
 keep:=fun i h h' st k=>st.at fun o e=>k it (by simp) o e
 item:=by
  walk_at "b26"
  obtain ⟨xs,x,hq,hx⟩:=hg
  obtain ⟨its,rv,p,hz⟩:=I.tuple hq
  obtain ⟨u,hu,ru⟩:=rv.get hx
  walk_at "b41"
  refine wpAny_pyNext_tuple_item st (show s.heap.IsTuple a its.toArray from p) (x:=u) (by simpa using hu) fun h' st' sb=> ?_
  walk_at "b56"
  exact ⟨u,rfl,WL (s:={ s with heap:=h' }) e c d (by decide) ⟨x,H,I1,ru,⟨rfl,fun ys hy=>by rw [I.tuple_inj hy hq];exact hx⟩,st',fun b hb=>(hf b hb).1⟩⟩
 done:=by
  walk_at "b26"
  obtain ⟨xs,hq,hx⟩:=hg
  obtain ⟨its,rv,p,hz⟩:=I.tuple hq
  walk_at "b41"
  have hl:=rv.length
  exact wpAny_pyNext_tuple_end (I.ok.hd hc) st (show s.heap.IsTuple a its.toArray from p) (by simp;omega) fun h' eb=>⟨rfl,I.turned (t':=s.toks) (fun b o hb e=>eb b o hb e) f0 f1 f3 f4 f5⟩
 self:=fun _ _ _ _ _ st h=>wpAny_pyIter_tupleiter st h
theorem OW {P:Program} {w:World} {K:PySem.W.Frag} {tg:Expr} (it:Addr) (lo:Int) (n:Nat):UF P w K tg (Itr lo n) [it] it (fun i h=>IsRangeIter h it (lo+(i:Nat) * 1) ((n:Int) - (i:Nat)) 1) where
 mem:=by simp
 obj:=fun i h st b hb=>by
  have e:b=it:=by simpa using hb
  subst e
  exact ⟨_,st,fun v z=>by
   have z':Data.fields _=Data.cell v:=z
   cases z'⟩
 keep:=fun i h h' st k=>k it (by simp) _ st
 item:=by
  walk_at "b26"
  walk_at "b41"
  have W:=Walks.range (prog:=X.prog) (w:=X.w) (I.ok.hd hc) it lo 1 n
  refine W.item i s _ _ hg st fun v h' tk hv st' kk=> ?_
  obtain ⟨t,rfl⟩:=hv
  have I1:Inv X pins σ H { s with heap:=h',toks:=tk }:=I.turned (fun b o hb e=>kk b o (by simpa using hb) e) f0 f1 f3 f4 f5
  refine ⟨_,rfl,WL (s:={ s with heap:=h',toks:=tk }) (n:="range_iterator") st' rfl rfl (by decide) ⟨.int (lo+i),H,I1,⟨t,?_⟩,⟨rfl,rfl⟩,st',fun b hb=>(hf b hb).1⟩⟩
  rw [Int.mul_one]
 done:=by
  walk_at "b26"
  walk_at "b41"
  exact wpAny_pyNext_range_end (I.ok.hd hc) st (by have:n≤i:=hg;omega) fun h' eb=>⟨rfl,I.turned (t':=s.toks) (fun b o hb e=>eb b o hb e) f0 f1 f3 f4 f5⟩
 self:=fun _ _ _ _ _ st h=>wpAny_pyIter_rangeiter st h
section
variable {X:Cx} {tg:Expr}
def OB (K:PySem.W.Frag) (tl:TE):TI:=fun σ H R=>tl σ H fun x H1=>∃ a,x= .ref a∧(∃ xs,SqL K H1 a xs)∧R (Itl K a) H1
def UD (K:PySem.W.Frag) (tl:TE):TI:=fun σ H R=>tl σ H fun x H1=>∃ a,x= .ref a∧(∃ xs,SqT K H1 a xs)∧R (Itt K a) H1
theorem ZD {l:Expr} {tl:TE} (hl:PE X l tl):PI X tg l (OB X.K tl):=by
 walk_at "b55"
 obtain ⟨its,rv,p,hz⟩:=I1.list hq
 refine wpAny_pyIter_list p.isList ?_
 refine ⟨s1.heap.objs.size,[s1.heap.objs.size],_,_,H1,rfl,I1.kept (t':=s1.toks) fun b o e=>Heap.get?_push_of_some _ e,TM a _,⟨_,Heap.get?_push_size _ rfl,rfl,rfl⟩,fun b hb=> ?_,q⟩
 have e:b=s1.heap.objs.size:=by simpa using hb
 walk_at "b66"
theorem cR {l:Expr} {tl:TE} (hl:PE X l tl):PI X tg l (UD X.K tl):=by
 walk_at "b55"
 obtain ⟨its,rv,p,hz⟩:=I1.tuple hq
 refine wpAny_pyIter_tuple (show s1.heap.IsTuple a its.toArray from p) ?_
 refine ⟨s1.heap.objs.size,[s1.heap.objs.size],_,_,H1,rfl,I1.kept (t':=s1.toks) fun b o e=>Heap.get?_push_of_some _ e,PF a _,⟨_,Heap.get?_push_size _ rfl,rfl,rfl⟩,fun b hb=> ?_,q⟩
 have e:b=s1.heap.objs.size:=by simpa using hb
 walk_at "b66"
theorem OJ {pins:List (Addr×Obj)} {σ:St} {H:Hp} {s:Shared} {R:It→Hp→Prop} {E:Value→Shared→Prop} {lo hi:Int} {t u v:Tok} {tk:Nat} (I:Inv X pins σ H s) (h1: -(2 ^ 62)≤lo) (h2:lo<2 ^ 62) (h3: -(2 ^ 62)≤hi) (h4:hi<2 ^ 62)
  (q:R (Itr lo (hi - lo).toNat) H):wpAny (model X.prog X.w) X.A (pyIter (.ref s.heap.objs.size)) (PIE X pins σ tg R) E { s with heap:=s.heap.push { cls:= .type "range",data:= .fields #[.int lo t,.int hi u,.int 1 v] },toks:=tk }:=by
 refine wpAny_pyIter_range (IsRange.new ..) (small_one h1 h2 h3 h4) ?_
 have I1:Inv X pins σ H { s with heap:=s.heap.push { cls:= .type "range",data:= .fields #[.int lo t,.int hi u,.int 1 v] },toks:=tk }:=I.kept fun b o e=>Heap.get?_push_of_some _ e
 refine ⟨(s.heap.push { cls:= .type "range",data:= .fields #[.int lo t,.int hi u,.int 1 v] }).objs.size,[(s.heap.push { cls:= .type "range",data:= .fields #[.int lo t,.int hi u,.int 1 v] }).objs.size],_,_,H,rfl,
  I1.kept (t':=tk) fun b o e=>Heap.get?_push_of_some _ e,OW _ lo (hi - lo).toNat,?_,fun b hb=> ?_,q⟩
 ·have e1:lo+((0:Nat):Int) * 1=lo:=by simp
  have e2:(((hi - lo).toNat:Nat):Int) - ((0:Nat):Int)=Builtin.Range.rangeSize lo hi 1:=by rw [rangeSize_one];split<;> omega
  show IsRangeIter _ _ (lo+((0:Nat):Int) * 1) ((((hi - lo).toNat:Nat):Int) - ((0:Nat):Int)) 1
  rw [e1,e2]
  exact Heap.get?_push_size _ rfl
 ·have e:b=(s.heap.push { cls:= .type "range",data:= .fields #[.int lo t,.int hi u,.int 1 v] }).objs.size:=by simpa using hb
  walk_at "b66"
def OG (ta:TA):TI:=fun σ H R=>ta σ H fun vs H1=>∃ j:Int,vs=[.int j]∧ -(2 ^ 62)≤j∧j<2 ^ 62∧R (Itr 0 j.toNat) H1
def NZ (ta:TA):TI:=fun σ H R=>ta σ H fun vs H1=>∃ i j:Int,vs=[.int i,.int j]∧(-(2 ^ 62)≤i∧i<2 ^ 62∧ -(2 ^ 62)≤j∧j<2 ^ 62)∧R (Itr i (j - i).toNat) H1
theorem HA {a:Expr} {ta:TA} {p pos:Pos} (hg:Gl X "range") (hm:X.mg "range"=none) (ha:PA X [a] ta) (hs:starEach [a] X.env=[(false,eval a X.env)]:=by rfl):PI X tg (.Call (.Name "range" p) [a] [] pos) (OG ta):=by
 intro pins s σ H R I h
 refine Call_ (EW I hg hm boot_range (PyProof.Rows.callWith_type1 (thn (ha pos pins s σ H _ I h) fun us s1 ⟨vs,H1,I1,r1,q1⟩=> ?_) hs rfl))
 obtain ⟨j,e,q1,q2,q⟩:=q1
 subst e
 cases r1 with
 | cons r rr=>
  cases rr
  obtain ⟨t,rfl⟩:=r
  exact call_range_1 (OJ I1 (by omega) (by omega) q1 q2 (by simpa using q))
theorem LJ {a b:Expr} {ta:TA} {p pos:Pos} (hg:Gl X "range") (hm:X.mg "range"=none) (ha:PA X [a,b] ta) (hs:starEach [a,b] X.env=[(false,eval a X.env),(false,eval b X.env)]:=by rfl) (hs2:starEach [b] X.env=[(false,eval b X.env)]:=by rfl):
  PI X tg (.Call (.Name "range" p) [a,b] [] pos) (NZ ta):=by
 intro pins s σ H R I h
 refine Call_ (EW I hg hm boot_range (PyProof.Rows.callWith_type1 (thn (ha pos pins s σ H _ I h) fun us s1 ⟨vs,H1,I1,r1,q1⟩=> ?_) (by rw [hs,hs2]) (by rw [hs2];rfl)))
 obtain ⟨i,j,e,⟨q1,q2,q3,q4⟩,q⟩:=q1
 subst e
 cases r1 with
 | cons r rr=>
  cases rr with
  | cons r' rr=>
   cases rr
   obtain ⟨t,rfl⟩:=r
   obtain ⟨t',rfl⟩:=r'
   exact call_range_2 (OJ I1 q1 q2 q3 q4 q)
def dJ (wi:TI) (g:TG) (tb:TS):TS:=fun D σ H=>wi σ H fun J H1=>∃ W:Nat→Nat→St→Hp→Prop,(∃ m,W 0 m σ H1)∧∀ i m σ H,W i m σ H→
 (J.stop i H∧D.nx σ H)∨(J.go i H∧∃ N:St→Hp→Prop,(∀ σ' H',N σ' H'→∃ m',m'<m∧W (i+1) m' σ' H')∧∀ x H',J.yld i H x H'→g x σ H' fun σ2 H2=>tb { D with nx:=N,ct:=N,bk:=D.nx } σ2 H2)
def EZ (fp:List Addr) (h:Heap):List (Addr×Obj):=fp.filterMap fun b=>(h.get? b).map fun o=>(b,o)
theorem BS {fp:List Addr} {h:Heap} {b:Addr} {o:Obj} (hb:b∈fp) (e:h.get? b=some o):(b,o)∈EZ fp h:=List.mem_filterMap.mpr ⟨b,hb,by rw [e];rfl⟩
theorem SW {fp:List Addr} {h:Heap} {p:Addr×Obj} (hp:p∈EZ fp h):p.1∈fp∧h.get? p.1=some p.2:=by
 obtain ⟨b,hb,e⟩:=List.mem_filterMap.mp hp
 cases q:h.get? b with
 | none=>rw [q] at e;cases e
 | some o=>
  rw [q] at e
  have e':(b,o)=p:=Option.some.inj e
  subst e'
  exact ⟨hb,q⟩
theorem Inv.pinned {pins:List (Addr×Obj)} {σ:St} {H:Hp} {s:Shared} {fp:List Addr} (I:Inv X pins σ H s) (hf:∀ b∈fp,FD X pins H b) (ho:∀ b∈fp,∃ o,s.heap.get? b=some o∧∀ v,o.data≠ .cell v):Inv X (pins++EZ fp s.heap) σ H s:=
 I.pins_of fun p hp=>(List.mem_append.mp hp).elim (fun z=>I.pin p (List.mem_append_right _ z)) fun z=>by
  obtain ⟨hb,e⟩:=SW z
  obtain ⟨f0,f1,f2,_⟩:=hf p.1 hb
  obtain ⟨o,e',d⟩:=ho p.1 hb
  rw [e] at e';cases e'
  exact ⟨e,f0,f1,f2,d⟩
theorem Inv.unpinned {pins pl:List (Addr×Obj)} {σ:St} {H:Hp} {s:Shared} (I:Inv X (pins++pl) σ H s):Inv X pins σ H s:=I.pins_of fun p hp=>I.pin p (List.mem_append_right _ (List.mem_append_left _ hp))
theorem HL {iter:Expr} {body:List Stmt} {wi:TI} {g:TG} {tb:TS} {pos:Pos} (hp:PassesOwn (model X.prog X.w) X.A X.env X.xe) (hc:X.calm=true) (hi:PI X tg iter wi) (hg:PG X tg g) (hb:PSs X body tb)
  (hs:∀ x,foldedSetIterable iter X.env x=pure x:=by intro _;rfl):PS X (.For tg iter body [] pos) (dJ wi g tb):=by
 walk_at "b72"
 refine wpAny_For (thn (hi pins s σ H _ I h) fun v s1 h1=>thn h1 fun itv s2 h2=> ?_) hs
 obtain ⟨it,fp,tn,J,H2,e,I2,T,st2,f2,W,⟨m0,w0⟩,turn⟩:=h2
 subst e
 have stat:∀ {H':Hp},(∀ b∈fp,H' b=none)→∀ b∈fp,FD X pins H' b:=fun hn b hb=>⟨hn b hb,(f2 b hb).2⟩
 refine codeAny_forLoop_any (fun n s'=>∃ i σ' H',Inv X pins σ' H' s'∧tn i s'.heap∧(∀ b∈fp,H' b=none)∧W i n σ' H') ?_ m0 ⟨0,σ,H2,I2,st2,fun b hb=>(f2 b hb).1,w0⟩
 rintro n s3 ⟨i,σ3,H3,I3,st3,fr3,w3⟩
 rcases turn i n σ3 H3 w3 with ⟨stop,qn⟩ | ⟨go,N,hN,step⟩
 ·refine wpAny_passesOwn hp (thn (T.done X rfl rfl rfl hc i pins s3 σ3 H3 X.xe I3 (stat fr3) st3 stop) fun r s4 ⟨hr,I4⟩=> ?_)
  subst hr
  exact wpAny_execs_nil ⟨σ3,H3,I4,qn⟩
 ·refine wpAny_passesOwn hp (thn (T.item X rfl rfl rfl hc i pins s3 σ3 H3 X.xe I3 (stat fr3) st3 go) fun r s4 ⟨u,hr,h4⟩=> ?_)
  subst hr
  refine wpAny_passesOwn hp (thn h4 fun _ s5 ⟨x,H5,I5,r5,y5,st5,fr5⟩=> ?_)
  have I5':=I5.pinned (stat fr5) (T.obj _ _ st5)
  refine wpAny_passesOwn hp (thn (hg _ s5 σ3 H5 x u _ I5' r5 (step x H5 y5)) fun _ s6 ⟨σ6,H6,I6,q6⟩=> ?_)
  refine wpAny_passesOwn hp (thn (hb _ s6 σ6 H6 _ I6 q6) fun f s7 q7=> ?_)
  have again:∀ {σ7:St} {H7:Hp},Inv X (pins++EZ fp s5.heap) σ7 H7 s7→N σ7 H7→∃ m,m<n∧∃ i σ' H',Inv X pins σ' H' s7∧tn i s7.heap∧(∀ b∈fp,H' b=none)∧W i m σ' H':=fun {σ7 H7} I7 n7=>by
   obtain ⟨m',hm,w7⟩:=hN σ7 H7 n7
   refine ⟨m',hm,i+1,σ7,H7,I7.unpinned,T.keep _ _ _ st5 fun b hb o e=>(I7.pin (b,o) (List.mem_append_right _ (List.mem_append_right _ (BS hb e)))).1,fun b hb=> ?_,w7⟩
   obtain ⟨o,e,d⟩:=T.obj _ _ st5 b hb
   exact (I7.pin (b,o) (List.mem_append_right _ (List.mem_append_right _ (BS hb e)))).2.1
  cases f with
  | next=>obtain ⟨σ7,H7,I7,n7⟩:=q7;exact again I7 n7
  | cont=>obtain ⟨σ7,H7,I7,n7⟩:=q7;exact again I7 n7
  | brk=>obtain ⟨σ7,H7,I7,q7⟩:=q7;exact ⟨σ7,H7,I7.unpinned,q7⟩
  | ret v=>obtain ⟨x7,σ7,H7,I7,r7,q7⟩:=q7;exact ⟨x7,σ7,H7,I7.unpinned,r7,q7⟩
end
theorem TQ {K:PySem.W.Frag} {a:Addr} {xs:List V} {g:TG} {tb:TS} {D:DW} {σ:St} {H:Hp} (Pv:Nat→St→Hp→Prop) (h0:Pv 0 σ H) (hl:∀ i σ H,i≤xs.length→Pv i σ H→SqL K H a xs)
  (hs:∀ i x σ H,xs[i]? =some x→Pv i σ H→g x σ H fun σ2 H2=>tb { D with nx:=Pv (i+1),ct:=Pv (i+1),bk:=D.nx } σ2 H2) (hd:∀ σ H,Pv xs.length σ H→D.nx σ H):
  ∃ W:Nat→Nat→St→Hp→Prop,(∃ m,W 0 m σ H)∧∀ i m σ H,W i m σ H→
   ((Itl K a).stop i H∧D.nx σ H)∨((Itl K a).go i H∧∃ N:St→Hp→Prop,(∀ σ' H',N σ' H'→∃ m',m'<m∧W (i+1) m' σ' H')∧∀ x H',(Itl K a).yld i H x H'→g x σ H' fun σ2 H2=>tb { D with nx:=N,ct:=N,bk:=D.nx } σ2 H2):=by
 walk_at "b19"
 rintro i m σ H ⟨rfl,hi,p⟩
 have q:=hl i σ H hi p
 by_cases hlt:i<xs.length
 ·refine .inr ⟨⟨xs,xs[i],q,by simp [hlt]⟩,Pv (i+1),fun σ' H' p'=>⟨xs.length - (i+1),by omega,rfl,hlt,p'⟩,fun x H' y=> ?_⟩
  obtain ⟨e,y⟩:=y
  subst e
  exact hs i x σ _ (y xs q) p
 ·have e:i=xs.length:=by omega
  subst e
  exact .inl ⟨⟨xs,q,Nat.le_refl _⟩,hd σ H p⟩
theorem XV {K:PySem.W.Frag} {a:Addr} {xs:List V} {g:TG} {tb:TS} {D:DW} {σ:St} {H:Hp} (Pv:Nat→St→Hp→Prop) (h0:Pv 0 σ H) (hl:∀ i σ H,i≤xs.length→Pv i σ H→SqT K H a xs)
  (hs:∀ i x σ H,xs[i]? =some x→Pv i σ H→g x σ H fun σ2 H2=>tb { D with nx:=Pv (i+1),ct:=Pv (i+1),bk:=D.nx } σ2 H2) (hd:∀ σ H,Pv xs.length σ H→D.nx σ H):
  ∃ W:Nat→Nat→St→Hp→Prop,(∃ m,W 0 m σ H)∧∀ i m σ H,W i m σ H→
   ((Itt K a).stop i H∧D.nx σ H)∨((Itt K a).go i H∧∃ N:St→Hp→Prop,(∀ σ' H',N σ' H'→∃ m',m'<m∧W (i+1) m' σ' H')∧∀ x H',(Itt K a).yld i H x H'→g x σ H' fun σ2 H2=>tb { D with nx:=N,ct:=N,bk:=D.nx } σ2 H2):=by
 walk_at "b19"
 rintro i m σ H ⟨rfl,hi,p⟩
 have q:=hl i σ H hi p
 by_cases hlt:i<xs.length
 ·refine .inr ⟨⟨xs,xs[i],q,by simp [hlt]⟩,Pv (i+1),fun σ' H' p'=>⟨xs.length - (i+1),by omega,rfl,hlt,p'⟩,fun x H' y=> ?_⟩
  obtain ⟨e,y⟩:=y
  subst e
  exact hs i x σ _ (y xs q) p
 ·have e:i=xs.length:=by omega
  subst e
  exact .inl ⟨⟨xs,q,Nat.le_refl _⟩,hd σ H p⟩
theorem RS {lo:Int} {n:Nat} {g:TG} {tb:TS} {D:DW} {σ:St} {H:Hp} (Pv:Nat→St→Hp→Prop) (h0:Pv 0 σ H)
  (hs:∀ i σ H,i<n→Pv i σ H→g (.int (lo+i)) σ H fun σ2 H2=>tb { D with nx:=Pv (i+1),ct:=Pv (i+1),bk:=D.nx } σ2 H2) (hd:∀ σ H,Pv n σ H→D.nx σ H):
  ∃ W:Nat→Nat→St→Hp→Prop,(∃ m,W 0 m σ H)∧∀ i m σ H,W i m σ H→
   ((Itr lo n).stop i H∧D.nx σ H)∨((Itr lo n).go i H∧∃ N:St→Hp→Prop,(∀ σ' H',N σ' H'→∃ m',m'<m∧W (i+1) m' σ' H')∧∀ x H',(Itr lo n).yld i H x H'→g x σ H' fun σ2 H2=>tb { D with nx:=N,ct:=N,bk:=D.nx } σ2 H2):=by
 refine ⟨fun i m σ H=>m=n - i∧i≤n∧Pv i σ H,⟨n,by simp,Nat.zero_le _,h0⟩,?_⟩
 rintro i m σ H ⟨rfl,hi,p⟩
 by_cases hlt:i<n
 ·refine .inr ⟨hlt,Pv (i+1),fun σ' H' p'=>⟨n - (i+1),by omega,rfl,hlt,p'⟩,fun x H' y=> ?_⟩
  obtain ⟨e,y⟩:=y
  subst e y
  exact hs i σ _ hlt p
 ·have e:i=n:=by omega
  subst e
  exact .inl ⟨Nat.le_refl _,hd σ H p⟩
abbrev R2:=V→V→Hp→VK→Prop
def OpR (X:Cx) (f:Value→Value→Sem Value) (r:R2):Prop:=
 ∀ (pins:List (Addr×Obj)) (s:Shared) (σ:St) (H:Hp) (x y:V) (v u:Value) (Q:VK),Inv X pins σ H s→AY x v→AY y u→r x y H Q→
  wpAny (model X.prog X.w) X.A (f v u) (EP X pins σ Q) X.xe s
def UnR (X:Cx) (f:Value→Sem Value) (r:V→Hp→VK→Prop):Prop:=
 ∀ (pins:List (Addr×Obj)) (s:Shared) (σ:St) (H:Hp) (x:V) (v:Value) (Q:VK),Inv X pins σ H s→AY x v→r x H Q→
  wpAny (model X.prog X.w) X.A (f v) (EP X pins σ Q) X.xe s
def DE (X:Cx) (f:Value) (r:List V→Hp→VK→Prop):Prop:=
 ∀ (pins:List (Addr×Obj)) (s:Shared) (σ:St) (H:Hp) (xs:List V) (us:List Value) (Q:VK),Inv X pins σ H s→AM xs us→r xs H Q→
  wpAny (model X.prog X.w) X.A (call f us) (EP X pins σ Q) X.xe s
def TruR (X:Cx) (r:V→Hp→(Bool→Hp→Prop)→Prop):Prop:=
 ∀ (pins:List (Addr×Obj)) (s:Shared) (σ:St) (H:Hp) (x:V) (v:Value) (Q:Bool→Hp→Prop),Inv X pins σ H s→AY x v→r x H Q→
  wpAny (model X.prog X.w) X.A (truthy v) (TP X pins σ Q) X.xe s
def tOp (r:R2) (ta tb:TE):TE:=fun σ H Q=>ta σ H fun x H1=>tb σ H1 fun y H2=>r x y H2 Q
def tUn (r:V→Hp→VK→Prop) (ta:TE):TE:=fun σ H Q=>ta σ H fun x H1=>r x H1 Q
def rI (C:Int→Int→Prop) (g:Int→Int→V):R2:=fun x y H Q=>∃ i j,x= .int i∧y= .int j∧C i j∧Q (g i j) H
def rI0 (g:Int→Int→V):R2:=fun x y H Q=>∃ i j,x= .int i∧y= .int j∧Q (g i j) H
def rU (g:Int→V):V→Hp→VK→Prop:=fun x H Q=>∃ i,x= .int i∧Q (g i) H
section
variable {X:Cx} {a b c:Expr} {ta tb tc:TE} {pos:Pos}
theorem bW (ha:PE X a ta) (hb:PE X b tb) {pins:List (Addr×Obj)} {s:Shared} {σ:St} {H:Hp} {R:V→V→Hp→Prop} (I:Inv X pins σ H s)
  (h:ta σ H fun x H1=>tb σ H1 fun y H2=>R x y H2) {Q:Value→Shared→Prop} {f:Value→Value→Sem Value}
  (hf:∀ v u s2 x y H2,Inv X pins σ H2 s2→AY x v→AY y u→R x y H2→wpAny (model X.prog X.w) X.A (f v u) Q X.xe s2):
  wpAny (model X.prog X.w) X.A (eval a X.env) (fun v s₁=>wpAny (model X.prog X.w) X.A (eval b X.env) (fun u s₂=>wpAny (model X.prog X.w) X.A (f v u) Q X.xe s₂) X.xe s₁) X.xe s:=by
 refine thn (ha pins s σ H _ I h) fun v s1 ⟨x,H1,I1,r1,q1⟩=> ?_
 refine thn (hb pins s1 σ H1 _ I1 q1) fun u s2 ⟨y,H2,I2,r2,q2⟩=> ?_
 exact hf v u s2 x y H2 I2 r1 r2 q2
theorem AK {op:Operator} {r:R2} (ho:OpR X (binaryOp op) r) (ha:PE X a ta) (hb:PE X b tb):PE X (.BinOp a op b pos) (tOp r ta tb):=by
 walk_at "b34"
 exact wpAny_BinOp (bW ha hb I h fun v u s2 x y H2 I2 rx ry q=>ho pins s2 σ H2 x y v u Q I2 rx ry q)
theorem UC {op:UnaryOp} {r:V→Hp→VK→Prop} (ho:UnR X (unaryOp op) r) (ha:PE X a ta):PE X (.UnaryOp op a pos) (tUn r ta):=by
 walk_at "b34"
 exact UnaryOp_ (thn (ha pins s σ H _ I h) fun v s1 ⟨x,H1,I1,r1,q1⟩=>ho pins s1 σ H1 x v Q I1 r1 q1)
theorem opI {f:Value→Value→Sem Value} {C:Int→Int→Prop} {g:Int→Int→Int}
  (rule:∀ (i j:Int) (t u:Tok) (s:Shared) (Q:Value→Shared→Prop) (E:Value→Shared→Prop),C i j→Q (.int (g i j) s.toks) { s with toks:=s.toks+1 }→wpAny (model X.prog X.w) X.A (f (.int i t) (.int j u)) Q E s):
  OpR X f (rI C fun i j=> .int (g i j)):=by
 walk_at "b71"
 obtain ⟨i,j,rfl,rfl,hc,q⟩:=h
 obtain ⟨t,rfl⟩:=rx
 obtain ⟨t',rfl⟩:=ry
 exact rule i j t t' s _ _ hc ⟨.int (g i j),H,I.tok _,⟨_,rfl⟩,q⟩
theorem eB {f:Value→Value→Sem Value} {g:Int→Int→Int}
  (rule:∀ (i j:Int) (t u:Tok) (s:Shared) (Q:Value→Shared→Prop) (E:Value→Shared→Prop),Q (.int (g i j) s.toks) { s with toks:=s.toks+1 }→wpAny (model X.prog X.w) X.A (f (.int i t) (.int j u)) Q E s):
  OpR X f (rI0 fun i j=> .int (g i j)):=by
 walk_at "b68"
 exact rule i j t t' s _ _ ⟨.int (g i j),H,I.tok _,⟨_,rfl⟩,q⟩
theorem YA {f:Value→Value→Sem Value} {g:Int→Int→Bool}
  (rule:∀ (i j:Int) (t u:Tok) (s:Shared) (Q:Value→Shared→Prop) (E:Value→Shared→Prop),Q (.bool (g i j)) s→wpAny (model X.prog X.w) X.A (f (.int i t) (.int j u)) Q E s):
  OpR X f (rI0 fun i j=> .bl (g i j)):=by
 walk_at "b68"
 exact rule i j t t' s _ _ ⟨.bl (g i j),H,I,rfl,q⟩
def dP (i j:Int):Prop:=0≤j∧j≤1000000∧i.natAbs<2 ^ 64
theorem cI:OpR X (binaryOp .Add) (rI0 fun i j=> .int (i+j)):=eB fun _ _ _ _ _ _ _ q=>add_int q
theorem aR:OpR X (binaryOp .Sub) (rI0 fun i j=> .int (i - j)):=eB fun _ _ _ _ _ _ _ q=>sub_int q
theorem aY:OpR X (binaryOp .Mod) (rI (fun _ j=>0<j) fun i j=> .int (i % j)):=opI fun i j _ _ _ _ _ hc q=>by
 have h1:(0:Int)<j:=hc
 exact mod_int' (by omega) (by rw [Int.fmod_eq_emod_of_nonneg i (by omega)];exact q)
theorem cG:OpR X (binaryOp .Pow) (rI dP fun i j=> .int (i ^ j.toNat)):=opI fun _ _ _ _ _ _ _ hc q=>pow_int_small hc.1 hc.2.1 hc.2.2 q
theorem unI {f:Value→Sem Value} {g:Int→Int}
  (rule:∀ (i:Int) (t:Tok) (s:Shared) (Q:Value→Shared→Prop) (E:Value→Shared→Prop),Q (.int (g i) s.toks) { s with toks:=s.toks+1 }→wpAny (model X.prog X.w) X.A (f (.int i t)) Q E s):
  UnR X f (rU fun i=> .int (g i)):=by
 intro pins s σ H x v Q I rx h
 obtain ⟨i,rfl,q⟩:=h
 obtain ⟨t,rfl⟩:=rx
 exact rule i t s _ _ ⟨.int (g i),H,I.tok _,⟨_,rfl⟩,q⟩
theorem bL:UnR X (unaryOp .USub) (rU fun i=> .int (-i)):=unI fun _ _ _ _ _ q=>neg_int q
end
def bZ:V→V→Bool
 | .non,.non=>true | .non,.int _=>true | .int _,.non=>true | .non,.bl _=>true | .bl _,.non=>true | .non,.str _=>true | .str _,.non=>true
 | .int _,.int _=>true | .bl _,.bl _=>true | .str _,.str _=>true | .byt _,.byt _=>true
 | .int _,.str _=>true | .str _,.int _=>true | .bl _,.str _=>true | .str _,.bl _=>true
 | _,_=>false
def rEq:R2:=fun x y H Q=>bZ x y=true∧Q (.bl (decide (x=y))) H
def rNe:R2:=fun x y H Q=>bZ x y=true∧Q (.bl (!decide (x=y))) H
theorem RI {i j:Int}:decide (V.int i=V.int j)=(i == j):=by
 rw [Bool.eq_iff_iff]
 simp
theorem UY {i j:Bool}:decide (V.bl i=V.bl j)=(i == j):=by
 rw [Bool.eq_iff_iff]
 simp
theorem RK {i j:Str}:decide (V.str i=V.str j)=(i == j):=by
 rw [Bool.eq_iff_iff]
 simp
theorem QF {i j:Array UInt8}:decide (V.byt i=V.byt j)=(i.toList == j.toList):=by
 rw [Bool.eq_iff_iff]
 cases i
 cases j
 simp
section
variable {X:Cx} {a b c:Expr} {ta tb tc:TE} {pos:Pos}
theorem AW {pins:List (Addr×Obj)} {σ:St} {H:Hp} {s:Shared} {Q:VK} {k k':Bool} (I:Inv X pins σ H s) (q:Q (.bl k) H) (e:k=k'):EP X pins σ Q (.bool k') s:=by
 subst e
 exact ⟨.bl k,H,I,rfl,q⟩
theorem dH:OpR X (compareOp .Eq) rEq:=by
 walk_at "b71"
 obtain ⟨hs,q⟩:=h
 cases x with
 | non=>
  cases rx
  cases y with
  | non=>cases ry;exact PySem.EqNone.eq_none_none (AW I q (by simp))
  | bl j=>cases ry;exact PySem.EqNone.eq_none_bool (AW I q (by simp))
  | int j=>obtain ⟨t',rfl⟩:=ry;exact PySem.EqNone.eq_none_int (AW I q (by simp))
  | str j=>obtain ⟨t',rfl⟩:=ry;exact PySem.EqNone.eq_none_str (AW I q (by simp))
  | _=>exact absurd (show false=true from hs) Bool.false_ne_true
 | bl i=>
  cases rx
  cases y with
  | non=>cases ry;exact PySem.EqNone.eq_bool_none (AW I q (by simp))
  | bl j=>cases ry;exact eq_bool (AW I q UY)
  | str j=>obtain ⟨t',rfl⟩:=ry;exact PySem.EqMixed.eq_bool_str (AW I q (by simp))
  | _=>exact absurd (show false=true from hs) Bool.false_ne_true
 | int i=>
  obtain ⟨t,rfl⟩:=rx
  cases y with
  | non=>cases ry;exact PySem.EqNone.eq_int_none (AW I q (by simp))
  | int j=>obtain ⟨t',rfl⟩:=ry;exact eq_int (AW I q RI)
  | str j=>obtain ⟨t',rfl⟩:=ry;exact PySem.EqMixed.eq_int_str (AW I q (by simp))
  | _=>exact absurd (show false=true from hs) Bool.false_ne_true
 | str i=>
  obtain ⟨t,rfl⟩:=rx
  cases y with
  | non=>cases ry;exact PySem.EqNone.eq_str_none (AW I q (by simp))
  | bl j=>cases ry;exact PySem.EqMixed.eq_str_bool (AW I q (by simp))
  | int j=>obtain ⟨t',rfl⟩:=ry;exact PySem.EqMixed.eq_str_int (AW I q (by simp))
  | str j=>obtain ⟨t',rfl⟩:=ry;exact eq_str (AW I q RK)
  | _=>exact absurd (show false=true from hs) Bool.false_ne_true
 | byt i=>
  obtain ⟨t,rfl⟩:=rx
  cases y with
  | byt j=>obtain ⟨t',rfl⟩:=ry;exact PySem.W.eq_bytes (AW I q QF)
  | _=>exact absurd (show false=true from hs) Bool.false_ne_true
 | _=>cases y<;> exact absurd (show false=true from hs) Bool.false_ne_true
theorem eZ:OpR X (compareOp .NotEq) rNe:=by
 walk_at "b71"
 obtain ⟨hs,q⟩:=h
 cases x with
 | non=>
  cases rx
  cases y with
  | non=>cases ry;exact PySem.EqNone.ne_none_none (AW I q (by simp))
  | bl j=>cases ry;exact PySem.EqNone.ne_none_bool (AW I q (by simp))
  | int j=>obtain ⟨t',rfl⟩:=ry;exact PySem.EqNone.ne_none_int (AW I q (by simp))
  | str j=>obtain ⟨t',rfl⟩:=ry;exact PySem.EqNone.ne_none_str (AW I q (by simp))
  | _=>exact absurd (show false=true from hs) Bool.false_ne_true
 | bl i=>
  cases rx
  cases y with
  | non=>cases ry;exact PySem.EqNone.ne_bool_none (AW I q (by simp))
  | bl j=>cases ry;exact ne_bool (AW I q (congrArg not UY))
  | str j=>obtain ⟨t',rfl⟩:=ry;exact PySem.EqMixed.ne_bool_str (AW I q (by simp))
  | _=>exact absurd (show false=true from hs) Bool.false_ne_true
 | int i=>
  obtain ⟨t,rfl⟩:=rx
  cases y with
  | non=>cases ry;exact PySem.EqNone.ne_int_none (AW I q (by simp))
  | int j=>obtain ⟨t',rfl⟩:=ry;exact ne_int (AW I q (congrArg not RI))
  | str j=>obtain ⟨t',rfl⟩:=ry;exact PySem.EqMixed.ne_int_str (AW I q (by simp))
  | _=>exact absurd (show false=true from hs) Bool.false_ne_true
 | str i=>
  obtain ⟨t,rfl⟩:=rx
  cases y with
  | non=>cases ry;exact PySem.EqNone.ne_str_none (AW I q (by simp))
  | bl j=>cases ry;exact PySem.EqMixed.ne_str_bool (AW I q (by simp))
  | int j=>obtain ⟨t',rfl⟩:=ry;exact PySem.EqMixed.ne_str_int (AW I q (by simp))
  | str j=>obtain ⟨t',rfl⟩:=ry;exact ne_str (AW I q (congrArg not RK))
  | _=>exact absurd (show false=true from hs) Bool.false_ne_true
 | byt i=>
  obtain ⟨t,rfl⟩:=rx
  cases y with
  | byt j=>obtain ⟨t',rfl⟩:=ry;exact PySem.W.ne_bytes (AW I q (congrArg not QF))
  | _=>exact absurd (show false=true from hs) Bool.false_ne_true
 | _=>cases y<;> exact absurd (show false=true from hs) Bool.false_ne_true
theorem eF:OpR X (compareOp .Lt) (rI0 fun i j=> .bl (decide (i<j))):=YA fun _ _ _ _ _ _ _ q=>lt_int q
theorem dX:OpR X (compareOp .LtE) (rI0 fun i j=> .bl (decide (i≤j))):=YA fun _ _ _ _ _ _ _ q=>le_int q
theorem eV:OpR X (compareOp .Gt) (rI0 fun i j=> .bl (decide (j<i))):=YA fun _ _ _ _ _ _ _ q=>gt_int q
theorem eT:OpR X (compareOp .GtE) (rI0 fun i j=> .bl (decide (j≤i))):=YA fun _ _ _ _ _ _ _ q=>ge_int q
theorem BI (b:Expr) {op:CmpOp} (h:op≠ .In:=by decide) (h2:op≠ .NotIn:=by decide):behindInMarks op b=false:=by
 have e1:(op == CmpOp.In)=false:=by cases op<;> first | rfl | exact absurd rfl h
 have e2:(op == CmpOp.NotIn)=false:=by cases op<;> first | rfl | exact absurd rfl h2
 cases b<;> simp [behindInMarks,e1,e2]
theorem GF {op:CmpOp} {r:R2} (ho:OpR X (compareOp op) r) (ha:PE X a ta) (hb:PE X b tb) (hm:behindInMarks op b=false):PE X (.Compare a [op] [b] pos) (tOp r ta tb):=by
 walk_at "b34"
 exact wpAny_Compare1 (bW ha hb I h fun v u s2 x y H2 I2 rx ry q=>ho pins s2 σ H2 x y v u Q I2 rx ry q) hm
def KS (t:TE):TT:=fun σ H Q=>t σ H fun x H'=>∃ k,x= .bl k∧Q k H'
theorem YI {op:CmpOp} {r:R2} (ho:OpR X (compareOp op) r) (ha:PE X a ta) (hb:PE X b tb) (hm:behindInMarks op b=false):PT X (.Compare a [op] [b] pos) (KS (tOp r ta tb)):=by
 walk_at "b34"
 refine wpAny_isTrue_Compare1 (thn (ha pins s σ H _ I h) fun v s1 ⟨x,H1,I1,r1,q1⟩=>thn (hb pins s1 σ H1 _ I1 q1) fun u s2 ⟨y,H2,I2,r2,q2⟩=>
  thn (ho pins s2 σ H2 x y v u _ I2 r1 r2 q2) fun c s3 ⟨z,H3,I3,r3,k,e,q3⟩=> ?_) hm
 subst e
 cases r3
 exact wpAny_truthy_bool ⟨H3,I3,q3⟩
def JD (r r':R2) (ta tb tc:TE):TE:=fun σ H Q=>ta σ H fun x H1=>tb σ H1 fun y H2=>r x y H2 fun z H3=>∃ k,z= .bl k∧
 (if k=true then tc σ H3 fun w' H4=>r' y w' H4 Q else Q (.bl false) H3)
theorem XC {op op':CmpOp} {r r':R2} (ho:OpR X (compareOp op) r) (ho':OpR X (compareOp op') r') (ha:PE X a ta) (hb:PE X b tb) (hc:PE X c tc)
  (hm:lastMarks [op,op'] [b,c]=false:=by with_unfolding_all rfl):PT X (.Compare a [op,op'] [b,c] pos) (KS (JD r r' ta tb tc)):=by
 walk_at "b34"
 refine isTrue_chain (thn (ha pins s σ H _ I h) fun v s1 ⟨x,H1,I1,r1,q1⟩=>test_link (thn (hb pins s1 σ H1 _ I1 q1) fun u s2 ⟨y,H2,I2,r2,q2⟩=>
  thn (ho pins s2 σ H2 x y v u _ I2 r1 r2 q2) fun d s3 ⟨z,H3,I3,r3,k,e,q3⟩=> ?_)) hm
 subst e
 cases r3
 refine wpAny_truthy_bool ?_
 cases k with
 | false=>
  obtain ⟨k',e',q'⟩:=q3
  cases e'
  exact ite_ff ⟨H3,I3,q'⟩
 | true=>
  refine ite_tt (test_last (thn (hc pins s3 σ H3 _ I3 q3) fun w' s4 ⟨z',H4,I4,r4,q4⟩=>thn (ho' pins s4 σ H4 y z' u w' _ I4 r2 r4 q4) fun d' s5 ⟨z2,H5,I5,r5,k2,e2,q5⟩=> ?_))
  subst e2
  cases r5
  exact wpAny_truthy_bool ⟨H5,I5,q5⟩
def dG (K:PySem.W.Frag) (x:V) (H:Hp) (k:Bool):Prop:=
 match x with
 | .non=>k=false
 | .bl b=>k=b
 | .int i=>k=(i != 0)
 | .str y=>y.length≤sizeLine∧k=((y.length:Int) != 0)
 | .byt y=>y.size≤sizeLine∧k=((y.size:Int) != 0)
 | .ref p=>(∃ xs,SqL K H p xs∧k= !xs.isEmpty)∨(∃ xs,SqT K H p xs∧k= !xs.isEmpty)∨∃ kvs,H p=some (.dK kvs)∧k= !kvs.isEmpty
 | _=>False
theorem OT {κ:Type} {kvs:List (κ×V)} {vs:List (κ×Value)} (r:KV kvs vs):(!vs.isEmpty)= !kvs.isEmpty:=by
 cases r<;> rfl
theorem JM {xs:List V} {its:List Value} (r:AM xs its):(!its.toArray.isEmpty)= !xs.isEmpty:=by
 cases r<;> simp
theorem LW:(sizeLine:Nat)<2 ^ 63:=by rw [sizeLine_eq];decide
theorem aX:TruR X (fun x H Q=>∃ k,dG X.K x H k∧Q k H):=by
 intro pins s σ H x v Q I rx h
 obtain ⟨k,e,q⟩:=h
 have hl:=LW
 have hs:sizeLine=16777216:=sizeLine_eq
 cases x with
 | non=>
  cases rx
  have e':k=false:=e
  subst e'
  exact truthy_none ⟨H,I,q⟩
 | bl b=>
  cases rx
  have e':k=b:=e
  subst e'
  exact wpAny_truthy_bool ⟨H,I,q⟩
 | int i=>
  obtain ⟨t,rfl⟩:=rx
  have e':k=(i != 0):=e
  subst e'
  exact PySem.P.truthy_int ⟨H,I,q⟩
 | str y=>
  obtain ⟨t,rfl⟩:=rx
  obtain ⟨hy,e'⟩:y.length≤sizeLine∧k=((y.length:Int) != 0):=e
  subst e'
  exact PySem.P.truthy_str (by omega) ⟨H,I.tok _,q⟩
 | byt y=>
  obtain ⟨t,rfl⟩:=rx
  obtain ⟨hy,e'⟩:y.size≤sizeLine∧k=((y.size:Int) != 0):=e
  subst e'
  exact PySem.W.truthy_bytes (by omega) ⟨H,I.tok _,q⟩
 | ref p=>
  cases rx
  have e':(∃ xs,SqL X.K H p xs∧k= !xs.isEmpty)∨(∃ xs,SqT X.K H p xs∧k= !xs.isEmpty)∨∃ kvs,H p=some (.dK kvs)∧k= !kvs.isEmpty:=e
  rcases e' with ⟨xs,hx,e'⟩ | ⟨xs,hx,e'⟩ | ⟨kvs,hx,e'⟩
  ·subst e'
   obtain ⟨its,r,pl,hz⟩:=I.list hx
   have hlen:=r.length
   exact wpAny_truthy_list pl.isList (by simp only [List.size_toArray];omega) ⟨H,I.tok _,by rw [JM r];exact q⟩
  ·subst e'
   obtain ⟨its,r,pl,hz⟩:=I.tuple hx
   have hlen:=r.length
   exact truthy_tuple pl (by simp only [List.size_toArray];omega) ⟨H,I.tok _,by rw [JM r];exact q⟩
  ·subst e'
   obtain ⟨hz,hS,vs,r,m⟩:kvs.length≤sizeLine∧(p == sysModules)=false∧∃ vs,KV kvs vs∧s.heap.DictOf (CM X.prog X.w) p vs:=I.hok p _ hx
   have hlen:kvs.length=vs.length:=Paired.length r
   exact wpAny_truthy_dict hS m (by omega) ⟨H,I.tok _,by rw [OT r];exact q⟩
 | _=>exact (show False from e).elim
theorem UH (ha:PE X a ta) (he:∀ whole,isTrue a X.env whole=(do let v ← whole;standAt a.pos;holding [v] (truthy v))):
  PT X a (fun σ H Q=>ta σ H fun x H'=>∃ k,dG X.K x H' k∧Q k H'):=by
 walk_at "b34"
 exact isTrue_plain (thn (ha pins s σ H _ I h) fun v s1 ⟨x,H1,I1,r1,q1⟩=>aX pins s1 σ H1 x v Q I1 r1 q1) (he _)
theorem RN {x:V} {us:List Value} (r:AM [x] us):∃ u,us=[u]∧AY x u:=by
 cases r with
 | cons r1 r2=>cases r2;exact ⟨_,rfl,r1⟩
end
structure cN (h:Heap) (x dx C:Addr) (mA:Str→Option Value):Prop where
 obj:h.get? x=some (PySem.W.instObj C dx)
 ns:h.Ns1 dx mA
 ne:dx≠x
theorem SJ {h:Heap} {dx:Addr} {mA:Str→Option Value} (n:h.Ns1 dx mA):∃ od,h.get? dx=some od∧∀ name,PySem.W.lookIn name od=some (mA name):=by
 obtain ⟨o,es,ep,ho,hd,hk,_,hm⟩:=n
 refine ⟨o,ho,fun name=> ?_⟩
 have e:=hm name
 unfold nsFind findBy at e
 rw [← Array.find?_toList] at e
 unfold PySem.W.lookIn
 rw [hd]
 dsimp only
 split
 ·rename_i y q
  rw [q] at e
  exact congrArg some e
 ·rename_i q
  rw [q] at e
  have a:es.toList.any (·.refKey)=false:=by
   rw [List.any_eq_false]
   intro y hy
   obtain ⟨z,t,hkey⟩:=hk y (Array.mem_toList_iff.mp hy)
   simp [DictEntry.refKey,hkey]
  have a':¬ es.toList.any (·.refKey)=true:=by rw [a];exact Bool.false_ne_true
  rw [if_neg a']
  exact congrArg some e
theorem cN.look {h:Heap} {x dx C:Addr} {mA:Str→Option Value} (I:cN h x dx C mA):∃ od,PySem.W.InstAt h x (PySem.W.instObj C dx) C (some od)∧∀ name,PySem.W.lookIn name od=some (mA name):=
 let ⟨od,ho,hl⟩:=SJ I.ns
 ⟨od,⟨I.obj,rfl,rfl,ho⟩,hl⟩
section
variable {prog:Program} {w:World} {A:Around} {E:Value→Shared→Prop} {s:Shared} {K:PySem.W.Frag} {x dx C f:Addr} {mA:Str→Option Value} {name:Str} {v:Value}
end
section
variable {P:Program} {w:World} {H H':Hp} {h h':Heap} {a C dx:Addr} {fs fs':List (Str×V)}
theorem XZ (hok:HOk P w H h) (e:H a=some (.ins C dx fs)):∃ mA,cN h a dx C mA∧(∀ f,cX (fs.lookup f) (mA f))∧PySem.Within mA (fs.map (·.1))∧fs.length≤1000∧H dx=some (.own a):=by
 obtain ⟨d,z,ne,ob,mA,n,r,q⟩:=(show BX P w H h a (.ins C dx fs) from hok a _ e)
 exact ⟨mA,⟨ob,n,ne⟩,r,q,z,d⟩
end
structure Cls (K:PySem.W.Frag) (C:Addr):Prop where
 pg:PySem.W.plainGet K C Str.empty=true
 hd:PySem.W.hasDictIn K C=true
 po:PySem.W.plainOver K C=true
 sa:PySem.W.findIn K (.ref C) "__setattr__"=some (some (.builtin "object.__setattr__"))
theorem Cls.get {K:PySem.W.Frag} {C:Addr} (c:Cls K C) (f:Str):PySem.W.plainGet K C f=true:=c.pg
structure Con (K:PySem.W.Frag) (C:Addr) (f:Str) (v:V) (u:Value):Prop where
 at_:PySem.W.findIn K (.ref C) f=some (some u)
 rel:AY v u
 get:PySem.W.specialIn K u "__get__"=some none
 cp:PySem.W.copiedNames.contains f=false
structure Meth (K:PySem.W.Frag) (C:Addr) (m:Str) (f:Addr):Prop where
 at_:PySem.W.findIn K (.ref C) m=some (some (.ref f))
 fn:PySem.W.isFn K (.ref f)=true
 kp:PySem.W.keepIn K (.ref f)=true
section
variable {X:Cx} {pins:List (Addr×Obj)} {σ:St} {H:Hp} {s:Shared} {a C dx:Addr} {fs:List (Str×V)} {f:Str} {v:V} {A:Around} {E:Value→Shared→Prop}
end
section
variable {X:Cx} {o e value:Expr} {f:Str} {pos pos' tpos:Pos} {ta tv:TE}
end
section
variable {X:Cx} {pins:List (Addr×Obj)} {σ:St} {H:Hp} {s:Shared} {A:Around} {E:Value→Shared→Prop} {Q:Value→Shared→Prop} {c:Value} {b:Bool}
inductive FU (K:PySem.W.Frag) (H:Hp):V→Value→Prop where
 | non:FU K H .non (.type "NoneType")
 | bl (x:Bool):FU K H (.bl x) (.type "bool")
 | int (i:Int):FU K H (.int i) (.type "int")
 | str (x:Str):FU K H (.str x) (.type "str")
 | flt (x:UInt64):FU K H (.flt x) (.type "float")
 | lst {a:Addr} {xs:List V} (e:H a=some (.lst xs)):FU K H (.ref a) (.type "list")
 | frz {a:Addr} {o:Obj} {xs:List V} (e:H a=some (.frz o (.lst xs))):FU K H (.ref a) (.type "list")
 | tup {a:Addr} {xs:List V} (e:H a=some (.tup xs)):FU K H (.ref a) (.type "tuple")
 | dK {a:Addr} {kvs:List (Key×V)} (e:H a=some (.dK kvs)):FU K H (.ref a) (.type "dict")
 | dT {a:Addr} {kvs:List (List Key×V)} (e:H a=some (.dT kvs)):FU K H (.ref a) (.type "dict")
 | ins {a C dx:Addr} {fs:List (Str×V)} (e:H a=some (.ins C dx fs)) (cl:Cls K C) (ha:PySem.W.findIn K (.ref C) "__class__"=some (some (.builtin "object.__class__")))
   (hn:PySem.W.specialIn K (.builtin "object.__class__") "__get__"=some (some (.builtin "getset_descriptor.__get__"))) (htk:PySem.W.takesIn K (.builtin "object.__class__")=some true)
   (hm:PySem.W.mroIn K C (.type "object")=some true):FU K H (.ref a) (.ref C)
theorem TD {x:V} {u t:Value} (I:Inv X pins σ H s) (rx:AY x u) (ty:FU X.K H x t) (e:PySem.W.kitOne X.K t c=some b) (h:∀ tk,Q (.bool b) { s with toks:=tk }):
  wpAny (model X.prog X.w) A (call (.builtin "isinstance") [u,c]) Q E s:=by
 cases ty with
 | non=>cases (show u=Value.none from rx);exact PySem.W.kia_one PySem.W.kitx_none I.kIn True.intro e (fun z=>nomatch z) h
 | bl y=>cases (show u=Value.bool y from rx);exact PySem.W.kia_one PySem.W.kitx_bool I.kIn True.intro e (fun z=>nomatch z) h
 | int i=>obtain ⟨t,q⟩:=(show ∃ t,u=Value.int i t from rx);cases q;exact PySem.W.kia_one PySem.W.kitx_int I.kIn True.intro e (fun z=>nomatch z) h
 | str y=>obtain ⟨t,q⟩:=(show ∃ t,u=Value.str y t from rx);cases q;exact PySem.W.kia_one PySem.W.kitx_str I.kIn True.intro e (fun z=>nomatch z) h
 | flt y=>obtain ⟨t,q⟩:=(show ∃ t,u=Value.float y t from rx);cases q;exact PySem.W.kia_one PySem.W.kitx_float I.kIn True.intro e (fun z=>nomatch z) h
 | @lst a xs ea=>
  walk_at "b70"
  obtain ⟨_,_,n,_,h1⟩:=(show BX X.prog X.w H s.heap a (.lst xs) from I.hok a _ ea)
  exact PySem.W.kia_one PySem.W.kitx_list I.kIn ⟨_,h1,rfl⟩ e (fun z=>nomatch z) h
 | @frz a ob xs ea=>
  walk_at "b70"
  obtain ⟨_,_,_,n,_,h1⟩:=(show BX X.prog X.w H s.heap a (.frz ob (.lst xs)) from I.hok a _ ea)
  exact PySem.W.kia_one PySem.W.kitx_list I.kIn ⟨_,h1,rfl⟩ e (fun z=>nomatch z) h
 | @tup a xs ea=>
  walk_at "b70"
  obtain ⟨_,_,_,p⟩:=(show BX X.prog X.w H s.heap a (.tup xs) from I.hok a _ ea)
  obtain ⟨o,h1,h2,_⟩:=p
  exact PySem.W.kia_one PySem.W.kitx_tuple I.kIn ⟨o,h1,h2⟩ e (fun z=>nomatch z) h
 | @dK a kvs ea=>
  walk_at "b70"
  obtain ⟨_,_,vs,_,p⟩:=(show BX X.prog X.w H s.heap a (.dK kvs) from I.hok a _ ea)
  obtain ⟨o,es,ep,h1,h2,_⟩:=p
  exact PySem.W.kia_one PySem.W.kitx_dict I.kIn ⟨o,h1,h2.1⟩ e (fun z=>nomatch z) h
 | @dT a kvs ea=>
  walk_at "b70"
  obtain ⟨_,_,xs,_,o,es,ep,h1,h2,_⟩:=(show BX X.prog X.w H s.heap a (.dT kvs) from I.hok a _ ea)
  exact PySem.W.kia_one PySem.W.kitx_dict I.kIn ⟨o,h1,h2.1⟩ e (fun z=>nomatch z) h
 | @ins a C dx fs ea cl ha hn htk hm=>
  walk_at "b70"
  obtain ⟨mA,O,_⟩:=XZ I.hok ea
  obtain ⟨od,J,_⟩:=O.look
  exact PySem.W.kia_one (PySem.W.kitx_own (cl.get _) cl.hd ha hn htk hm) I.kIn J e (fun z=>nomatch z) h
end
structure DY (k:Nat) (A:Around):Prop where
 hd:A.handled=none
 dp:A.depth+3 * k+5<recursionLimit
 un:A.units+16 * k+200<cLine
theorem DY.mono {j k:Nat} {A:Around} (r:DY k A) (h:j≤k):DY j A:=⟨r.hd,by have:=r.dp;omega,by have:=r.un;omega⟩
theorem DY.deeper {k:Nat} {A:Around} (r:DY (k+1) A) (env:Env):DY k (A.deeper env):=
 ⟨r.hd,by have:=r.dp;show A.depth+1+3 * k+5<_;omega,by have:=r.un;show A.units+3+16 * k+200<_;omega⟩
theorem DY.depth {k:Nat} {A:Around} (r:DY k A):A.depth<recursionLimit:=by have:=r.dp;omega
theorem DY.units {k:Nat} {A:Around} (r:DY k A):A.units+64<cLine:=by have:=r.un;omega
def WW:TA:=fun _ H Q=>Q [] H
def LK (ta:TE) (tr:TA):TA:=fun σ H Q=>ta σ H fun x H1=>tr σ H1 fun xs H2=>Q (x::xs) H2
section
variable {X:Cx} {e:Expr} {es:List Expr} {te:TE} {t:TA} {pos:Pos}
theorem AB:PA X [] WW:=fun _ _ _ _ H Q I h=>Calls.spliced_nil ⟨[],H,I,.nil,h⟩
theorem AA (ha:PE X e te) (hr:PA X es t) (hs:starEach (e::es) X.env=(false,eval e X.env)::starEach es X.env:=by rfl):PA X (e::es) (LK te t):=by
 intro pos pins s σ H Q I h
 rw [hs]
 show wpAny _ _ (spliced ((false,eval e X.env)::backTo pos (starEach es X.env))) _ _ s
 refine Calls.spliced_cons (thn (ha pins s σ H _ I h) fun u s1 ⟨x,H1,I1,r1,q1⟩=> ?_)
 exact thn (hr pos pins s1 σ H1 _ I1 q1) fun us s2 ⟨xs,H2,I2,r2,q2⟩=>⟨x::xs,H2,I2,.cons r1 r2,q2⟩
def WY (t:TA):TE:=fun σ H Q=>t σ H fun xs H1=>xs.length≤sizeLine∧∀ p,H1 p=none→Q (.ref p) (upd H1 p (.tup xs))
def UQ (t:TA):TE:=fun σ H Q=>t σ H fun xs H1=>xs.length≤sizeLine∧∀ p,H1 p=none→Q (.ref p) (upd H1 p (.lst xs))
theorem AI {x1} (h:PA X es t):PE X (.Tuple es x1 pos) (WY t):=by
 intro pins s σ H Q I hq
 refine wpAny_Tuple_spliced (thn (h pos pins s σ H _ I hq) fun us s1 ⟨xs,H1,I1,r,z,q⟩=>⟨by rw [← r.length];exact z,?_⟩)
 have hf:H1 s1.heap.objs.size=none:=I1.hok.fresh (Nat.le_refl _)
 refine ⟨.ref s1.heap.objs.size,upd H1 s1.heap.objs.size (.tup xs),I1.laid (t':=s1.toks) (fun b u e=>Heap.get?_push_of_some _ e) (Nat.le_refl _) ?_,rfl,q _ hf⟩
 exact ⟨z,us,r,⟨_,Heap.get?_push_size _ rfl,rfl,_,rfl⟩⟩
theorem EK (h:PA X es t):PE X (.List es pos) (UQ t):=by
 intro pins s σ H Q I hq
 refine wpAny_List_spliced (thn (h pos pins s σ H _ I hq) fun us s1 ⟨xs,H1,I1,r,z,q⟩=>⟨by rw [← r.length];exact z,?_⟩)
 have hf:H1 s1.heap.objs.size=none:=I1.hok.fresh (Nat.le_refl _)
 refine ⟨.ref s1.heap.objs.size,upd H1 s1.heap.objs.size (.lst xs),I1.laid (t':=s1.toks) (fun b u e=>Heap.get?_push_of_some _ e) (Nat.le_refl _) ?_,rfl,q _ hf⟩
 exact ⟨z,us,0,r,Heap.get?_push_size _ rfl⟩
end
abbrev Sp:=List V→Hp→VK→XK→Prop
abbrev CXT:=List Env→Hp→Shared→XK→Value→Shared→Prop
structure XU (P:Program) (w:World) (K:PySem.W.Frag) (mg:Str→Option Value) (base:Heap) (A:Around) (outer:List Env) (s:Shared) (H:Hp):Prop where
 frames:A.frames=some outer
 mod:Mod K mg base
 bs:∀ b o,base.get? b=some o→s.heap.get? b=some o∧H b=none
 bsz:base.objs.size≤s.heap.objs.size
 funs:s.heap.FunFrames base outer
 frf:∀ b∈frs outer,H b=none
 hok:HOk P w H s.heap
 bare:AllBare s.gens
def CE (outer:List Env) (P:Program) (w:World) (H:Hp) (s:Shared) (Q:VK) (u:Value) (s':Shared):Prop:=
 ∃ v H',s'.os=s.os∧AllBare s'.gens∧Un (frs outer) [] H H' s.heap s'.heap∧HOk P w H' s'.heap∧AY v u∧Q v H'
def CR (CX:CXT) (outer:List Env) (P:Program) (w:World) (H:Hp) (s:Shared) (Q:VK) (E:XK) (r:Result) (s':Shared):Prop:=
 match r with
 | .ok (.ret u)=>CE outer P w H s Q u s'
 | .ok _=>False
 | .error e=>CX outer H s E e s'
structure BR (P:Program) (w:World) (K:PySem.W.Frag) (mg:Str→Option Value) (base:Heap) (CX:CXT) (k:Nat) (f:Addr) (fd:FuncData) (ps:List Str) (sp:Sp):Prop where
 len:∀ vs H Q E,sp vs H Q E→vs.length=ps.length
 run:∀ (A:Around) (outer:List Env) (s:Shared) (H:Hp) (args:Args) (us:List Value) (vs:List V) (Q:VK) (E:XK),DY k A→XU P w K mg base A outer s H→BindsTo s fd args (ps.zip us)→AM vs us→sp vs H Q E→
  codeAny (model P w) A (.call (.ref f) args) (CR CX outer P w H s Q E) s
section
variable {X:Cx} {pins:List (Addr×Obj)} {σ:St} {H:Hp} {s s':Shared}
theorem Inv.env0 (I:Inv X pins σ H s):XU X.prog X.w X.K X.mg X.base X.A X.stack s H:=
 ⟨I.ok.frames,I.ok.mod,I.bs,Nat.le_trans I.ok.bsz I.sz,I.stack,I.stkFree,I.hok,I.bare⟩
theorem Inv.after {Q:VK} {u:Value} (I:Inv X pins σ H s) (h:CE X.stack X.prog X.w H s Q u s'):EP X pins σ Q u s':=by
 obtain ⟨v,H',os,bare,un,hok,r,q⟩:=h
 obtain ⟨hh,g,d,t,os'⟩:=s'
 obtain rfl:os'=s.os:=os
 exact ⟨v,H',I.call (h':=hh) (g':=g) (d':=d) (t':=t) (ch:=[]) un hok bare (fun b z=>absurd z (by simp)),r,q⟩
end
def NN (sp:Sp) (dvs:List V) (E:XK) (t:TA):TE:=fun σ H Q=>t σ H fun vs H1=>sp (vs++dvs) H1 Q E
def FQ (K:PySem.W.Frag) (fd:FuncData) (ps:List Str) (ds:List Value):Prop:=
 ∀ (s:Shared) (us:List Value),K.In s.heap→(us++ds).length=ps.length→BindsTo s fd ⟨us,[]⟩ (ps.zip (us++ds))
theorem FQ.all {K:PySem.W.Frag} {fd:FuncData} {ps:List Str} (h:∀ us:List Value,us.length=ps.length→bindArgs fd ⟨us,[]⟩=pure (ps.zip us)):FQ K fd ps []:=fun s us _ hl=>by
 rw [List.append_nil] at hl ⊢
 exact .of_eq (h us hl)
def IU (CX:CXT) (X:Cx) (E:XK):Prop:=∀ (pins:List (Addr×Obj)) (σ:St) (H:Hp) (s:Shared) (e:Value) (s':Shared),Inv X pins σ H s→CX X.stack H s E e s'→X.xe e s'
section
variable {X:Cx} {CX:CXT} {k:Nat} {f C:Addr} {fd:FuncData} {ps:List Str} {sp:Sp} {dvs:List V} {ds:List Value} {E:XK} {x m:Str} {p pos apos:Pos} {e o:Expr} {es:List Expr} {ta:TE} {t:TA}
theorem bC {pins:List (Addr×Obj)} {σ:St} {H:Hp} {s:Shared} {Q:VK} {us:List Value} {vs:List V} (F:BR X.prog X.w X.K X.mg X.base CX k f fd ps sp) (hr:DY k X.A) (hb:FQ X.K fd ps ds) (hd:AM dvs ds) (hx:IU CX X E)
  (I:Inv X pins σ H s) (r:AM vs us) (h:sp (vs++dvs) H Q E):wpAny (model X.prog X.w) X.A (call (.ref f) us) (EP X pins σ Q) X.xe s:=by
 walk_at "b24"
 cases r with
 | error e=>exact hx pins σ H s e s' I hq
 | ok fl=>
  cases fl with
  | ret u=>exact I.after hq
  | next=>exact False.elim hq
  | brk=>exact False.elim hq
  | cont=>exact False.elim hq
theorem AQ (F:BR X.prog X.w X.K X.mg X.base CX k f fd ps sp) (hr:DY k X.A) (hg:Gl X x) (hm:X.mg x=some (.ref f)) (hk:PySem.W.keepIn X.K (.ref f)=true) (hb:FQ X.K fd ps ds) (hd:AM dvs ds) (hx:IU CX X E)
  (ha:PA X (e::es) t) (hdb:(x == ("__debug__":Str))=false:=by decide) (he:starEach (e::es) X.env=(false,eval e X.env)::starEach es X.env:=by rfl) (hpl:(backTo pos (starEach es X.env)).any (·.1)=false:=by rfl):
  PE X (.Call (.Name x p) (e::es) [] pos) (NN sp dvs E t):=by
 walk_at "b34"
 refine wpAny_Call_Name_kw (FN I hg hm ?_ hdb)
 refine PySem.W.callWith_K (h₀:=X.base) I.ok.mod.kin hk (thn (ha pos pins s σ H _ I h) fun us s1 ⟨vs,H1,I1,r,q⟩=>⟨I1.kIn,?_⟩) he hpl
 exact bC F hr hb hd hx I1 r q
structure Mk (K:PySem.W.Frag) (C f:Addr):Prop where
 makes:PySem.W.makesIn K C=true
 init:PySem.W.findIn K (.ref C) "__init__"=some (some (.ref f))
 fn:PySem.W.isFn K (.ref f)=true
 kp:PySem.W.keepIn K (.ref C)=true
end
section
variable {X:Cx} {CX:CXT} {k:Nat} {f C:Addr} {fd:FuncData} {ps ks:List Str} {sp:Sp} {E:XK} {x m:Str} {p pos apos kpos:Pos} {e o:Expr} {es:List Expr} {kws:List Keyword} {te ta:TE} {t tk:TA} {nm:Option Str}
structure KBinds (K:PySem.W.Frag) (fd:FuncData) (ps ks:List Str) (g:List Value→List Value→List Value) (gV:List V→List V→List V):Prop where
 to:∀ (s:Shared) (us ws:List Value),K.In s.heap→(g us ws).length=ps.length→BindsTo s fd ⟨us,ks.zip ws⟩ (ps.zip (g us ws))
 rel:∀ {vs:List V} {us:List Value} {zs:List V} {ws:List Value},AM vs us→AM zs ws→AM (gV vs zs) (g us ws)
variable {g:List Value→List Value→List Value} {gV:List V→List V→List V}
end
structure AZ (N P:List Str) (sc:Scope):Prop where
 kind:sc.kind= .function
 co:sc.isCoroutine=false
 gen:sc.isGenerator=false
 nd:N.Nodup
 pre:N.take P.length=P
 par:∀ x∈P,sc.names.lookup x=some .local∨sc.names.lookup x=some .cell
 nofree:∀ y∈sc.names,y.2≠ .free
theorem LD {kindOf:Str→Option NameKind} {x:Str}:∀ {binds:List (Str×Value)} {m:Str→Option Value},(∀ v,(x,v)∉binds)→bindL kindOf binds m x=m x
 | [],_,_=>rfl
 | (n,v)::r,m,h=>by
  unfold bindL
  rw [LD fun w hw=>h w (List.mem_cons_of_mem _ hw)]
  split
  ·have:x≠n:=by rintro rfl;exact h v List.mem_cons_self
   simp [this]
  ·rfl
theorem LN {kindOf:Str→Option NameKind} {x:Str}:∀ {binds:List (Str×Value)} {m:Str→Option Value},(∀ v,(x,v)∉binds)→bindC kindOf binds m x=m x
 | [],_,_=>rfl
 | (n,v)::r,m,h=>by
  unfold bindC
  rw [LN fun w hw=>h w (List.mem_cons_of_mem _ hw)]
  split
  ·rfl
  ·have:x≠n:=by rintro rfl;exact h v List.mem_cons_self
   simp [this]
theorem KR {kindOf:Str→Option NameKind} {x:Str} {v:Value}:∀ {P:List Str} {vs:List Value} {i:Nat} {m:Str→Option Value},P.Nodup→P[i]? =some x→vs[i]? =some v→kindOf x=some .local→
  bindL kindOf (P.zip vs) m x=some v
 | [],_,_,_,_,h,_,_=>by simp at h
 | _::_,[],_,_,_,_,h,_=>by simp at h
 | p::P,w::vs,0,m,nd,h1,h2,hk=>by
  simp at h1 h2;subst h1;subst h2
  show bindL kindOf ((p,w)::P.zip vs) m p=_
  unfold bindL
  rw [LD fun v hv=>(List.nodup_cons.mp nd).1 (List.of_mem_zip hv).1,if_pos hk]
  simp
 | p::P,w::vs,i+1,m,nd,h1,h2,hk=>by
  show bindL kindOf ((p,w)::P.zip vs) m x=_
  unfold bindL
  exact KR (i:=i) (List.nodup_cons.mp nd).2 (by simpa using h1) (by simpa using h2) hk
theorem LH {kindOf:Str→Option NameKind} {x:Str} {v:Value}:∀ {P:List Str} {vs:List Value} {i:Nat} {m:Str→Option Value},P.Nodup→P[i]? =some x→vs[i]? =some v→kindOf x≠some .local→
  bindC kindOf (P.zip vs) m x=some v
 | [],_,_,_,_,h,_,_=>by simp at h
 | _::_,[],_,_,_,_,h,_=>by simp at h
 | p::P,w::vs,0,m,nd,h1,h2,hk=>by
  simp at h1 h2;subst h1;subst h2
  show bindC kindOf ((p,w)::P.zip vs) m p=_
  unfold bindC
  rw [LN fun v hv=>(List.nodup_cons.mp nd).1 (List.of_mem_zip hv).1,if_neg hk]
  simp
 | p::P,w::vs,i+1,m,nd,h1,h2,hk=>by
  show bindC kindOf ((p,w)::P.zip vs) m x=_
  unfold bindC
  exact LH (i:=i) (List.nodup_cons.mp nd).2 (by simpa using h1) (by simpa using h2) hk
def start (N:List Str) (vs:List V):St:=vs.map some++List.replicate (N.length - vs.length) none
def CQ (CX:CXT) (P:Program) (w:World) (K:PySem.W.Frag) (mg:Str→Option Value) (base:Heap) (N:List Str) (qual:Str) (scope:Scope) (f:Addr) (cd:Value) (A:Around) (outer:List Env) (s:Shared) (H:Hp) (E:XK):Cx where
 prog:=P
 w:=w
 K:=K
 mg:=mg
 base:=base
 A:=A.deeper (envOfC qual scope s.heap.objs.size f cd)
 N:=N
 s₀:=s
 H₀:=H
 env:=envOfC qual scope s.heap.objs.size f cd
 outer:=outer
 stack:=envOfC qual scope s.heap.objs.size f cd::outer
 ex:=[]
 calm:=true
 fn:=fun _=>true
 pn:=[]
 xe:=fun e s'=>wpAny (model P w) (A.deeper (envOfC qual scope s.heap.objs.size f cd)) (leaving (envOfC qual scope s.heap.objs.size f cd) e) (fun _ s''=>CX outer H s E e s'') (fun e' s''=>CX outer H s E e' s'') s'
theorem MU {sc:Scope} {n:Nat} {x:Str} (h:sc.names.lookup x=some .cell):∃ c,(cellsFrom n sc.names []).lookup x=some c:=by
 have q:=PySem.W.cellsFrom_some sc.names n [] (.inl h)
 exact Option.isSome_iff_exists.mp q
theorem SR {CX:CXT} {P:Program} {w:World} {K:PySem.W.Frag} {mg:Str→Option Value} {base:Heap} {N ps:List Str} {qual:Str} {scope:Scope} {f:Addr} {cd:Value} {A:Around} {outer:List Env} {s s1:Shared} {H:Hp} {E:XK} {us:List Value} {vs:List V}
  (S:AZ N ps scope) (hd:A.handled=none) (e0:XU P w K mg base A outer s H) (hl:vs.length=ps.length) (r:AM vs us)
  (x:InCallC s s.heap.objs.size (bindL (envOfC qual scope s.heap.objs.size f cd).kindOf (ps.zip us) fun _=>none) (cellsFrom (s.heap.objs.size+1) scope.names []) (bindC (envOfC qual scope s.heap.objs.size f cd).kindOf (ps.zip us) fun _=>none) s1):
  Inv (CQ CX P w K mg base N qual scope f cd A outer s H E) [] (start N vs) H s1:=by
 have hpl:ps.length≤N.length:=by have:=congrArg List.length S.pre;rw [List.length_take] at this;omega
 obtain ⟨h1,tk,rfl,hk⟩:=x.done
 have noA:∀ b:Addr,b∉(CQ CX P w K mg base N qual scope f cd A outer s H E).ex:=fun b z=>absurd (show b∈([]:List Addr) from z) (by simp)
 refine ⟨⟨e0.mod,S.kind,rfl,rfl,Nat.le_refl _,fun y z c h1 h2=> ?_,fun y hy=> ?_,fun y c _ h=> ?_,fun _=>hd,Around.frames_deeper e0.frames,.inr ⟨rfl,rfl⟩,fun b z=>absurd z (noA b),e0.bs,e0.bsz,fun b _ _=>noA b,fun b z=>absurd z (noA b),e0.funs,e0.frf⟩,
  rfl,e0.bare,Un.kept hk,⟨_,x.toInCall.ns,fun i y v h1 h2 h3=> ?_⟩,fun y c h=>⟨_,x.cell y c h⟩,e0.hok.fresh (Nat.le_refl _),fun y c h=> ?_,fun p hp=>absurd (show p∈([]:List (Addr×Obj)) from hp) (by simp),e0.hok.kept hk,?_⟩
 ·exact name_of_addr x.apart (PySem.mem_of_lookup h1) (PySem.mem_of_lookup h2)
 ·have hy:scope.names.lookup y=some .cell∨scope.names.lookup y=some .free:=hy
  rcases hy with hy | hy
  ·exact MU hy
  ·exact absurd rfl (S.nofree _ (PySem.mem_of_lookup hy))
 ·exact Nat.le_of_lt (x.above y c (PySem.mem_of_lookup h))
 ·have hi:i<vs.length:=by
   unfold start at h2
   by_cases hi:i<vs.length
   ·exact hi
   ·rw [List.getElem?_append_right (by simpa using hi)] at h2
    rw [List.getElem?_replicate] at h2
    split at h2<;> cases h2
  have ha:vs[i]? =some v:=by
   unfold start at h2
   rw [List.getElem?_append_left (by simpa using hi),List.getElem?_map] at h2
   cases e:vs[i]? with
   | none=>rw [e] at h2;cases h2
   | some a=>rw [e] at h2;cases h2;rfl
  obtain ⟨u,hu,rv⟩:=r.get ha
  have hp:ps[i]? =some y:=by
   rw [← S.pre,List.getElem?_take_of_lt (by omega)];exact h1
  have ndP:ps.Nodup:=by rw [← S.pre];exact S.nd.sublist (List.take_sublist _ _)
  refine ⟨u,rv,?_⟩
  rcases S.par y (List.mem_of_getElem? hp) with k | k
  ·exact .inl ⟨k,KR ndP hp hu k⟩
  ·obtain ⟨c,e⟩:=MU (n:=s.heap.objs.size+1) k
   refine .inr ⟨.inl k,c,e,?_⟩
   have q:=x.cell y c e
   rw [LH ndP hp hu (by show scope.names.lookup y≠_;rw [k];decide)] at q
   exact q
 ·exact e0.hok.fresh (Nat.le_of_lt (x.above y c (PySem.mem_of_lookup h)))
 ·unfold start
  show _=N.length
  rw [List.length_append,List.length_map,List.length_replicate]
  omega
theorem ZX {CX:CXT} {P:Program} {w:World} {K:PySem.W.Frag} {mg:Str→Option Value} {base:Heap} {k:Nat} {f:Addr} {name qual:Str} {params:Arguments} {body:List Stmt} {scope:Scope} {dV kV doc pm cdv ct oc:Value} {an od:Option Addr}
  {osl:Array (Option Value)} {N ps:List Str} {sp:Sp} (lk:K.lookup f=some ⟨oc,od,.func (PySem.W.fnOf name qual params body scope dV kV doc pm an cdv ct),osl⟩) (hcd:PySem.W.codeIn K cdv qual=true) (S:AZ N ps scope)
  (len:∀ vs H Q E,sp vs H Q E→vs.length=ps.length)
  (hbody:∀ (A:Around) (outer:List Env) (s:Shared) (H:Hp) (vs:List V) (Q:VK) (E:XK),DY k (A.deeper (envOfC qual scope s.heap.objs.size f cdv))→sp vs H Q E→
   ∃ t,PSs (CQ CX P w K mg base N qual scope f cdv A outer s H E) body t∧t { nx:=fun _ H'=>Q .non H',rt:=Q } (start N vs) H):
  BR P w K mg base CX (k+1) f (PySem.W.fnOf name qual params body scope dV kV doc pm an cdv ct) ps sp:=by
 refine ⟨len,fun A outer s H args us vs Q E hr e0 hb r hsp=> ?_⟩
 have hl:=len _ _ _ _ hsp
 have KX:K.In s.heap:=e0.mod.kin.keeps fun b o e=>(e0.bs b o e).1
 have lim:s.heap.NoLimit:=e0.mod.nolimit.keeps fun b o e=>(e0.bs b o e).1
 have hkind:∀ y∈ps.zip us,scope.names.lookup y.1=some .local∨(scope.names.lookup y.1=some .cell∧((cellsFrom (s.heap.objs.size+1) scope.names []).lookup y.1).isSome=true):=fun ⟨n,v⟩ hy=>by
  rcases S.par n (List.of_mem_zip hy).1 with q | q
  ·exact .inl q
  ·exact .inr ⟨q,PySem.W.cellsFrom_some _ _ _ (.inl q)⟩
 refine codeAny_call_function hr.depth (KX _ _ lk) rfl S.co S.gen rfl (PySem.W.codeRec_of KX hcd) (hb _ _ _ _ ?_)
 refine wpAny_newFunctionEnv_cells S.kind hkind fun env he s1 x=> ?_
 subst he
 refine ⟨lim.keeps x.toInCall.keep,codeAny_func ?_⟩
 obtain ⟨t,ht,hq⟩:=hbody A outer s H vs Q E (hr.deeper _) hsp
 have I:Inv (CQ CX P w K mg base N qual scope f cdv A outer s H E) [] (start N vs) H s1:=SR S hr.hd e0 hl r x
 refine wpAny_mono (ht [] s1 (start N vs) H _ I hq) (fun fl s' hs=> ?_) fun e s' hs=>hs
 have fin:∀ {σ':St} {H':Hp} {v:V} {u:Value},Inv (CQ CX P w K mg base N qual scope f cdv A outer s H E) [] σ' H' s'→AY v u→Q v H'→CE outer P w H s Q u s':=
  fun {σ' H' v u} J rv q=>⟨v,H',J.os,J.bare,J.base,J.hok,rv,q⟩
 cases fl with
 | ret u=>
  obtain ⟨v,σ',H',J,rv,q⟩:=hs
  exact fin J rv q
 | next=>
  obtain ⟨σ',H',J,q⟩:=hs
  exact fin (v:=V.non) (u:=Value.none) J rfl q
 | brk=>
  obtain ⟨_,_,_,q⟩:=hs
  exact False.elim q
 | cont=>
  obtain ⟨_,_,_,q⟩:=hs
  exact False.elim q
section
variable {X:Cx} {x:Str} {p pos:Pos} {e:Expr} {es:List Expr} {t:TA} {id T:String} {r:List V→Hp→VK→Prop}
def tCB (r:List V→Hp→VK→Prop) (t:TA):TE:=fun σ H Q=>t σ H fun vs H1=>r vs H1 Q
theorem BU (hc:DE X (.builtin id) r) (hg:Gl X x) (hm:X.mg x=none) (hv:bootBuiltins x=some (.builtin id)) (ha:PA X (e::es) t) (hn:x≠"__name__":=by decide) (hdb:(x == ("__debug__":Str))=false:=by decide)
  (he:starEach (e::es) X.env=(false,eval e X.env)::starEach es X.env:=by rfl) (hpl:(backTo pos (starEach es X.env)).any (·.1)=false:=by rfl):PE X (.Call (.Name x p) (e::es) [] pos) (tCB r t):=by
 walk_at "b34"
 refine wpAny_Call_Name_kw (EW I hg hm hv ?_ hn hdb)
 exact PyProof.Rows.callWith_builtin1 (thn (ha pos pins s σ H _ I h) fun us s1 ⟨vs,H1,I1,r1,q1⟩=>hc pins s1 σ H1 vs us Q I1 r1 q1) he hpl
theorem KQ (hc:DE X (.type T) r) (hg:Gl X x) (hm:X.mg x=none) (hv:bootBuiltins x=some (.type T)) (ha:PA X (e::es) t) (hn:x≠"__name__":=by decide) (hdb:(x == ("__debug__":Str))=false:=by decide)
  (he:starEach (e::es) X.env=(false,eval e X.env)::starEach es X.env:=by rfl) (hpl:(backTo pos (starEach es X.env)).any (·.1)=false:=by rfl):PE X (.Call (.Name x p) (e::es) [] pos) (tCB r t):=by
 walk_at "b34"
 refine wpAny_Call_Name_kw (EW I hg hm hv ?_ hn hdb)
 exact PyProof.Rows.callWith_type1 (thn (ha pos pins s σ H _ I h) fun us s1 ⟨vs,H1,I1,r1,q1⟩=>hc pins s1 σ H1 vs us Q I1 r1 q1) he hpl
end
end L2
namespace HT
open PySem PyProof.Rows
section
open PySem.SeqAt
open PySem.AutoSeq1 (wpAny_loadPart')
open PySem.MeetsSeq PySem.MeetsSeq2 PySem.MeetsSeq3
end
section
variable {prog:Program} {w:World} {A:Around} {E:Value→Shared→Prop} {s:Shared}
theorem cat_tup {t b:Addr} {vs ws:List Value} {Q:Value→Shared→Prop} (ht:IsTup s.heap t vs.toArray) (hb:IsTup s.heap b ws.toArray) (hv:vs≠[])
  (h1:ws=[]→Q (.ref t) s) (h2:ws≠[]→Q (.ref s.heap.objs.size) { s with heap:=s.heap.push { cls:= .type "tuple",data:= .seq (vs++ws).toArray } })
  (hsz:vs.length+ws.length≤sizeLine):wpAny (model prog w) A (binaryOp .Add (.ref t) (.ref b)) Q E s:=by
 walk_at "b48"
 have e:vs.toArray++ws.toArray=(vs++ws).toArray:=by simp
 by_cases hw:ws=[]
 ·exact concat_meets ⟨_,ho,rfl⟩ ⟨_,ho2,rfl⟩ noFill_tuple_add seq_tuple_add PySem.F.slot_tuple_add PySem.F.entry_tuple_add (PySem.F.args_tuple_add_2 _ _)
   (tuple_addW1 t b vs.toArray ws.toArray n n2 dd dd2 sl sl2 (by simpa using hv) (by simp [hw])) ⟨ho,ho2,h1 hw⟩
 ·refine concat_meets ⟨_,ho,rfl⟩ ⟨_,ho2,rfl⟩ noFill_tuple_add seq_tuple_add PySem.F.slot_tuple_add PySem.F.entry_tuple_add (PySem.F.args_tuple_add_2 _ _)
   (tuple_addW2 t b vs.toArray ws.toArray n n2 dd dd2 sl sl2 (by simpa using hv) (by simpa using hw) (by rw [List.size_toArray,List.size_toArray];exact hsz)) ⟨ho,ho2,?_⟩
  rw [e]
  exact h2 hw
def sIx (n d:Nat):Option Int→Nat
 | none=>d
 | some v=>if v<0 then (v+(n:Int)).toNat else min v.toNat n
theorem sIx_none (n d:Nat):sIx n d none=d:=rfl
theorem sIx_nat (n d k:Nat):sIx n d (some (k:Int))=min k n:=by
 show (if (k:Int)<0 then ((k:Int)+(n:Int)).toNat else min (k:Int).toNat n)=min k n
 rw [if_neg (by omega),Int.toNat_natCast]
theorem cU (n d:Nat) (hd:d≤n) (o:Option Int):sIx n d o≤n:=by
 cases o with
 | none=>exact hd
 | some v=>
  show (if v<0 then (v+(n:Int)).toNat else min v.toNat n)≤n
  by_cases hv:v<0
  ·rw [if_pos hv];omega
  ·rw [if_neg hv];exact Nat.min_le_right _ _
theorem RC (v:Int) (n d:Nat):(if v<0 then max (v+(n:Int)) 0 else min v (n:Int))=((sIx n d (some v):Nat):Int):=by
 show (if v<0 then max (v+(n:Int)) 0 else min v (n:Int))=(((if v<0 then (v+(n:Int)).toNat else min v.toNat n):Nat):Int)
 by_cases hv:v<0
 ·simp only [if_pos hv];omega
 ·simp only [if_neg hv];omega
theorem PB (lo hi:Option Int) (n:Nat):Builtin.Slice.sliceAdjust lo hi 1 (n:Int)=(((sIx n 0 lo:Nat):Int),((sIx n n hi:Nat):Int)):=by
 have h1:¬ ((1:Int)<0):=by omega
 unfold Builtin.Slice.sliceAdjust
 simp only [h1,if_false]
 refine Prod.ext ?_ ?_
 ·cases lo with
  | none=>rfl
  | some v=>exact RC v n 0
 ·cases hi with
  | none=>rfl
  | some v=>exact RC v n n
theorem QB (i j:Nat):Builtin.Slice.slicePlaces (i:Int) (j:Int) 1=j - i:=by
 unfold Builtin.Slice.slicePlaces
 have h1:(1:Int) > 0:=by omega
 simp only [h1,if_true,Int.ediv_one]
 split<;> omega
theorem JK {v:Value} {o:Option Int} {Q:Option Int→Shared→Prop} (p:IsPart v o) (h:Q o s):wpAny (model prog w) A (Builtin.Slice.slicePartIndex v) Q E s:=by
 cases p with
 | none=>exact slicePart_none h
 | int i t=>exact slicePart_int h
theorem sliceApplied_gen {sl:Addr} {vl vu:Value} {lo hi:Option Int} {n:Nat} {Q:Int×Int×Nat→Shared→Prop} (hs:s.heap.IsSliceOf sl vl vu .none) (pl:IsPart vl lo) (pu:IsPart vu hi)
  (h:Q (((sIx n 0 lo:Nat):Int),1,sIx n n hi - sIx n 0 lo) s):wpAny (model prog w) A (Builtin.Slice.sliceApplied (.ref sl) (pure (n:Int))) Q E s:=by
 obtain ⟨os,hos,hcs,hds⟩:=id hs
 unfold Builtin.Slice.sliceApplied Builtin.Slice.sliceFields
 refine wpAny_bind (wpAny_bind (wpAny_field hos hds (x:=vl) rfl (wpAny_bind (wpAny_field hos hds (x:=vu) rfl (wpAny_bind (wpAny_field hos hds (x:= .none) rfl (wpAny_pure ?_)))))))
 refine wpAny_bind (slicePart_none ?_)
 show wpAny _ _ (if ((1:Int) == 0)=true then _ else _) _ _ s
 rw [if_neg (by decide)]
 refine wpAny_bind (JK pl (wpAny_bind (JK pu (wpAny_bind (wpAny_pure ?_)))))
 show wpAny _ _ (match Builtin.Slice.sliceAdjust lo hi 1 (n:Int) with | (lo,hi)=>pure (lo,(1:Int),Builtin.Slice.slicePlaces lo hi 1)) _ _ s
 rw [PB lo hi n]
 show wpAny _ _ (pure (((sIx n 0 lo:Nat):Int),(1:Int),Builtin.Slice.slicePlaces ((sIx n 0 lo:Nat):Int) ((sIx n n hi:Nat):Int) 1)) _ _ s
 rw [QB]
 exact wpAny_pure h
theorem TW (xs:Array Value) (i k:Nat):((List.range k).filterMap fun (m:Nat)=>xs[((i:Int)+(m:Int) * 1).toNat]?).toArray=((xs.toList.drop i).take k).toArray:=by
 have e:(fun (m:Nat)=>xs[((i:Int)+(m:Int) * 1).toNat]?)=fun m=>xs[i+m]? :=by
  funext m
  have:((i:Int)+(m:Int) * 1).toNat=i+m:=by omega
  rw [this]
 rw [e]
 have:=pick_run xs i k
 rw [List.filterMap_map] at this
 have e2:((fun x=>xs[x]?) ∘ fun x=>i+x)=fun m=>xs[i+m]? :=rfl
 rw [e2] at this
 rw [this]
theorem getItem_tuple_cut {t sl:Addr} {items:Array Value} {vl vu:Value} {lo hi:Option Int} {Q:Value→Shared→Prop} (ht:IsTup s.heap t items) (hs:s.heap.IsSliceOf sl vl vu .none) (pl:IsPart vl lo) (pu:IsPart vu hi)
  (hw:¬ (sIx items.size 0 lo=0∧sIx items.size items.size hi=items.size))
  (h:Q (.ref s.heap.objs.size) { s with heap:=s.heap.push { cls:= .type "tuple",data:= .seq ((items.toList.drop (sIx items.size 0 lo)).take (sIx items.size items.size hi - sIx items.size 0 lo)).toArray } })
  (hsz:items.size≤sizeLine):wpAny (model prog w) A (getItem (.ref t) (.ref sl)) Q E s:=by
 have htake:sizeOk (.seq ((items.toList.drop (sIx items.size 0 lo)).take (sIx items.size items.size hi - sIx items.size 0 lo)).toArray):=by
  show ((items.toList.drop (sIx items.size 0 lo)).take (sIx items.size items.size hi - sIx items.size 0 lo)).toArray.size≤sizeLine
  rw [List.size_toArray,List.length_take,List.length_drop,Array.length_toList]
  omega
 have hj:sIx items.size items.size hi≤items.size:=cU _ _ (Nat.le_refl _) hi
 walk_at "b54"
 first | refine wpAny_bind (wpAny_pure ?_) | skip
 refine wpAny_bind (wpAny_sequenceKey ht.typeIs (by decide) ?_)
 refine wpAny_bind (wpAny_callSpecial?_slot (name:=Str.ofString "__getitem__") ht.typeIs PyProof.Rows.slot_tuple_getitem
  (wpAny_call_entry PyProof.Rows.slot_tuple_getitem ht.typeIs entry_tuple_getitem ?_ (args_tuple_getitem _ _)))
 walk_at "b46"
 refine wpAny_bind (sliceApplied_gen hs pl pu ?_)
 have hno:¬ ((((sIx items.size 0 lo:Nat):Int) == 0 && (1:Int) == 1 && (sIx items.size items.size hi - sIx items.size 0 lo) == items.size)=true):=by
  intro q
  rw [Bool.and_eq_true,Bool.and_eq_true] at q
  have q1:((sIx items.size 0 lo:Nat):Int)=0:=eq_of_beq q.1.1
  have q2:sIx items.size items.size hi - sIx items.size 0 lo=items.size:=eq_of_beq q.2
  exact hw ⟨by omega,by omega⟩
 show wpAny _ _ (if (((sIx items.size 0 lo:Nat):Int) == 0 && (1:Int) == 1 && (sIx items.size items.size hi - sIx items.size 0 lo) == items.size)=true then _ else _) _ _ s
 rw [if_neg hno,TW]
 first
  | exact wpAny_bind (m:=Builtin.Tuple.tupleExact _) (wpAny_newObj_type (wpAny_pure ⟨_,rfl,wpAny_pure h⟩) htake)
  | exact wpAny_bind (m:=Builtin.Tuple.tupleExact _) (wpAny_newObj_type (wpAny_bind (wpAny_pure (wpAny_pure ⟨_,rfl,wpAny_pure h⟩))) htake)
  | exact wpAny_bind (wpAny_bind (m:=Builtin.Tuple.tupleExact _) (wpAny_newObj_type (wpAny_pure (wpAny_pure ⟨_,rfl,wpAny_pure h⟩)) htake))
  | exact wpAny_bind (wpAny_bind (m:=Builtin.Tuple.tupleExact _) (wpAny_newObj_type (wpAny_pure ⟨_,rfl,wpAny_pure h⟩) htake))
end
end HT
namespace L2
open PySem PySem.Spec PyProof.Rows
abbrev TO:=St→Hp→(Option Int→Hp→Prop)→Prop
def PO (X:Cx) (e:Option Expr) (t:TO):Prop:=
 ∀ (pins:List (Addr×Obj)) (s:Shared) (σ:St) (H:Hp) (Q:Option Int→Hp→Prop),Inv X pins σ H s→t σ H Q→
  wpAny (model X.prog X.w) X.A (evalPart e X.env) (fun u s'=>∃ o H',Inv X pins σ H' s'∧IsPart u o∧Q o H') X.xe s
def GI:TO:=fun _ H Q=>Q none H
def OD (t:TE):TO:=fun σ H Q=>t σ H fun x H1=>∃ i,x= .int i∧Q (some i) H1
section
variable {X:Cx} {e:Expr} {te:TE} {lo hi:Option Expr} {tl th:TO} {pos p2:Pos}
theorem RL:PO X none GI:=by
 walk_at "b34"
 rw [evalPart_none]
 exact wpAny_pure ⟨none,H,I,.none,h⟩
theorem YW (h:PE X e te):PO X (some e) (OD te):=by
 intro pins s σ H Q I hw
 rw [evalPart_some]
 refine thn (h pins s σ H _ I hw) fun u s1 ⟨x,H1,I1,r1,q1⟩=> ?_
 obtain ⟨i,rfl,q⟩:=q1
 obtain ⟨t,rfl⟩:=r1
 exact ⟨some i,H1,I1,.int i t,q⟩
def SlR (X:Cx) (r:V→Option Int→Option Int→Hp→VK→Prop):Prop:=
 ∀ (pins:List (Addr×Obj)) (s:Shared) (σ:St) (H:Hp) (x:V) (v vl vu:Value) (lo hi:Option Int) (sl:Addr) (Q:VK),Inv X pins σ H s→AY x v→s.heap.IsSliceOf sl vl vu .none→IsPart vl lo→IsPart vu hi→r x lo hi H Q→
  ∃ T id,typeLookup (.type T) "__getitem__"=pure (some (.builtin id))∧s.TypeIs v T∧wpAny (model X.prog X.w) X.A (getItem v (.ref sl)) (EP X pins σ Q) X.xe s
def tSl (r:V→Option Int→Option Int→Hp→VK→Prop) (te:TE) (tl th:TO):TE:=fun σ H Q=>te σ H fun x H1=>tl σ H1 fun l H2=>th σ H2 fun u H3=>r x l u H3 Q
theorem EU {r:V→Option Int→Option Int→Hp→VK→Prop} (hr:SlR X r) (he:PE X e te) (hl:PO X lo tl) (hu:PO X hi th):PE X (.Subscript e (.Slice lo hi none p2) pos) (tSl r te tl th):=by
 walk_at "b34"
 refine Subscript_ (thn (he pins s σ H _ I h) fun v s1 ⟨x,H1,I1,r1,q1⟩=> ?_)
 refine wpAny_Slice (thn (hl pins s1 σ H1 _ I1 q1) fun vl s2 ⟨l,H2,I2,pl,q2⟩=>thn (hu pins s2 σ H2 _ I2 q2) fun vu s3 ⟨u,H3,I3,pu,q3⟩=> ?_)
 rw [evalPart_none]
 refine wpAny_pure ?_
 have I4:Inv X pins σ H3 { s3 with heap:=s3.heap.push { cls:= .type "slice",data:= .fields #[vl,vu,.none] } }:=I3.kept (t':=s3.toks) fun b ob q=>Heap.get?_push_of_some _ q
 obtain ⟨T,id,hT,ht,hg⟩:=hr pins { s3 with heap:=s3.heap.push { cls:= .type "slice",data:= .fields #[vl,vu,.none] } } σ H3 x v vl vu l u s3.heap.objs.size Q I4 r1 (Heap.IsSliceOf.new ..) pl pu q3
 show wpAny (model X.prog X.w) X.A (subscriptTail e (.Slice lo hi none p2) v (.ref s3.heap.objs.size)) (EP X pins σ Q) X.xe { s3 with heap:=s3.heap.push { cls:= .type "slice",data:= .fields #[vl,vu,.none] } }
 exact tail_any (ops:=[.ref s3.heap.objs.size,v]) ht hT hg (by with_unfolding_all rfl)
def ID (xs:List V) (lo hi:Option Int):List V:=(xs.drop (HT.sIx xs.length 0 lo)).take (HT.sIx xs.length xs.length hi - HT.sIx xs.length 0 lo)
theorem OC (xs:List V) (lo hi:Option Int):(ID xs lo hi).length≤xs.length:=by
 unfold ID
 rw [List.length_take,List.length_drop]
 omega
def VY (K:PySem.W.Frag):V→Option Int→Option Int→Hp→VK→Prop:=fun x lo hi H Q=>∃ a xs,x= .ref a∧SqT K H a xs∧
 ¬ (HT.sIx xs.length 0 lo=0∧HT.sIx xs.length xs.length hi=xs.length)∧∀ p,H p=none→Q (.ref p) (upd H p (.tup (ID xs lo hi)))
theorem bE:SlR X (VY X.K):=by
 intro pins s σ H x v vl vu lo hi sl Q I rx hs pl pu h
 obtain ⟨a,xs,rfl,hx,hw,q⟩:=h
 cases rx
 walk_at "b39"
 refine HT.getItem_tuple_cut ht hs pl pu (by rw [hlen];exact hw) ?_ (by rw [hlen];exact hz)
 rw [hlen]
 refine ⟨.ref s.heap.objs.size,_,I.laid (t':=s.toks) (o:= .tup (ID xs lo hi)) (fun b ob q=>Heap.get?_push_of_some _ q) (Nat.le_refl _) ?_,rfl,q _ (I.hok.fresh (Nat.le_refl _))⟩
 exact ⟨Nat.le_trans (OC xs lo hi) hz,_,(r.drop (HT.sIx xs.length 0 lo)).take (HT.sIx xs.length xs.length hi - HT.sIx xs.length 0 lo),IsTup.new _ _⟩
def NQ (K:PySem.W.Frag):R2:=fun x y H Q=>∃ a b xs ys,x= .ref a∧y= .ref b∧SqT K H a xs∧SqT K H b ys∧xs≠[]∧xs.length+ys.length≤sizeLine∧
 (ys=[]→Q (.ref a) H)∧(ys≠[]→∀ p,H p=none→Q (.ref p) (upd H p (.tup (xs++ys))))
theorem AM.nil_iff {xs:List V} {us:List Value} (r:AM xs us):us=[]↔xs=[]:=by
 cases r with
 | nil=>simp
 | cons _ _=>simp
theorem XQ:OpR X (binaryOp .Add) (NQ X.K):=by
 walk_at "b71"
 obtain ⟨a,b,xs,ys,rfl,rfl,ha,hb,hx,hz,q1,q2⟩:=h
 cases rx
 cases ry
 obtain ⟨its,r1,p1,_⟩:=I.tuple ha
 obtain ⟨its2,r2,p2,_⟩:=I.tuple hb
 refine HT.cat_tup p1 p2 (fun z=>hx (r1.nil_iff.mp z)) (fun z=>⟨.ref a,H,I,rfl,q1 (r2.nil_iff.mp z)⟩) (fun z=> ?_) (by rw [← r1.length,← r2.length];exact hz)
 refine ⟨.ref s.heap.objs.size,_,I.laid (t':=s.toks) (o:= .tup (xs++ys)) (fun b ob q=>Heap.get?_push_of_some _ q) (Nat.le_refl _) ?_,rfl,q2 (fun w=>z (r2.nil_iff.mpr w)) _ (I.hok.fresh (Nat.le_refl _))⟩
 exact ⟨by rw [List.length_append];exact hz,_,r1.append r2,IsTup.new _ _⟩
end
def ixN (n:Nat) (i:Int):Option Nat:=if 0≤i then (if i<n then some i.toNat else none) else if -(n:Int)≤i then some (i+n).toNat else none
def atI {α:Type} (xs:List α) (i:Int):Option α:=(ixN xs.length i).bind fun j=>xs[j]?
theorem YC {n:Nat} {i:Int} {j:Nat} (h:ixN n i=some j):seqIndex? i n=some j∧j<n∧ -(n:Int)≤i∧i<n:=by
 unfold ixN at h
 by_cases h0:0≤i
 ·rw [if_pos h0] at h
  by_cases h1:i<n
  ·rw [if_pos h1] at h
   have e:i.toNat=j:=Option.some.inj h
   exact ⟨by rw [seqIndex_of h0 h1,e],by omega,by omega,h1⟩
  ·rw [if_neg h1] at h;cases h
 ·rw [if_neg h0] at h
  by_cases h1: -(n:Int)≤i
  ·rw [if_pos h1] at h
   have e:(i+n).toNat=j:=Option.some.inj h
   exact ⟨by rw [seqIndex_neg (by omega) h1,e],by omega,h1,by omega⟩
  ·rw [if_neg h1] at h;cases h
theorem QS {α:Type} {xs:List α} {i:Int} {v:α} (h:atI xs i=some v):∃ j,seqIndex? i xs.length=some j∧xs[j]? =some v∧j<xs.length∧ -(xs.length:Int)≤i∧i<xs.length:=by
 unfold atI at h
 cases e:ixN xs.length i with
 | none=>rw [e] at h;cases h
 | some j=>
  rw [e] at h
  obtain ⟨h1,h2,h3,h4⟩:=YC e
  exact ⟨j,h1,h,h2,h3,h4⟩
theorem AS {α:Type} {xs:List α} {j:Nat} {v:α} (h:xs[j]? =some v):atI xs (j:Int)=some v:=by
 have hj:j<xs.length:=(List.getElem?_eq_some_iff.mp h).1
 have e:ixN xs.length (j:Int)=some j:=by
  unfold ixN
  rw [if_pos (by omega),if_pos (by omega)];simp
 unfold atI;rw [e];exact h
def ZK (b:Expr):Prop:=∀ o i,subscripted b false o i=operate [o,i] (getItem o i)
def IxR (X:Cx) (r:R2):Prop:=
 ∀ (value slice:Expr) (pins:List (Addr×Obj)) (s:Shared) (σ:St) (H:Hp) (x y:V) (v u:Value) (Q:VK),Inv X pins σ H s→AY x v→AY y u→r x y H Q→
  subscripted slice false v u=operate [v,u] (getItem v u)→wpAny (model X.prog X.w) X.A (subscriptTail value slice v u) (EP X pins σ Q) X.xe s
def MtR (X:Cx) (id:String) (r:V→List V→Hp→VK→Prop):Prop:=
 ∀ (pins:List (Addr×Obj)) (s:Shared) (σ:St) (H:Hp) (x:V) (xs:List V) (v:Value) (us:List Value) (Q:VK),Inv X pins σ H s→AY x v→AM xs us→r x xs H Q→
  wpAny (model X.prog X.w) X.A (call (.builtin id) (v::us)) (EP X pins σ Q) X.xe s
section
variable {X:Cx} {a b:Expr} {ta tb:TE} {pos:Pos}
theorem BC {r:R2} (hr:IxR X r) (ha:PE X a ta) (hb:PE X b tb) (hs:ZK b):PE X (.Subscript a b pos) (tOp r ta tb):=by
 walk_at "b34"
 exact Subscript_ (bW ha hb I h fun v u s2 x y H2 I2 rx ry q=>hr a b pins s2 σ H2 x y v u Q I2 rx ry q (hs _ _))
def VM (K:PySem.W.Frag):R2:=fun x y H Q=>∃ p xs i v,x= .ref p∧y= .int i∧SqL K H p xs∧atI xs i=some v∧Q v H
def WI (K:PySem.W.Frag):R2:=fun x y H Q=>∃ p xs i v,x= .ref p∧y= .int i∧SqT K H p xs∧atI xs i=some v∧Q v H
theorem YJ:IxR X (VM X.K):=by
 walk_at "b62"
 obtain ⟨its,r,pl,hz⟩:=I.list hq
 walk_at "b53"
 by_cases h0:0≤i
 ·have hj:i.toNat=j:=by
   rw [seqIndex_of h0 h5] at h1
   exact Option.some.inj h1
  exact item_listR pl.isList h0 (by omega) (by rw [hj];simpa using ew) fin hs
 ·have hj:(i+(its.toArray.size:Int)).toNat=j:=by
   rw [seqIndex_neg (by omega) h4] at h1
   rw [List.size_toArray,← hl]
   exact Option.some.inj h1
  exact subscriptTail_builtinR (x:=w) pl.isList.typeIs slot_list_getitem.lookup
   (wpAny_getItem_list_neg (Q:=fun r s'=>r=w∧EP X pins σ Q r s') pl.isList (by omega) (by rw [List.size_toArray]<;> omega) (by omega) (by rw [hj];simpa using ew) ⟨rfl,fin⟩) hs
theorem bH:IxR X (WI X.K):=by
 walk_at "b62"
 obtain ⟨its,r,pl,hz⟩:=I.tuple hq
 walk_at "b53"
 exact subscriptTail_builtinR (x:=w) pl.typeIs slot_tuple_getitem.lookup
  (getItem_tuple (j:=j) (Q:=fun r s'=>r=w∧EP X pins σ Q r s') pl (by omega) (by omega) (by rw [List.size_toArray,← hl];exact h1) (by simpa using ew) ⟨rfl,fin⟩) hs
theorem Inv.lst {pins:List (Addr×Obj)} {σ:St} {H:Hp} {s:Shared} {p:Addr} {xs:List V} (I:Inv X pins σ H s) (h:H p=some (.lst xs)):
  ∃ (its:List Value) (n:Nat),AM xs its∧s.heap.get? p=some { cls:= .type "list",data:= .seq its.toArray n }∧xs.length≤sizeLine:=by
 obtain ⟨z,its,n,r,e⟩:=I.hok p _ h
 exact ⟨its,n,r,e,z⟩
def LL:V→Bool
 | .non=>true
 | .bl _=>true
 | .int _=>true
 | .str _=>true
 | _=>false
def eqV:V→V→Bool
 | .non,.non=>true
 | .bl a,.bl b=>a == b
 | .bl a,.int b=>(if a then 1 else 0) == b
 | .int a,.bl b=>a == (if b then 1 else 0)
 | .int a,.int b=>a == b
 | .str a,.str b=>a == b
 | _,_=>false
theorem aW {A:Around} {s:Shared} {y x:V} {u v:Value} (ry:AY y u) (rx:AY x v) (fy:LL y=true) (fx:LL x=true):SeqAt.EqAt A s u v (eqV y x):=by
 cases y with
 | non=>
  cases ry
  cases x with
  | non=>cases rx;exact SeqAt.EqAt.same _
  | bl b=>cases rx;exact SeqAt.EqAt.none_bool b
  | int b=>obtain ⟨t,rfl⟩:=rx;exact SeqAt.EqAt.none_int b t
  | str b=>obtain ⟨t,rfl⟩:=rx;exact SeqAt.EqAt.none_str b t
  | _=>exact absurd (show false=true from fx) Bool.false_ne_true
 | bl a=>
  cases ry
  cases x with
  | non=>cases rx;exact SeqAt.EqAt.bool_none a
  | bl b=>cases rx;exact SeqAt.EqAt.bool_bool a b
  | int b=>obtain ⟨t,rfl⟩:=rx;exact SeqAt.EqAt.bool_int a b t
  | str b=>obtain ⟨t,rfl⟩:=rx;exact SeqAt.EqAt.bool_str a b t
  | _=>exact absurd (show false=true from fx) Bool.false_ne_true
 | int a=>
  obtain ⟨t',rfl⟩:=ry
  cases x with
  | non=>cases rx;exact SeqAt.EqAt.int_none a t'
  | bl b=>cases rx;exact SeqAt.EqAt.int_bool a t' b
  | int b=>obtain ⟨t,rfl⟩:=rx;exact SeqAt.EqAt.int_int a t' b t
  | str b=>obtain ⟨t,rfl⟩:=rx;exact SeqAt.EqAt.int_str a t' b t
  | _=>exact absurd (show false=true from fx) Bool.false_ne_true
 | str a=>
  obtain ⟨t',rfl⟩:=ry
  cases x with
  | non=>cases rx;exact SeqAt.EqAt.str_none a t'
  | bl b=>cases rx;exact SeqAt.EqAt.str_bool a t' b
  | int b=>obtain ⟨t,rfl⟩:=rx;exact SeqAt.EqAt.str_int a t' b t
  | str b=>obtain ⟨t,rfl⟩:=rx;exact SeqAt.EqAt.str_str a t' b t
  | _=>exact absurd (show false=true from fx) Bool.false_ne_true
 | _=>exact absurd (show false=true from fy) Bool.false_ne_true
def eqU (x:V) (u:Value):Bool:=match u with
 | .none=>eqV .non x
 | .bool b=>eqV (.bl b) x
 | .int i _=>eqV (.int i) x
 | .str z _=>eqV (.str z) x
 | _=>false
theorem bU {x y:V} {u:Value} (r:AY y u) (f:LL y=true):eqU x u=eqV y x:=by
 cases y with
 | non=>cases r;rfl
 | bl b=>cases r;rfl
 | int i=>obtain ⟨t,rfl⟩:=r;rfl
 | str z=>obtain ⟨t,rfl⟩:=r;rfl
 | _=>exact absurd (show false=true from f) Bool.false_ne_true
theorem ON {A:Around} {s:Shared} {x:V} {v:Value} (rx:AY x v) (fx:LL x=true):∀ {xs:List V} {us:List Value},AM xs us→xs.all LL=true→∀ u∈us,SeqAt.EqAt A s u v (eqU x u)
 | _,_,.nil,_=>fun u hu=>by cases hu
 | y::xs,u::us,.cons r t,f=>fun u' hu=>by
  rw [List.all_cons,Bool.and_eq_true] at f
  rcases List.mem_cons.mp hu with rfl | hu
  ·rw [bU r f.1];exact aW r rx f.1 fx
  ·exact ON rx fx t f.2 u' hu
theorem MF:DE X (.builtin "len") (fun xs H Q=>∃ p ys,xs=[.ref p]∧(SqL X.K H p ys∨SqT X.K H p ys)∧Q (.int ys.length) H):=by
 intro pins s σ H xs us Q I r h
 obtain ⟨p,ys,rfl,hq,q⟩:=h
 obtain ⟨u,rfl,rx⟩:=RN r
 cases rx
 have hn:=LW
 rcases hq with hq | hq
 ·obtain ⟨its,r',pl,hz⟩:=I.list hq
  have hlen:=r'.length
  exact Calls.call_len_list pl.isList (by simp only [List.size_toArray]<;> omega) ⟨.int ys.length,H,I.tok _,⟨s.toks+1,by rw [List.size_toArray,hlen]⟩,q⟩
 ·obtain ⟨its,r',pl,hz⟩:=I.tuple hq
  have hlen:=r'.length
  exact len_tuple pl (by simp only [List.size_toArray]<;> omega) ⟨.int ys.length,H,I.tok _,⟨s.toks+1,by rw [List.size_toArray,hlen]⟩,q⟩
theorem KJ:DE X (.type "tuple") (fun xs H Q=>∃ p ys,xs=[.ref p]∧((SqL X.K H p ys∧∀ l,H l=none→Q (.ref l) (upd H l (.tup ys)))∨(SqT X.K H p ys∧Q (.ref p) H))):=by
 intro pins s σ H xs us Q I r h
 obtain ⟨p,ys,rfl,h⟩:=h
 obtain ⟨u,rfl,rx⟩:=RN r
 cases rx
 rcases h with ⟨hq,q⟩ | ⟨hq,q⟩
 ·obtain ⟨its,r',pl,hz⟩:=I.list hq
  have hlen:=r'.length
  refine call_tuple_list pl.isList (fun h' kp=> ?_) (by simp only [List.size_toArray]<;> omega)
  have I1:Inv X pins σ H { s with heap:=h' }:=I.kept (t':=s.toks) kp
  have I2:Inv X pins σ (upd H h'.objs.size (.tup ys)) { s with heap:=h'.push { cls:= .type "tuple",data:= .seq its.toArray } }:=
   I1.laid (t':=s.toks) (fun b o e=>Heap.get?_push_of_some _ e) (Nat.le_refl _) (show BX X.prog X.w _ _ _ (.tup ys) from ⟨hz,its,r',IsTup.new _ _⟩)
  exact ⟨.ref h'.objs.size,_,I2,rfl,q _ (I1.hok.fresh (Nat.le_refl _))⟩
 ·obtain ⟨its,r',pl,hz⟩:=I.tuple hq
  exact call_tuple_same pl ⟨.ref p,H,I,rfl,q⟩
def tyV (K:PySem.W.Frag) (T:String) (x:V) (H:Hp):Prop:=match x with
 | .str _=>T="str"
 | .int _=>T="int"
 | .ref p=>(T="list"∧∃ xs,SqL K H p xs)∨(T="tuple"∧∃ o,K.lookup p=some o∧o.cls= .type "tuple"∧o.dict=none)∨
   (T="dict"∧((∃ kvs,H p=some (.dK kvs))∨∃ kvs,H p=some (.dT kvs)))∨(T="set"∧∃ S n,H p=some (.set S n))
 | _=>False
theorem UI {pins:List (Addr×Obj)} {σ:St} {H:Hp} {s:Shared} {T:String} {x:V} {v:Value} (I:Inv X pins σ H s) (r:AY x v) (ty:tyV X.K T x H):
  s.TypeIs v T∧∀ a,v= .ref a→∃ ob,s.heap.get? a=some ob∧ob.dict=none:=by
 cases x with
 | str z=>
  obtain ⟨t,rfl⟩:=r
  cases (show T="str" from ty)
  exact ⟨typeIs_str s z t,fun _ e=>nomatch e⟩
 | int i=>
  obtain ⟨t,rfl⟩:=r
  cases (show T="int" from ty)
  exact ⟨typeIs_int s i t,fun _ e=>nomatch e⟩
 | ref p=>
  cases r
  rcases ty with ⟨rfl,xs,hq⟩ | ⟨rfl,o,hk,hc,hd⟩ | ⟨rfl,hk⟩ | ⟨rfl,S,n,hk⟩
  ·obtain ⟨its,_,pl,_⟩:=I.list hq
   refine ⟨pl.isList.typeIs,fun a e=> ?_⟩
   cases e
   obtain ⟨o,n,e,c,hd,_⟩:=pl
   exact ⟨o,e,hd⟩
  ·refine ⟨⟨o,I.kIn p o hk,hc⟩,fun a e=> ?_⟩
   cases e
   exact ⟨o,I.kIn _ o hk,hd⟩
  ·have z:∃ o,s.heap.get? p=some o∧o.ExactDict:=by
    rcases hk with ⟨kvs,hk⟩ | ⟨kvs,hk⟩
    ·obtain ⟨_,_,_,_,o,_,_,e,ex,_⟩:=I.hok p _ hk
     exact ⟨o,e,ex⟩
    ·obtain ⟨_,_,_,_,o,_,_,e,ex,_⟩:=I.hok p _ hk
     exact ⟨o,e,ex⟩
   obtain ⟨o,e,ex⟩:=z
   refine ⟨⟨o,e,ex.1⟩,fun a e2=> ?_⟩
   cases e2
   exact ⟨o,e,ex.2.1⟩
  ·obtain ⟨o,_,_,_,e,ex,_⟩:=I.hok p _ hk
   refine ⟨⟨o,e,ex.1⟩,fun a e2=> ?_⟩
   cases e2
   exact ⟨o,e,ex.2.1⟩
 | _=>exact False.elim ty
def VI (K:PySem.W.Frag) (T:String) (r:V→List V→Hp→VK→Prop) (to:TE):TE:=fun σ H Q=>to σ H fun x H1=>tyV K T x H1∧r x [] H1 Q
def tBM (K:PySem.W.Frag) (T:String) (r:V→List V→Hp→VK→Prop) (to:TE) (t:TA):TE:=fun σ H Q=>to σ H fun x H1=>tyV K T x H1∧t σ H1 fun xs H2=>r x xs H2 Q
variable {o e:Expr} {es:List Expr} {to:TE} {t:TA} {name:Str} {apos cpos:Pos} {T id:String} {r:V→List V→Hp→VK→Prop}
theorem cA (pa:PlainAttrs T) (slot:Slot T name id) (hty:typeOf (.builtin id)=pure (.type "method_descriptor")) (hm:MtR X id r) (ho:PE X o to)
  (hbase:attributeBase o name X.env (eval o X.env)=eval o X.env:=by rfl) (hline:(apos.endLine == cpos.line)=true:=by rfl):PE X (.Call (.Attribute o name apos) [] [] cpos) (VI X.K T r to):=by
 walk_at "b34"
 refine wpAny_Call_method0_late hbase hline (thn (ho pins s σ H _ I h) fun v s1 ⟨x,H1,I1,r1,ty,q1⟩=> ?_)
 obtain ⟨h1,h2⟩:=UI I1 r1 ty
 exact ⟨T,id,pa,slot,hty,h1,h2,Calls.callWith_builtin rfl (PySem.evalArgs_none (hm pins s1 σ H1 x [] v [] Q I1 r1 .nil q1))⟩
theorem KW (pa:PlainAttrs T) (slot:Slot T name id) (hty:typeOf (.builtin id)=pure (.type "method_descriptor")) (hm:MtR X id r) (ho:PE X o to) (ha:PA X (e::es) t)
  (hbase:attributeBase o name X.env (eval o X.env)=eval o X.env:=by rfl)
  (hfew:((backTo cpos (starEach (e::es) X.env)).all (fun x=> !x.1) && (backToKw cpos (keywordEach [] X.env)).all (fun x=>x.1.isSome)
   && decide ((e::es).length+([]:List Keyword).length+(if ([]:List Keyword).isEmpty then 0 else 1)<30))=true:=by rfl)
  (hline:(apos.endLine == cpos.line)=true:=by rfl) (hs:starEach (e::es) X.env=(false,eval e X.env)::starEach es X.env:=by rfl) (hplain:(backTo cpos (starEach es X.env)).any (·.1)=false:=by rfl):
  PE X (.Call (.Attribute o name apos) (e::es) [] cpos) (tBM X.K T r to t):=by
 walk_at "b34"
 refine wpAny_Call_method_late hbase hfew hline rfl (thn (ho pins s σ H _ I h) fun v s1 ⟨x,H1,I1,r1,ty,q1⟩=> ?_)
 obtain ⟨h1,h2⟩:=UI I1 r1 ty
 refine ⟨T,id,pa,slot,hty,h1,h2,?_⟩
 have hA:=ha cpos pins s1 σ H1 _ I1 q1
 rw [hs] at hA ⊢
 refine Calls.callWith_builtin (by show (false || (backTo cpos (starEach es X.env)).any (·.1))=false;rw [hplain]<;> rfl) (Calls.evalArgs_plain ?_)
 exact thn hA fun us s2 ⟨vs,H2,I2,r2,q2⟩=>hm pins s2 σ H2 x vs v us Q I2 r1 r2 q2
end
def MtM (X:Cx) (id:String) (r:V→List V→Hp→VK→Prop):Prop:=
 ∀ (pins:List (Addr×Obj)) (s:Shared) (σ:St) (H:Hp) (x:V) (xs:List V) (v:Value) (us:List Value) (Q:VK),Inv X pins σ H s→AY x v→AM xs us→r x xs H Q→
  wpAny (model X.prog X.w) X.A (call (.builtin id) (v::us)) (EP X pins σ Q) X.xe s
theorem AM.one:∀ {x:V} {us:List Value},AM [x] us→∃ u,us=[u]∧AY x u
 | _,_,.cons r .nil=>⟨_,rfl,r⟩
theorem unP {α β:Type} {R:α→β→Prop} {x:α} {xs:List α} {us:List β} (h:Paired R (x::xs) us):∃ u vs,us=u::vs∧R x u∧Paired R xs vs:=by
 cases h with
 | cons r h=>exact ⟨_,_,rfl,r,h⟩
theorem unP0 {α β:Type} {R:α→β→Prop} {us:List β} (h:Paired R [] us):us=[]:=by
 cases h;rfl
theorem AM.two {x y:V} {us:List Value} (h:AM [x,y] us):∃ u v,us=[u,v]∧AY x u∧AY y v:=by
 obtain ⟨u,vs,rfl,r,h⟩:=unP h
 obtain ⟨v,vs,rfl,q,h⟩:=unP h
 obtain rfl:=unP0 h
 exact ⟨_,_,rfl,r,q⟩
theorem AM.zero:∀ {us:List Value},AM [] us→us=[]
 | _,.nil=>rfl
theorem AM.dropLast {xs:List V} {us:List Value} (h:AM xs us):AM xs.dropLast us.dropLast:=by
 induction h with
 | nil=>exact .nil
 | cons r t ih=>
  cases t with
  | nil=>exact .nil
  | cons q t'=>exact .cons r ih
theorem AM.rep {xs:List V} {us:List Value} (h:AM xs us):∀ k:Nat,AM (List.replicate k xs).flatten (List.replicate k us).flatten
 | 0=> .nil
 | k+1=>by
  rw [List.replicate_succ,List.replicate_succ,List.flatten_cons,List.flatten_cons]
  exact AM.append h (AM.rep h k)
theorem OY {α:Type} (l:List α):l.eraseIdx (l.length - 1)=l.dropLast:=by
 induction l with
 | nil=>rfl
 | cons a r ih=>
  cases r with
  | nil=>rfl
  | cons b r=>
   have e:(a::b::r).length - 1=((b::r).length - 1)+1:=by
    have h1:(a::b::r).length=r.length+2:=rfl
    have h2:(b::r).length=r.length+1:=rfl
    omega
   rw [e,List.eraseIdx_cons_succ,ih]
   all_goals rfl
theorem HC (its:List Value):∀ (k:Nat) (acc:List Value),
  List.foldl (fun x1 x2=>x1++x2) acc.toArray (List.replicate k its.toArray)=(acc++(List.replicate k its).flatten).toArray
 | 0,acc=>by simp
 | k+1,acc=>by
  have e:acc.toArray++its.toArray=(acc++its).toArray:=by simp
  have e2:(acc++its)++(List.replicate k its).flatten=acc++(List.replicate (k+1) its).flatten:=by
   rw [List.replicate_succ,List.flatten_cons,List.append_assoc]
  rw [← e2,← HC its k (acc++its),← e,List.replicate_succ,List.foldl_cons]
section
variable {X:Cx} {pins:List (Addr×Obj)} {σ:St} {H:Hp} {s:Shared} {l b:Addr} {xs ys zs:List V}
theorem Inv.lset {its its':List Value} {n:Nat} {f:Array Value→Array Value} {t':Nat} (I:Inv X pins σ H s) (hH:H l=some (.lst xs))
  (e:s.heap.get? l=some { cls:= .type "list",data:= .seq its.toArray n }) (hf:f its.toArray=its'.toArray) (hv:AM ys its') (hz:ys.length≤sizeLine):
  Inv X pins σ (upd H l (.lst ys)) { s with heap:=s.heap.update l (Obj.mapSeq f),toks:=t' }:=by
 have q:=PySem.IsL.update e f
 rw [hf] at q
 refine I.write (x:=l) (e:=l) (by rw [hH];exact trivial) (.inl rfl) (fun b' u hb hu=>(Heap.get?_update_other s.heap (Obj.mapSeq f) (Ne.symm hb)).trans hu) ⟨_,q⟩ ?_
 exact ⟨hz,its',_,hv,q⟩
theorem Inv.lnew {its:List Value} {t':Nat} (I:Inv X pins σ H s) (hv:AM ys its) (hz:ys.length≤sizeLine):
  Inv X pins σ (upd H s.heap.objs.size (.lst ys)) { s with heap:=s.heap.push { cls:= .type "list",data:= .seq its.toArray },toks:=t' }:=
 I.laid (fun _ _ q=>Heap.get?_push_of_some _ q) (Nat.le_refl _) ⟨hz,its,0,hv,Heap.get?_push_size _ rfl⟩
theorem Inv.fresh (I:Inv X pins σ H s):H s.heap.objs.size=none:=I.hok.fresh (Nat.le_refl _)
theorem Inv.lstM (I:Inv X pins σ H s) (hH:H l=some (.lst xs)):xs.length≤sizeLine∧∃ (its:List Value) (n:Nat),AM xs its∧xs.length=its.length∧s.heap.get? l=some { cls:= .type "list",data:= .seq its.toArray n }:=by
 obtain ⟨z,its,n,r,e⟩:=I.hok l _ hH
 exact ⟨z,its,n,r,r.length,e⟩
theorem WP {n:Nat} (h:n≤sizeLine):Builtin.List.listTooLong n=false:=by
 unfold Builtin.List.listTooLong
 exact decide_eq_false (by omega)
end
section
variable {X:Cx}
def GJ:V→List V→Hp→VK→Prop:=fun x vs H Q=>∃ l xs y,x= .ref l∧vs=[y]∧H l=some (.lst xs)∧xs.length<sizeLine∧Q .non (upd H l (.lst (xs++[y])))
theorem EF:MtM X "list.append" GJ:=by
 intro pins s σ H x vs v us Q I rx rv h
 obtain ⟨l,xs,y,rfl,rfl,hH,hz,q⟩:=h
 cases rx
 obtain ⟨u,rfl,ru⟩:=rv.one
 obtain ⟨z,its,n,r,hl,e⟩:=I.lstM hH
 refine call_meets F.slot_list_append ⟨_,e,rfl⟩ F.entry_list_append (F.args_list_append_2 _ _) (PySem.list_append l its.toArray n u (by rw [List.size_toArray];omega)) ⟨e,?_⟩
 refine ⟨.non,_,I.lset (its':=its++[u]) hH e (by simp) (r.append (.cons ru .nil)) ?_,rfl,q⟩
 rw [List.length_append,List.length_singleton]
 omega
def GW:V→List V→Hp→VK→Prop:=fun x vs H Q=>∃ l b xs zs,x= .ref l∧vs=[.ref b]∧H l=some (.lst xs)∧H b=some (.lst zs)∧xs.length+zs.length≤sizeLine∧Q .non (upd H l (.lst (xs++zs)))
theorem SF:MtM X "list.extend" GW:=by
 intro pins s σ H x vs v us Q I rx rv h
 obtain ⟨l,b,xs,zs,rfl,rfl,hH,hB,hz,q⟩:=h
 cases rx
 obtain ⟨u,rfl,ru⟩:=rv.one
 cases ru
 obtain ⟨z,its,n,r,hl,e⟩:=I.lstM hH
 obtain ⟨z2,its2,n2,r2,hl2,e2⟩:=I.lstM hB
 have hsz:its.toArray.size+its2.toArray.size≤sizeLine:=by rw [List.size_toArray,List.size_toArray];omega
 have hlong:¬ (!its.toArray.isEmpty && Builtin.List.listTooLong (its.toArray.size+its2.toArray.size))=true:=by
  rw [WP hsz,Bool.and_false]
  exact Bool.false_ne_true
 refine call_meets F.slot_list_extend ⟨_,e,rfl⟩ F.entry_list_extend (F.args_list_extend_2 _ _)
  (AutoSeq1.list_extend_list_list_0 l its.toArray n b its2.toArray n2 hlong (by rw [List.size_toArray];omega) (by omega)) ⟨e,e2,?_⟩
 refine ⟨.non,_,I.lset (its':=its++its2) hH e (by simp) (r.append r2) ?_,rfl,q⟩
 rw [List.length_append]
 omega
def VB:V→List V→Hp→VK→Prop:=fun x vs H Q=>∃ l xs y,x= .ref l∧vs=[]∧H l=some (.lst xs)∧xs[xs.length - 1]? =some y∧Q y (upd H l (.lst xs.dropLast))
theorem cP:MtM X "list.pop" VB:=by
 intro pins s σ H x vs v us Q I rx rv h
 obtain ⟨l,xs,y,rfl,rfl,hH,hy,q⟩:=h
 cases rx
 have hus:=rv.zero
 subst hus
 obtain ⟨z,its,n,r,hl,e⟩:=I.lstM hH
 obtain ⟨u,hu,ru⟩:=r.get hy
 have hy':its.toArray[its.toArray.size - 1]? =some u:=by
  show its.toArray[its.length - 1]? =some u
  rw [← Array.getElem?_toList,← hl]
  exact hu
 refine call_meets F.slot_list_pop ⟨_,e,rfl⟩ F.entry_list_pop (F.args_list_pop_1 _) (MeetsSeq.list_pop_last l its.toArray n u hy' (by rw [List.size_toArray];omega)) ⟨e,?_⟩
 refine ⟨y,_,I.lset (its':=its.dropLast) hH e ?_ r.dropLast ?_,ru,q⟩
 ·show its.toArray.eraseIdxIfInBounds (its.toArray.size - 1)=its.dropLast.toArray
  rw [List.size_toArray,List.eraseIdxIfInBounds_toArray,OY]
 ·rw [List.length_dropLast]
  omega
theorem RA {α:Type} (xs:List α) (k:Nat):(List.replicate k xs).flatten.length=k * xs.length:=by
 induction k with
 | zero=>simp
 | succ k ih=>rw [List.replicate_succ,List.flatten_cons,List.length_append,ih,Nat.succ_mul,Nat.add_comm]
end
section
variable {prog:Program} {w:World} {A:Around} {E:Value→Shared→Prop} {s:Shared}
end
section
variable {X:Cx}
end
end L2
namespace Att
open PySem PySem.W PySem.Calls PyProof.Rows
theorem IE {P:Params} {h:Heap}:∀ (ns:List Int) (vs:List Value),WellAll P h vs (ns.map WData.int)→IntsAre vs ns:=by
 intro ns
 induction ns with
 | nil=>
  intro vs w
  rw [List.map_nil] at w
  cases w
  exact .nil
 | cons n ns ih=>
  intro vs w
  rw [List.map_cons] at w
  cases w with
  | cons a b=>
   cases a
   exact .cons _ _ (ih _ b)
theorem TL {l:OpenLaw} {n:Nat} (hn:l.most=some n) {P:Params} {h:Heap} {args:List WData} {vals:List Value}
  (hpre:l.row.toRowW.claim.pre args=true) (hwl:WellAll P h vals args):
  ∃ a vs ns,vals=[Value.ref a]∧args=[WData.list (ns.map WData.int)]∧h.get? a=some { cls:= .type "list",data:= .seq vs.toArray }∧IntsAre vs ns∧ns.length≤n:=by
 have hsh:WShape.hasAll [] args [.list .int]=true:=(pre_splitW hpre).1
 have hc:l.pre.holds [] { args:=args }=true:=(pre_splitW hpre).2
 obtain ⟨d,r,rfl,h1,h2⟩:=hasAllW_cons hsh
 obtain rfl:=hasAllW_nil h2
 obtain ⟨xs,rfl,h3⟩:=hasW_list h1
 obtain ⟨ns,rfl⟩:=items_int h3
 have hlen:ns.length≤n:=by
  unfold OpenLaw.pre at hc
  have h4:(WTm.not (.lt (.lit (.int (n:Int))) (.len (.arg 0)))).holds [] { args:=[.list (ns.map .int)] }=true:=by
   have h4:=(holds_andW hc).1
   rw [hn] at h4
   exact h4
  have h5:=condW_of h4 (w_not (w_lt w_lit (w_len_list (w_arg rfl))))
  rw [List.length_map] at h5
  refine Nat.le_of_not_lt fun q=> ?_
  have q':(n:Int)<((ns.length:Nat):Int):=by omega
  first
   | (rw [decide_eq_true q'] at h5;exact absurd h5 (by decide))
   | (simp at h5;omega)
 cases hwl with
 | cons w1 w2=>
  cases w2
  cases w1 with
  | list ho hall=>exact ⟨_,_,ns,rfl,rfl,ho,IE ns _ hall,hlen⟩
theorem SU (l:OpenLaw) (args:List WData):l.row.toRowW.claim.post args (.bool true) args=true:=
 postW_of (r:=l.row.toRowW) (X:=(true == true))
  (show WShape.has [] (.bool true) .bool=true by first | rfl | decide | simp [WShape.has,WShape.arms,WShape.armsAll])
  (show (WTm.eq .res (.lit (.bool true))).value [] { args:=args,res:=some (.bool true),after:=args }=some (.bool (true == true)) from w_eq_bool (w_res rfl) w_lit) rfl
theorem attach_call {l:OpenLaw} {n:Nat} {q:Program} {loose:List Str} {XP:(Str→Option Value)→Heap→Prop} {YP:World→Heap→Prop} {d:DefRec}
  (hn:l.most=some n) (hdf:d.params.defaults=[])
  (call:∀ (w:World) (s₀ s₁:Shared) (mg mb:Str→Option Value) (fa:Addr) (o:Obj) (pm cd doc:Value) (a:Addr) (vs:List Value) (ns:List Int),
   Ground q loose [] XP w s₀ mg mb s₁.heap→YP w s₁.heap→
   s₁.heap.get? fa=some o→o.data= .func (docDef d.name d.params d.body d.scope pm cd doc)→s₁.heap.CodeRec cd d.name→mg d.name=some (.ref fa)→
   s₁.heap.get? a=some { cls:= .type "list",data:= .seq vs.toArray }→IntsAre vs ns→ns.length≤n→s₁.gens= #[]→
   codeAny (model l.prog w) callerA (.call (.ref fa) ⟨[.ref a],[]⟩) (fun r s'=>r= .ok (.ret (.bool true))∧OldK s₁.heap s'.heap∧s'.os=s₁.os∧AllBare s'.gens) s₁):
  WalkO q loose XP YP l.row.toRowW d [] (fun f vs=>PySem.call f vs):=by
 intro w s₀ s₁ mg mb G Y fa o pm cd doc dV kV ho hd hcd hD hmg hg args vals as hpre hlay hrd hwl hlo
 obtain rfl:dV= .none:=Dflts.none hD hdf
 obtain rfl:kV= .none:=Dflts.noKw hD
 obtain ⟨a,vs,ns,rfl,rfl,hobj,hints,hlen⟩:=TL hn hpre hwl
 refine enter_call (codeAny_mono (call w s₀ s₁ mg mb fa o pm cd doc a vs ns G Y ho (fd_plain hd) hcd hmg hobj hints hlen hg) fun r s' hq=> ?_)
 obtain ⟨rfl,h2,h3,h4⟩:=hq
 exact ⟨.inl ⟨.bool true,.bool true,[],rfl,fun _=>rfl,.bool true,SU l _,fun _=>⟨List.Pairwise.nil,fun _ hm=>(nomatch hm)⟩⟩,h2,h3,h4⟩
section
variable {prog:Program} {w:World} {A:Around} {E:Value→Shared→Prop} {s:Shared} {K:Frag}
def ledger (h:Heap) (L d:Addr):List (Addr×Obj):=(List.range h.objs.size).filterMap fun a=>if a=L∨a=d then none else (h.get? a).map fun o=>(a,o)
end
end Att
namespace L2
open PySem PySem.Spec PyProof.Rows
theorem LF:∀ {vs:List Value} {ns:List Int},IntsAre vs ns→AM (ns.map V.int) vs
 | _,_,.nil=> .nil
 | _,_,.cons n t h=> .cons ⟨t,rfl⟩ (LF h)
def bN (H:Hp):Prop:=∀ b,H b=none∨∃ o xs,H b=some (.frz o (.lst xs))
theorem WB {P:Program} {w:World} {K:PySem.W.Frag} {mg mb:Str→Option Value} {CX:CXT} {k:Nat} {fa a:Addr} {fd:FuncData} {x:Str} {sp:Sp} {s₁:Shared} {vs:List Value} {ns:List Int}
  (KX:K.In s₁.heap) (hns:s₁.heap.Ns mainGlobals mg) (hb:s₁.heap.Ns builtinsNs mb) (hbb:∀ x:Str,x≠"__name__"→mb x=bootBuiltins x) (hlim:s₁.heap.NoLimit) (hg:s₁.gens= #[])
  (ha:s₁.heap.get? a=some { cls:= .type "list",data:= .seq vs.toArray }) (hi:IntsAre vs ns) (hl:ns.length≤sizeLine) (hr:DY k callerA)
  (F:∀ base:Heap,K.In base→base.Ns mainGlobals mg→BR P w K mg base CX k fa fd [x] sp) (hbind:∀ (s:Shared) (u:Value),BindsTo s fd ⟨[u],[]⟩ [(x,u)])
  (hsp:∀ H:Hp,bN H→SqL K H a (ns.map V.int)→sp [.ref a] H (fun v _=>v= .bl true) fun _ _ _=>False)
  (hCX:∀ H e s',CX [] H s₁ (fun _ _ _=>False) e s'→False):
  codeAny (model P w) callerA (.call (.ref fa) ⟨[.ref a],[]⟩) (fun r s'=>r= .ok (.ret (.bool true))∧OldK s₁.heap s'.heap∧s'.os=s₁.os∧AllBare s'.gens) s₁:=by
 have rv:=LF hi
 have lenV:=hi.length
 have core:∀ H:Hp,bN H→SqL K H a (ns.map V.int)→HOk P w H s₁.heap→(∀ b,H b≠none→b=a)→(H a≠none→K.lookup a=none)→
   codeAny (model P w) callerA (.call (.ref fa) ⟨[.ref a],[]⟩) (fun r s'=>r= .ok (.ret (.bool true))∧OldK s₁.heap s'.heap∧s'.os=s₁.os∧AllBare s'.gens) s₁:=by
  intro H hO hS hok hA hK
  have base_of:∀ {b:Addr} {o:Obj},s₁.heap.get? b=some o→H b=none→(LY s₁.heap H).get? b=some o:=fun e n=>WN e n
  have noA:∀ {b:Addr} {o:Obj} {es:Array DictEntry} {ep:Nat},s₁.heap.get? b=some o→o.data= .dict es ep→H b=none:=fun {b o es ep} e d=>by
   cases q:H b with
   | none=>rfl
   | some u=>
    have e':b=a:=hA b (by rw [q];simp)
    subst e'
    rw [ha] at e;cases e
    have d':Data.seq vs.toArray _=Data.dict es ep:=d
    cases d'
  have nsK:∀ {b:Addr} {m:Str→Option Value},s₁.heap.Ns b m→(LY s₁.heap H).Ns b m:=fun {b m} ⟨o,es,ep,e,d,r⟩=>⟨o,es,ep,base_of e (noA e d),d,r⟩
  have hKb:K.In (LY s₁.heap H):=fun b o e=>base_of (KX b o e) (by
   cases q:H b with
   | none=>rfl
   | some u=>
    have e':b=a:=hA b (by rw [q];simp)
    subst e'
    rw [hK (by rw [q];simp)] at e;cases e)
  have hM:Mod K mg (LY s₁.heap H):=⟨hKb,nsK hns,⟨mb,nsK hb,hbb⟩,let ⟨mc,h1,h2⟩:=hlim;⟨mc,nsK h1,h2⟩⟩
  have e0:XU P w K mg (LY s₁.heap H) callerA [] s₁ H:=⟨rfl,hM,fun b o e=>ZI e,Nat.le_of_eq (SG _ _),trivial,fun b hb=>absurd (show b∈([]:List Addr) from hb) (by simp),hok,.of_eq hg⟩
  refine codeAny_mono ((F _ hKb (nsK hns)).run callerA [] s₁ H ⟨[.ref a],[]⟩ [.ref a] [.ref a] _ _ hr e0 (hbind s₁ (.ref a)) (.cons rfl .nil) (hsp H hO hS)) fun r s' h=> ?_
  cases r with
  | error e=>exact (hCX H e s' h).elim
  | ok fl=>
   cases fl with
   | next=>exact False.elim h
   | brk=>exact False.elim h
   | cont=>exact False.elim h
   | ret u=>
    obtain ⟨v,H',os,bare,un,hok',r',q⟩:=h
    have q':v= .bl true:=q
    subst q'
    obtain rfl:u=Value.bool true:=r'
    refine ⟨rfl,OldK.of_keep fun b o e=> ?_,os,bare⟩
    cases q:H b with
    | none=>exact un.keep b o e q (by intro z;exact absurd (show b∈([]:List Addr) from z) (by simp)) (by simp)
    | some u=>
     rcases hO b with z | ⟨ob,xs,z⟩
     ·rw [q] at z;cases z
     ·have z2:=un.frzs b ob _ z
      obtain ⟨e1,_⟩:=hok b _ z
      obtain ⟨e2,_⟩:=hok' b _ z2
      rw [e] at e1;cases e1
      exact e2
 cases hk:K.lookup a with
 | some o=>
  have e:=KX a o hk
  rw [ha] at e
  cases e
  refine core (fun _=>none) (fun _=> .inl rfl) (.inr ⟨_,vs.toArray,_,hk,rfl,rfl,rfl,by rw [List.size_toArray,lenV];exact hl,by simpa using rv⟩) (fun b u z=>by have z':(none:Option HO)=some u:=z;cases z') (fun b z=>absurd rfl z) fun z=>absurd rfl z
 | none=>
  refine core (fun b=>if b=a then some (.frz { cls:= .type "list",data:= .seq vs.toArray } (.lst (ns.map V.int))) else none) (fun b=> ?_) (.inl (.inr ⟨{ cls:= .type "list",data:= .seq vs.toArray },if_pos rfl⟩)) (fun b u z=> ?_) (fun b z=> ?_) fun _=>hk
  ·by_cases hb:b=a
   ·exact .inr ⟨_,_,if_pos hb⟩
   ·exact .inl (if_neg hb)
  ·by_cases hb:b=a
   ·have z':=(if_pos hb).symm.trans z
    cases z'
    subst hb
    exact ⟨ha,by rw [List.length_map];exact hl,vs,_,rv,ha⟩
   ·have z':=(if_neg hb).symm.trans z
    cases z'
  ·by_cases hb:b=a
   ·exact hb
   ·exact absurd (if_neg hb) z
abbrev KOf {K:PySem.W.Frag} {h:Heap} (_:K.In h):PySem.W.Frag:=K
theorem walk_of {l:PySem.W.OpenLaw} {n k:Nat} {q:Program} {loose:List Str} {XP:(Str→Option Value)→Heap→Prop} {YP:World→Heap→Prop} {d:DefRec} {K:Params→PySem.W.Frag} {CX:World→CXT} {sp:World→Sp} {x:Str}
  (hn:l.most=some n) (hn2:n≤sizeLine) (hdf:d.params.defaults=[]) (hr:DY k callerA)
  (hY:∀ (w:World) (h:Heap),YP w h→(K w.params).In h)
  (F:∀ (w:World) (mg:Str→Option Value) (fa:Addr) (h:Heap),(K w.params).In h→h.Ns mainGlobals mg→mg d.name=some (.ref fa)→
   ∃ fd:FuncData,(∀ (s:Shared) (u:Value),BindsTo s fd ⟨[u],[]⟩ [(x,u)])∧
    ∀ base:Heap,(K w.params).In base→base.Ns mainGlobals mg→BR l.prog w (K w.params) mg base (CX w) k fa fd [x] (sp w))
  (hsp:∀ (w:World) (H:Hp) (a:Addr) (ns:List Int),ns.length≤n→bN H→SqL (K w.params) H a (ns.map V.int)→sp w [.ref a] H (fun v _=>v= .bl true) fun _ _ _=>False)
  (hCX:∀ (w:World) (H:Hp) (s:Shared) (e:Value) (s':Shared),CX w [] H s (fun _ _ _=>False) e s'→False):
  PySem.W.WalkO q loose XP YP l.row.toRowW d [] (fun f vs=>PySem.call f vs):=by
 refine Att.attach_call hn hdf fun w s₀ s₁ mg mb fa o pm cd doc a vs ns G Y ho hd hcd hmg hobj hints hlen hg=> ?_
 have KX:=hY w _ Y
 obtain ⟨fd,hb,hF⟩:=F w mg fa _ KX G.T.g hmg
 exact WB KX G.T.g G.T.b G.T.builtins G.T.nolimit hg hobj hints (Nat.le_trans hlen hn2) hr hF hb (fun H hO hS=>hsp w H a ns hlen hO hS) fun H e s'=>hCX w H s₁ e s'
def FK (s:Stmt):Arguments:=match s with
 | .FunctionDef _ a _ _ _ _ _ _ _ _=>a
 | _=>{ posonlyargs:=[],args:=[],vararg:=none,kwonlyargs:=[],kw_defaults:=[],kwarg:=none,defaults:=[] }
def DR (s:Stmt):List Stmt:=match s with
 | .FunctionDef _ _ b _ _ _ _ _ _ _=>b
 | _=>[]
def AJ (s:Stmt):Scope:=match s with
 | .FunctionDef _ _ _ _ _ _ sc _ _ _=>sc
 | _=>{ kind:= .function,names:=[],isGenerator:=false,isCoroutine:=false }
abbrev CX0:CXT:=fun _ _ _ _ _ _=>False
abbrev E0:XK:=fun _ _ _=>False
theorem DD {X:Cx}:IU CX0 X E0:=fun _ _ _ _ _ _ _ h=>h.elim
structure Fun (K:PySem.W.Frag) (x qual:Str) (st:Stmt) (f:Addr) (fd:FuncData):Prop where
 ex:∃ (oc:Value) (od:Option Addr) (kV doc pm:Value) (an:Option Addr) (cdv ct:Value) (osl:Array (Option Value)),
  fd=PySem.W.fnOf x qual (FK st) (DR st) (AJ st) .none kV doc pm an cdv ct∧K.lookup f=some ⟨oc,od,.func fd,osl⟩∧PySem.W.codeIn K cdv qual=true
 kp:PySem.W.keepIn K (.ref f)=true
section
variable {P:Program} {w:World} {K:PySem.W.Frag} {mg:Str→Option Value} {base:Heap}
theorem Fun.ok {x qual:Str} {st:Stmt} {f:Addr} {fd:FuncData} {N ps:List Str} {k:Nat} {sp:Sp} (F:Fun K x qual st f fd) (S:AZ N ps (AJ st)) (len:∀ vs H Q E,sp vs H Q E→vs.length=ps.length)
  (hbody:∀ (cdv:Value) (A:Around) (outer:List Env) (s:Shared) (H:Hp) (vs:List V) (Q:VK) (E:XK),DY k (A.deeper (envOfC qual (AJ st) s.heap.objs.size f cdv))→sp vs H Q E→
   ∃ t,PSs (CQ CX0 P w K mg base N qual (AJ st) f cdv A outer s H E).nox (DR st) t∧t { nx:=fun _ H'=>Q .non H',rt:=Q } (start N vs) H):BR P w K mg base CX0 (k+1) f fd ps sp:=by
 obtain ⟨oc,od,kV,doc,pm,an,cdv,ct,osl,rfl,lk,hcd⟩:=F.ex
 refine ZX lk hcd S len fun A outer s H vs Q E hr hsp=> ?_
 obtain ⟨t,h,q⟩:=hbody cdv A outer s H vs Q E hr hsp
 exact ⟨t,h.nox,q⟩
theorem Fun.binds {x qual:Str} {st:Stmt} {f:Addr} {fd:FuncData} {ps:List Str} (F:Fun K x qual st f fd)
  (h:∀ (kV doc pm:Value) (an:Option Addr) (cdv ct:Value) (us:List Value),us.length=ps.length→bindArgs (PySem.W.fnOf x qual (FK st) (DR st) (AJ st) .none kV doc pm an cdv ct) ⟨us,[]⟩=pure (ps.zip us)):FQ K fd ps []:=by
 obtain ⟨oc,od,kV,doc,pm,an,cdv,ct,osl,rfl,lk,hcd⟩:=F.ex
 exact .all (h kV doc pm an cdv ct)
theorem aK {x qual:Str} {st:Stmt} {f:Addr} {oc:Value} {od an:Option Addr} {osl:Array (Option Value)} {kV doc pm cdv ct:Value} (l:K.lookup f=some ⟨oc,od,.func (PySem.W.fnOf x qual (FK st) (DR st) (AJ st) .none kV doc pm an cdv ct),osl⟩)
  (c:PySem.W.codeIn K cdv qual=true) (k:PySem.W.keepIn K (.ref f)=true):Fun K x qual st f (PySem.W.fnOf x qual (FK st) (DR st) (AJ st) .none kV doc pm an cdv ct):=⟨⟨oc,od,kV,doc,pm,an,cdv,ct,osl,rfl,l,c⟩,k⟩
end
theorem DZ {n:Nat} (h:n≤1000):n<sizeLine:=Nat.lt_of_le_of_lt h (by decide)
section
variable {X:Cx}
theorem pv (i:Nat) {x:Str} {pos:Pos} (hN:X.N[i]? =some x:=by rfl) (hv:Vis X.env.scope x:=by first | exact Or.inl rfl | exact Or.inr (Or.inl rfl) | exact Or.inr (Or.inr rfl)) (hd:(x == ("__debug__":Str))=false:=by decide)
  (hcd:(x == ("__classdict__":Str))=false:=by decide):PE X (.Name x pos) (RV i):=cW hN hv hd hcd
end
def AE (H H':Hp):Prop:=∀ b o,H b=some o→H' b=some o
theorem AE.refl (H:Hp):AE H H:=fun _ _ h=>h
theorem AE.trans {H H1 H2:Hp} (a:AE H H1) (b:AE H1 H2):AE H H2:=fun c o h=>b c o (a c o h)
theorem AE.free {H H':Hp} (e:AE H H') {l:Addr} (h:H' l=Option.none):H l=Option.none:=by
 cases q:H l with
 | none=>rfl
 | some o=>
  rw [e l o q] at h
  cases h
theorem AE.seq {K:PySem.W.Frag} {H H':Hp} {a:Addr} {xs:List V} (e:AE H H') (h:SqL K H a xs):SqL K H' a xs:=by
 rcases h with (h | ⟨o,h⟩) | h
 ·exact .inl (.inl (e _ _ h))
 ·exact .inl (.inr ⟨o,e _ _ h⟩)
 ·exact .inr h
theorem LM {prog:Program} {w:World} {A:Around} {R:Result→Shared→Prop} {s:Shared} {elt target iter:Expr} {ifs:List Expr} {scope:Scope} {pos:Pos} {it acc:Value} {env:Env} (I:Nat→Shared→Prop)
  (turn:∀ n s,I n s→wpAny (model prog w) A (pyNext it) (fun r s₁=>match r with
   | none=>R (.ok .next) s₁
   | some v=>wpAny (model prog w) A (letOwnedTupleGo target it v) (fun _ s₁'=>wpAny (model prog w) A (assign target env v) (fun _ s₂=>
     wpAny (model prog w) A (forIn ifs true fun c r=>if r=true then do let ok ← isTrue c env (eval c env);pure (ForInStep.yield ok) else pure (ForInStep.yield r)) (fun ok s₃=>
      if ok=true then wpAny (model prog w) A (eval elt env) (fun x s₄=>
       wpAny (model prog w) A (call (.builtin "list.append") [acc,x]) (fun _ s₅=>∃ m,m<n∧I m s₅) (fun _ _=>False) s₄) (fun _ _=>False) s₃
      else ∃ m,m<n∧I m s₃) (fun _ _=>False) s₂) (fun _ _=>False) s₁') (fun _ _=>False) s₁) (fun _ _=>False) s)
  (n:Nat) (h:I n s):
  codeAny (model prog w) A (.compLoop (.ListComp elt [⟨target,iter,ifs,0⟩] scope pos) 0 it acc env) R s:=by
 walk_at "b28"
 refine wpAny_bind (wpAny_standAt (wpAny_bind (wpAny_mono (turn n s hI) (fun r s₁ h₁=> ?_) fun _ _ z=>False.elim z)))
 cases r with
 | none=>exact wpAny_pure h₁
 | some v=>
  refine wpAny_bind (wpAny_mono h₁ (fun _ s₁' h₁'=> ?_) fun _ _ z=>False.elim z)
  refine wpAny_bind (wpAny_mono h₁' (fun _ s₂ h₂=>wpAny_bind (wpAny_mono h₂ (fun ok s₃ h₃=> ?_) fun _ _ z=>False.elim z)) fun _ _ z=>False.elim z)
  cases ok with
  | false=>exact wpAny_pure ⟨rfl,h₃⟩
  | true=>
   exact wpAny_bind (wpAny_bind (wpAny_mono h₃ (fun x s₄ h₄=>wpAny_bind (wpAny_mono h₄ (fun _ s₅ h₅=>wpAny_pure (wpAny_pure ⟨rfl,h₅⟩)) fun _ _ z=>False.elim z)) fun _ _ z=>False.elim z))
def CL (cells:List (Str×Addr)):List (Str×NameKind)→List (Str×Addr)→List (Str×Addr)
 | [],acc=>acc
 | (n,k)::r,acc=>if k == .free then CL cells r ((n,(cells.lookup n).getD 0)::acc) else CL cells r acc
theorem LS {env:Env}:∀ (names:List (Str×NameKind)) (acc:List (Str×Addr)),(∀ y∈names,y.2= .free→∃ c,env.cells.lookup y.1=some c)→
  (forIn names acc fun x r=>if (x.snd == NameKind.free)=true then do let a ← cellOf env x.fst;pure (ForInStep.yield ((x.fst,a)::r)) else pure (ForInStep.yield r))=(pure (CL env.cells names acc):Sem _)
 | [],acc,_=>rfl
 | (n,k)::r,acc,h=>by
  rw [List.forIn_cons]
  have hr:∀ y∈r,y.2= .free→∃ c,env.cells.lookup y.1=some c:=fun y hy=>h y (List.mem_cons_of_mem _ hy)
  by_cases hk:k= .free
  ·subst hk
   obtain ⟨c,hc⟩:=h (n,.free) List.mem_cons_self rfl
   have ih:=LS r ((n,c)::acc) hr
   simp only [CL,beq_self_eq_true,if_true,cellOf,hc,Option.getD_some,pure_bind]
   exact ih
  ·have hb:(k == NameKind.free)=false:=by simpa using hk
   have ih:=LS r acc hr
   simp only [CL,hb,Bool.false_eq_true,if_false,pure_bind]
   exact ih
theorem IG {scope:Scope} {env:Env} (h:∀ y∈scope.names,y.2= .free→∃ c,env.cells.lookup y.1=some c):closureFor scope env=pure (CL env.cells scope.names []):=by
 have e:=LS (env:=env) scope.names [] h
 simp only [closureFor]
 rw [e]
 rfl
theorem DM {cells:List (Str×Addr)}:∀ (names:List (Str×NameKind)) (acc:List (Str×Addr)),(∀ y∈names,y.2= .free→∃ c,cells.lookup y.1=some c)→(∀ y c,acc.lookup y=some c→cells.lookup y=some c)→
  ∀ y c,(CL cells names acc).lookup y=some c→cells.lookup y=some c
 | [],acc,_,ha,y,c,e=>ha y c e
 | (n,k)::r,acc,h,ha,y,c,e=>by
  have hr:∀ y∈r,y.2= .free→∃ c,cells.lookup y.1=some c:=fun y hy=>h y (List.mem_cons_of_mem _ hy)
  by_cases hk:k= .free
  ·subst hk
   obtain ⟨d,hd⟩:=h (n,.free) List.mem_cons_self rfl
   simp only [CL,beq_self_eq_true,if_true] at e
   refine DM r _ hr (fun z b q=> ?_) y c e
   rw [List.lookup_cons] at q
   cases hz:z == n with
   | true=>
    rw [hz] at q
    have:z=n:=by simpa using hz
    subst this
    rw [hd] at q ⊢
    exact q
   | false=>rw [hz] at q;exact ha z b q
  ·have hb:(k == NameKind.free)=false:=by simpa using hk
   simp only [CL,hb,Bool.false_eq_true,if_false] at e
   exact DM r acc hr ha y c e
theorem JO {cells:List (Str×Addr)}:∀ (names:List (Str×NameKind)) (acc:List (Str×Addr)) (y:Str),(∃ c,acc.lookup y=some c)→∃ c,(CL cells names acc).lookup y=some c
 | [],acc,y,h=>h
 | (n,k)::r,acc,y,h=>by
  by_cases hk:(k == NameKind.free)=true
  ·simp only [CL,hk,if_true]
   refine JO r _ y ?_
   rw [List.lookup_cons]
   cases hz:y == n with
   | true=>exact ⟨_,rfl⟩
   | false=>exact h
  ·simp only [CL,hk,if_false]
   exact JO r acc y h
theorem IX {cells:List (Str×Addr)}:∀ (names:List (Str×NameKind)) (acc:List (Str×Addr)) (y:Str),(y,NameKind.free)∈names→∃ c,(CL cells names acc).lookup y=some c
 | (n,k)::r,acc,y,h=>by
  rcases List.mem_cons.mp h with e | h
  ·cases e
   simp only [CL,beq_self_eq_true,if_true]
   refine JO r _ _ ?_
   rw [List.lookup_cons]
   simp
  ·by_cases hk:(k == NameKind.free)=true
   ·simp only [CL,hk,if_true]
    exact IX r _ y h
   ·simp only [CL,hk,if_false]
    exact IX r _ y h
theorem DT {β:Type}:∀ {l:List (Str×β)} {y:Str} {b:β},l.lookup y=some b→(y,b)∈l
 | [],_,_,e=>by cases e
 | (n,k)::r,y,b,e=>by
  rw [List.lookup_cons] at e
  cases hz:y == n with
  | true=>
   rw [hz] at e
   have:y=n:=by simpa using hz
   subst this
   cases e
   exact List.mem_cons_self
  | false=>rw [hz] at e;exact List.mem_cons_of_mem _ (DT e)
theorem ML {scope:Scope} {env:Env} {y:Str} (hc:∀ z∈scope.names,z.2≠ .cell) (h:(relabel scope env).names.lookup y=some .cell∨(relabel scope env).names.lookup y=some .free):(y,NameKind.free)∈scope.names:=by
 have key:∀ k,(relabel scope env).names.lookup y=some k→(k= .cell∨k= .free)→(y,NameKind.free)∈scope.names:=fun k e hk=>by
  have m:=DT e
  obtain ⟨⟨n,k0⟩,hm,e0⟩:=List.mem_map.mp m
  dsimp only at e0
  split at e0
  ·rename_i hh
   cases e0
   have:k0= .free:=by
    simp only [Bool.and_eq_true,beq_iff_eq] at hh
    exact hh.1.1
   subst this
   exact hm
  ·cases e0
   rcases hk with rfl | rfl
   ·exact absurd rfl (hc _ hm)
   ·exact hm
 rcases h with h | h
 ·exact key _ h (.inl rfl)
 ·exact key _ h (.inr rfl)
theorem HZ {env:Env}:∀ {names:List (Str×NameKind)} {y:Str},names.lookup y=some .free→
  (names.map fun (n,k)=>if (k == NameKind.free && env.scope.kind == .function && env.kindOf n == some .cell) then (n,NameKind.cell) else (n,k)).lookup y=some .cell∨
  (names.map fun (n,k)=>if (k == NameKind.free && env.scope.kind == .function && env.kindOf n == some .cell) then (n,NameKind.cell) else (n,k)).lookup y=some .free
 | [],_,h=>by simp at h
 | (n,k)::r,y,h=>by
  have ih:= @HZ env r y
  simp only [List.map_cons]
  cases hx:y == n with
  | true=>
   simp only [List.lookup_cons,hx] at h
   cases h
   by_cases hc:(NameKind.free == NameKind.free && env.scope.kind == .function && env.kindOf n == some .cell)=true
   ·rw [if_pos hc];left;simp only [List.lookup_cons,hx]
   ·rw [if_neg hc];right;simp only [List.lookup_cons,hx]
  | false=>
   simp only [List.lookup_cons,hx] at h
   by_cases hc:(k == NameKind.free && env.scope.kind == .function && env.kindOf n == some .cell)=true
   ·rw [if_pos hc];simp only [List.lookup_cons,hx];exact ih h
   ·rw [if_neg hc];simp only [List.lookup_cons,hx];exact ih h
def cxC (X:Cx) (scope:Scope) (cl:List (Str×Addr)) (N:List Str) (s₃:Shared) (H₃:Hp) (fp:List Addr):Cx where
 prog:=X.prog
 w:=X.w
 K:=X.K
 mg:=X.mg
 base:=X.base
 A:=X.A
 N:=N
 s₀:=s₃
 H₀:=H₃
 env:=compEnvC scope cl s₃.heap.objs.size X.env
 outer:=X.stack
 stack:=X.stack
 ex:=fp
 fn:=fun _=>false
 calm:=true
 pn:=[]
 xe:=fun _ _=>False
structure JJ (scope sc:Scope) (N0:List Str) (js:List Nat) (os N:List Str):Prop where
 kind:scope.kind= .function
 cell:∀ y∈scope.names,y.2≠ .cell
 names:∀ y∈scope.names,y.2= .local→scope.names.lookup y.1=some .local
 free:∀ y∈scope.names,y.2= .free→(sc.names.lookup y.1=some .cell∨sc.names.lookup y.1=some .free)
 slots:∀ j∈js,((N0[j]?).bind fun y=>scope.names.lookup y)=some .free
 eq:N.map some=js.map (N0[·]?)++os.map some
def stC (js:List Nat) (os:List Str) (σ:St):St:=js.map (fun j=>(σ[j]?).join)++List.replicate os.length none
def KF (X:Cx) (ifs:List Expr) (t:TT):Prop:=
 ∀ (pins:List (Addr×Obj)) (s:Shared) (σ:St) (H:Hp) (Q:Bool→Hp→Prop),Inv X pins σ H s→t σ H Q→
  wpAny (model X.prog X.w) X.A (forIn ifs true fun c r=>if r=true then do let ok ← isTrue c X.env (eval c X.env);pure (ForInStep.yield ok) else pure (ForInStep.yield r)) (TP X pins σ Q) X.xe s
def VS:TT:=fun _ H Q=>Q true H
theorem EA {X:Cx}:KF X [] VS:=fun _ _ _ H _ I h=>wpAny_pure ⟨H,I,h⟩
theorem VT {X:Cx} {c:Expr} {t:TT} (h:PT X c t):KF X [c] t:=fun pins s σ H Q I q=>by
 simp only [List.forIn_cons,List.forIn_nil,if_true]
 exact wpAny_bind (wpAny_bind (wpAny_mono (h pins s σ H Q I q) (fun b s' hb=>wpAny_pure (wpAny_pure hb)) fun _ _ x=>x))
def NP (js:List Nat) (os:List Str) (wi:TI) (g:TG) (tt:TT) (te:TE):TE:=fun σ H Q=>wi σ H fun J H1=>∀ p,H1 p=none→
 ∃ W:Nat→Nat→St→Hp→Prop,(∃ m,W 0 m (stC js os σ) (upd H1 p (.lst [])))∧∀ i m σ H,W i m σ H→
  (J.stop i H∧Q (.ref p) H)∨(J.go i H∧∀ x H',J.yld i H x H'→g x σ H' fun σ2 H2=>tt σ2 H2 fun b H3=>
   if b=true then te σ2 H3 fun y H4=>∃ ys,H4 p=some (.lst ys)∧ys.length<sizeLine∧∃ m',m'<m∧W (i+1) m' σ2 (upd H4 p (.lst (ys++[y])))
   else ∃ m',m'<m∧W (i+1) m' σ2 H3)
section
variable {X:Cx}
theorem GO {scope sc:Scope} {N0 N os:List Str} {js fp:List Nat} {pins:List (Addr×Obj)} {σ:St} {H₃:Hp} {s₃:Shared} {h':Heap} {t':Nat} {m:Str→Option Value}
  (hc:X.calm=true) (hsc:X.env.scope=sc) (hN:X.N=N0) (ok:JJ scope sc N0 js os N) (I:Inv X pins σ H₃ s₃) (hf:∀ b∈fp,FD X pins H₃ b) (hfs:∀ b∈fp,b<s₃.heap.objs.size)
  (hns:h'.Ns s₃.heap.objs.size m) (hk:∀ b o,s₃.heap.get? b=some o→h'.get? b=some o):
  Inv (cxC X scope (CL X.env.cells scope.names []) N s₃ H₃ fp) [] (stC js os σ) H₃ { s₃ with heap:=h',toks:=t' }:=by
 have hfree:∀ y∈scope.names,y.2= .free→∃ c,X.env.cells.lookup y.1=some c:=fun y hy e=>I.ok.has _ (by
  walk_at "b64"
  exact this)
 have sub:=DM (cells:=X.env.cells) scope.names [] hfree (fun _ _ e=>by cases e)
 have has:∀ y,(y,NameKind.free)∈scope.names→∃ c,(CL X.env.cells scope.names []).lookup y=some c:=fun y hy=>IX scope.names [] y hy
 refine ⟨⟨I.ok.mod,ok.kind,I.ok.glob,I.ok.blt,Nat.le_refl _,fun x y c e1 e2=>I.ok.inj x y c (sub _ _ e1) (sub _ _ e2),fun x e=>has x (ML ok.cell e),(fun _ _ e=>by cases e),(fun _=>I.ok.hd hc),I.ok.frames,.inl rfl,?_,?_,?_,?_,?_,I.stack,I.stkFree⟩,
  rfl,I.bare,Un.kept hk,⟨m,hns,?_⟩,?_,I.hok.fresh (Nat.le_refl _),?_,?_,I.hok.kept hk,?_⟩
 ·exact fun b hb=>⟨Nat.ne_of_lt (hfs b hb),fun x c e=>(hf b hb).2.2.2.2.1 x c (sub _ _ e)⟩
 ·exact I.bs
 ·exact Nat.le_trans I.ok.bsz I.sz
 ·intro b o e hb
  rcases (hf b hb).2.2.2.1 with z | z
  ·exact I.ok.noex b o e z
  ·exact absurd (Nat.lt_of_lt_of_le (Heap.lt_size e) (Nat.le_trans I.ok.bsz z)) (Nat.lt_irrefl _)
 ·intro b hb z
  rcases List.mem_cons.mp (I.stkSub b z) with e | e
  ·exact (hf b hb).2.1 e
  ·exact (hf b hb).2.2.1 e
 ·intro i x v e1 e2 e3
  have hl:i<js.length:=by
   apply Classical.byContradiction
   intro hh
   have e2':(stC js os σ)[i]? =some (some v):=e2
   unfold stC at e2'
   rw [List.getElem?_append_right (by simpa using Nat.le_of_not_lt hh)] at e2'
   rw [List.getElem?_replicate] at e2'
   split at e2'<;> cases e2'
  have ej:js[i]? =some js[i]:=List.getElem?_eq_getElem hl
  have e2':(stC js os σ)[i]? =some (some v):=e2
  unfold stC at e2'
  rw [List.getElem?_append_left (by simpa using hl),List.getElem?_map,ej] at e2'
  have e2'':(σ[js[i]]?).join=some v:=Option.some.inj e2'
  have e1':N[i]? =some x:=e1
  have en:N0[js[i]]? =some x:=by
   have q:(N.map some)[i]? =some (some x):=by rw [List.getElem?_map,e1'];rfl
   rw [ok.eq,List.getElem?_append_left (by simpa using hl),List.getElem?_map,ej] at q
   exact Option.some.inj q
  have hfr:=ok.slots _ (List.getElem_mem hl)
  rw [en] at hfr
  replace hfr:scope.names.lookup x=some .free:=hfr
  have eσ:σ[js[i]]? =some (some v):=by
   cases q:σ[js[i]]? with
   | none=>rw [q] at e2'';cases e2''
   | some o=>rw [q] at e2'';exact congrArg some e2''
  have kk:=ok.free (x,.free) (DT hfr) rfl
  obtain ⟨m0,hn0,hl0⟩:=I.loc
  obtain ⟨u,r,l⟩:=hl0 js[i] x v (by rw [hN];exact en) eσ (by rw [hsc];exact .inr kk)
  refine ⟨u,r,.inr ⟨HZ hfr,?_⟩⟩
  rcases l with ⟨k,_⟩ | ⟨k,c,e,z⟩
  ·have k':sc.names.lookup x=some .local:=by rw [← hsc];exact k
   rcases kk with q | q<;> (dsimp only at q;rw [q] at k';cases k')
  ·obtain ⟨c',hc'⟩:=has x (DT hfr)
   have:=sub _ _ hc'
   rw [e] at this;cases this
   exact ⟨c,hc',z.keeps hk⟩
 ·intro x c e
  obtain ⟨v,z⟩:=I.cell x c (sub _ _ e)
  exact ⟨v,z.keeps hk⟩
 ·exact fun x c e=>I.freeC x c (sub _ _ e)
 ·intro p hp
  cases hp
 ·show (stC js os σ).length=N.length
  have:=congrArg List.length ok.eq
  simp at this
  simp [stC,this]
theorem QU {elt iter tg:Expr} {ifs:List Expr} {scope sc:Scope} {pos:Pos} {wi:TI} {g:TG} {tt:TT} {te:TE} {N0 N os:List Str} {js:List Nat}
  (hc:X.calm=true) (hsc:X.env.scope=sc) (hN:X.N=N0) (ok:JJ scope sc N0 js os N) (hi:PI X tg iter wi)
  (hg:∀ s₃ H₃ fp cl,PG (cxC X scope cl N s₃ H₃ fp) tg g) (ht:∀ s₃ H₃ fp cl,KF (cxC X scope cl N s₃ H₃ fp) ifs tt) (he:∀ s₃ H₃ fp cl,PE (cxC X scope cl N s₃ H₃ fp) elt te)
  (hs:∀ x,foldedSetIterable iter X.env x=pure x:=by intro _;rfl):
  PE X (.ListComp elt [⟨tg,iter,ifs,0⟩] scope pos) (NP js os wi g tt te):=by
 walk_at "b34"
 rw [eval_ListComp]
 have hfree:∀ y∈scope.names,y.2= .free→∃ c,X.env.cells.lookup y.1=some c:=fun y hy e=>I.ok.has _ (by
  walk_at "b64"
  exact this)
 walk_at "b57"
 walk_at "b0"
 have lt2:∀ b∈fp,b<s2.heap.objs.size:=fun b hb=>by
  walk_at "b50"
 walk_at "b2"
 walk_at "b18"
 have stat:∀ {H':Hp},(∀ b∈fp,H' b=none)→∀ b∈fp,FD X' [] H' b:=fun {H'} hn b hb=>by
  walk_at "b16"
  ·rcases List.mem_cons.mp (I2.stkSub b z) with q | q
   ·exact (f2 b hb).2.1 q
   ·exact (f2 b hb).2.2.1 q
  ·exact (f2 b hb).2.2.2.2.1 x c (DM (cells:=X.env.cells) scope.names [] hfree (fun _ _ e=>by cases e) _ _ e)
 walk_at "b6"
 have eX:X'.xe=fun _ _=>False:=by subst hX';rfl
 walk_at "b11"
 have fin:∀ {σ':St} {H':Hp} {s':Shared},Inv X' [] σ' H' s'→(∀ b∈fp,H' b=none)→Q (.ref s2.heap.objs.size) H'→compPost (model X.prog X.w) X.A X.xe none (EP X pins σ Q) (.ref s2.heap.objs.size) s₃.heap.objs.size (.ok .next) s':=by
  walk_at "b40"
  have hok':HOk X.prog X.w H' h'':=fun b ob e=>by
   refine (I'.hok b ob e).stay (fun c w' hc' q'=>(sb.2 c ?_).trans q') (fun _ q'=>q') fun _ _ q'=>q'
   rintro rfl
   rcases hc' with z | z
   ·have e':=e;rw [← z] at e';rw [fC] at e';cases e'
   ·rw [fC] at z;cases z
  have u1:Un (frs X.stack) fp (upd H1 s2.heap.objs.size (.lst [])) H' s₃.heap h'':=by
   walk_at "b65"
   exact ⟨fun b o e n hb hx=>(sb.2 b (ne b o e)).trans (b0.keep b o e n hb hx),fun b o e n hb hx=>by
     obtain ⟨sl,z⟩:=b0.slot b o e n hb hx
     exact ⟨sl,(sb.2 b (ne b o e)).trans z⟩,b0.free,fun b o e hx=>by
     obtain ⟨o',z⟩:=b0.there b o e hx
     exact ⟨o',(sb.2 b (ne b o e)).trans z⟩,b0.tups,b0.frzs,b0.tbls⟩
  walk_at "b49"
 have loop:codeAny (model X.prog X.w) X.A (.compLoop (.ListComp elt [⟨tg,iter,ifs,0⟩] scope pos) 0 (.ref it) (.ref s2.heap.objs.size) (compEnvC scope (CL X.env.cells scope.names []) s₃.heap.objs.size X.env))
   (compPost (model X.prog X.w) X.A X.xe none (EP X pins σ Q) (.ref s2.heap.objs.size) s₃.heap.objs.size) { s₃ with heap:=h₁,toks:=s₃.toks }:=by
  walk_at "b30"
  rcases turn i n σ5 H5 w5 with ⟨stop,qn⟩ | ⟨go,step⟩
  ·have:=T.done X' ePr eW eK eC i [] s5 σ5 H5 X'.xe I5 (stat fr5) st5 stop
   walk_at "b13"
  ·have:=T.item X' ePr eW eK eC i [] s5 σ5 H5 X'.xe I5 (stat fr5) st5 go
   walk_at "b3"
   have again:∀ {σ9:St} {H9:Hp} {s9:Shared},Inv X' ([]++EZ fp s7.heap) σ9 H9 s9→tn (i+1) s9.heap∧∀ b∈fp,H9 b=none:=fun {σ9 H9 s9} I9=>by
    walk_at "b7"
   refine thn t8 fun b s9 ⟨H9,I9,q9⟩=> ?_
   cases b with
   | false=>
    walk_at "b15"
   | true=>
    walk_at "b1"
 walk_at "b4"
end
section
variable {prog:Program} {w:World} {A:Around} {E:Value→Shared→Prop} {s:Shared}
end
section
variable {X:Cx} {pos:Pos}
theorem YX:OpR X (binaryOp .Mult) (rI (fun i j=>IntMulOk i j) fun i j=> .int (i * j)):=opI fun _ _ _ _ _ _ _ hc q=>mul_int q hc
theorem PL {i j:Int} (m n:Nat) (h1:i.natAbs<2 ^ m) (h2:j.natAbs<2 ^ n) (h:m+n≤134217728):IntMulOk i j:=IntMulOk.of_le (intBits_le h1) (intBits_le h2) h
theorem DQ {i j:Int} (h1: -(2 ^ 64)<i) (h2:i<2 ^ 64):IntMulOk i j:= .of_left (intBits_le_64 h1 h2)
theorem GQ {i j:Int} (h1: -(2 ^ 64)<j) (h2:j<2 ^ 64):IntMulOk i j:= .of_right (intBits_le_64 h1 h2)
theorem XJ:OpR X (binaryOp .FloorDiv) (rI (fun _ j=>0<j∧j<2 ^ 100) fun i j=> .int (i / j)):=opI fun i j _ _ s Q E hc q=>by
 refine floordiv_int (Int.ne_of_gt hc.1) (by rw [Int.fdiv_eq_ediv_of_nonneg _ (Int.le_of_lt hc.1)];exact q) (.inl (PyProof.noPylong_of_log2 ?_))
 have h1:j.natAbs<2 ^ 100:=by omega
 have h0:j.natAbs≠0:=by omega
 have:=(Nat.log2_lt h0).mpr h1
 omega
theorem VX {c:Value}:DE X (.builtin "isinstance") (fun xs H Q=>∃ x y ty b,xs=[x,y]∧AY y c∧(∃ n,c= .type n)∧FU X.K H x ty∧PySem.W.kitOne X.K ty c=some b∧Q (.bl b) H):=by
 intro pins s σ H xs us Q I rv h
 obtain ⟨x,y,ty,b,rfl,ry,⟨n,rfl⟩,hty,hk,q⟩:=h
 obtain ⟨u,u',rfl,ru,ru'⟩:=rv.two
 have e:u'= .type n:=by
  cases y with
  | ty m=>have:=(show Value.type n=Value.type m from ry);cases this;exact ru'
  | non=>cases ry
  | bl _=>cases ry
  | int _=>obtain ⟨_,z⟩:=ry;cases z
  | str _=>obtain ⟨_,z⟩:=ry;cases z
  | byt _=>obtain ⟨_,z⟩:=ry;cases z
  | flt _=>obtain ⟨_,z⟩:=ry;cases z
  | ref _=>cases ry
 subst e
 exact TD I ru hty hk fun tk=>⟨.bl b,H,I.tok _,rfl,q⟩
theorem bG {K:PySem.W.Frag} {T U:String} {b:Bool} (h0:(Value.type T == Value.type U)=false) (h1:PySem.W.kitMeta U=true) (h2:((fastBuiltinMro T).map (·.contains (.type U)))=some b):PySem.W.kitOne K (.type T) (.type U)=some b:=by
 unfold PySem.W.kitOne
 rw [h0,if_neg Bool.false_ne_true]
 unfold PySem.W.kitCls
 dsimp only
 rw [h1,if_pos rfl]
 exact h2
theorem ES {K:PySem.W.Frag}:PySem.W.kitOne K (.type "tuple") (.type "tuple")=some true:=rfl
end
def FW (J:It) (g:TG) (tb:TS) (D:DW) (σ:St) (H1:Hp):Prop:=∃ W:Nat→Nat→St→Hp→Prop,(∃ m,W 0 m σ H1)∧∀ i m σ H,W i m σ H→
 (J.stop i H∧D.nx σ H)∨(J.go i H∧∃ N:St→Hp→Prop,(∀ σ' H',N σ' H'→∃ m',m'<m∧W (i+1) m' σ' H')∧∀ x H',J.yld i H x H'→g x σ H' fun σ2 H2=>tb { D with nx:=N,ct:=N,bk:=D.nx } σ2 H2)
theorem II (wi:TI) (g:TG) (tb:TS) (D:DW) (σ:St) (H:Hp):dJ wi g tb D σ H=wi σ H fun J H1=>FW J g tb D σ H1:=rfl
theorem GH {lo:Int} {n:Nat} {g:TG} {tb:TS} {D:DW} {σ:St} {H:Hp} (Pv:Nat→St→Hp→Prop) (h0:Pv 0 σ H)
  (hs:∀ i σ H,i<n→Pv i σ H→g (.int (lo+i)) σ H fun σ2 H2=>tb { D with nx:=Pv (i+1),ct:=Pv (i+1),bk:=D.nx } σ2 H2) (hd:∀ σ H,Pv n σ H→D.nx σ H):FW (Itr lo n) g tb D σ H:=RS Pv h0 hs hd
theorem ZQ {K:PySem.W.Frag} {a:Addr} {xs:List V} {g:TG} {tb:TS} {D:DW} {σ:St} {H:Hp} (Pv:Nat→St→Hp→Prop) (h0:Pv 0 σ H) (hl:∀ i σ H,i≤xs.length→Pv i σ H→SqL K H a xs)
  (hs:∀ i x σ H,xs[i]? =some x→Pv i σ H→g x σ H fun σ2 H2=>tb { D with nx:=Pv (i+1),ct:=Pv (i+1),bk:=D.nx } σ2 H2) (hd:∀ σ H,Pv xs.length σ H→D.nx σ H):FW (Itl K a) g tb D σ H:=TQ Pv h0 hl hs hd
theorem aJ {K:PySem.W.Frag} {a:Addr} {xs:List V} {g:TG} {tb:TS} {D:DW} {σ:St} {H:Hp} (Pv:Nat→St→Hp→Prop) (h0:Pv 0 σ H) (hl:∀ i σ H,i≤xs.length→Pv i σ H→SqT K H a xs)
  (hs:∀ i x σ H,xs[i]? =some x→Pv i σ H→g x σ H fun σ2 H2=>tb { D with nx:=Pv (i+1),ct:=Pv (i+1),bk:=D.nx } σ2 H2) (hd:∀ σ H,Pv xs.length σ H→D.nx σ H):FW (Itt K a) g tb D σ H:=XV Pv h0 hl hs hd
def CW (J:It) (g:TG) (tt:TT) (te:TE) (p:Addr) (Q:VK) (σ:St) (H1:Hp):Prop:=
 ∃ W:Nat→Nat→St→Hp→Prop,(∃ m,W 0 m σ H1)∧∀ i m σ H,W i m σ H→
  (J.stop i H∧Q (.ref p) H)∨(J.go i H∧∀ x H',J.yld i H x H'→g x σ H' fun σ2 H2=>tt σ2 H2 fun b H3=>
   if b=true then te σ2 H3 fun y H4=>∃ ys,H4 p=some (.lst ys)∧ys.length<sizeLine∧∃ m',m'<m∧W (i+1) m' σ2 (upd H4 p (.lst (ys++[y])))
   else ∃ m',m'<m∧W (i+1) m' σ2 H3)
theorem GY (js:List Nat) (os:List Str) (wi:TI) (g:TG) (tt:TT) (te:TE) (σ:St) (H:Hp) (Q:VK):NP js os wi g tt te σ H Q=wi σ H fun J H1=>∀ p,H1 p=none→CW J g tt te p Q (stC js os σ) (upd H1 p (.lst [])):=rfl
def Nx (n i:Nat) (P:Prop):Prop:=∃ m',m'<n - i∧m'=n - (i+1)∧i+1≤n∧P
theorem nx {n i:Nat} {P:Prop} (h:i<n) (p:P):Nx n i P:=⟨n - (i+1),by omega,rfl,h,p⟩
theorem VA {lo:Int} {n:Nat} {g:TG} {tt:TT} {te:TE} {p:Addr} {Q:VK} {σ:St} {H:Hp} (Pv:Nat→St→Hp→Prop) (h0:Pv 0 σ H)
  (hs:∀ i σ H,i<n→Pv i σ H→g (.int (lo+i)) σ H fun σ2 H2=>tt σ2 H2 fun b H3=>if b=true then te σ2 H3 fun y H4=>∃ ys,H4 p=some (.lst ys)∧ys.length<sizeLine∧Nx n i (Pv (i+1) σ2 (upd H4 p (.lst (ys++[y])))) else Nx n i (Pv (i+1) σ2 H3))
  (hd:∀ σ H,Pv n σ H→Q (.ref p) H):CW (Itr lo n) g tt te p Q σ H:=by
 refine ⟨fun i m σ H=>m=n - i∧i≤n∧Pv i σ H,⟨n,by simp,Nat.zero_le _,h0⟩,?_⟩
 rintro i m σ H ⟨rfl,hi,q⟩
 by_cases hlt:i<n
 ·refine .inr ⟨hlt,fun x H' y=> ?_⟩
  obtain ⟨e,y⟩:=y
  subst e y
  exact hs i σ _ hlt q
 ·have e:i=n:=by omega
  subst e
  exact .inl ⟨Nat.le_refl _,hd σ H q⟩
theorem YQ {K:PySem.W.Frag} {a:Addr} {xs:List V} {g:TG} {tt:TT} {te:TE} {p:Addr} {Q:VK} {σ:St} {H:Hp} (Pv:Nat→St→Hp→Prop) (h0:Pv 0 σ H) (hl:∀ i σ H,i≤xs.length→Pv i σ H→SqL K H a xs)
  (hs:∀ i x σ H,xs[i]? =some x→Pv i σ H→g x σ H fun σ2 H2=>tt σ2 H2 fun b H3=>if b=true then te σ2 H3 fun y H4=>∃ ys,H4 p=some (.lst ys)∧ys.length<sizeLine∧Nx xs.length i (Pv (i+1) σ2 (upd H4 p (.lst (ys++[y])))) else Nx xs.length i (Pv (i+1) σ2 H3))
  (hd:∀ σ H,Pv xs.length σ H→Q (.ref p) H):CW (Itl K a) g tt te p Q σ H:=by
 walk_at "b19"
 rintro i m σ H ⟨rfl,hi,q⟩
 have w:=hl i σ H hi q
 by_cases hlt:i<xs.length
 ·refine .inr ⟨⟨xs,xs[i],w,by simp [hlt]⟩,fun x H' y=> ?_⟩
  obtain ⟨e,y⟩:=y
  subst e
  exact hs i x σ _ (y xs w) q
 ·have e:i=xs.length:=by omega
  subst e
  exact .inl ⟨⟨xs,w,Nat.le_refl _⟩,hd σ H q⟩
theorem LX {K:PySem.W.Frag} {a:Addr} {xs:List V} {g:TG} {tt:TT} {te:TE} {p:Addr} {Q:VK} {σ:St} {H:Hp} (Pv:Nat→St→Hp→Prop) (h0:Pv 0 σ H) (hl:∀ i σ H,i≤xs.length→Pv i σ H→SqT K H a xs)
  (hs:∀ i x σ H,xs[i]? =some x→Pv i σ H→g x σ H fun σ2 H2=>tt σ2 H2 fun b H3=>if b=true then te σ2 H3 fun y H4=>∃ ys,H4 p=some (.lst ys)∧ys.length<sizeLine∧Nx xs.length i (Pv (i+1) σ2 (upd H4 p (.lst (ys++[y])))) else Nx xs.length i (Pv (i+1) σ2 H3))
  (hd:∀ σ H,Pv xs.length σ H→Q (.ref p) H):CW (Itt K a) g tt te p Q σ H:=by
 walk_at "b19"
 rintro i m σ H ⟨rfl,hi,q⟩
 have w:=hl i σ H hi q
 by_cases hlt:i<xs.length
 ·refine .inr ⟨⟨xs,xs[i],w,by simp [hlt]⟩,fun x H' y=> ?_⟩
  obtain ⟨e,y⟩:=y
  subst e
  exact hs i x σ _ (y xs w) q
 ·have e:i=xs.length:=by omega
  subst e
  exact .inl ⟨⟨xs,w,Nat.le_refl _⟩,hd σ H q⟩
theorem qb {Q:VK} {H:Hp} {a b:Bool} (k:Q (.bl a) H) (e:a=b):Q (.bl b) H:=e ▸ k
theorem AE.upd {H:Hp} {p:Addr} {o:HO} (h:H p=none):AE H (upd H p o):=fun b u e=>by rw [BE (BL e h)];exact e
theorem AE.upd2 {H H':Hp} {p:Addr} {o:HO} (s:AE H H') (h:H p=none):AE H (L2.upd H' p o):=fun b u e=>by rw [BE (BL e h)];exact s b u e
theorem AE.tup {K:PySem.W.Frag} {H H':Hp} {a:Addr} {xs:List V} (e:AE H H') (h:SqT K H a xs):SqT K H' a xs:=by
 rcases h with (h | ⟨o,h⟩) | h
 ·exact .inl (.inl (e _ _ h))
 ·exact .inl (.inr ⟨o,e _ _ h⟩)
 ·exact .inr h
theorem IZ {ns:List Int} {k:Int} (h0:0≤k) (h1:k<ns.length):∃ z∈ns,atI (ns.map V.int) k=some (.int z):=by
 have hk:k.toNat<ns.length:=by omega
 refine ⟨ns[k.toNat],List.getElem_mem hk,?_⟩
 have e:((k.toNat:Nat):Int)=k:=by omega
 have:=AS (xs:=ns.map V.int) (j:=k.toNat) (v:= .int ns[k.toNat]) (by rw [List.getElem?_map,List.getElem?_eq_getElem hk];rfl)
 rw [e] at this
 exact this
inductive D where
 | int (i:Int) | str (x:Str) | non | tup (ds:List D)
mutual
def Rp (K:PySem.W.Frag) (H:Hp):D→V→Prop
 | .int i,v=>v= .int i
 | .str x,v=>v= .str x
 | .non,v=>v= .non
 | .tup ds,v=>∃ p xs,v= .ref p∧SqT K H p xs∧RpL K H ds xs
def RpL (K:PySem.W.Frag) (H:Hp):List D→List V→Prop
 | [],xs=>xs=[]
 | d::ds,xs=>∃ v r,xs=v::r∧Rp K H d v∧RpL K H ds r
end
mutual
def deq:D→D→Bool
 | .int i,.int j=>i == j
 | .str x,.str y=>x == y
 | .non,.non=>true
 | .tup ds,.tup es=>deqL ds es
 | _,_=>false
def deqL:List D→List D→Bool
 | [],[]=>true
 | d::ds,e::es=>deq d e && deqL ds es
 | _,_=>false
end
mutual
def dep:D→Nat
 | .tup ds=>depL ds+1
 | _=>0
def depL:List D→Nat
 | []=>0
 | d::ds=>max (dep d) (depL ds)
end
mutual
theorem UX:∀ d:D,deq d d=true
 | .int i=>by simp [deq]
 | .str x=>by simp [deq]
 | .non=>by simp [deq]
 | .tup ds=>by rw [deq];exact deqL_self ds
theorem deqL_self:∀ ds:List D,deqL ds ds=true
 | []=>by simp [deqL]
 | d::ds=>by rw [deqL,UX d,deqL_self ds];rfl
end
theorem RpL.length {K:PySem.W.Frag} {H:Hp}:∀ {ds:List D} {xs:List V},RpL K H ds xs→xs.length=ds.length
 | [],xs,h=>by rw [RpL] at h;subst h;rfl
 | d::ds,xs,h=>by
  rw [RpL] at h
  obtain ⟨v,r,rfl,_,h⟩:=h
  rw [List.length_cons,List.length_cons,RpL.length h]
mutual
theorem Rp.same {K:PySem.W.Frag} {H H':Hp} (s:AE H H'):∀ {d:D} {v:V},Rp K H d v→Rp K H' d v
 | .int i,v,h=>by rw [Rp] at h ⊢;exact h
 | .str x,v,h=>by rw [Rp] at h ⊢;exact h
 | .non,v,h=>by rw [Rp] at h ⊢;exact h
 | .tup ds,v,h=>by
  rw [Rp] at h ⊢
  obtain ⟨p,xs,e,hs,hl⟩:=h
  exact ⟨p,xs,e,s.tup hs,RpL.same s hl⟩
theorem RpL.same {K:PySem.W.Frag} {H H':Hp} (s:AE H H'):∀ {ds:List D} {xs:List V},RpL K H ds xs→RpL K H' ds xs
 | [],xs,h=>by rw [RpL] at h ⊢;exact h
 | d::ds,xs,h=>by
  rw [RpL] at h ⊢
  obtain ⟨v,r,e,h1,h2⟩:=h
  exact ⟨v,r,e,Rp.same s h1,RpL.same s h2⟩
end
section
variable {X:Cx} {pins:List (Addr×Obj)} {σ:L2.St} {H:Hp} {s:Shared}
mutual
theorem Rp.inj (I:Inv X pins σ H s):∀ {d e:D} {v:V},Rp X.K H d v→Rp X.K H e v→deq d e=true
 | .int i,e,v,h1,h2=>by
  rw [Rp] at h1
  subst h1
  cases e with
  | int j=>rw [Rp] at h2;cases h2;simp [deq]
  | str _=>rw [Rp] at h2;cases h2
  | non=>rw [Rp] at h2;cases h2
  | tup _=>rw [Rp] at h2;obtain ⟨_,_,h,_⟩:=h2;cases h
 | .str x,e,v,h1,h2=>by
  rw [Rp] at h1
  subst h1
  cases e with
  | int j=>rw [Rp] at h2;cases h2
  | str _=>rw [Rp] at h2;cases h2;simp [deq]
  | non=>rw [Rp] at h2;cases h2
  | tup _=>rw [Rp] at h2;obtain ⟨_,_,h,_⟩:=h2;cases h
 | .non,e,v,h1,h2=>by
  rw [Rp] at h1
  subst h1
  cases e with
  | int j=>rw [Rp] at h2;cases h2
  | str _=>rw [Rp] at h2;cases h2
  | non=>simp [deq]
  | tup _=>rw [Rp] at h2;obtain ⟨_,_,h,_⟩:=h2;cases h
 | .tup ds,e,v,h1,h2=>by
  rw [Rp] at h1
  obtain ⟨p,xs,rfl,hs,hl⟩:=h1
  cases e with
  | int j=>rw [Rp] at h2;cases h2
  | str _=>rw [Rp] at h2;cases h2
  | non=>rw [Rp] at h2;cases h2
  | tup es=>
   rw [Rp] at h2
   obtain ⟨p',xs',e',hs',hl'⟩:=h2
   cases e'
   rw [I.tuple_inj hs' hs] at hl'
   rw [deq]
   exact RpL.inj I hl hl'
theorem RpL.inj (I:Inv X pins σ H s):∀ {ds es:List D} {xs:List V},RpL X.K H ds xs→RpL X.K H es xs→deqL ds es=true
 | [],es,xs,h1,h2=>by
  rw [RpL] at h1
  subst h1
  cases es with
  | nil=>simp [deqL]
  | cons e es=>rw [RpL] at h2;obtain ⟨_,_,h,_⟩:=h2;cases h
 | d::ds,es,xs,h1,h2=>by
  rw [RpL] at h1
  obtain ⟨v,r,rfl,h1,h1'⟩:=h1
  cases es with
  | nil=>rw [RpL] at h2;cases h2
  | cons e es=>
   rw [RpL] at h2
   obtain ⟨v',r',e',h2,h2'⟩:=h2
   cases e'
   rw [deqL,Rp.inj I h1 h2,RpL.inj I h1' h2']
   rfl
end
theorem EO:∀ (ds es:List D),((List.range (min ds.length es.length)).all (fun j=>deq (ds.getD j .non) (es.getD j .non)) && ds.length == es.length)=deqL ds es
 | [],[]=>by simp [deqL]
 | [],e::es=>by simp [deqL]
 | d::ds,[]=>by simp [deqL]
 | d::ds,e::es=>by
  have ih:=EO ds es
  rw [deqL,← ih]
  have e1:min (d::ds).length (e::es).length=min ds.length es.length+1:=by simp only [List.length_cons];omega
  rw [e1,List.range_succ_eq_map,List.all_cons,List.all_map]
  have e2:((d::ds).length == (e::es).length)=(ds.length == es.length):=by
   simp only [List.length_cons]
   by_cases h:ds.length=es.length
   ·rw [h];simp
   ·have h1:(ds.length == es.length)=false:=by simpa using h
    rw [h1]
    have:¬ ds.length+1=es.length+1:=by omega
    simpa using this
  rw [e2,Bool.and_assoc]
  rfl
mutual
theorem bT (I:Inv X pins σ H s):∀ {d e:D} {A:Around} {v u:V} {x y:Value},Rp X.K H d v→Rp X.K H e u→AY v x→AY u y→A.units+dep d<cLine→SeqAt.EqAt A s x y (deq d e)
 | .int i,e,A,v,u,x,y,h1,h2,r1,r2,hu=>by
  rw [Rp] at h1
  subst h1
  obtain ⟨t,rfl⟩:=r1
  cases e with
  | int j=>rw [Rp] at h2;subst h2;obtain ⟨t',rfl⟩:=r2;exact SeqAt.EqAt.int_int i t j t'
  | str z=>rw [Rp] at h2;subst h2;obtain ⟨t',rfl⟩:=r2;exact SeqAt.EqAt.int_str i t z t'
  | non=>rw [Rp] at h2;subst h2;cases r2;exact SeqAt.EqAt.int_none i t
  | tup es=>
   walk_at "b47"
   exact SeqAt.EqAt.int_tuple i t ht (by omega)
 | .str z,e,A,v,u,x,y,h1,h2,r1,r2,hu=>by
  rw [Rp] at h1
  subst h1
  obtain ⟨t,rfl⟩:=r1
  cases e with
  | int j=>rw [Rp] at h2;subst h2;obtain ⟨t',rfl⟩:=r2;exact SeqAt.EqAt.str_int z t j t'
  | str z'=>rw [Rp] at h2;subst h2;obtain ⟨t',rfl⟩:=r2;exact SeqAt.EqAt.str_str z t z' t'
  | non=>rw [Rp] at h2;subst h2;cases r2;exact SeqAt.EqAt.str_none z t
  | tup es=>
   walk_at "b47"
   exact SeqAt.EqAt.str_tuple z t ht (by omega)
 | .non,e,A,v,u,x,y,h1,h2,r1,r2,hu=>by
  rw [Rp] at h1
  subst h1
  cases r1
  cases e with
  | int j=>rw [Rp] at h2;subst h2;obtain ⟨t',rfl⟩:=r2;exact SeqAt.EqAt.none_int j t'
  | str z'=>rw [Rp] at h2;subst h2;obtain ⟨t',rfl⟩:=r2;exact SeqAt.EqAt.none_str z' t'
  | non=>rw [Rp] at h2;subst h2;cases r2;exact SeqAt.EqAt.same _
  | tup es=>
   walk_at "b47"
   exact SeqAt.EqAt.none_tuple ht (by omega)
 | .tup ds,e,A,v,u,x,y,h1,h2,r1,r2,hu=>by
  have h1':=h1
  rw [Rp] at h1
  obtain ⟨p,xs,rfl,hs,hl⟩:=h1
  cases r1
  obtain ⟨its,rv,ht,_⟩:=I.tuple hs
  cases e with
  | int j=>rw [Rp] at h2;subst h2;obtain ⟨t',rfl⟩:=r2;exact SeqAt.EqAt.tuple_int j t' ht (by omega)
  | str z'=>rw [Rp] at h2;subst h2;obtain ⟨t',rfl⟩:=r2;exact SeqAt.EqAt.tuple_str z' t' ht (by omega)
  | non=>rw [Rp] at h2;subst h2;cases r2;exact SeqAt.EqAt.tuple_none ht (by omega)
  | tup es=>
   have h2':=h2
   rw [Rp] at h2
   obtain ⟨p',xs',rfl,hs',hl'⟩:=h2
   cases r2
   obtain ⟨its',rv',ht',_⟩:=I.tuple hs'
   by_cases hp:p=p'
   ·subst hp
    rw [Rp.inj I h1' h2']
    exact SeqAt.EqAt.same _
   ·refine SeqAt.EqAt.of_refs hp ?_
    have l1:its.length=ds.length:=by rw [← rv.length,hl.length]
    have l2:its'.length=es.length:=by rw [← rv'.length,hl'.length]
    have key:=SeqAt.RcAt.tuples (e:=fun j=>deq (ds.getD j .non) (es.getD j .non)) ht ht' (show A.units<cLine by omega) (fun j h1 h2=>by
     rw [dep] at hu
     exact eqAtL_D I hl hl' rv rv' (show A.in1.units+depL ds<cLine by show A.units+1+depL ds<cLine;omega) j (by simpa using h1) (by simpa using h2))
    have e0:((List.range (min its.toArray.size its'.toArray.size)).all (fun j=>deq (ds.getD j .non) (es.getD j .non)) && its.toArray.size == its'.toArray.size)=deqL ds es:=by
     rw [← EO]
     simp only [List.size_toArray,l1,l2]
    rw [deq,← e0]
    exact key
theorem eqAtL_D (I:Inv X pins σ H s):∀ {ds es:List D} {A:Around} {vs us:List V} {xs ys:List Value},RpL X.K H ds vs→RpL X.K H es us→AM vs xs→AM us ys→A.units+depL ds<cLine→
  ∀ (j:Nat) (h1:j<xs.length) (h2:j<ys.length),SeqAt.EqAt A s xs[j] ys[j] (deq (ds.getD j .non) (es.getD j .non))
 | [],es,A,vs,us,xs,ys,h1,h2,r1,r2,hu,j,j1,j2=>by
  rw [RpL] at h1
  subst h1
  cases r1
  exact absurd j1 (Nat.not_lt_zero _)
 | d::ds,es,A,vs,us,xs,ys,h1,h2,r1,r2,hu,j,j1,j2=>by
  rw [RpL] at h1
  obtain ⟨v,r,rfl,h1,h1'⟩:=h1
  cases r1 with
  | cons q1 q1'=>
  cases es with
  | nil=>
   rw [RpL] at h2
   subst h2
   cases r2
   exact absurd j2 (Nat.not_lt_zero _)
  | cons e es=>
   rw [RpL] at h2
   obtain ⟨v',r',rfl,h2,h2'⟩:=h2
   cases r2 with
   | cons q2 q2'=>
   rw [depL] at hu
   cases j with
   | zero=>exact bT (d:=d) (e:=e) I h1 h2 q1 q2 (by omega)
   | succ j=>exact eqAtL_D I h1' h2' q1' q2' (by omega) j (by simpa using j1) (by simpa using j2)
end
def eJ (K:PySem.W.Frag) (ne:Bool):R2:=fun x y H Q=>∃ ds es,Rp K H (.tup ds) x∧Rp K H (.tup es) y∧depL ds≤60∧Q (.bl (if ne then !deqL ds es else deqL ds es)) H
theorem cH (hu:X.A.units+64<cLine):OpR X (compareOp .Eq) (eJ X.K false):=by
 walk_at "b14"
 refine SeqAt.eq_tupleAt (e:=fun j=>deq (ds.getD j .non) (es.getD j .non)) ht ht' (by omega) (fun j h1 h2=>eqAtL_D I hl hl' rv rv' (show X.A.in1.units+depL ds<cLine by show X.A.units+1+depL ds<cLine;omega) j (by simpa using h1) (by simpa using h2)) ?_
 exact AW I q (by
  simp only [if_false,Bool.false_eq_true]
  rw [← EO]
  simp only [List.size_toArray,l1,l2])
theorem cM (hu:X.A.units+64<cLine):OpR X (compareOp .NotEq) (eJ X.K true):=by
 walk_at "b14"
 refine SeqAt.RcNeAt.tuples (e:=fun j=>deq (ds.getD j .non) (es.getD j .non)) ht ht' (by omega) (fun j h1 h2=>eqAtL_D I hl hl' rv rv' (show X.A.in1.units+depL ds<cLine by show X.A.units+1+depL ds<cLine;omega) j (by simpa using h1) (by simpa using h2)) X.prog X.w X.xe _ ?_
 exact AW I q (by
  simp only [if_true]
  rw [← EO]
  simp only [List.size_toArray,l1,l2])
end
mutual
def JT (K:PySem.W.Frag):D→Value→Bool
 | .int i,.int j _=>i == j
 | .str x,.str y _=>x == y
 | .non,.none=>true
 | .tup ds,.ref p=>(match K.lookup p with
  | some o=>(match o.cls,o.data with
   | .type n,.seq its _=>n == "tuple" && decide (its.size≤1000) && kdInL K ds its.toList
   | _,_=>false)
  | none=>false)
 | _,_=>false
def kdInL (K:PySem.W.Frag):List D→List Value→Bool
 | [],[]=>true
 | d::ds,u::us=>JT K d u && kdInL K ds us
 | _,_=>false
end
mutual
theorem NS {K:PySem.W.Frag}:∀ {d:D} {u:Value},JT K d u=true→∃ v,AY v u∧∀ H,Rp K H d v
 | .int i,u,h=>by
  cases u with
  | int j t=>
   rw [JT] at h
   have e:i=j:=by simpa using h
   subst e
   exact ⟨.int i,⟨t,rfl⟩,fun H=>by rw [Rp]⟩
  | _=>simp [JT] at h
 | .str x,u,h=>by
  cases u with
  | str y t=>
   rw [JT] at h
   have e:x=y:=by simpa using h
   subst e
   exact ⟨.str x,⟨t,rfl⟩,fun H=>by rw [Rp]⟩
  | _=>simp [JT] at h
 | .non,u,h=>by
  cases u with
  | none=>exact ⟨.non,rfl,fun H=>by rw [Rp]⟩
  | _=>simp [JT] at h
 | .tup ds,u,h=>by
  cases u with
  | ref p=>
   rw [JT] at h
   cases e:K.lookup p with
   | none=>rw [e] at h;cases h
   | some o=>
    rw [e] at h
    dsimp only at h
    split at h
    ·rename_i n its k ec ed
     simp only [Bool.and_eq_true,beq_iff_eq,decide_eq_true_eq] at h
     obtain ⟨⟨rfl,hz⟩,hl⟩:=h
     obtain ⟨vs,rv,hv⟩:=kd_rpL hl
     exact ⟨.ref p,rfl,fun H=>by
      rw [Rp]
      exact ⟨p,vs,rfl,.inr ⟨o,its,k,e,ec,ed,Nat.le_trans hz (by decide),rv⟩,hv H⟩⟩
    ·cases h
  | _=>simp [JT] at h
theorem kd_rpL {K:PySem.W.Frag}:∀ {ds:List D} {us:List Value},kdInL K ds us=true→∃ vs,AM vs us∧∀ H,RpL K H ds vs
 | [],us,h=>by
  cases us with
  | nil=>exact ⟨[],.nil,fun H=>by rw [RpL]⟩
  | cons _ _=>simp [kdInL] at h
 | d::ds,us,h=>by
  cases us with
  | nil=>simp [kdInL] at h
  | cons u us=>
   rw [kdInL,Bool.and_eq_true] at h
   obtain ⟨v,r,hv⟩:=NS h.1
   obtain ⟨vs,rs,hvs⟩:=kd_rpL h.2
   exact ⟨v::vs,.cons r rs,fun H=>by rw [RpL];exact ⟨v,vs,rfl,hv H,hvs H⟩⟩
end
theorem RpL.at {K:PySem.W.Frag} {H:Hp}:∀ {ds:List D} {xs:List V} {j:Nat},RpL K H ds xs→j<ds.length→∃ v,xs[j]? =some v∧Rp K H (ds.getD j .non) v
 | [],xs,j,h,hj=>absurd hj (Nat.not_lt_zero _)
 | d::ds,xs,j,h,hj=>by
  rw [RpL] at h
  obtain ⟨v,r,rfl,h1,h2⟩:=h
  cases j with
  | zero=>exact ⟨v,rfl,h1⟩
  | succ j=>
   obtain ⟨u,e,q⟩:=RpL.at (ds:=ds) (xs:=r) (j:=j) h2 (by simpa using hj)
   exact ⟨u,e,q⟩
abbrev num (a b:Int):D:= .tup [.int a,.int b]
abbrev plc (a b c d:Int):D:= .tup [num a b,num c d]
theorem BM {K:PySem.W.Frag} {H:Hp} {d e:D} {v:V}:Rp K H (.tup [d,e]) v↔∃ p x y,v= .ref p∧SqT K H p [x,y]∧Rp K H d x∧Rp K H e y:=by
 constructor
 ·intro h
  rw [Rp] at h
  obtain ⟨p,xs,rfl,hs,hl⟩:=h
  rw [RpL] at hl
  obtain ⟨v,r,rfl,h1,hl⟩:=hl
  rw [RpL] at hl
  obtain ⟨v',r',rfl,h2,hl⟩:=hl
  rw [RpL] at hl
  subst hl
  exact ⟨p,v,v',rfl,hs,h1,h2⟩
 ·rintro ⟨p,x,y,rfl,hs,h1,h2⟩
  rw [Rp]
  refine ⟨p,_,rfl,hs,?_⟩
  rw [RpL]
  refine ⟨_,_,rfl,h1,?_⟩
  rw [RpL]
  refine ⟨_,_,rfl,h2,?_⟩
  rw [RpL]
section
variable {X:Cx}
theorem RW {c:Value}:DE X (.builtin "isinstance") (fun xs H Q=>∃ x y,xs=[x,y]∧AY y c∧(∃ n,c= .type n)∧∃ ty,(FU X.K H x ty∨∃ p ys,x= .ref p∧SqT X.K H p ys∧ty= .type "tuple")∧∃ b,PySem.W.kitOne X.K ty c=some b∧Q (.bl b) H):=by
 intro pins s σ H xs us Q I rv h
 obtain ⟨x,y,rfl,ry,⟨n,rfl⟩,ty,hty,b,hk,q⟩:=h
 rcases hty with hty | ⟨p,ys,rfl,hs,rfl⟩
 ·exact VX (c:= .type n) pins s σ H [x,y] us Q I rv ⟨x,y,ty,b,rfl,ry,⟨n,rfl⟩,hty,hk,q⟩
 ·obtain ⟨u,u',rfl,ru,ru'⟩:=rv.two
  have e:u'= .type n:=by
   cases y with
   | ty m=>have:=(show Value.type n=Value.type m from ry);cases this;exact ru'
   | non=>cases ry
   | bl _=>cases ry
   | int _=>obtain ⟨_,z⟩:=ry;cases z
   | str _=>obtain ⟨_,z⟩:=ry;cases z
   | byt _=>obtain ⟨_,z⟩:=ry;cases z
   | flt _=>obtain ⟨_,z⟩:=ry;cases z
   | ref _=>cases ry
  subst e
  cases ru
  obtain ⟨its,_,⟨o,h1,h2,_⟩,_⟩:=I.tuple hs
  exact PySem.W.kia_one PySem.W.kitx_tuple I.kIn ⟨o,h1,h2⟩ hk (fun z=>nomatch z) fun tk=>⟨.bl b,H,I.tok _,rfl,q⟩
end
def MA (K:PySem.W.Frag) (d:D):TE:=fun _ H Q=>∀ v H',AE H H'→Rp K H' d v→Q v H'
def FO (K:PySem.W.Frag) (ds:List D):TA:=fun _ H Q=>∀ vs H',AE H H'→RpL K H' ds vs→Q vs H'
section
variable {X:Cx} {e:Expr} {es:List Expr} {pos:Pos} {d:D} {ds:List D}
theorem PE.imp {t t':TE} (h:PE X e t) (i:∀ σ H Q,t' σ H Q→t σ H Q):PE X e t':=fun pins s σ H Q I q=>h pins s σ H Q I (i _ _ _ q)
theorem PA.imp {t t':TA} (h:PA X es t) (i:∀ σ H Q,t' σ H Q→t σ H Q):PA X es t':=fun p pins s σ H Q I q=>h p pins s σ H Q I (i _ _ _ q)
theorem cB {i:Int} {j pos}:PE X (.Constant (.int i) j pos) (MA X.K (.int i)):=AC.imp fun _ H Q q=>q _ _ (AE.refl H) (by rw [Rp])
theorem cS {x:Str} {j pos}:PE X (.Constant (.str x) j pos) (MA X.K (.str x)):=BB.imp fun _ H Q q=>q _ _ (AE.refl H) (by rw [Rp])
theorem AT:PA X [] (FO X.K []):=AB.imp fun _ H Q q=>q _ _ (AE.refl H) (by rw [RpL])
theorem JE (h:PE X e (MA X.K d)) (hs:PA X es (FO X.K ds)) (he:starEach (e::es) X.env=(false,eval e X.env)::starEach es X.env:=by rfl):PA X (e::es) (FO X.K (d::ds)):=
 (AA h hs he).imp fun _ H Q q=>fun v H1 s1 r1 vs H2 s2 r2=>q _ _ (s1.trans s2) (by rw [RpL];exact ⟨v,vs,rfl,r1.same s2,r2⟩)
theorem BH {x1} (h:PA X es (FO X.K ds)) (hz:ds.length≤1000:=by decide):PE X (.Tuple es x1 pos) (MA X.K (.tup ds)):=
 (AI h).imp fun _ H Q q=>fun vs H1 s1 r1=>⟨by rw [r1.length];exact Nat.le_trans hz (by decide),fun p hp=>q _ _ (s1.upd2 (s1.free hp)) (by
  rw [Rp];exact ⟨p,vs,rfl,SqT.of AD,r1.same (AE.upd hp)⟩)⟩
end
end L2
namespace L2
open PySem PySem.Spec PyProof.Rows L2
section
variable {X:Cx} {es es':List Expr} {pos pos' p:Pos} {d:D} {ds:List D}
theorem AG {x1} {te:TE} {t:TA} (ha:PE X (.Tuple es' x1 p) te) (hr:PA X es t):PA X (.Tuple es' x1 p::es) (LK te t):=AA ha hr (by rfl)
theorem CK {x1} (ha:PE X (.Tuple es' x1 p) (MA X.K d)) (hr:PA X es (FO X.K ds)):PA X (.Tuple es' x1 p::es) (FO X.K (d::ds)):=JE ha hr (by rfl)
theorem CS {i:Int} {j} (hr:PA X es (FO X.K ds)):PA X (.Constant (.int i) j p::es) (FO X.K (.int i::ds)):=JE cB hr (by rfl)
theorem BW {i:Str} {j} (hr:PA X es (FO X.K ds)):PA X (.Constant (.str i) j p::es) (FO X.K (.str i::ds)):=JE cS hr (by rfl)
end
theorem MG {CX P w K mg base N nm sc fa cdv A outer s H E}:(CQ CX P w K mg base N nm sc fa cdv A outer s H E).K=K:=rfl
section
variable {κ:Type} [DecidableEq κ]
def eG (kvs:List (κ×V)) (k:κ) (v:V):List (κ×V):=
 if (kvs.any fun kv=>decide (kv.1=k))=true then kvs.map (fun kv=>if kv.1=k then (kv.1,v) else kv) else kvs++[(k,v)]
end
theorem eR {P:Program} {w:World} {k:Key} {u:Value} (r:AY (kV k) u):(CM P w).is k u=true:=by
 cases k with
 | inl i=>obtain ⟨t,e⟩:=(show ∃ t,u=Value.int i t from r);subst e;exact OM P w i t
 | inr x=>obtain ⟨t,e⟩:=(show ∃ t,u=Value.str x t from r);subst e;exact MN P w x t
theorem KY {P:Program} {w:World}:∀ {ks:List Key} {us:List Value},AM (ks.map kV) us→ItemsAre (CM P w) ks us
 | [],_,r=>by rw [List.map_nil] at r;cases r;exact .nil
 | k::ks,_,r=>by
  rw [List.map_cons] at r
  cases r with
  | cons h t=>exact .cons (eR h) (KY t)
section
variable {P:Program} {w:World} {H:Hp} {h:Heap} {a:Addr}
end
section
variable {X:Cx} {pins:List (Addr×Obj)} {σ:St} {H:Hp} {s:Shared} {a:Addr} {y v:V} {u r:Value} {o:Option V} {A:Around} {E:Value→Shared→Prop}
theorem Inv.big (I:Inv X pins σ H s):sysModules<s.heap.objs.size:=by
 have h:mainGlobals<s.heap.objs.size:=(I.mod.glob.keeps I.bk).lt
 exact Nat.lt_trans (by decide) h
theorem QT {h':Heap} {t':Nat} {ob:HO} (I:Inv X pins σ H s) (mu:Mut (H a)) (hs:Heap.SameBut a s.heap h') (he:∃ q,h'.get? a=some q) (new:BX X.prog X.w (upd H a ob) h' a ob):
  Inv X pins σ (upd H a ob) { s with heap:=h',toks:=t' }:=
 I.write (x:=a) (e:=a) mu (.inl rfl) (fun b q hb z=>(hs.2 b hb).trans z) he new
end
section
variable {X:Cx} {pins:List (Addr×Obj)} {σ:St} {H:Hp} {s:Shared} {a:Addr} {kvs:List (Key×V)} {k:Key} {u:Value} {A:Around} {E:Value→Shared→Prop}
end
def XX (i:Expr):Prop:=∀ ov iv,subscripted i false ov iv=operate [ov,iv] (getItem ov iv)
theorem RF {prog:Program} {w:World} {A:Around} {E:Value→Shared→Prop} {s:Shared} {env:Env} {value slice:Expr} {pos:Pos} {T id:String} {Q:Value→Shared→Prop}
  (hl:typeLookup (.type T) "__getitem__"=pure (some (.builtin id))) (hs:XX slice)
  (h:wpAny (model prog w) A (eval value env) (fun o s₁=>wpAny (model prog w) A (eval slice env) (fun i s₂=>s₂.TypeIs o T∧wpAny (model prog w) A (getItem o i) Q E s₂) E s₁) E s):
  wpAny (model prog w) A (eval (.Subscript value slice pos) env) Q E s:=by
 refine Subscript_ (wpAny_mono h (fun o s₁ h₁=>wpAny_mono h₁ (fun i s₂ h₂=> ?_) fun _ _ x=>x) fun _ _ x=>x)
 obtain ⟨hT,h₂⟩:=h₂
 unfold subscriptTail
 refine wpAny_bind ?_
 rw [getitemInPython_of_ne hT.not_modules]
 refine wpAny_bind (wpAny_specialOf hT hl ?_)
 have fin:wpAny (model prog w) A (subscripted slice false o i) (fun r s₃=>wpAny (model prog w) A (letTemporaryGo value o r >>= fun _=>pure r) Q E s₃) E s₂:=by
  rw [hs o i]
  exact wpAny_operating (wpAny_mono h₂ (fun r s₃ h₃=>wpAny_bind (wpAny_letTemporaryGo (wpAny_pure h₃))) fun _ _ x=>x)
 first
  | exact wpAny_pure (wpAny_bind fin)
  | exact wpAny_bind (wpAny_pure (wpAny_bind fin))
  | exact wpAny_bind fin
section
variable {X:Cx} {o i e value:Expr} {pos pos' tpos:Pos} {td ty tv:TE}
end
section
variable {X:Cx} {pos:Pos}
end
structure M1 (X:Cx) (o:Expr) (m:Str) (apos:Pos) (e:Expr) (cpos:Pos):Prop where
 base:attributeBase o m X.env (eval o X.env)=eval o X.env
 few:((backTo cpos (starEach [e] X.env)).all (fun x=> !x.1) && (backToKw cpos (keywordEach [] X.env)).all (fun x=>x.1.isSome)
  && decide (([e]:List Expr).length+([]:List Keyword).length+(if ([]:List Keyword).isEmpty then 0 else 1)<30))=true
 line:(apos.endLine == cpos.line)=true
 trees:backTo cpos (starEach [e] X.env)=[(false,eval e X.env)]
structure M2 (X:Cx) (o:Expr) (m:Str) (apos:Pos) (e f:Expr) (cpos:Pos):Prop where
 base:attributeBase o m X.env (eval o X.env)=eval o X.env
 few:((backTo cpos (starEach [e,f] X.env)).all (fun x=> !x.1) && (backToKw cpos (keywordEach [] X.env)).all (fun x=>x.1.isSome)
  && decide (([e,f]:List Expr).length+([]:List Keyword).length+(if ([]:List Keyword).isEmpty then 0 else 1)<30))=true
 line:(apos.endLine == cpos.line)=true
 trees:backTo cpos (starEach [e,f] X.env)=[(false,eval e X.env),(false,eval f X.env)]
section
variable {X:Cx} {pins:List (Addr×Obj)} {σ:St} {H:Hp} {s:Shared} {a:Addr} {y d:V} {u r:Value} {o:Option V} {A:Around} {E:Value→Shared→Prop}
end
section
variable {X:Cx} {o e f:Expr} {apos cpos:Pos} {td ty tx:TE}
end
section
variable {X:Cx} {pins:List (Addr×Obj)} {σ:St} {H:Hp} {s:Shared} {a:Addr} {kvs:List (Key×V)} {A:Around} {E:Value→Shared→Prop}
end
section
variable {X:Cx} {pins:List (Addr×Obj)} {σ:St} {H:Hp} {s:Shared} {a:Addr} {y:V} {u:Value} {A:Around} {E:Value→Shared→Prop}
end
section
variable {κ:Type} [DecidableEq κ]
end
theorem KH {prog:Program} {w:World} {A:Around} {E:Value→Shared→Prop} {s:Shared} {t sl:Addr} {items:Array Value} {vl vu:Value} {lo hi:Option Int} {Q:Value→Shared→Prop}
  (ht:IsTup s.heap t items) (hs:s.heap.IsSliceOf sl vl vu .none) (pl:IsPart vl lo) (pu:IsPart vu hi) (hw:HT.sIx items.size 0 lo=0∧HT.sIx items.size items.size hi=items.size) (q:Q (.ref t) s):
  wpAny (model prog w) A (getItem (.ref t) (.ref sl)) Q E s:=by
 walk_at "b54"
 refine wpAny_bind (wpAny_sequenceKey ht.typeIs (by decide) ?_)
 refine wpAny_bind (wpAny_callSpecial?_slot (name:=Str.ofString "__getitem__") ht.typeIs slot_tuple_getitem
  (wpAny_call_entry slot_tuple_getitem ht.typeIs entry_tuple_getitem ?_ (args_tuple_getitem _ _)))
 walk_at "b46"
 refine wpAny_bind (HT.sliceApplied_gen hs pl pu ?_)
 rw [hw.1,hw.2]
 dsimp only
 rw [if_pos (by simp)]
 unfold Builtin.Tuple.tupleIsExact
 refine wpAny_bind (wpAny_bind (wpAny_typeOf ht.typeIs (wpAny_pure ?_)))
 rw [if_pos (by decide)]
 refine wpAny_bind (wpAny_rule ?_)
 exact wpAny_pure ⟨_,rfl,wpAny_pure q⟩
def UA (K:PySem.W.Frag):V→Option Int→Option Int→Hp→VK→Prop:=fun x lo hi H Q=>∃ a xs,x= .ref a∧SqT K H a xs∧
 ∀ p H',AE H H'→SqT K H' p (ID xs lo hi)→Q (.ref p) H'
theorem QD {xs:List V} {lo hi:Option Int} (hw:HT.sIx xs.length 0 lo=0∧HT.sIx xs.length xs.length hi=xs.length):ID xs lo hi=xs:=by
 unfold ID
 rw [hw.1,hw.2,List.drop_zero,Nat.sub_zero,List.take_length]
section
variable {X:Cx}
theorem GX:SlR X (UA X.K):=by
 intro pins s σ H x v vl vu lo hi sl Q I rx hs pl pu h
 obtain ⟨a,xs,rfl,hx,q⟩:=h
 by_cases hw:HT.sIx xs.length 0 lo=0∧HT.sIx xs.length xs.length hi=xs.length
 ·cases rx
  walk_at "b39"
  refine KH ht hs pl pu (by rw [hlen];exact hw) ?_
  exact ⟨.ref a,H,I,rfl,q _ _ (AE.refl H) (by rw [QD hw];exact hx)⟩
 ·exact bE pins s σ H _ v vl vu lo hi sl Q I rx hs pl pu ⟨a,xs,rfl,hx,hw,fun p hp=>q _ _ (AE.upd hp) (SqT.of AD)⟩
end
def BO (H H':Hp):Prop:=∀ b o,H b=some o→((∃ xs,o= .tup xs)∨∃ o1 o2,o= .frz o1 o2)→H' b=some o
theorem AE.t {H H':Hp} (s:AE H H'):BO H H':=fun b o e _=>s b o e
theorem BO.refl (H:Hp):BO H H:=fun b o e _=>e
theorem BO.trans {H H' H'':Hp} (a:BO H H') (b:BO H' H''):BO H H'':=fun x o e h=>b x o (a x o e h) h
theorem BO.upd {H H':Hp} {p:Addr} {o:HO} (s:BO H H') (h:∀ u,H p=some u→¬ ((∃ xs,u= .tup xs)∨∃ o1 o2,u= .frz o1 o2)):BO H (L2.upd H' p o):=fun b u e k=>by
 by_cases hb:b=p
 ·subst hb;exact absurd k (h u e)
 ·rw [BE hb];exact s b u e k
theorem BO.tup {K:PySem.W.Frag} {H H':Hp} {a:Addr} {xs:List V} (e:BO H H') (h:SqT K H a xs):SqT K H' a xs:=by
 rcases h with (h | ⟨o,h⟩) | h
 ·exact .inl (.inl (e _ _ h (.inl ⟨_,rfl⟩)))
 ·exact .inl (.inr ⟨o,e _ _ h (.inr ⟨_,_,rfl⟩)⟩)
 ·exact .inr h
mutual
theorem Rp.t {K:PySem.W.Frag} {H H':Hp} (s:BO H H'):∀ {d:D} {v:V},Rp K H d v→Rp K H' d v
 | .int i,v,h=>by rw [Rp] at h ⊢;exact h
 | .str x,v,h=>by rw [Rp] at h ⊢;exact h
 | .non,v,h=>by rw [Rp] at h ⊢;exact h
 | .tup ds,v,h=>by
  rw [Rp] at h ⊢
  obtain ⟨p,xs,e,hs,hl⟩:=h
  exact ⟨p,xs,e,s.tup hs,RpL.t s hl⟩
theorem RpL.t {K:PySem.W.Frag} {H H':Hp} (s:BO H H'):∀ {ds:List D} {xs:List V},RpL K H ds xs→RpL K H' ds xs
 | [],xs,h=>by rw [RpL] at h ⊢;exact h
 | d::ds,xs,h=>by
  rw [RpL] at h ⊢
  obtain ⟨v,r,e,h1,h2⟩:=h
  exact ⟨v,r,e,Rp.t s h1,RpL.t s h2⟩
end
theorem RpL.app {K:PySem.W.Frag} {H:Hp}:∀ {ds es:List D} {xs ys:List V},RpL K H ds xs→RpL K H es ys→RpL K H (ds++es) (xs++ys)
 | [],es,xs,ys,h,g=>by rw [RpL] at h;subst h;exact g
 | d::ds,es,xs,ys,h,g=>by
  rw [RpL] at h
  obtain ⟨v,r,rfl,h1,h2⟩:=h
  rw [List.cons_append,List.cons_append,RpL]
  exact ⟨v,r++ys,rfl,h1,RpL.app h2 g⟩
theorem RpL.one {K:PySem.W.Frag} {H:Hp} {d:D} {v:V} (h:Rp K H d v):RpL K H [d] [v]:=by
 rw [RpL];exact ⟨v,[],rfl,h,by rw [RpL]⟩
theorem RpL.nil {K:PySem.W.Frag} {H:Hp}:RpL K H [] []:=by rw [RpL]
section
variable {X:Cx} {a:Expr} {ta:TE} {pos:Pos}
end
theorem HK {H:Hp} {p:Addr} {xs:List V} (h:H p=some (.lst xs)):∀ u,H p=some u→¬ ((∃ xs,u= .tup xs)∨∃ o1 o2,u= .frz o1 o2):=fun u e=>by
 rw [h] at e;cases e
 rintro (⟨xs,e⟩ | ⟨o1,o2,e⟩)<;> cases e
theorem IS {X:Cx}:DE X (.type "tuple") (fun xs H Q=>∃ p ys,xs=[.ref p]∧SqL X.K H p ys∧∀ l,H l=none→Q (.ref l) (upd H l (.tup ys))):=by
 intro pins s σ H xs us Q I r h
 obtain ⟨p,ys,e,hq,q⟩:=h
 exact KJ pins s σ H xs us Q I r ⟨p,ys,e,.inl ⟨hq,q⟩⟩
section
variable {X:Cx}
end
section
variable {X:Cx} {st:Stmt} {CH:List Stmt} {t u:TS}
def dB {α:Sort u} (a:α):α:=a
def XH (a b:TS):TS:=fun D σ H=>a { D with nx:=dB (b D) } σ H
theorem AV (h1:PS X st t) (h2:PSs X CH u):PSs X (st::CH) (XH t u):=AF h1 h2
theorem ZL {R:St→Hp→Prop} {σ:St} {H:Hp} (h:R σ H):dB R σ H:=h
end
def CC (x:V) (P:Addr→Prop):Prop:=match x with | .ref a=>P a | _=>False
def CV (x:V) (P:Int→Prop):Prop:=match x with | .int a=>P a | _=>False
def oBl (x:V) (P:Bool→Prop):Prop:=match x with | .bl a=>P a | _=>False
def MK (σ:St) (i:Nat) (P:V→Prop):Prop:=match σ[i]? with | some (some v)=>P v | _=>False
def o1 (vs:List V) (P:V→Prop):Prop:=match vs with | [x]=>P x | _=>False
def o2 (vs:List V) (P:V→V→Prop):Prop:=match vs with | [x,y]=>P x y | _=>False
def o0 (vs:List V) (P:Prop):Prop:=match vs with | []=>P | _=>False
def oC (vs:List V) (P:V→List V→Prop):Prop:=match vs with | x::r=>P x r | _=>False
theorem CC.ex {x:V} {P:Addr→Prop} (h:CC x P):∃ a,x= .ref a∧P a:=by cases x<;> first | exact ⟨_,rfl,h⟩ | exact h.elim
theorem CV.ex {x:V} {P:Int→Prop} (h:CV x P):∃ a,x= .int a∧P a:=by cases x<;> first | exact ⟨_,rfl,h⟩ | exact h.elim
theorem oBl.ex {x:V} {P:Bool→Prop} (h:oBl x P):∃ a,x= .bl a∧P a:=by cases x<;> first | exact ⟨_,rfl,h⟩ | exact h.elim
theorem MK.ex {σ:St} {i:Nat} {P:V→Prop} (h:MK σ i P):∃ v,σ[i]? =some (some v)∧P v:=by
 unfold MK at h
 split at h
 ·exact ⟨_,‹_›,h⟩
 ·exact h.elim
theorem o1.ex {vs:List V} {P:V→Prop} (h:o1 vs P):∃ x,vs=[x]∧P x:=match vs,h with | [x],h=>⟨x,rfl,h⟩
theorem o2.ex {vs:List V} {P:V→V→Prop} (h:o2 vs P):∃ x y,vs=[x,y]∧P x y:=match vs,h with | [x,y],h=>⟨x,y,rfl,h⟩
theorem o0.ex {vs:List V} {P:Prop} (h:o0 vs P):vs=[]∧P:=match vs,h with | [],h=>⟨rfl,h⟩
theorem oC.ex {vs:List V} {P:V→List V→Prop} (h:oC vs P):∃ x r,vs=x::r∧P x r:=match vs,h with | x::r,h=>⟨x,r,rfl,h⟩
def dD (t:TE):TE:=fun σ H Q=>∃ Q',t σ H Q'∧∀ v H',Q' v H'→Q v H'
def dR (r:R2):R2:=fun x y H Q=>∃ Q',r x y H Q'∧∀ v H',Q' v H'→Q v H'
section
variable {X:Cx} {a b c o e value tg:Expr} {es:List Expr} {ta tb tc tv te:TE} {pos pos' apos tpos p:Pos} {f x:Str}
theorem PE.mono {t:TE} (h:PE X e t):PE X e (dD t):=fun pins s σ H Q I ⟨Q',q,m⟩=>thn (h pins s σ H Q' I q) fun _ _ ⟨v,H',I',r,z⟩=>⟨v,H',I',r,m _ _ z⟩
theorem OpR.mono {f:Value→Value→Sem Value} {r:R2} (h:OpR X f r):OpR X f (dR r):=fun pins s σ H x y v u Q I r1 r2 ⟨Q',q,m⟩=>thn (h pins s σ H x y v u Q' I r1 r2 q) fun _ _ ⟨v,H',I',r,z⟩=>⟨v,H',I',r,m _ _ z⟩
theorem OpR.imp {f:Value→Value→Sem Value} {r r':R2} (h:OpR X f r) (i:∀ x y H Q,r' x y H Q→r x y H Q):OpR X f r':=fun pins s σ H x y v u Q I r1 r2 q=>h pins s σ H x y v u Q I r1 r2 (i _ _ _ _ q)
theorem UnR.imp {f:Value→Sem Value} {r r':V→Hp→VK→Prop} (h:UnR X f r) (i:∀ x H Q,r' x H Q→r x H Q):UnR X f r':=fun pins s σ H x v Q I r1 q=>h pins s σ H x v Q I r1 (i _ _ _ q)
theorem IxR.imp {r r':R2} (h:IxR X r) (i:∀ x y H Q,r' x y H Q→r x y H Q):IxR X r':=fun value slice pins s σ H x y v u Q I r1 r2 q=>h value slice pins s σ H x y v u Q I r1 r2 (i _ _ _ _ q)
theorem PT.imp {t t':TT} (h:PT X e t) (i:∀ σ H Q,t' σ H Q→t σ H Q):PT X e t':=fun pins s σ H Q I q=>h pins s σ H Q I (i _ _ _ q)
theorem PG.imp {t t':TG} (h:PG X e t) (i:∀ v σ H Q,t' v σ H Q→t v σ H Q):PG X e t':=fun pins s σ H v u Q I r q=>h pins s σ H v u Q I r (i _ _ _ _ q)
theorem PGs.imp {t t':TGs} (h:PGs X es t) (i:∀ v σ H Q,t' v σ H Q→t v σ H Q):PGs X es t':=fun pins s σ H v u Q I r q=>h pins s σ H v u Q I r (i _ _ _ _ q)
theorem DE.imp {g:Value} {r r':List V→Hp→VK→Prop} (h:DE X g r) (i:∀ xs H Q,r' xs H Q→r xs H Q):DE X g r':=fun pins s σ H xs us Q I r1 q=>h pins s σ H xs us Q I r1 (i _ _ _ q)
theorem MtM.imp {id:String} {r r':V→List V→Hp→VK→Prop} (h:MtM X id r) (i:∀ x xs H Q,r' x xs H Q→r x xs H Q):MtM X id r':=fun pins s σ H x xs v us Q I r1 r2 q=>h pins s σ H x xs v us Q I r1 r2 (i _ _ _ _ q)
theorem PI.imp {iter:Expr} {t t':TI} (h:PI X tg iter t) (i:∀ σ H R,t' σ H R→t σ H R):PI X tg iter t':=fun pins s σ H R I q=>h pins s σ H R I (i _ _ _ q)
def OI (i:Nat):TE:=fun σ H Q=>MK σ i fun v=>Q v H
theorem pvD (i:Nat) {x:Str} {pos:Pos} (hN:X.N[i]? =some x:=by rfl) (hv:Vis X.env.scope x:=by first | exact Or.inl rfl | exact Or.inr (Or.inl rfl) | exact Or.inr (Or.inr rfl)) (hd:(x == ("__debug__":Str))=false:=by decide)
  (hcd:(x == ("__classdict__":Str))=false:=by decide):PE X (.Name x pos) (OI i):=(pv i hN hv hd hcd).imp fun _ _ _ h=>MK.ex h
def tBD (t:TE):TT:=fun σ H Q=>t σ H fun x H1=>oBl x fun c=>Q c H1
theorem LR {e:Expr} {t:TE} (h:PE X e t) (he:∀ whole,isTrue e X.env whole=(do let v ← whole;standAt e.pos;holding [v] (truthy v)):=by intro _;rfl):PT X e (tBD t):=
 (bS h.mono he).imp fun _ _ _ q=>⟨_,q,fun _ _ z=>z.ex⟩
theorem AU {op:CmpOp} {r:R2} (ho:OpR X (compareOp op) r) (ha:PE X a ta) (hb:PE X b tb) (hm:behindInMarks op b=false):PT X (.Compare a [op] [b] pos) (tBD (tOp r ta tb)):=
 (YI ho.mono ha.mono hb.mono hm).imp fun _ _ _ q=>⟨_,q,fun _ _ q=>⟨_,q,fun _ _ q=>⟨_,q,fun _ _ z=>z.ex⟩⟩⟩
def JP (ta tb:TE):TE:=fun σ H Q=>ta σ H fun x H1=>oBl x fun c=>if c=true then tb σ H1 Q else Q (.bl false) H1
theorem XT {CH:List Expr} (ha:PE X a ta) (hb:PE X (.BoolOp .And (b::CH) pos) tb):PE X (.BoolOp .And (a::b::CH) pos) (JP ta tb):=
 (cQ ha.mono hb).imp fun _ _ _ q=>⟨_,q,fun _ _ z=>z.ex⟩
def rID (C:Int→Int→Prop) (g:Int→Int→V):R2:=fun x y H Q=>CV x fun i=>CV y fun j=>C i j∧Q (g i j) H
def JW (g:Int→Int→V):R2:=fun x y H Q=>CV x fun i=>CV y fun j=>Q (g i j) H
def rUD (g:Int→V):V→Hp→VK→Prop:=fun x H Q=>CV x fun i=>Q (g i) H
theorem OpR.iD {f:Value→Value→Sem Value} {C g} (h:OpR X f (rI C g)):OpR X f (rID C g):=h.imp fun _ _ _ _ z=>by
 obtain ⟨i,rfl,z1⟩:=z.ex;obtain ⟨j,rfl,z2⟩:=z1.ex;exact ⟨i,j,rfl,rfl,z2⟩
theorem OpR.i0D {f:Value→Value→Sem Value} {g} (h:OpR X f (rI0 g)):OpR X f (JW g):=h.imp fun _ _ _ _ z=>by
 obtain ⟨i,rfl,z1⟩:=z.ex;obtain ⟨j,rfl,z2⟩:=z1.ex;exact ⟨i,j,rfl,rfl,z2⟩
theorem BK:OpR X (binaryOp .Add) (JW fun i j=> .int (i+j)):=cI.i0D
theorem FE:OpR X (binaryOp .Sub) (JW fun i j=> .int (i - j)):=aR.i0D
theorem BT:OpR X (binaryOp .Mult) (rID (fun i j=>IntMulOk i j) fun i j=> .int (i * j)):=YX.iD
theorem DI:OpR X (binaryOp .FloorDiv) (rID (fun _ j=>0<j∧j<2 ^ 100) fun i j=> .int (i / j)):=XJ.iD
theorem BJ:OpR X (binaryOp .Mod) (rID (fun _ j=>0<j) fun i j=> .int (i % j)):=aY.iD
theorem YB:OpR X (binaryOp .Pow) (rID dP fun i j=> .int (i ^ j.toNat)):=cG.iD
theorem WK:OpR X (compareOp .Lt) (JW fun i j=> .bl (decide (i<j))):=eF.i0D
theorem VE:OpR X (compareOp .LtE) (JW fun i j=> .bl (decide (i≤j))):=dX.i0D
theorem PV:OpR X (compareOp .Gt) (JW fun i j=> .bl (decide (j<i))):=eV.i0D
theorem cE:OpR X (compareOp .GtE) (JW fun i j=> .bl (decide (j≤i))):=eT.i0D
theorem ME:UnR X (unaryOp .USub) (rUD fun i=> .int (-i)):=bL.imp fun _ _ _ z=>z.ex
def GR (x y:V) (P:Bool→Prop):Prop:=match x with
 | .int i=>(match y with | .int j=>P (decide (i=j)) | .str _=>P false | .non=>P false | _=>False)
 | .str i=>(match y with | .str j=>P (decide (i=j)) | .int _=>P false | .non=>P false | _=>False)
 | .bl i=>(match y with | .bl j=>P (decide (i=j)) | .str _=>P false | .non=>P false | _=>False)
 | .non=>(match y with | .non=>P true | .int _=>P false | .bl _=>P false | .str _=>P false | _=>False)
 | _=>False
theorem GR.ex {x y:V} {P:Bool→Prop} (h:GR x y P):bZ x y=true∧P (decide (x=y)):=by
 cases x<;> cases y<;> first | exact h.elim | exact ⟨rfl,by simpa [GR] using h⟩
def US:R2:=fun x y H Q=>GR x y fun k=>Q (.bl k) H
def WU:R2:=fun x y H Q=>GR x y fun k=>Q (.bl (!k)) H
theorem CI:OpR X (compareOp .Eq) US:=dH.imp fun _ _ _ _ z=>z.ex
theorem MJ:OpR X (compareOp .NotEq) WU:=eZ.imp fun _ _ _ _ z=>z.ex
def OK (K:PySem.W.Frag):R2:=fun x y H Q=>CC x fun p=>CV y fun i=>∃ xs,SqL K H p xs∧∃ v,atI xs i=some v∧Q v H
def KO (K:PySem.W.Frag):R2:=fun x y H Q=>CC x fun p=>CV y fun i=>∃ xs,SqT K H p xs∧∃ v,atI xs i=some v∧Q v H
theorem BA:IxR X (OK X.K):=YJ.imp fun _ _ _ _ z=>by
 obtain ⟨p,rfl,z1⟩:=z.ex;obtain ⟨j,rfl,xs,h1,v,h2,h3⟩:=z1.ex;exact ⟨p,xs,j,v,rfl,rfl,h1,h2,h3⟩
theorem BN:IxR X (KO X.K):=bH.imp fun _ _ _ _ z=>by
 obtain ⟨p,rfl,z1⟩:=z.ex;obtain ⟨j,rfl,xs,h1,v,h2,h3⟩:=z1.ex;exact ⟨p,xs,j,v,rfl,rfl,h1,h2,h3⟩
def MO:TGs:=fun vs σ H Q=>o0 vs (Q σ H)
def JC (t:TG) (u:TGs):TGs:=fun vs σ H Q=>oC vs fun v r=>t v σ H fun σ' H'=>u r σ' H' Q
def LA (K:PySem.W.Frag) (n:Nat) (t:TGs):TG:=fun v σ H Q=>CC v fun a=>∃ xs,SqT K H a xs∧xs.length=n∧t xs σ H Q
theorem DL:PGs X [] MO:=YM.imp fun _ _ _ _ z=>z.ex
theorem BG {e:Expr} {es:List Expr} {t:TG} {u:TGs} (h1:PG X e t) (h2:PGs X es u)
  (hs:(assignEach (e::es) X.env).map (·.2)=assign e X.env::(assignEach es X.env).map (·.2):=by rfl):PGs X (e::es) (JC t u):=(XI h1 h2 hs).imp fun _ _ _ _ z=>z.ex
theorem FM {es:List Expr} {k:Nat} {t:TGs} {n:Nat} (hc:X.calm=true) (h:PGs X es t)
  (hn:(assignEach es X.env).length=n:=by rfl) (hst:(assignEach es X.env).findIdx? (·.1)=none:=by rfl):PG X (.Tuple es k pos) (LA X.K n t):=
 (bI hc h hn hst).imp fun _ _ _ _ z=>by obtain ⟨a,rfl,xs,z⟩:=z.ex;exact ⟨a,xs,rfl,z⟩
def JB (K:PySem.W.Frag) (tl:TE):TI:=fun σ H R=>tl σ H fun x H1=>CC x fun a=>(∃ xs,SqL K H1 a xs)∧R (Itl K a) H1
def NO (K:PySem.W.Frag) (tl:TE):TI:=fun σ H R=>tl σ H fun x H1=>CC x fun a=>(∃ xs,SqT K H1 a xs)∧R (Itt K a) H1
theorem OL {l:Expr} {tl:TE} (hl:PE X l tl):PI X tg l (JB X.K tl):=(ZD hl.mono).imp fun _ _ _ q=>⟨_,q,fun _ _ z=>z.ex⟩
theorem GP {l:Expr} {tl:TE} (hl:PE X l tl):PI X tg l (NO X.K tl):=(cR hl.mono).imp fun _ _ _ q=>⟨_,q,fun _ _ z=>z.ex⟩
def TV (K:PySem.W.Frag):List V→Hp→VK→Prop:=fun xs H Q=>o1 xs fun x=>CC x fun p=>∃ ys,(SqL K H p ys∨SqT K H p ys)∧Q (.int ys.length) H
def OE (K:PySem.W.Frag):List V→Hp→VK→Prop:=fun xs H Q=>o1 xs fun x=>CC x fun p=>∃ ys,SqL K H p ys∧∀ l,H l=none→Q (.ref l) (upd H l (.tup ys))
theorem CF:DE X (.builtin "len") (TV X.K):=MF.imp fun _ _ _ z=>by
 obtain ⟨x,rfl,z1⟩:=z.ex;obtain ⟨p,rfl,ys,z2⟩:=z1.ex;exact ⟨p,ys,rfl,z2⟩
theorem ER:DE X (.type "tuple") (OE X.K):=IS.imp fun _ _ _ z=>by
 obtain ⟨x,rfl,z1⟩:=z.ex;obtain ⟨p,rfl,ys,z2⟩:=z1.ex;exact ⟨p,ys,rfl,z2⟩
def WZ (K:PySem.W.Frag) (c:Value):List V→Hp→VK→Prop:=fun xs H Q=>o2 xs fun x y=>AY y c∧(∃ n,c= .type n)∧∃ ty,(FU K H x ty∨∃ p,x= .ref p∧(∃ ys,SqT K H p ys)∧ty= .type "tuple")∧∃ b,PySem.W.kitOne K ty c=some b∧Q (.bl b) H
theorem IP {c:Value}:DE X (.builtin "isinstance") (WZ X.K c):=RW.imp fun _ _ _ z=>by
 obtain ⟨x,y,rfl,h1,h2,ty,h3,h4⟩:=z.ex
 exact ⟨x,y,rfl,h1,h2,ty,h3.imp id fun ⟨p,e,⟨ys,h⟩,h'⟩=>⟨p,ys,e,h,h'⟩,h4⟩
def EY:V→List V→Hp→VK→Prop:=fun x vs H Q=>CC x fun l=>o1 vs fun y=>∃ xs,H l=some (.lst xs)∧xs.length<sizeLine∧Q .non (upd H l (.lst (xs++[y])))
theorem EN:MtM X "list.append" EY:=EF.imp fun _ _ _ _ z=>by
 obtain ⟨l,rfl,z1⟩:=z.ex;obtain ⟨y,rfl,xs,z2⟩:=z1.ex;exact ⟨l,xs,y,rfl,rfl,z2⟩
end
section
variable {X:Cx} {pins:List (Addr×Obj)} {σ:St} {H:Hp} {s:Shared}
end
section
variable {prog:Program} {w:World} {A:Around} {s:Shared} {E:Value→Shared→Prop} {R:Result→Shared→Prop} {I l:Addr} {items:Array Value}
end
section
variable {X:Cx} {e:Expr} {te:TE} {p p' pos pos':Pos}
end
section
variable {X:Cx} {K:PySem.W.Frag} {pos:Pos}
theorem QL {es:List Expr} {k:Nat} {t:TGs} {n:Nat} (hK:X.K=K) (hc:X.calm=true) (h:PGs X es t)
  (hn:(assignEach es X.env).length=n:=by rfl) (hst:(assignEach es X.env).findIdx? (·.1)=none:=by rfl):PG X (.Tuple es k pos) (LA K n t):=hK ▸ FM hc h hn hst
theorem JQ (hK:X.K=K):IxR X (KO K):=hK ▸ BN
end
def KC (t:TE):TO:=fun σ H Q=>t σ H fun x H1=>CV x fun i=>Q (some i) H1
theorem PO.imp {X:Cx} {e:Option Expr} {t t':TO} (h:PO X e t) (i:∀ σ H Q,t' σ H Q→t σ H Q):PO X e t':=fun pins s σ H Q I q=>h pins s σ H Q I (i _ _ _ q)
theorem DA {X:Cx} {e:Expr} {te:TE} (h:PE X e te):PO X (some e) (KC te):=(YW h.mono).imp fun _ _ _ q=>⟨_,q,fun _ _ z=>z.ex⟩
section
variable {X:Cx}
theorem QJ {elt iter tg:Expr} {ifs:List Expr} {scope sc:Scope} {pos spos py:Pos} {y:Str} {i:Nat} {wi:TI} {g:TG} {tt:TT} {te:TE} {N0 N os:List Str} {js:List Nat}
  (hNd:X.N.Nodup) (hiN:X.N[i]? =some y) (hx:Loc X.env.scope y) (hc:X.calm=true) (hsc:X.env.scope=sc) (hN:X.N=N0) (ok:JJ scope sc N0 js os N) (hi:PI X tg iter wi)
  (hg:∀ s₃ H₃ fp cl,PG (cxC X scope cl N s₃ H₃ fp) tg g) (ht:∀ s₃ H₃ fp cl,KF (cxC X scope cl N s₃ H₃ fp) ifs tt) (he:∀ s₃ H₃ fp cl,PE (cxC X scope cl N s₃ H₃ fp) elt te)
  (hs:∀ x,foldedSetIterable iter X.env x=pure x:=by intro _;rfl) (hsw:swapsWith (.ListComp elt [⟨tg,iter,ifs,0⟩] scope pos) (some (.Name y py)) spos.line X.env=pure true:=by rfl)
  (hf:X.fn y=true∨X.env.scope.names.lookup y=some .local:=by first | exact .inl rfl | exact .inr rfl | assumption):
  PS X (.Assign [.Name y py] (.ListComp elt [⟨tg,iter,ifs,0⟩] scope pos) spos) (OF (NP js os wi g tt te) (IB i)):=by
 walk_at "b20"
 have hfree:∀ y∈scope.names,y.2= .free→∃ c,X.env.cells.lookup y.1=some c:=fun y hy e=>I.ok.has _ (by
  walk_at "b64"
  exact this)
 walk_at "b22"
 walk_at "b0"
 have lt2:∀ b∈fp,b<s2.heap.objs.size:=fun b hb=>by
  walk_at "b50"
 walk_at "b2"
 walk_at "b18"
 have stat:∀ {H':Hp},(∀ b∈fp,H' b=none)→∀ b∈fp,FD X' [] H' b:=fun {H'} hn b hb=>by
  walk_at "b16"
  ·rcases List.mem_cons.mp (I2.stkSub b z) with q | q
   ·exact (f2 b hb).2.1 q
   ·exact (f2 b hb).2.2.1 q
  ·exact (f2 b hb).2.2.2.2.1 x c (DM (cells:=X.env.cells) scope.names [] hfree (fun _ _ e=>by cases e) _ _ e)
 walk_at "b6"
 have eX:X'.xe=fun _ _=>False:=by subst hX';rfl
 walk_at "b11"
 have fin:∀ {σ':St} {H':Hp} {s':Shared},Inv X' [] σ' H' s'→(∀ b∈fp,H' b=none)→D.nx (σ.set i (some (.ref s2.heap.objs.size))) H'→compPost (model X.prog X.w) X.A X.xe (some (assign (.Name y py) X.env)) (fun _ s'=>SP X pins D .next s') (.ref s2.heap.objs.size) s₃.heap.objs.size (.ok .next) s':=by
  intro σ' H' s' I' hn q
  obtain ⟨m,hm,_⟩:=id I'.loc
  subst hX'
  have fC:H' s₃.heap.objs.size=none:=I'.free
  have u1:Un (frs X.stack) fp (upd H1 s2.heap.objs.size (.lst [])) H' s₃.heap s'.heap:=by
   walk_at "b45"
  walk_at "b35"
  have cc:∀ x c,X.env.cells.lookup x=some c→c≠s₃.heap.objs.size:=fun x c e=>by
   obtain ⟨v,o,ho,_⟩:=I3.cell x c e
   exact Nat.ne_of_lt (Heap.lt_size ho)
  walk_at "b36"
  have na:s₃.heap.objs.size≠a:=by
   rcases ha with ha | ha
   ·rw [ha];exact Ne.symm cl
   ·exact Ne.symm (cc _ _ ha)
  refine ⟨m,hm.sameBut sa na,fun h3 sb=>⟨_,H',?_,q⟩⟩
  have hok':HOk X.prog X.w H' h3:=fun b ob e=>by
   refine (I''.hok b ob e).stay (fun c w' hc' q'=>(sb.2 c ?_).trans q') (fun _ q'=>q') fun _ _ q'=>q'
   rintro rfl
   rcases hc' with z | z
   ·have e':=e;rw [← z] at e';rw [fC] at e';cases e'
   ·rw [fC] at z;cases z
  have u2:Un (frs X.stack) [s₃.heap.objs.size] H' H' s''.heap h3:=
   have ne:∀ b,b∉[s₃.heap.objs.size]→b≠s₃.heap.objs.size:=fun b hb e=>hb (by rw [e];exact List.mem_singleton_self _)
   ⟨fun b o e n hb hx=>(sb.2 b (ne b hx)).trans e,fun b o e n hb hx=>⟨o.slots,(sb.2 b (ne b hx)).trans e⟩,fun b o e n hx=>n,fun b o e hx=>⟨o,(sb.2 b (ne b hx)).trans e⟩,fun b xs e=>e,fun b o u e=>e,fun b ps e=>⟨#[],by rw [e];simp⟩⟩
  exact I''.call' (s':={ s'' with heap:=h3 }) (ch:=[s₃.heap.objs.size]) rfl u2 hok' I''.bare fun b hb=>by
   walk_at "b52"
 have loop:codeAny (model X.prog X.w) X.A (.compLoop (.ListComp elt [⟨tg,iter,ifs,0⟩] scope pos) 0 (.ref it) (.ref s2.heap.objs.size) (compEnvC scope (CL X.env.cells scope.names []) s₃.heap.objs.size X.env))
   (compPost (model X.prog X.w) X.A X.xe (some (assign (.Name y py) X.env)) (fun _ s'=>SP X pins D .next s') (.ref s2.heap.objs.size) s₃.heap.objs.size) { s₃ with heap:=h₁,toks:=s₃.toks }:=by
  walk_at "b30"
  rcases turn i n σ5 H5 w5 with ⟨stop,qn⟩ | ⟨go,step⟩
  ·have:=T.done X' ePr eW eK eC i [] s5 σ5 H5 X'.xe I5 (stat fr5) st5 stop
   walk_at "b13"
  ·have:=T.item X' ePr eW eK eC i [] s5 σ5 H5 X'.xe I5 (stat fr5) st5 go
   walk_at "b3"
   have again:∀ {σ9:St} {H9:Hp} {s9:Shared},Inv X' ([]++EZ fp s7.heap) σ9 H9 s9→tn (i+1) s9.heap∧∀ b∈fp,H9 b=none:=fun {σ9 H9 s9} I9=>by
    walk_at "b7"
   refine thn t8 fun b s9 ⟨H9,I9,q9⟩=> ?_
   cases b with
   | false=>
    walk_at "b15"
   | true=>
    walk_at "b1"
 walk_at "b4"
end
section
variable {X:Cx} {pins:List (Addr×Obj)} {σ:St} {H:Hp} {s:Shared} {h':Heap} {fp:List Addr} {t':Nat}
theorem Inv.turnedL (I:Inv X pins σ H s) (k:∀ b o,b∉fp→s.heap.get? b=some o→h'.get? b=some o) (hf:∀ b∈fp,FD X pins H b):Inv X pins σ H { s with heap:=h',toks:=t' }:=by
 walk_at "b61"
 refine I.step (g':=s.gens) (d':=s.drawn) (ch:=fp) (fun b hb=> ?_) (fun b o _ _ hc e _=>k b o hc e) (fun b o _ _ hc e _=>⟨o.slots,k b o hc e⟩) (fun _ _ _ _ n=>n)
  (fun b o hc e=>⟨o,k b o hc e⟩) (fun _ _ e=>e) (fun _ _ _ e=>e) (fun b ps e=>⟨#[],by rw [e];simp⟩) (fun m hm=> ?_) (fun b u e=> ?_) I.bare
 ·obtain ⟨_,q1,_,q3,q4,q5⟩:=hf b hb
  exact ⟨q3,q1,q4,q5⟩
 ·obtain ⟨o,es,ep,ho,r⟩:=hm
  exact ⟨o,es,ep,k _ o hL ho,r⟩
 ·refine (I.hok b u e).stay (fun c v hc q=>k c v ?_ q) (fun _ q=>q) fun _ _ q=>q
  rcases hc with z | z
  ·rw [z];exact nit b u e
  ·exact nit c _ z
theorem Inv.turnedNew {p:Addr} {o:HO} (I:Inv X pins σ H s) (k:∀ b o,b∉fp→s.heap.get? b=some o→h'.get? b=some o) (hf:∀ b∈fp,FD X pins H b) (hp:s.heap.objs.size≤p) (new:BX X.prog X.w (upd H p o) h' p o):
  Inv X pins σ (upd H p o) { s with heap:=h',toks:=t' }:=by
 walk_at "b61"
 have hn:H p=none:=I.hok.fresh hp
 have np:∀ b u,s.heap.get? b=some u→b≠p:=fun b u e=>Nat.ne_of_lt (Nat.lt_of_lt_of_le (Heap.lt_size e) hp)
 refine I.step (g':=s.gens) (d':=s.drawn) (ch:=fp) (fun b hb=> ?_) (fun b o _ _ hc e _=>k b o hc e) (fun b o _ _ hc e _=>⟨o.slots,k b o hc e⟩) (fun b u _ e n=>by rw [BE (np b u e)];exact n)
  (fun b o hc e=>⟨o,k b o hc e⟩) (fun b xs e=>by rw [BE (BL e hn)];exact e) (fun b _ _ e=>by rw [BE (BL e hn)];exact e) (fun b ps e=>⟨#[],by rw [BE (BL e hn),e];simp⟩) (fun m hm=> ?_) (fun b u e=> ?_) I.bare
 ·obtain ⟨_,q1,_,q3,q4,q5⟩:=hf b hb
  exact ⟨q3,q1,q4,q5⟩
 ·obtain ⟨o,es,ep,ho,r⟩:=hm
  exact ⟨o,es,ep,k _ o hL ho,r⟩
 ·by_cases hb:b=p
  ·subst hb;rw [AD] at e;cases e;exact new
  ·rw [BE hb] at e
   refine (I.hok b u e).stay (fun c v hc q=>k c v ?_ q) (fun c q=>by rw [BE (BL q hn)];exact q) fun c xs q=>by rw [BE (BL q hn)];exact q
   rcases hc with z | z
   ·rw [z];exact nit b u e
   ·exact nit c _ z
end
theorem RP {n a b:Nat} (la:a<n) (lb:b<n):ZipApart (n+4) (n+2) (n+3) n (n+1) a b:=by
 constructor<;> (intro e;have e': @Eq Nat _ _:=e;clear e;omega)
theorem UN {n c:Nat} (hc:c∈[n+4,n+2,n+3,n,n+1]):n≤c:=by
 simp only [List.mem_cons,List.not_mem_nil,or_false] at hc
 omega
section
variable {X:Cx} {elts:List Expr} {tx:Nat} {tp p pos:Pos}
end
section
variable {X:Cx} {pins:List (Addr×Obj)} {σ:St} {H:Hp} {s:Shared}
theorem AM.get':∀ {vs:List V} {its:List Value} {j:Nat} {u:Value},AM vs its→its[j]? =some u→∃ v,vs[j]? =some v∧AY v u
 | _,_,j,u,.nil,h=>by simp at h
 | _,_,0,u,.cons r t,h=>⟨_,rfl,by simp at h;exact h ▸ r⟩
 | _,_,j+1,u,.cons r t,h=>by simpa using AM.get' t (by simpa using h)
mutual
theorem bO:∀ {d e:D},deq d e=true→d=e
 | .int i,.int j,h=>by rw [deq] at h;rw [eq_of_beq h]
 | .str i,.str j,h=>by rw [deq] at h;rw [eq_of_beq h]
 | .non,.non,h=>rfl
 | .tup ds,.tup es,h=>by rw [deq] at h;rw [deqL_eq h]
 | .int _,.str _,h | .int _,.non,h | .int _,.tup _,h | .str _,.int _,h | .str _,.non,h | .str _,.tup _,h | .non,.int _,h | .non,.str _,h | .non,.tup _,h | .tup _,.int _,h | .tup _,.str _,h | .tup _,.non,h=>by simp [deq] at h
theorem deqL_eq:∀ {ds es:List D},deqL ds es=true→ds=es
 | [],[],_=>rfl
 | [],e::es,h=>by simp [deqL] at h
 | d::ds,[],h=>by simp [deqL] at h
 | d::ds,e::es,h=>by
  rw [deqL,Bool.and_eq_true] at h
  rw [bO h.1,deqL_eq h.2]
end
end
theorem QQ:∀ {xs:List V} {us:List Value},xs.length=us.length→(∀ (i:Nat) x u,xs[i]? =some x→us[i]? =some u→AY x u)→AM xs us
 | [],[],_,_=> .nil
 | x::xs,u::us,hl,h=> .cons (h 0 x u rfl rfl) (QQ (by simpa using hl) fun i y v a b=>h (i+1) y v (by simpa using a) (by simpa using b))
 | [],_::_,hl,_=>by simp at hl
 | _::_,[],hl,_=>by simp at hl
section
variable {X:Cx} {a b:Expr} {ta:TA} {p p' pos pos':Pos}
def MX (ta:TA):TE:=fun σ H Q=>ta σ H fun vs H1=>o2 vs fun x y=>CV x fun i=>CV y fun j=>(-(2 ^ 62)≤i∧i<2 ^ 62∧ -(2 ^ 62)≤j∧j<2 ^ 62)∧(j - i).toNat<1000∧∀ l,H1 l=none→Q (.ref l) (upd H1 l (.lst ((List.range (j - i).toNat).map fun (k:Nat)=>V.int (i+k))))
theorem OX (hc:X.calm=true) (hgl:Gl X "list") (hml:X.mg "list"=none) (hgr:Gl X "range") (hmr:X.mg "range"=none) (ha:PA X [a,b] ta)
  (he:starEach [.Call (.Name "range" p') [a,b] [] pos'] X.env=[(false,eval (.Call (.Name "range" p') [a,b] [] pos') X.env)]:=by rfl)
  (hs:starEach [a,b] X.env=[(false,eval a X.env),(false,eval b X.env)]:=by rfl) (hs2:starEach [b] X.env=[(false,eval b X.env)]:=by rfl):
  PE X (.Call (.Name "list" p) [.Call (.Name "range" p') [a,b] [] pos'] [] pos) (MX ta):=by
 walk_at "b34"
 refine wpAny_Call_Name_kw (EW I hgl hml rfl ?_ (by decide) (by decide))
 refine PyProof.Rows.callWith_type1 ?_ he rfl
 rw [he]
 refine Calls.spliced_cons ?_
 refine Call_ (EW I hgr hmr boot_range (PyProof.Rows.callWith_type1 (thn (ha pos' pins s σ H _ I h) fun us s1 ⟨vs,H1,I1,r1,q1⟩=> ?_) (by rw [hs,hs2]) (by rw [hs2];rfl)))
 obtain ⟨x,y,rfl,q2⟩:=o2.ex q1
 obtain ⟨i,rfl,q3⟩:=CV.ex q2
 obtain ⟨j,rfl,⟨h1,h2,h3,h4⟩,hn,q⟩:=CV.ex q3
 cases r1 with
 | cons r rr=>
  cases rr with
  | cons r' rr=>
   cases rr
   obtain ⟨t,rfl⟩:=r
   obtain ⟨t',rfl⟩:=r'
   refine call_range_2 ?_
   refine Calls.spliced_nil ?_
   have e2:Builtin.Range.rangeSize i j 1=(((j - i).toNat:Nat):Int):=by rw [rangeSize_one];split<;> omega
   refine call_list_range (I1.ok.hd hc) (IsRange.new ..) (small_one h1 h2 h3 h4) e2 (by omega) fun h' tk acc' c' hk hS hacc=> ?_
   have hp:∀ o,s1.heap.objs.size≤(s1.heap.push o).objs.size:=fun o=>by rw [Heap.size_push];exact Nat.le_succ _
   refine ⟨.ref _,_,I1.laid (t':=tk) (o:= .lst ((List.range (j - i).toNat).map fun (k:Nat)=>V.int (i+k))) (fun b o e=>hk b o (Heap.get?_push_of_some _ e)) (hp _) ?_,rfl,q _ (I1.hok.fresh (hp _))⟩
   obtain ⟨z1,z2⟩:=hacc
   refine ⟨by rw [List.length_map,List.length_range];exact Nat.le_of_lt (DZ (Nat.le_of_lt hn)),acc'.toList,c',QQ (by rw [List.length_map,List.length_range,Array.length_toList,z1]) fun k x u ex eu=> ?_,by rw [hS]⟩
   rw [Array.getElem?_toList] at eu
   obtain ⟨t,rfl⟩:=z2 k u eu
   rw [List.getElem?_map] at ex
   have hk:k<(j - i).toNat:=by
    rw [← z1];exact (Array.getElem?_eq_some_iff.mp eu).1
   rw [List.getElem?_range hk] at ex
   cases Option.some.inj ex
   exact ⟨t,by rw [Int.mul_one]⟩
end
section
variable {X:Cx}
def NH (K:PySem.W.Frag):List V→Hp→VK→Prop:=fun xs H Q=>o1 xs fun x=>CC x fun l=>∃ ns:List Int,SqL K H l (ns.map V.int)∧ns≠[]∧∀ m,m∈ns→(∀ a∈ns,m≤a)→Q (.int m) H
theorem SA (hc:X.calm=true):DE X (.builtin "min") (NH X.K):=by
 intro pins s σ H xs us Q I r h
 obtain ⟨x,rfl,h⟩:=o1.ex h
 obtain ⟨l,rfl,ns,hq,hne,q⟩:=CC.ex h
 obtain ⟨u,rfl,ru⟩:=RN r
 cases ru
 obtain ⟨its,rv,p,hz⟩:=I.list hq
 have hl:its.length=ns.length:=by rw [← rv.length,List.length_map]
 have hpos:0<ns.length:=List.length_pos_iff.mpr hne
 have hlt:l<s.heap.objs.size:=by obtain ⟨o,e,_⟩:=p.isList;exact Heap.lt_size e
 have val:∀ i v,its.toArray[i]? =some v→∃ t,v=Value.int (ns.getD i 0) t∧ns[i]? =some (ns.getD i 0):=fun i v e=>by
  have e':its[i]? =some v:=by simpa using e
  obtain ⟨w,hw,rw'⟩:=AM.get' rv e'
  rw [List.getElem?_map] at hw
  cases hn:ns[i]? with
  | none=>rw [hn] at hw;cases hw
  | some z=>
   rw [hn] at hw
   cases Option.some.inj hw
   obtain ⟨t,rfl⟩:=rw'
   refine ⟨t,?_,?_⟩
   ·rw [List.getD_eq_getElem?_getD,hn];rfl
   ·rw [List.getD_eq_getElem?_getD,hn];rfl
 refine call_min_walk (wpAny_pyIter_list p.isList ?_)
 refine ⟨s.heap.objs.size,_,_,_,_,_,fun i j=>decide (ns.getD i 0<ns.getD j 0),rfl,Walks.list (A:=X.A.in1) (I.ok.hd hc) s.heap.objs.size l (Nat.ne_of_lt hlt) its.toArray,
  ⟨⟨_,Heap.get?_push_size _ rfl,rfl,rfl⟩,p.isList.at fun o e=>Heap.get?_push_of_some _ e⟩,fun b hb=> ?_,by rw [List.size_toArray,hl];exact hpos,
  CmpOf.ints_lt (fun i=>ns.getD i 0) (fun i v e=>let ⟨t,e,_⟩:=val i v e;⟨t,e⟩),fun v h' tk hv hk=> ?_⟩
 ·rw [Heap.size_push]
  simp only [List.mem_cons,List.not_mem_nil,or_false] at hb
  rcases hb with rfl | rfl
  ·exact Nat.lt_succ_self _
  ·exact Nat.lt_succ_of_lt hlt
 ·obtain ⟨t,rfl,e⟩:=val _ v hv
  have best:=argBest_lt (fun i=>ns.getD i 0) (its.toArray.size - 1)
  refine ⟨.int _,H,I.kept (t':=tk) (fun b o e=>hk b o ?_ (Heap.get?_push_of_some _ e)),⟨t,rfl⟩,q _ (List.mem_of_getElem? e) fun a ha=> ?_⟩
  ·intro hb
   rw [List.mem_singleton.mp hb] at e
   exact absurd (Heap.lt_size e) (Nat.lt_irrefl _)
  ·obtain ⟨j,hj⟩:=List.mem_iff_getElem?.mp ha
   have hjl:j<ns.length:=(List.getElem?_eq_some_iff.mp hj).1
   have:=best.2 j (by rw [List.size_toArray,hl];omega)
   rw [show ns.getD j 0=a by rw [List.getD_eq_getElem?_getD,hj];rfl] at this
   exact this
def JG (K:PySem.W.Frag):V→List V→Hp→VK→Prop:=fun x vs H Q=>CC x fun l=>o1 vs fun y=>CV y fun k=>∃ ns:List Int,SqL K H l (ns.map V.int)∧k∈ns∧∀ j:Nat,ns[j]? =some k→(∀ m,m<j→ns[m]? ≠some k)→Q (.int j) H
theorem WM:MtM X "list.index" (JG X.K):=by
 intro pins s σ H x vs v us Q I rx rv h
 obtain ⟨l,rfl,h⟩:=CC.ex h
 obtain ⟨y,rfl,h⟩:=o1.ex h
 obtain ⟨k,rfl,ns,hq,hk,q⟩:=CV.ex h
 cases rx
 obtain ⟨u,rfl,⟨t,rfl⟩⟩:=RN rv
 obtain ⟨its,rv',p,hz⟩:=I.list hq
 have hl:its.length=ns.length:=by rw [← rv'.length,List.length_map]
 obtain ⟨j,hj,hmin⟩:∃ j:Nat,ns[j]? =some k∧∀ m,m<j→ns[m]? ≠some k:=by
  obtain ⟨j0,hj0⟩:=List.mem_iff_getElem?.mp hk
  clear q hq rv' hl
  induction j0 using Nat.strongRecOn with
  | ind n ih=>
   by_cases h:∃ m,m<n∧ns[m]? =some k
   ·obtain ⟨m,hm,e⟩:=h
    exact ih m hm e
   ·exact ⟨n,hj0,fun m hm e=>h ⟨m,hm,e⟩⟩
 have hjl:j<ns.length:=(List.getElem?_eq_some_iff.mp hj).1
 have fl:(ns.map V.int).all LL=true:=by rw [List.all_eq_true];intro x hx;obtain ⟨n,_,rfl⟩:=List.mem_map.mp hx;rfl
 have val:∀ i (hi:i<its.toArray.size),∃ t,its.toArray[i]=Value.int (ns.getD i 0) t:=fun i hi=>by
  have e':its[i]? =some its.toArray[i]:=by simp [List.getElem?_eq_getElem (show i<its.length by simpa using hi)]
  obtain ⟨w,hw,rw'⟩:=AM.get' rv' e'
  rw [List.getElem?_map] at hw
  cases hn:ns[i]? with
  | none=>rw [hn] at hw;cases hw
  | some z=>
   rw [hn] at hw
   cases Option.some.inj hw
   obtain ⟨t,e⟩:=rw'
   exact ⟨t,by rw [e,List.getD_eq_getElem?_getD,hn];rfl⟩
 obtain ⟨⟨cls,dd,data,sl⟩,n,e,hc,hdd,hda⟩:=id p
 simp only at hc hdd hda
 subst hc hdd hda
 refine call_meets PySem.F.slot_list_index ⟨_,e,rfl⟩ PySem.F.entry_list_index (PySem.F.args_list_index_2 _ _) (SeqAt.list_indexAt l its.toArray n none sl (.int k t) (eqU (.int k)) j (by rw [List.size_toArray,hl];exact hjl) ?_ ?_ fun m hm hmj=> ?_) ⟨e,fun y hy=>ON (x:= .int k) (show AY (.int k) (.int k t) from ⟨t,rfl⟩) rfl rv' fl y (by simpa using hy),⟨.int j,H,I.tok _,⟨_,rfl⟩,q j hj hmin⟩⟩
 ·have h1:ns.length≤sizeLine:=by rw [← List.length_map (f:=V.int)];exact hz
  rw [sizeLine_eq] at h1
  omega
 ·obtain ⟨t',e⟩:=val j (by rw [List.size_toArray,hl];exact hjl)
  rw [e,List.getD_eq_getElem?_getD,hj]
  simp [eqU,eqV]
 ·obtain ⟨t',e⟩:=val m hm
  rw [e]
  have:=hmin m hmj
  have hml:m<ns.length:=by rw [← hl];simpa using hm
  rw [List.getD_eq_getElem?_getD,List.getElem?_eq_getElem hml]
  rw [List.getElem?_eq_getElem hml] at this
  simp [eqU,eqV]
  intro h
  exact this (by rw [h])
end
theorem BF {K:PySem.W.Frag} {H:Hp} {ds:List D} {x:V}:Rp K H (.tup ds) x↔∃ p xs,x= .ref p∧SqT K H p xs∧RpL K H ds xs:=by rw [Rp]
section
variable {X:Cx}
theorem VZ {prog:Program} {w:World} {A:Around} {E:Value→Shared→Prop} {s:Shared} {t b:Addr} {ws:List Value} {Q:Value→Shared→Prop} (ht:IsTup s.heap t #[]) (hb:IsTup s.heap b ws.toArray) (h:Q (.ref b) s):
  wpAny (model prog w) A (binaryOp .Add (.ref t) (.ref b)) Q E s:=by
 walk_at "b48"
 exact concat_meets ⟨_,ho,rfl⟩ ⟨_,ho2,rfl⟩ noFill_tuple_add seq_tuple_add PySem.F.slot_tuple_add PySem.F.entry_tuple_add (PySem.F.args_tuple_add_2 _ _)
  (tuple_addW0 t b #[] ws.toArray n n2 dd dd2 sl sl2 (by simp)) ⟨ho,ho2,h⟩
def IV (K:PySem.W.Frag):R2:=fun x y H Q=>∃ ds es,Rp K H (.tup ds) x∧Rp K H (.tup es) y∧ds.length+es.length≤sizeLine∧∀ v H',AE H H'→Rp K H' (.tup (ds++es)) v→Q v H'
theorem GC:OpR X (binaryOp .Add) (IV X.K):=by
 walk_at "b71"
 obtain ⟨ds,es,hx,hy,hz,q⟩:=h
 obtain ⟨a,xs,rfl,ha,la⟩:=BF.mp hx
 obtain ⟨b,ys,rfl,hb,lb⟩:=BF.mp hy
 by_cases h0:xs=[]
 ·subst h0
  have e:ds=[]:=by have:=la.length;simp at this;exact List.length_eq_zero_iff.mp this.symm
  subst e
  cases rx
  cases ry
  obtain ⟨its,r1,p1,_⟩:=I.tuple ha
  obtain ⟨its2,r2,p2,_⟩:=I.tuple hb
  cases r1
  exact VZ p1 p2 ⟨.ref b,H,I,rfl,q _ _ (AE.refl _) hy⟩
 ·refine XQ pins s σ H _ _ v u Q I rx ry ⟨a,b,xs,ys,rfl,rfl,ha,hb,h0,by rw [la.length,lb.length];exact hz,fun e=> ?_,fun _ p hp=> ?_⟩
  ·subst e
   have e:es=[]:=by have:=lb.length;simp at this;exact List.length_eq_zero_iff.mp this.symm
   subst e
   exact q _ _ (AE.refl _) (by rw [List.append_nil];exact hx)
  ·exact q _ _ (AE.upd hp) (BF.mpr ⟨p,_,rfl,SqT.of AD,(la.app lb).same (AE.upd hp)⟩)
theorem DH (a:Int) (t:Tok) (l:Addr) (items:Array Value) (n:Nat) (dd:Option Addr) (sl:Array (Option Value)):
  Meets (Builtin.«int.__rmul__» { pos:=[.int a t,.ref l] }) fun x R s=>s.heap.get? l=some { cls:= .type "tuple",dict:=dd,data:= .seq items n,slots:=sl }∧R (.ok (.ret .notImplemented)) s:=by
 intro prog w A R s ⟨e,h⟩
 unfold Builtin.«int.__rmul__» Builtin.Int.intBinary
 refine wpAny_bind ?_
 rw [show slotArgs "__rmul__" 1 { pos:=[.int a t,.ref l] }=pure (.int a t,[.ref l]) from rfl]
 refine wpAny_pure ?_
 dsimp only
 refine wpAny_bind ?_
 rw [show Builtin.Int.intOfSelf (.int a t)=pure a from rfl]
 refine wpAny_pure ?_
 refine wpAny_bind ?_
 show wpAny _ _ (load l >>= _) _ _ _
 refine wpAny_bind (wpAny_load e ?_)
 dsimp only
 refine wpAny_pure ?_
 refine wpAny_bind (wpAny_rule ?_)
 exact wpAny_pure h
theorem CD:fillsNumberSlot (.type "tuple") "mul"=pure false:=by first | rfl | decide | (unfold fillsNumberSlot;kernel_rfl)
theorem DF:seqRepeat? (.type "tuple")=pure (some (.builtin "tuple.__mul__")):=by first | rfl | (unfold seqRepeat?;kernel_rfl)
theorem ZP {l:Addr} {items:Array Value} {n:Nat} {dd:Option Addr} {sl:Array (Option Value)} {k:Int} {t:Tok} (h0:2≤k) (h1:k<2 ^ 62) (hz:items.size * k.toNat≤sizeLine) (hne:items.isEmpty=false):
  Meets (Builtin.«tuple.__mul__» { pos:=[.ref l,.int k t] }) fun x R s=>s.heap.get? l=some { cls:= .type "tuple",dict:=dd,data:= .seq items n,slots:=sl }∧
   R (.ok (.ret (.ref s.heap.objs.size))) { s with heap:=s.heap.push { cls:= .type "tuple",data:= .seq (List.foldl (fun x1 x2=>x1++x2) #[] (List.replicate k.toNat items)) } }:=by
 walk_at "b23"
 rw [if_neg (by simp [hne];omega),if_neg (by simp [hne];omega)]
 have hk:k=(k.toNat:Int):=by omega
 have hm:(items.size:Int) * k≤sizeLine:=by rw [hk,← Int.natCast_mul];exact Int.ofNat_le.mpr hz
 rw [sizeLine_eq] at hm
 rw [if_neg (by omega),if_neg (by unfold Builtin.Tuple.tupleTooMany;rw [sizeLine_eq];simp;omega)]
 have hsz:(List.foldl (fun x1 x2=>x1++x2) #[] (List.replicate k.toNat items)).size≤sizeLine:=by
  have f0:=HC items.toList k.toNat []
  rw [List.nil_append] at f0
  rw [show items=items.toList.toArray by simp,f0,List.size_toArray,RA,Nat.mul_comm]
  simpa using hz
 exact wpAny_bind (m:=Builtin.Tuple.tupleExact _) (wpAny_newObj_type (wpAny_pure h) hsz)
theorem VJ {l:Addr} {items:Array Value} {n:Nat} {dd:Option Addr} {sl:Array (Option Value)} {k:Int} {t:Tok} (h0: -(2 ^ 62)≤k) (h1:k<2 ^ 62) (hne:items.isEmpty=true):
  Meets (Builtin.«tuple.__mul__» { pos:=[.ref l,.int k t] }) fun x R s=>s.heap.get? l=some { cls:= .type "tuple",dict:=dd,data:= .seq items n,slots:=sl }∧R (.ok (.ret (.ref l))) s:=by
 walk_at "b23"
 rw [if_pos (by simp [hne])]
 walk_at "b32"
def JZ (K:PySem.W.Frag):R2:=fun x y H Q=>CV y fun k=>∃ ds,Rp K H (.tup ds) x∧2≤k∧k<2 ^ 62∧ds.length * k.toNat≤sizeLine∧∀ v H',AE H H'→Rp K H' (.tup (List.replicate k.toNat ds).flatten) v→Q v H'
theorem QV {K:PySem.W.Frag} {H:Hp} {ds:List D} {xs:List V} (h:RpL K H ds xs):∀ n:Nat,RpL K H (List.replicate n ds).flatten (List.replicate n xs).flatten
 | 0=>RpL.nil
 | n+1=>by rw [List.replicate_succ,List.replicate_succ,List.flatten_cons,List.flatten_cons];exact h.app (QV h n)
theorem NE:OpR X (binaryOp .Mult) (JZ X.K):=by
 walk_at "b71"
 obtain ⟨k,rfl,ds,hx,h0,h1,hz,q⟩:=CV.ex h
 walk_at "b17"
 have l1:its.length=ds.length:=by rw [← r1.length,la.length]
 by_cases hne:ds=[]
 ·subst hne
  have e0:its=[]:=List.length_eq_zero_iff.mp l1
  subst e0
  have ef:(List.replicate k.toNat ([]:List D)).flatten=[]:=by simp
  rw [ef] at q
  exact wpAny_binaryOp_repeat_ref (T:="tuple") (U:="int") (by decide) ⟨_,e,rfl⟩ (fun s'=>typeIs_int s' k t) CD F.fills_int_mul F.slot_int_rmul DF F.slot_int_index.lookup
   (call_meets F.slot_int_rmul (typeIs_int s k t) F.entry_int_rmul (F.args_int_rmul_2 _ _) (DH k t a _ n dd sl)
    ⟨e,rfl,⟨_,e,rfl⟩,call_meets F.slot_tuple_mul ⟨_,e,rfl⟩ F.entry_tuple_mul (F.args_tuple_mul_2 _ _) (VJ (by omega) h1 rfl) ⟨e,⟨.ref a,H,I,rfl,q _ _ (AE.refl _) hx⟩⟩⟩)
 refine wpAny_binaryOp_repeat_ref (T:="tuple") (U:="int") (by decide) ⟨_,e,rfl⟩ (fun s'=>typeIs_int s' k t) CD F.fills_int_mul F.slot_int_rmul DF F.slot_int_index.lookup
  (call_meets F.slot_int_rmul (typeIs_int s k t) F.entry_int_rmul (F.args_int_rmul_2 _ _) (DH k t a its.toArray n dd sl)
   ⟨e,rfl,⟨_,e,rfl⟩,call_meets F.slot_tuple_mul ⟨_,e,rfl⟩ F.entry_tuple_mul (F.args_tuple_mul_2 _ _) (ZP h0 h1 (by rw [List.size_toArray,l1];exact hz) (by
    cases its with
    | nil=>simp at l1;exact absurd (List.length_eq_zero_iff.mp l1.symm) hne
    | cons _ _=>rfl)) ⟨e,?_⟩⟩)
 have f0:=HC its k.toNat []
 rw [List.nil_append] at f0
 rw [f0]
 have hz':((List.replicate k.toNat xs).flatten).length≤sizeLine:=by rw [RA,Nat.mul_comm,la.length];exact hz
 refine ⟨.ref _,_,I.laid (t':=s.toks) (o:= .tup (List.replicate k.toNat xs).flatten) (fun b ob q=>Heap.get?_push_of_some _ q) (Nat.le_refl _) ⟨hz',_,r1.rep k.toNat,IsTup.new _ _⟩,rfl,q _ _ (AE.upd I.fresh) (BF.mpr ⟨_,_,rfl,SqT.of AD,(QV la k.toNat).same (AE.upd I.fresh)⟩)⟩
abbrev EnT:=List (List Key×Addr×V)
def EV:EnT→List (List Key×Addr×Value)→Prop:=Paired fun p q=>p.1=q.1∧p.2.1=q.2.1∧AY p.2.2 q.2.2
def DX (P:Program) (w:World) (a:Addr) (es:EnT):HO:= .ext fun h=>(a == sysModules)=false∧∃ xs,EV es xs∧∃ o en ep,h.get? a=some o∧o.ExactDict∧o.data= .dict en ep∧en.toList=xs.map (entryOfKey (tupleKind (CM P w)))∧(xs.map (·.1)).Nodup
def FY (K:PySem.W.Frag) (H:Hp) (es:EnT):Prop:=∀ x∈es,SqT K H x.2.1 (x.1.map kV)
theorem FY.same {K:PySem.W.Frag} {H H':Hp} {es:EnT} (h:FY K H es) (s:AE H H'):FY K H' es:=fun x hx=>s.tup (h x hx)
theorem EV.mem:∀ {es:EnT} {xs:List (List Key×Addr×Value)},EV es xs→∀ x∈xs,∃ y∈es,y.1=x.1∧y.2.1=x.2.1
 | _,_,.nil,x,hx=>by cases hx
 | _,_,.cons h t,x,hx=>by
  rcases List.mem_cons.mp hx with rfl | hx
  ·exact ⟨_,List.mem_cons_self,h.1,h.2.1⟩
  ·obtain ⟨y,hy,e⟩:=EV.mem t x hx
   exact ⟨y,List.mem_cons_of_mem _ hy,e⟩
theorem EV.app {es es':EnT} {xs xs':List (List Key×Addr×Value)} (h:EV es xs) (h':EV es' xs'):EV (es++es') (xs++xs'):=by
 unfold EV at *
 induction h with
 | nil=>exact h'
 | cons a _ ih=>exact .cons a ih
def lkX (es:EnT) (k:List Key):Option V:=(es.find? fun x=>decide (x.1=k)).map (·.2.2)
theorem EV.look:∀ {es:EnT} {xs:List (List Key×Addr×Value)} {k:List Key} {v:V},EV es xs→lkX es k=some v→∃ p,atKey xs k=some p∧AY v p.2
 | _,_,k,v,.nil,h=>by cases h
 | (k1,a1,v1)::es,(k2,a2,v2)::xs,k,v,.cons h t,e=>by
  obtain ⟨rfl,rfl,r⟩:=h
  unfold lkX at e
  unfold atKey
  rw [List.find?_cons] at e ⊢
  by_cases hk:k1=k
  ·simp only [hk,decide_true] at e ⊢
   cases e
   exact ⟨_,rfl,r⟩
  ·simp only [hk,decide_false] at e ⊢
   exact EV.look t e
theorem EV.none:∀ {es:EnT} {xs:List (List Key×Addr×Value)} {k:List Key},EV es xs→(∀ x∈es,x.1≠k)→atKey xs k=none
 | _,_,k,.nil,_=>rfl
 | (k1,a1,v1)::es,(k2,a2,v2)::xs,k,.cons h t,e=>by
  obtain ⟨rfl,rfl,r⟩:=h
  unfold atKey
  rw [List.find?_cons]
  have hk:k1≠k:=e _ List.mem_cons_self
  simp only [hk,decide_false]
  exact EV.none t fun x hx=>e x (List.mem_cons_of_mem _ hx)
section
variable {pins:List (Addr×Obj)} {σ:St} {H:Hp} {s:Shared} {a b:Addr} {es:EnT} {k:List Key}
theorem MM (I:Inv X pins σ H s) (h:SqT X.K H b (k.map kV)):(tupleKind (CM X.prog X.w)).is s.heap k b:=by
 obtain ⟨its,r,⟨o,h1,h2,n,h3⟩,_⟩:=I.tuple h
 exact ⟨o,its.toArray,n,h1,h2,h3,by simpa using KY r⟩
theorem VO (I:Inv X pins σ H s) (e:H a=some (DX X.prog X.w a es)) (ks:FY X.K H es):(a == sysModules)=false∧∃ xs,EV es xs∧s.heap.DictOfH (tupleKind (CM X.prog X.w)) a xs:=by
 obtain ⟨⟨hs,xs,ev,o,en,ep,h1,h2,h3,h4,h5⟩,_⟩:=I.hok a _ e
 refine ⟨hs,xs,ev,o,en,ep,h1,h2,h3,h4,fun x hx=> ?_,h5⟩
 obtain ⟨y,hy,e1,e2⟩:=ev.mem x hx
 rw [← e1,← e2]
 exact MM I (ks y hy)
theorem PQ {h':Heap} {H':Hp} {xs:List (List Key×Addr×Value)} {P:Program} {w:World} (hs:(a == sysModules)=false) (ev:EV es xs) (d:h'.DictOfH (tupleKind (CM P w)) a xs):BX P w H' h' a (DX P w a es):=by
 obtain ⟨o,en,ep,h1,h2,h3,h4,_,h5⟩:=d
 refine ⟨⟨hs,xs,ev,o,en,ep,h1,h2,h3,h4,h5⟩,⟨o,h1⟩,fun g1 g2 φ kk=> ?_⟩
 obtain ⟨hs,xs,ev,o,en,ep,h1,r⟩:=φ
 exact ⟨hs,xs,ev,o,en,ep,kk o h1,r⟩
end
section
variable {o i value:Expr} {pos pos':Pos} {td ty tv:TE}
def LB (P:Program) (w:World) (K:PySem.W.Frag) (td ty:TE):TE:=fun σ H Q=>td σ H fun x H1=>ty σ H1 fun y H2=>CC x fun a=>CC y fun b=>∃ (es:EnT) (k:List Key) (v:V),H2 a=some (DX P w a es)∧FY K H2 es∧SqT K H2 b (k.map kV)∧lkX es k=some v∧Q v H2
theorem YN (hu:X.A.units+1<cLine) (ho:PE X o td) (hi:PE X i ty) (hs:XX i):PE X (.Subscript o i pos) (LB X.prog X.w X.K td ty):=by
 walk_at "b34"
 refine RF PySem.F.slot_dict_getitem.lookup hs (thn (ho pins s σ H _ I h) fun u s1 ⟨x,H1,I1,rx,q1⟩=>thn (hi pins s1 σ H1 _ I1 q1) fun iv s2 ⟨y,H2,I2,ry,q2⟩=> ?_)
 obtain ⟨a,rfl,q3⟩:=CC.ex q2
 obtain ⟨b,rfl,es,k,v,e,ks,hb,lk,q⟩:=CC.ex q3
 obtain rfl:u=Value.ref a:=rx
 obtain rfl:iv=Value.ref b:=ry
 obtain ⟨hsm,xs,ev,dd⟩:=VO I2 e ks
 obtain ⟨p,hp,rp⟩:=ev.look lk
 exact ⟨dd.typeIs,wpAny_getItem_heap (tupleKind_room_in1 hu) (MM I2 hb) dd hp ⟨v,H2,I2.tok _,rp,q⟩⟩
def KT (P:Program) (w:World) (K:PySem.W.Frag) (td ty tv:TE):TS:=fun D σ H=>tv σ H fun v H1=>td σ H1 fun x H2=>ty σ H2 fun y H3=>CC x fun a=>CC y fun b=>∃ (es:EnT) (k:List Key),H3 a=some (DX P w a es)∧FY K H3 es∧SqT K H3 b (k.map kV)∧(∀ x∈es,x.1≠k)∧es.length≤sizeLine∧D.nx σ (upd H3 a (DX P w a (es++[(k,b,v)])))
theorem ZU (hu:X.A.units+1<cLine) (ho:PE X o td) (hi:PE X i ty) (hv:PE X value tv) (hs:swapsWith value (some (.Subscript o i pos')) pos.line X.env=pure false):
  PS X (.Assign [.Subscript o i pos'] value pos) (KT X.prog X.w X.K td ty tv):=by
 walk_at "b72"
 refine wpAny_Assign_Subscript (thn (hv pins s σ H _ I h) fun r s1 ⟨v,H1,I1,rv,q1⟩=>thn (ho pins s1 σ H1 _ I1 q1) fun u s2 ⟨x,H2,I2,rx,q2⟩=>thn (hi pins s2 σ H2 _ I2 q2) fun iv s3 ⟨y,H3,I3,ry,q3⟩=> ?_) hs
 obtain ⟨a,rfl,q4⟩:=CC.ex q3
 obtain ⟨b,rfl,es,k,e,ks,hb,hn,hz,q⟩:=CC.ex q4
 obtain rfl:u=Value.ref a:=rx
 obtain rfl:iv=Value.ref b:=ry
 obtain ⟨hsm,xs,ev,dd⟩:=VO I3 e ks
 have hlen:xs.length≤sizeLine:=by rw [← Paired.length ev];exact hz
 refine wpAny_setItem_heap (hsz:=hlen) (tupleKind_room_in1 hu) (MM I3 hb) dd fun h' dd' hss=>⟨σ,_,?_,q⟩
 rw [storedH_new (ev.none hn)] at dd'
 have he:∃ q,h'.get? a=some q:=let ⟨q,_,_,hq,_⟩:=dd';⟨q,hq⟩
 exact QT I3 (by rw [e];exact True.intro) hss he (PQ hsm (ev.app (.cons ⟨rfl,rfl,rv⟩ .nil)) dd')
def HV (P:Program) (w:World) (K:PySem.W.Frag) (tk tv:TE):TE:=fun σ H Q=>∀ p,H p=none→tk σ (upd H p (DX P w p [])) fun x H1=>tv σ H1 fun y H2=>H2 p=some (DX P w p [])∧CC x fun b=>∃ k:List Key,SqT K H2 b (k.map kV)∧Q (.ref p) (upd H2 p (DX P w p [(k,b,y)]))
theorem VD {k v:Expr} {tk tv:TE} (hu:X.A.units+1<cLine) (hk:PE X k tk) (hv:PE X v tv):PE X (.Dict [some k] [v] pos) (HV X.prog X.w X.K tk tv):=by
 intro pins s σ H Q I q
 have hn:=I.hok.fresh (Nat.le_refl s.heap.objs.size)
 have hsm:(s.heap.objs.size == sysModules)=false:=beq_eq_false_iff_ne.mpr (Ne.symm (Nat.ne_of_lt I.big))
 have I1:=I.laid (a:=s.heap.objs.size) (o:=DX X.prog X.w s.heap.objs.size []) (h':=s.heap.push { cls:= .type "dict",data:= .dict #[] }) (t':=s.toks) (fun _ _ q=>Heap.get?_push_of_some _ q) (Nat.le_refl _) (PQ hsm .nil (Heap.DictOfH.new s.heap))
 refine wpAny_Dict_any rfl rfl (by simp) (by simp) ?_
 refine pairTrees_cons_walk (thn (hk pins _ σ _ _ I1 (q _ hn)) fun u s1 ⟨x,H1,I2,rx,q1⟩=>thn (hv pins s1 σ H1 _ I2 q1) fun w2 s2 ⟨y,H2,I3,ry,q2⟩=>pairTrees_nil_walk ?_)
 obtain ⟨e,q3⟩:=q2
 obtain ⟨b,rfl,kk,hb,q⟩:=CC.ex q3
 obtain rfl:u=Value.ref b:=rx
 obtain ⟨hsm',xs,ev,dd⟩:=VO I3 e (fun x hx=>by cases hx)
 cases ev
 unfold storeAll
 rw [List.forIn_cons]
 refine wpAny_bind (wpAny_bind (wpAny_dictSet_heap (hsz:=Nat.zero_le _) (show X.A.units<cLine by omega) (MM I3 hb) dd fun h' dd' hss=>wpAny_pure ?_))
 dsimp only
 rw [List.forIn_nil]
 refine wpAny_pure ⟨.ref _,_,?_,rfl,q⟩
 rw [storedH_new rfl] at dd'
 have he:∃ q,h'.get? s.heap.objs.size=some q:=let ⟨q,_,_,hq,_⟩:=dd';⟨q,hq⟩
 exact QT I3 (by rw [e];exact True.intro) hss he (PQ hsm (.cons ⟨rfl,rfl,ry⟩ .nil) dd')
theorem EC {P:Program} {w:World} {K:PySem.W.Frag} (hP:X.prog=P) (hw:X.w=w) (hK:X.K=K) (hu:X.A.units+1<cLine) (ho:PE X o td) (hi:PE X i ty) (hs:XX i):PE X (.Subscript o i pos) (LB P w K td ty):=by
 subst hP hw hK;exact YN hu ho hi hs
theorem VN {P:Program} {w:World} {K:PySem.W.Frag} (hP:X.prog=P) (hw:X.w=w) (hK:X.K=K) (hu:X.A.units+1<cLine) (ho:PE X o td) (hi:PE X i ty) (hv:PE X value tv) (hs:swapsWith value (some (.Subscript o i pos')) pos.line X.env=pure false):
  PS X (.Assign [.Subscript o i pos'] value pos) (KT P w K td ty tv):=by
 subst hP hw hK;exact ZU hu ho hi hv hs
theorem TB {P:Program} {w:World} {K:PySem.W.Frag} {k v:Expr} {tk tv:TE} (hP:X.prog=P) (hw:X.w=w) (hK:X.K=K) (hu:X.A.units+1<cLine) (hk:PE X k tk) (hv:PE X v tv):PE X (.Dict [some k] [v] pos) (HV P w K tk tv):=by
 subst hP hw hK;exact VD hu hk hv
end
end
abbrev NK:=Int×Int×Int×Int
def LV (h:Heap) (k:NK) (a:Addr):Prop:=∃ (p q:Addr) (ti th ta tb:Tok),IsTup h a #[.int k.1 ti,.ref p]∧IsTup h p #[.int k.2.1 th,.ref q]∧IsTup h q #[.int k.2.2.1 ta,.int k.2.2.2 tb]
theorem CO {h:Heap} {a:Addr} {xs ys:Array Value} (p:IsTup h a xs) (q:IsTup h a ys):xs=ys:=by
 obtain ⟨o,e,_,n,d⟩:=p
 obtain ⟨o',e',_,n',d'⟩:=q
 rw [e] at e'
 cases e'
 rw [d] at d'
 injection d'
theorem LV.inj {h:Heap} {a:Addr} {x y:NK} (hx:LV h x a) (hy:LV h y a):x=y:=by
 obtain ⟨p,q,_,_,_,_,h1,h2,h3⟩:=hx
 obtain ⟨p',q',_,_,_,_,g1,g2,g3⟩:=hy
 have e1:=CO h1 g1
 simp at e1
 obtain ⟨⟨a1,_⟩,rfl⟩:=e1
 have e2:=CO h2 g2
 simp at e2
 obtain ⟨⟨a2,_⟩,rfl⟩:=e2
 have e3:=CO h3 g3
 simp at e3
 obtain ⟨⟨a3,_⟩,a4,_⟩:=e3
 obtain ⟨x1,x2,x3,x4⟩:=x
 obtain ⟨y1,y2,y3,y4⟩:=y
 simp_all
theorem HB {h h':Heap} {a d:Addr} {xs:Array Value} {o:Obj} {es:Array DictEntry} {ep:Nat} (p:IsTup h a xs) (hd:h.get? d=some o) (e:o.data= .dict es ep) (s:Heap.SameBut d h h'):IsTup h' a xs:=by
 obtain ⟨o',e',c,n,dd⟩:=p
 have hne:a≠d:=by
  rintro rfl
  rw [hd] at e'
  cases e'
  rw [e] at dd
  cases dd
 exact ⟨o',by rw [s.2 a hne];exact e',c,n,dd⟩
def KN (x y:Int):Int:=reduceHash (Builtin.Tuple.tupleHashOf [x,y])
section
variable {prog:Program} {w:World} {A:Around} {E:Value→Shared→Prop} {s:Shared}
theorem HI {a:Addr} {u v:Value} {Q:Int→Shared→Prop} (ht:IsTup s.heap a #[u,v]) (hA:A.units<cLine)
  (h:wpAny (model prog w) A.in1 (pyHash u) (fun x s1=>wpAny (model prog w) A.in1 (pyHash v) (fun y s2=>Q (KN x y) { s2 with toks:=s2.toks+1 }) E s1) E s):wpAny (model prog w) A (pyHash (.ref a)) Q E s:=by
 show wpAny (model prog w) A (pyHashByItsType (.ref a)) Q E s
 refine W.pyHash_slot (T:="tuple") ht.typeIs PySem.F.slot_tuple_hash PySem.F.entry_tuple_hash (PySem.F.args_tuple_hash_1 _) (by decide) (.inr hA) ?_
 unfold Builtin.«tuple.__hash__»
 refine wpAny_bind ?_
 rw [show slotArgs "__hash__" 0 { pos:=[.ref a] }=pure (.ref a,[]) from rfl]
 refine wpAny_pure ?_
 dsimp only
 refine wpAny_bind (tupleItemsOf_ ht ?_)
 refine wpAny_bind ?_
 rw [show (#[u,v]:Array Value)=[u,v].toArray from rfl,List.forIn_toArray,List.forIn_cons]
 refine wpAny_bind (wpAny_bind (wpAny_mono h (fun x s1 h1=>wpAny_pure ?_) fun _ _ z=>z))
 dsimp only
 rw [List.forIn_cons]
 refine wpAny_bind (wpAny_bind (wpAny_mono h1 (fun y s2 h2=>wpAny_pure ?_) fun _ _ z=>z))
 dsimp only
 rw [List.forIn_nil]
 refine wpAny_pure ?_
 exact wpAny_bind (wpAny_mkInt (wpAny_pure ⟨_,_,rfl,h2⟩))
def UM (k:NK):Int:=KN (hashInt k.1) (KN (hashInt k.2.1) (KN (hashInt k.2.2.1) (hashInt k.2.2.2)))
theorem YE {k:NK} {a:Addr} {Q:Int→Shared→Prop} (hA:A.units+3<cLine) (hk:LV s.heap k a) (q:Q (UM k) { s with toks:=s.toks+7 }):wpAny (model prog w) A (pyHash (.ref a)) Q E s:=by
 obtain ⟨p,r,ti,th,ta,tb,h1,h2,h3⟩:=hk
 refine HI h1 (by omega) (wpAny_pyHash_int ?_)
 refine HI (s:={ s with toks:=s.toks+1 }) h2 (show A.units+1<cLine by omega) (wpAny_pyHash_int ?_)
 refine HI (s:={ s with toks:=s.toks+1+1 }) h3 (show A.units+1+1<cLine by omega) (wpAny_pyHash_int (wpAny_pyHash_int ?_))
 exact q
theorem VR {k:NK} {a:Addr} {Q:Bool→Shared→Prop} (hk:LV s.heap k a) (q:Q true s):wpAny (model prog w) A (eqIsQuiet 8 (.ref a)) Q E s:=by
 obtain ⟨p,r,ti,th,ta,tb,h1,h2,h3⟩:=hk
 have step:∀ (n:Nat) (a:Addr) (u v:Value) (Q:Bool→Shared→Prop),IsTup s.heap a #[u,v]→wpAny (model prog w) A (eqIsQuiet n u) (fun b s1=>b=true∧s1=s) E s→wpAny (model prog w) A (eqIsQuiet n v) (fun b s1=>b=true∧s1=s) E s→Q true s→wpAny (model prog w) A (eqIsQuiet (n+1) (.ref a)) Q E s:=by
  intro n a u v Q ht hu hv q
  rw [eqIsQuiet.eq_2]
  refine wpAny_bind (wpAny_specialOf ht.typeIs PySem.F.slot_tuple_eq.lookup ?_)
  show wpAny _ _ (PySem.isInstance (.ref a) (.type "tuple") >>= _) _ _ _
  refine wpAny_bind (wpAny_isInstance ht.typeIs isSubtype_tuple_tuple ?_)
  walk_at "b43"
  rw [show ((some (#[u,v]:Array Value)).getD #[])=[u,v].toArray from rfl,List.forIn_toArray,List.forIn_cons]
  refine wpAny_bind (wpAny_bind (wpAny_mono hu (fun b s1 hb=> ?_) fun _ _ z=>z))
  walk_at "b33"
  rw [List.forIn_cons]
  refine wpAny_bind (wpAny_bind (wpAny_mono hv (fun b s1 hb=> ?_) fun _ _ z=>z))
  walk_at "b33"
  rw [List.forIn_nil]
  exact wpAny_pure (wpAny_pure q)
 have fl:∀ (n:Nat) (i:Int) (t:Tok),wpAny (model prog w) A (eqIsQuiet n (.int i t)) (fun b s1=>b=true∧s1=s) E s:=fun n i t=>by
  rw [eqIsQuiet_byValue n (by rfl)]
  exact wpAny_pure ⟨rfl,rfl⟩
 exact step 7 a _ _ _ h1 (fl _ _ _) (step 6 p _ _ _ h2 (fl _ _ _) (step 5 r _ _ _ h3 (fl _ _ _) (fl _ _ _) ⟨rfl,rfl⟩) ⟨rfl,rfl⟩) q
theorem MB {a b:Addr} {u v u' v':Value} {k1 k2:Bool} (h1:IsTup s.heap a #[u,v]) (h2:IsTup s.heap b #[u',v']) (hA:A.units<cLine) (e1:SeqAt.EqAt A.in1 s u u' k1) (e2:SeqAt.EqAt A.in1 s v v' k2) (hs:a=b→(k1 && k2)=true):SeqAt.EqAt A s (.ref a) (.ref b) (k1 && k2):=by
 by_cases hab:a=b
 ·rw [hs hab]
  subst hab
  exact SeqAt.EqAt.same _
 ·have key:=SeqAt.RcAt.tuples (e:=fun j=>if j=0 then k1 else k2) h1 h2 hA (fun j g1 g2=>by
   have hj:j=0∨j=1:=by simp at g1;omega
   rcases hj with rfl | rfl
   ·exact e1
   ·exact e2)
  refine SeqAt.EqAt.of_refs hab ?_
  have e:((List.range (min (#[u,v]:Array Value).size (#[u',v']:Array Value).size)).all (fun j=>if j=0 then k1 else k2) && (#[u,v]:Array Value).size == (#[u',v']:Array Value).size)=(k1 && k2):=by
   cases k1<;> cases k2<;> rfl
  rw [e] at key
  exact key
theorem eY {x y:NK} {a b:Addr} {Q:Bool→Shared→Prop} (hA:A.units+3<cLine) (hx:LV s.heap x a) (hy:LV s.heap y b) (q:Q (decide (x=y)) s):wpAny (model prog w) A (eqBool (.ref a) (.ref b)) Q E s:=by
 obtain ⟨p,r,ti,th,ta,tb,h1,h2,h3⟩:=hx
 obtain ⟨p',r',ti',th',ta',tb',g1,g2,g3⟩:=hy
 have E3:SeqAt.EqAt A.in1.in1 s (.ref r) (.ref r') ((x.2.2.1 == y.2.2.1) && (x.2.2.2 == y.2.2.2)):=MB h3 g3 (show A.units+1+1<cLine by omega) (SeqAt.EqAt.int_int _ _ _ _) (SeqAt.EqAt.int_int _ _ _ _) (by
  rintro rfl
  have:=CO h3 g3
  simp at this
  simp [this.1.1,this.2.1])
 have E2:SeqAt.EqAt A.in1 s (.ref p) (.ref p') ((x.2.1 == y.2.1) && ((x.2.2.1 == y.2.2.1) && (x.2.2.2 == y.2.2.2))):=MB h2 g2 (show A.units+1<cLine by omega) (SeqAt.EqAt.int_int _ _ _ _) E3 (by
  rintro rfl
  have:=CO h2 g2
  simp at this
  obtain ⟨⟨a1,_⟩,rfl⟩:=this
  have:=CO h3 g3
  simp at this
  simp [this.1.1,this.2.1,a1])
 have E1:SeqAt.EqAt A s (.ref a) (.ref b) ((x.1 == y.1) && ((x.2.1 == y.2.1) && ((x.2.2.1 == y.2.2.1) && (x.2.2.2 == y.2.2.2)))):=MB h1 g1 (by omega) (SeqAt.EqAt.int_int _ _ _ _) E2 (by
  rintro rfl
  have:=CO h1 g1
  simp at this
  obtain ⟨⟨a0,_⟩,rfl⟩:=this
  have:=CO h2 g2
  simp at this
  obtain ⟨⟨a1,_⟩,rfl⟩:=this
  have:=CO h3 g3
  simp at this
  simp [this.1.1,this.2.1,a1,a0])
 refine E1 prog w E Q ?_
 have e:((x.1 == y.1) && ((x.2.1 == y.2.1) && ((x.2.2.1 == y.2.2.1) && (x.2.2.2 == y.2.2.2))))=decide (x=y):=by
  obtain ⟨x1,x2,x3,x4⟩:=x
  obtain ⟨y1,y2,y3,y4⟩:=y
  rw [Bool.eq_iff_iff]
  simp [Prod.ext_iff]
 rw [e]
 exact q
def bK (prog:Program) (w:World):HeapKind prog w NK where
 is:=LV
 hash:=UM
 draws:=fun _=>7
 room:=fun A=>A.units+3<cLine
 inj:=LV.inj
 keeps:=fun ⟨p,q,ti,th,ta,tb,h1,h2,h3⟩ hd e sb=>⟨p,q,ti,th,ta,tb,HB h1 hd e sb,HB h2 hd e sb,HB h3 hd e sb⟩
 pyHash:=fun hA hk q=>YE hA hk q
 eqBool:=fun hA hx hy q=>eY hA hx hy q
 quiet:=fun hk q=>VR hk q
end
abbrev EnN:=List (NK×Addr×V)
def EVN:EnN→List (NK×Addr×Value)→Prop:=Paired fun p q=>p.1=q.1∧p.2.1=q.2.1∧AY p.2.2 q.2.2
def DN (P:Program) (w:World) (a:Addr) (es:EnN) (ep:Nat):HO:= .ext fun h=>(a == sysModules)=false∧∃ xs,EVN es xs∧∃ o en,h.get? a=some o∧o.ExactDict∧o.data= .dict en ep∧en.toList=xs.map (entryOfKey (bK P w))∧(xs.map (·.1)).Nodup
def nkD (k:NK):D:= .tup [.int k.1,.tup [.int k.2.1,.tup [.int k.2.2.1,.int k.2.2.2]]]
def aB (K:PySem.W.Frag) (H:Hp) (es:EnN):Prop:=∀ x∈es,Rp K H (nkD x.1) (.ref x.2.1)
def lkN (es:EnN) (k:NK):Option V:=(es.find? fun x=>decide (x.1=k)).map (·.2.2)
theorem EVN.none:∀ {es:EnN} {xs:List (NK×Addr×Value)} {k:NK},EVN es xs→lkN es k=none→atKey xs k=none
 | _,_,k,.nil,_=>rfl
 | (k1,a1,v1)::es,(k2,a2,v2)::xs,k,.cons h t,e=>by
  obtain ⟨rfl,rfl,r⟩:=h
  unfold lkN at e
  unfold atKey
  rw [List.find?_cons] at e ⊢
  by_cases hk:k1=k
  ·simp only [hk,decide_true] at e
   cases e
  ·simp only [hk,decide_false] at e ⊢
   exact EVN.none t e
section
variable {X:Cx} {pins:List (Addr×Obj)} {σ:St} {H:Hp} {s:Shared} {a b:Addr} {es:EnN} {ep:Nat} {k:NK}
end
section
variable {X:Cx} {o e f:Expr} {pos apos cpos:Pos} {td ty tx:TE}
end
def KI (h:Heap) (it d:Addr) (i n ep:Nat):Prop:=h.get? it=some { cls:= .type "dict_keyiterator",data:= .fields #[.ref d,.int i 0,.int n 0,.int ep 0] }
section
variable {prog:Program} {w:World} {A:Around} {E:Value→Shared→Prop} {s:Shared} {it d:Addr} {i n ep:Nat} {o:Obj} {en:Array DictEntry}
theorem KI.typeIs (k:KI s.heap it d i n ep):s.TypeIs (.ref it) "dict_keyiterator":=⟨_,k,rfl⟩
end
section
variable {X:Cx} {pins:List (Addr×Obj)} {σ:St} {H:Hp} {s:Shared} {d:Addr} {es:EnN} {ep:Nat}
end
section
variable {X:Cx} {tg l:Expr} {tl:TE}
end
def YD (P:Program) (w:World) (K:PySem.W.Frag) (js:List Nat) (os:List Str) (wi:TI) (g:TG) (tk tv:TE):TE:=fun σ H Q=>wi σ H fun J H1=>∀ p ep,H1 p=none→
 ∃ W:Nat→Nat→St→Hp→Prop,(∃ m,W 0 m (stC js os σ) (upd H1 p (DN P w p [] ep)))∧∀ i m σ H,W i m σ H→
  (J.stop i H∧Q (.ref p) H)∨(J.go i H∧∀ x H',J.yld i H x H'→g x σ H' fun σ2 H2=>tk σ2 H2 fun y H3=>tv σ2 H3 fun z H4=>CC y fun b=>
   ∃ (es:EnN) (ep:Nat) (k:NK),H4 p=some (DN P w p es ep)∧aB K H4 es∧es.length≤10000∧Rp K H4 (nkD k) (.ref b)∧lkN es k=none∧∀ ep',∃ m',m'<m∧W (i+1) m' σ2 (upd H4 p (DN P w p (es++[(k,b,z)]) ep')))
section
variable {X:Cx}
end
section
variable {prog:Program} {w:World} {A:Around} {R:Result→Shared→Prop} {s:Shared} {elt tg iter tg2 iter2:Expr} {scope:Scope} {pos:Pos} {it acc:Value} {env:Env}
end
def bV (js:List Nat) (os:List Str) (wi:TI) (g:TG) (wj:TI) (g2:TG) (te:TE):TE:=fun σ H Q=>wi σ H fun J H1=>∀ p,H1 p=none→
 ∃ W:Nat→Nat→St→Hp→Prop,(∃ m,W 0 m (stC js os σ) (upd H1 p (.lst [])))∧∀ i m σ H,W i m σ H→
  (J.stop i H∧Q (.ref p) H)∨(J.go i H∧∀ x H',J.yld i H x H'→g x σ H' fun σ2 H2=>wj σ2 H2 fun J2 H3=>
   ∃ V:Nat→Nat→St→Hp→Prop,(∃ m2,V 0 m2 σ2 H3)∧∀ j m2 σ H,V j m2 σ H→
    (J2.stop j H∧∃ m',m'<m∧W (i+1) m' σ H)∨(J2.go j H∧∀ x2 H',J2.yld j H x2 H'→g2 x2 σ H' fun σ4 H4=>te σ4 H4 fun y H5=>
     ∃ ys,H5 p=some (.lst ys)∧ys.length<sizeLine∧∃ m',m'<m2∧V (j+1) m' σ4 (upd H5 p (.lst (ys++[y])))))
section
variable {X:Cx}
end
section
variable {X:Cx} {o i:Expr} {pos:Pos} {td ty:TE}
end
def LtAt (A:Around) (s:Shared) (x y:Value) (b:Bool):Prop:=∀ (prog:Program) (w:World) (E:Value→Shared→Prop) (Q:Value→Shared→Prop),Q (.bool b) s→wpAny (model prog w) A (richCompare .Lt x y) Q E s
section
variable {A:Around} {s:Shared}
theorem lt_int (i j:Int) (t u:Tok):LtAt A s (.int i t) (.int j u) (decide (i<j)):=fun prog w E Q q=>by
 exact wpAny_lt_int (a:=i) (b:=j) (t:=t) (u:=u) q
end
open PySem.W in
def UK {α:Type} (n:Nat) (f:Nat→Nat→Bool) (P:α→Prop):KasT α→Prop
 | .ret a=>P a
 | .ask i j k=>i<n∧j<n∧UK n f P (k (f i j))
section
open PySem.W
variable {n:Nat} {f:Nat→Nat→Bool}
def NM (n:Nat) (p:Array Nat):Prop:=0<n∧p.Perm (List.range n).toArray
theorem NM.lt {p:Array Nat} (h:NM n p) (i:Nat):p.getD i 0<n:=by
 unfold Array.getD
 split
 ·rename_i hi
  have hm:p[i]∈p:=Array.getElem_mem hi
  have:=h.2.mem_iff.mp hm
  simpa using this
 ·exact h.1
end
abbrev Q4:=Int×Int×Int×Int
def q4D (p:Q4):D:=plc p.1 p.2.1 p.2.2.1 p.2.2.2
abbrev Sk:=Int×Q4×Q4
def nlt (a b c d:Int):Bool:=if (a == c)=true then (if (b == d)=true then false else decide (b<d)) else decide (a<c)
def plt (p q:Q4):Bool:=if deq (num p.1 p.2.1) (num q.1 q.2.1)=true then (if deq (num p.2.2.1 p.2.2.2) (num q.2.2.1 q.2.2.2)=true then false else nlt p.2.2.1 p.2.2.2 q.2.2.1 q.2.2.2) else nlt p.1 p.2.1 q.1 q.2.1
def sklt (k l:Sk):Bool:=if (k.1 == l.1)=true then (if deq (q4D k.2.1) (q4D l.2.1)=true then (if deq (q4D k.2.2) (q4D l.2.2)=true then false else plt k.2.2 l.2.2) else plt k.2.1 l.2.1) else decide (k.1<l.1)
section
variable {X:Cx} {pins:List (Addr×Obj)} {σ:St} {H:Hp} {s:Shared} {A:Around}
end
section
open PySem.W
def aI {α:Type} (f:Nat→Nat→Bool):KasT α→α
 | .ret a=>a
 | .ask i j k=>aI f (k (f i j))
theorem UK.run {α:Type} {n:Nat} {f:Nat→Nat→Bool} {P:α→Prop}:∀ {t:KasT α},UK n f P t→UK n f (fun a=>a=aI f t∧P a) t
 | .ret a,g=>⟨rfl,g⟩
 | .ask i j k,g=>⟨g.1,g.2.1,UK.run g.2.2⟩
end
def eQ (ks:List Sk) (i j:Nat):Bool:=sklt (ks.getD i (0,(0,0,0,0),(0,0,0,0))) (ks.getD j (0,(0,0,0,0),(0,0,0,0)))
def sres (ks:List Sk):List Nat:=if ks.length<2 then List.range ks.length else (aI (eQ ks) (PySem.W.kas_sort ks.length)).toList
section
variable {X:Cx}
end
def KxE (K:PySem.W.Frag) (k:Int×D) (e:DictEntry):Prop:=(∃ t,e.key= .int k.1 t)∧e.hash=hashInt k.1∧∃ v,AY v e.val∧∀ H,Rp K H k.2 v
structure KX (K:PySem.W.Frag) (ks:List (Int×D)) (u:Value):Prop where
 ex:∃ p o en ep,u= .ref p∧K.lookup p=some o∧o.ExactDict∧o.data= .dict en ep∧Paired (KxE K) ks en.toList
section
variable {X:Cx} {o i:Expr} {pos:Pos} {td ty:TE}
end
theorem fits {x:Int} (h:0≤x) (h':x<1000000):Builtin.Range.rangeFitsLong x=true:=by
 unfold Builtin.Range.rangeFitsLong
 simp only [Bool.and_eq_true,decide_eq_true_eq]
 omega
section
variable {X:Cx} {tg:Expr}
end
def DCW (P:Program) (w:World) (K:PySem.W.Frag) (J:It) (g:TG) (tk tv:TE) (p:Addr) (Q:VK) (σ:St) (H1:Hp):Prop:=
 ∃ W:Nat→Nat→St→Hp→Prop,(∃ m,W 0 m σ H1)∧∀ i m σ H,W i m σ H→
  (J.stop i H∧Q (.ref p) H)∨(J.go i H∧∀ x H',J.yld i H x H'→g x σ H' fun σ2 H2=>tk σ2 H2 fun y H3=>tv σ2 H3 fun z H4=>CC y fun b=>
   ∃ (es:EnN) (ep:Nat) (k:NK),H4 p=some (DN P w p es ep)∧aB K H4 es∧es.length≤10000∧Rp K H4 (nkD k) (.ref b)∧lkN es k=none∧∀ ep',∃ m',m'<m∧W (i+1) m' σ2 (upd H4 p (DN P w p (es++[(k,b,z)]) ep')))
theorem EJ (P:Program) (w:World) (K:PySem.W.Frag) (js:List Nat) (os:List Str) (wi:TI) (g:TG) (tk tv:TE) (σ:St) (H:Hp) (Q:VK):YD P w K js os wi g tk tv σ H Q=wi σ H fun J H1=>∀ p ep,H1 p=none→DCW P w K J g tk tv p Q (stC js os σ) (upd H1 p (DN P w p [] ep)):=rfl
def IW (J2:It) (g2:TG) (te:TE) (p:Addr) (R:St→Hp→Prop) (σ:St) (H3:Hp):Prop:=
 ∃ V:Nat→Nat→St→Hp→Prop,(∃ m2,V 0 m2 σ H3)∧∀ j m2 σ H,V j m2 σ H→
  (J2.stop j H∧R σ H)∨(J2.go j H∧∀ x2 H',J2.yld j H x2 H'→g2 x2 σ H' fun σ4 H4=>te σ4 H4 fun y H5=>
   ∃ ys,H5 p=some (.lst ys)∧ys.length<sizeLine∧∃ m',m'<m2∧V (j+1) m' σ4 (upd H5 p (.lst (ys++[y]))))
def CW2 (J:It) (g:TG) (wj:TI) (g2:TG) (te:TE) (p:Addr) (Q:VK) (σ:St) (H1:Hp):Prop:=
 ∃ W:Nat→Nat→St→Hp→Prop,(∃ m,W 0 m σ H1)∧∀ i m σ H,W i m σ H→
  (J.stop i H∧Q (.ref p) H)∨(J.go i H∧∀ x H',J.yld i H x H'→g x σ H' fun σ2 H2=>wj σ2 H2 fun J2 H3=>IW J2 g2 te p (fun σ H=>∃ m',m'<m∧W (i+1) m' σ H) σ2 H3)
theorem FI (js:List Nat) (os:List Str) (wi:TI) (g:TG) (wj:TI) (g2:TG) (te:TE) (σ:St) (H:Hp) (Q:VK):bV js os wi g wj g2 te σ H Q=wi σ H fun J H1=>∀ p,H1 p=none→CW2 J g wj g2 te p Q (stC js os σ) (upd H1 p (.lst [])):=rfl
section
variable {X:Cx}
end
section
variable {X:Cx}
end
section
open PySem.W
structure dS (n:Nat) (f:Nat→Nat→Bool):Prop where
 tr:∀ i j k,i<n→j<n→k<n→f i j=true→f j k=true→f i k=true
 tot:∀ i j,i<n→j<n→i≠j→f i j=true∨f j i=true
 as:∀ i j,i<n→j<n→f i j=true→f j i=false
variable {n:Nat} {f:Nat→Nat→Bool}
theorem NM.size {p:Array Nat} (h:NM n p):p.size=n:=by have:=h.2.size_eq;simpa using this
theorem NM.inj {p:Array Nat} (h:NM n p) {i j:Nat} (hi:i<n) (hj:j<n) (e:p.getD i 0=p.getD j 0):i=j:=by
 have hs:=h.size
 have nd:p.toList.Nodup:=(Array.perm_iff_toList_perm.mp h.2).nodup_iff.mpr (by simpa using List.nodup_range)
 unfold Array.getD at e
 rw [dif_pos (by omega),dif_pos (by omega)] at e
 exact (List.getElem_inj nd (i:=i) (j:=j) (h₀:=by simpa using (by omega:i<p.size)) (h₁:=by simpa using (by omega:j<p.size))).mp (by simpa using e)
def Inc (f:Nat→Nat→Bool) (p:Array Nat) (m:Nat):Prop:=∀ i,i+1<m→f (p.getD i 0) (p.getD (i+1) 0)=true
theorem Inc.lt (o:dS n f) {p:Array Nat} (h:NM n p) {m:Nat} (g:Inc f p m):∀ d i,i+d+1<m→f (p.getD i 0) (p.getD (i+d+1) 0)=true
 | 0,i,hi=>g i hi
 | d+1,i,hi=>o.tr _ _ _ (h.lt _) (h.lt _) (h.lt _) (Inc.lt o h g d i (by omega)) (g (i+d+1) (by omega))
theorem Inc.all (o:dS n f) {p:Array Nat} (h:NM n p) {m:Nat} (g:Inc f p m) {i j:Nat} (hij:i<j) (hj:j<m):f (p.getD i 0) (p.getD j 0)=true:=by
 have:=Inc.lt o h g (j - i - 1) i (by omega)
 rwa [show i+(j - i - 1)+1=j by omega] at this
end
def sorts (ks:List Sk):List Sk:=(sres ks).map fun i=>ks.getD i (0,(0,0,0,0),(0,0,0,0))
namespace Tab
open PySem.SetTable
def ZV (M i:Nat):Nat:=(i * 5+1) % M
def it5 (M:Nat):Nat→Nat→Nat
 | 0,i=>i
 | n+1,i=>it5 M n (ZV M i)
def Mk (m:Nat):Prop:=m=7∨m=31∨m=127
theorem IH (M:Nat):∀ a b i,it5 M (a+b) i=it5 M b (it5 M a i)
 | 0,b,i=>by rw [Nat.zero_add];rfl
 | a+1,b,i=>by
  rw [show a+1+b=(a+b)+1 by omega]
  exact IH M a b (ZV M i)
theorem reach {M:Nat} (c:∀ r<M,∃ n<M,it5 M n 0=r) (p:it5 M M 0=0) (i r:Nat) (hi:i<M) (hr:r<M):∃ n<M,it5 M n i=r:=by
 obtain ⟨a,ha,ea⟩:=c i hi
 obtain ⟨b,hb,eb⟩:=c r hr
 by_cases h:a≤b
 ·refine ⟨b - a,by omega,?_⟩
  rw [← ea,← IH,show a+(b - a)=b by omega,eb]
 ·refine ⟨M - a+b,by omega,?_⟩
  rw [← ea,← IH,show a+(M - a+b)=M+b by omega,IH,p,eb]
def lp (m:Nat):Nat→Nat×Nat→Nat×Nat
 | 0,x=>x
 | n+1,x=>lp m n (leap m x.1 x.2)
def st (m:Nat) (x:Nat×Nat):Probe:={ j:=x.1,more:=runEnd m x.1 - x.1,i:=x.1,perturb:=x.2,dummy:=none }
structure POk (t:SetTable) (p:Probe):Prop where
 i:p.i<t.mask+1
 pt:p.perturb<2 ^ 64
 more:p.more≤9
 dm:p.dummy=none
 j:p.j≤t.mask
 run:p.more+p.j≤t.mask
def cnt (m:Nat) (ow:Array (Option Nat)):Nat:=(List.range (m+1)).countP fun j=>(ow.getD j none).isSome
structure LO (m n:Nat) (ow:Array (Option Nat)):Prop where
 size:ow.size=m+1
 cnt:cnt m ow=n
 lt:∀ (j k:Nat),ow.getD j none=some k→k<n
theorem LO.nil (m:Nat):LO m 0 (Array.replicate (m+1) none):=by
 have at':∀ i,(Array.replicate (m+1) (none:Option Nat)).getD i none=none:=fun i=>by
  rw [Array.getD_eq_getD_getElem?,Array.getElem?_replicate]
  split<;> rfl
 refine ⟨Array.size_replicate,?_,fun j k e=> ?_⟩
 ·unfold Tab.cnt
  rw [List.countP_eq_zero]
  intro x _
  rw [at' x]
  decide
 ·rw [at' j] at e;cases e
end Tab
section
variable {prog:Program} {w:World} {A:Around} {E:Value→Shared→Prop} {s:Shared}
theorem cls2 {n:Nat} {a:Addr} {u0 u1:Value} (ht:IsTup s.heap a #[u0,u1]) (h0:wpAny (model prog w) A (ofAClassStatement n u0) (fun b s1=>b=false∧s1=s) E s) (h1:wpAny (model prog w) A (ofAClassStatement n u1) (fun b s1=>b=false∧s1=s) E s):wpAny (model prog w) A (ofAClassStatement (n+1) (.ref a)) (fun b s1=>b=false∧s1=s) E s:=by
 unfold ofAClassStatement
 refine wpAny_bind (wpAny_typeOf ht.typeIs ?_)
 show wpAny _ _ (pure true >>= _) _ _ _
 refine wpAny_bind (wpAny_pure ?_)
 dsimp only
 walk_at "b43"
 rw [show (#[u0,u1]:Array Value)=[u0,u1].toArray from rfl,List.forIn_toArray]
 rw [List.forIn_cons]
 refine wpAny_bind (wpAny_bind (wpAny_mono h0 (fun b s1 hb=> ?_) fun _ _ z=>z))
 walk_at "b33"
 rw [List.forIn_cons]
 refine wpAny_bind (wpAny_bind (wpAny_mono h1 (fun b s1 hb=> ?_) fun _ _ z=>z))
 walk_at "b33"
 rw [List.forIn_nil]
 exact wpAny_pure (wpAny_pure ⟨rfl,rfl⟩)
def nH (a b:Int):Int:=KN (hashInt a) (hashInt b)
def q4H (x:Q4):Int:=KN (nH x.1 x.2.1) (nH x.2.2.1 x.2.2.2)
def skH (k:Sk):Int:=reduceHash (Builtin.Tuple.tupleHashOf [hashInt k.1,q4H k.2.1,q4H k.2.2])
end
end L2
namespace L2
open PySem PySem.Spec PyProof.Rows Tab
section
variable {prog:Program} {w:World} {A:Around} {E:Value→Shared→Prop} {s:Shared}
structure StAt (R:Sk→Addr→Prop) (h:Heap) (S:Addr) (es:Array (Int×Value)) (t:SetTable) (ks:List Sk):Prop where
 ex:∃ o ep,h.get? S=some o∧o.ExactSet∧o.data= .set es ep t
 mask:Tab.Mk t.mask
 dm:t.dummies= #[]
 sz:t.place.size=es.size
 sm:es.size * 5<t.mask * 3
 el:∀ e∈es.toList,∃ l a,e=(skH l,Value.ref a)∧R l a∧l∈ks
 nn:es.size=ks.length
end
end L2
namespace L2
open PySem PySem.Spec PyProof.Rows Tab
section
variable {prog:Program} {w:World} {A:Around} {E:Value→Shared→Prop} {s:Shared}
end
end L2
namespace L2
open PySem PySem.Spec PyProof.Rows Tab
section
variable {X:Cx} {pins:List (Addr×Obj)} {σ:St} {H:Hp} {s:Shared}
end
section
variable {prog:Program} {w:World} {A:Around} {E:Value→Shared→Prop} {s:Shared}
end
section
variable {X:Cx}
end
section
variable {X:Cx}
variable {tg:Expr}
end
section
variable {X:Cx}
end
section
variable {X:Cx}
end
section
variable {X:Cx} {e tg:Expr} {te:TE} {p' pos':Pos}
end
section
variable {prog:Program} {w:World} {A:Around} {s:Shared} {E:Value→Shared→Prop} {R:Result→Shared→Prop} {I l:Addr} {items:Array Value}
end
section
variable {X:Cx} {e:Expr} {te:TE} {p p' pos pos':Pos}
end
section
variable {X:Cx}
end
inductive DC (K:PySem.W.Frag) (H:Hp):Nat→V→V→Prop
 | int (n:Nat) (i:Int):DC K H n (.int i) (.int i)
 | bl (n:Nat) (b:Bool):DC K H n (.bl b) (.bl b)
 | str (n:Nat) (x:Str):DC K H n (.str x) (.str x)
 | non (n:Nat):DC K H n .non .non
 | same (n:Nat) (p:Addr):DC K H n (.ref p) (.ref p)
 | tup {n:Nat} {p q:Addr} {xs ys:List V}:SqT K H p xs→SqT K H q ys→xs.length=ys.length→(∀ (i:Nat) (x y:V),xs[i]? =some x→ys[i]? =some y→DC K H n x y)→DC K H (n+1) (.ref p) (.ref q)
 | lst {n:Nat} {p q:Addr} {xs ys:List V}:SqL K H p xs→SqL K H q ys→xs.length=ys.length→(∀ (i:Nat) (x y:V),xs[i]? =some x→ys[i]? =some y→DC K H n x y)→DC K H (n+1) (.ref p) (.ref q)
theorem DC.up {K:PySem.W.Frag} {H:Hp} {n:Nat} {v u:V} (h:DC K H n v u):∀ {m:Nat},n≤m→DC K H m v u:=by
 induction h with
 | int n i=>intro m _;exact .int m i
 | bl n i=>intro m _;exact .bl m i
 | str n i=>intro m _;exact .str m i
 | non n=>intro m _;exact .non m
 | same n p=>intro m _;exact .same m p
 | @tup n p q xs ys a b c d ih=>
  intro m hm
  obtain ⟨m,rfl⟩:∃ k,m=k+1:=⟨m - 1,by omega⟩
  exact .tup a b c fun i x y hx hy=>ih i x y hx hy (by omega)
 | @lst n p q xs ys a b c d ih=>
  intro m hm
  obtain ⟨m,rfl⟩:∃ k,m=k+1:=⟨m - 1,by omega⟩
  exact .lst a b c fun i x y hx hy=>ih i x y hx hy (by omega)
section
variable {X:Cx} {pins:List (Addr×Obj)} {σ:St} {H:Hp} {s:Shared}
theorem GU (n:Nat):((List.range n).all fun _=>true)=true:=by simp
theorem DC.eqAt (I:Inv X pins σ H s) {n:Nat} {v u:V} (h:DC X.K H n v u):∀ {A:Around} {x y:Value},AY v x→AY u y→A.units+n<cLine→SeqAt.EqAt A s x y true:=by
 induction h with
 | int n i=>rintro A x y ⟨t,rfl⟩ ⟨t',rfl⟩ hu;have:=SeqAt.EqAt.int_int (A:=A) (s:=s) i t i t';rwa [beq_self_eq_true] at this
 | bl n b=>intro A x y h1 h2 hu;cases h1;cases h2;exact SeqAt.EqAt.same _
 | str n z=>rintro A x y ⟨t,rfl⟩ ⟨t',rfl⟩ hu;have:=SeqAt.EqAt.str_str (A:=A) (s:=s) z t z t';rwa [beq_self_eq_true] at this
 | non n=>intro A x y h1 h2 hu;cases h1;cases h2;exact SeqAt.EqAt.same _
 | same n p=>intro A x y h1 h2 hu;cases h1;cases h2;exact SeqAt.EqAt.same _
 | @tup n p q xs ys a b c d ih=>
  intro A x y h1 h2 hu
  cases h1;cases h2
  by_cases hp:p=q
  ·subst hp;exact SeqAt.EqAt.same _
  ·refine SeqAt.EqAt.of_refs hp ?_
   obtain ⟨its,rv,ht,_⟩:=I.tuple a
   obtain ⟨its',rv',ht',_⟩:=I.tuple b
   have key:=SeqAt.RcAt.tuples (e:=fun _=>true) ht ht' (show A.units<cLine by omega) (fun j h1 h2=>by
    have j1:j<its.length:=by simpa using h1
    walk_at "b8"
    exact ih j v1 v2 e1 e2 r1 r2 (show A.units+1+n<cLine by omega))
   have e0:((List.range (min its.toArray.size its'.toArray.size)).all (fun j=>true) && its.toArray.size == its'.toArray.size)=true:=by
    rw [GU,Bool.true_and]
    simp only [List.size_toArray,← rv.length,← rv'.length,c,beq_self_eq_true]
   rw [e0] at key
   exact key
 | @lst n p q xs ys a b c d ih=>
  intro A x y h1 h2 hu
  cases h1;cases h2
  by_cases hp:p=q
  ·subst hp;exact SeqAt.EqAt.same _
  ·refine SeqAt.EqAt.of_refs hp ?_
   obtain ⟨its,rv,ht,_⟩:=I.list a
   obtain ⟨its',rv',ht',_⟩:=I.list b
   have key:=SeqAt.RcAt.lists (e:=fun _=>true) ht.isList ht'.isList (by simp only [List.size_toArray,← rv.length,← rv'.length,c]) (show A.units<cLine by omega) (fun j h1 h2=>by
    have j1:j<its.length:=by simpa using h1
    walk_at "b8"
    exact ih j v1 v2 e1 e2 r1 r2 (show A.units+1+n<cLine by omega))
   rw [GU] at key
   exact key
def rAl (K:PySem.W.Frag) (ne:Bool):R2:=fun x y H Q=>(∃ n p q xs ys,n≤60∧x= .ref p∧y= .ref q∧((SqT K H p xs∧SqT K H q ys)∨(SqL K H p xs∧SqL K H q ys))∧xs.length=ys.length∧(∀ (i:Nat) (x y:V),xs[i]? =some x→ys[i]? =some y→DC K H n x y))∧Q (.bl (!ne)) H
theorem bY (hu:X.A.units+64<cLine):OpR X (compareOp .NotEq) (rAl X.K true):=by
 walk_at "b71"
 obtain ⟨⟨n,p,q,xs,ys,hn,rfl,rfl,h,hl,ha⟩,hq⟩:=h
 cases rx;cases ry
 rcases h with ⟨a,b⟩ | ⟨a,b⟩
 ·obtain ⟨its,rv,ht,_⟩:=I.tuple a
  obtain ⟨its',rv',ht',_⟩:=I.tuple b
  refine SeqAt.RcNeAt.tuples (e:=fun _=>true) ht ht' (by omega) (fun j h1 h2=> ?_) X.prog X.w X.xe _ ?_
  ·have j1:j<its.length:=by simpa using h1
   walk_at "b8"
   exact (ha j v1 v2 e1 e2).eqAt I r1 r2 (show X.A.units+1+n<cLine by omega)
  ·exact AW I hq (by rw [GU,Bool.true_and];simp only [List.size_toArray,← rv.length,← rv'.length,hl,beq_self_eq_true])
 ·obtain ⟨its,rv,ht,_⟩:=I.list a
  obtain ⟨its',rv',ht',_⟩:=I.list b
  refine SeqAt.RcNeAt.lists (e:=fun _=>true) ht.isList ht'.isList (by simp only [List.size_toArray,← rv.length,← rv'.length,hl]) (by omega) (fun j h1 h2=> ?_) X.prog X.w X.xe _ ?_
  ·have j1:j<its.length:=by simpa using h1
   walk_at "b8"
   exact (ha j v1 v2 e1 e2).eqAt I r1 r2 (show X.A.units+1+n<cLine by omega)
  ·exact AW I hq (by rw [GU])
end
structure WH (P:Program) (w:World) (l:List Env) (H H':Hp) (h B:Heap):Prop where
 hok:HOk P w H' B
 keep:∀ b o,h.get? b=some o→H b=none→b∉frs l→B.get? b=some o
 there:∀ b o,h.get? b=some o→b∉frs l→∃ o',B.get? b=some o'
def CXr (P:Program) (w:World):CXT:=fun outer H s E e s'=>∃ (a:Addr) (C:Value) (H':Hp) (B:Heap) (a0:Value),e= .ref a∧s'.os=s.os∧AllBare s'.gens∧Un (frs outer) [] H H' s.heap s'.heap∧
 Heap.FlyingW B outer a C a0 s'.heap∧WH P w outer H H' s.heap B∧E C none H'
theorem Un.flown {fs:List Addr} {H H':Hp} {h h1 h2 B:Heap} (u:Un fs [] H H' h h1) (hf:∀ b∈fs,∃ o,h1.get? b=some o∧∀ vs,o.data≠ .fields vs)
  (k1:∀ b o,h.get? b=some o→H b=none→b∉fs→B.get? b=some o) (k2:∀ b o,h.get? b=some o→b∉fs→∃ o',B.get? b=some o') (st:B.StaysIn h2) (up:h1.UpToSlots h2):Un fs [] H H' h h2 where
 keep:=fun b o q n hb _=>st _ _ (k1 b o q n hb)
 slot:=fun b o q n hb hx=>by
  obtain ⟨sl,e⟩:=u.slot b o q n hb hx
  obtain ⟨o',e',hd⟩:=hf b hb
  rw [e] at e';cases e'
  obtain ⟨sl',e2⟩:=up b _ e hd
  exact ⟨sl',e2⟩
 free:=u.free
 there:=fun b o q hx=>by
  by_cases hb:b∈fs
  ·obtain ⟨o',e,hd⟩:=hf b hb
   obtain ⟨sl,e2⟩:=up b _ e hd
   exact ⟨_,e2⟩
  ·obtain ⟨o',e⟩:=k2 b o q hb
   exact ⟨o',st _ _ e⟩
 tups:=u.tups
 frzs:=u.frzs
 tbls:=u.tbls
theorem DG {h B:Heap} {l:List Env} (hl:h.FunFrames B l):∀ b∈frs l,∃ o,h.get? b=some o∧∀ vs,o.data≠ .fields vs:=fun b hb=>(hl.mem hb).2
section
variable {X:Cx} {pins:List (Addr×Obj)} {σ:St} {H H':Hp} {s s':Shared}
theorem Inv.flown {a:Addr} {C a0:Value} {B h2:Heap} (I:Inv X pins σ H s) (os:s'.os=s.os) (bare:AllBare s'.gens) (un:Un (frs X.stack) [] H H' s.heap s'.heap) (fl:Heap.FlyingW B X.stack a C a0 s'.heap)
  (bl:WH X.prog X.w X.stack H H' s.heap B) (st:B.StaysIn h2) (up:s'.heap.UpToSlots h2):Inv X pins σ H' { s' with heap:=h2 }:=
 Inv.call' (s':={ s' with heap:=h2 }) (ch:=[]) I os (un.flown (DG fl.2.2.1) bl.keep bl.there st up) (bl.hok.kept st) bare (fun b z=>absurd z (by simp))
end
section
variable {P:Program} {w:World} {K:PySem.W.Frag} {mg:Str→Option Value} {base:Heap} {N:List Str} {qual:Str} {scope:Scope} {f:Addr} {cd:Value} {A:Around} {outer:List Env} {s:Shared} {H:Hp} {E:XK}
theorem FG (b:Addr) (o:Obj) (q:s.heap.get? b=some o) (hb:b∉frs outer):b∉frs (envOfC qual scope s.heap.objs.size f cd::outer):=fun m=>by
 unfold frs at m
 rw [List.filterMap_cons] at m
 have e:(envOfC qual scope s.heap.objs.size f cd).frame=some s.heap.objs.size:=rfl
 rw [e] at m
 rcases List.mem_cons.mp m with z | z
 ·rw [z] at q
  exact absurd (Heap.lt_size q) (Nat.lt_irrefl _)
 ·exact hb z
theorem ET:IU (CXr P w) (CQ (CXr P w) P w K mg base N qual scope f cd A outer s H E) E:=by
 intro pins σ H1 s1 e s' I h
 obtain ⟨a,C,H',B,a0,rfl,os,bare,un,fl,bl,q⟩:=h
 show wpAny (model P w) _ (leaving _ (.ref a)) _ _ s'
 refine wpAny_leaves_onW I.ok.frames rfl fl fun h' fl' up=> ?_
 have J:=I.flown os bare un fl bl fl'.1 up
 refine ⟨a,C,H',B,a0,rfl,J.os,J.bare,J.base,fl',⟨bl.hok,fun b o q n hb=> ?_,fun b o q hb=> ?_⟩,q⟩
 ·exact bl.keep b o (I.base.keep b o q n hb (by simp [CQ])) (I.base.free b o q n (by simp [CQ])) (FG b o q hb)
 ·obtain ⟨o1,e1⟩:=I.base.there b o q (by simp [CQ])
  exact bl.there b o1 e1 (FG b o q hb)
def dE (X:Cx) (E:XK):Prop:=∀ (pins:List (Addr×Obj)) (σ:St) (H:Hp) (s:Shared) (h':Heap) (a C:Addr) (vs:List Value),Inv X pins σ H s→Heap.MadeExcOf s.heap h' a (.ref C) vs→E (.ref C) none H→X.xe (.ref a) { s with heap:=h' }
theorem WQ:dE (CQ (CXr P w) P w K mg base N qual scope f cd A outer s H E) E:=by
 intro pins σ H1 s1 h1 a C vs I hx q
 show wpAny (model P w) _ (leaving _ (.ref a)) _ _ _
 have hin:∀ env∈(CQ (CXr P w) P w K mg base N qual scope f cd A outer s H E).stack,∀ b,env.frame=some b→b∈frs (CQ (CXr P w) P w K mg base N qual scope f cd A outer s H E).stack:=fun env he b hb=>List.mem_filterMap.mpr ⟨env,he,hb⟩
 have hokB:HOk P w H1 (PySem.W.hideAll s1.heap (frs (CQ (CXr P w) P w K mg base N qual scope f cd A outer s H E).stack)):=fun b o e=>(I.hok b o e).stay (fun c u hc q=>PySem.W.hideAll_get _ q fun m=>by
  have n:=I.stkFree c m
  rcases hc with rfl | hc
  ·rw [e] at n;cases n
  ·rw [hc] at n;cases n) (fun _ q=>q) fun _ _ q=>q
 refine wpAny_leaves_madeW (base:=PySem.W.hideAll s1.heap (frs (CQ (CXr P w) P w K mg base N qual scope f cd A outer s H E).stack)) I.ok.frames rfl (fun b o q=>PySem.W.of_hideAll _ q) (PySem.W.funFrames_hide I.stack hin) hx fun h' t fl' tup new up=> ?_
 have bl:WH P w (CQ (CXr P w) P w K mg base N qual scope f cd A outer s H E).stack H1 H1 s1.heap (PySem.W.hideAll s1.heap (frs (CQ (CXr P w) P w K mg base N qual scope f cd A outer s H E).stack)):=
  ⟨hokB,fun b o q _ hb=>PySem.W.hideAll_get _ q hb,fun b o q hb=>⟨o,PySem.W.hideAll_get _ q hb⟩⟩
 have un:Un (frs (CQ (CXr P w) P w K mg base N qual scope f cd A outer s H E).stack) [] H1 H1 s1.heap h':=
  (Un.kept (h':=h1) hx.keeps).flown (fun b hb=>by obtain ⟨o,e,hd⟩:=(I.stack.mem hb).2;exact ⟨o,hx.keeps _ _ e,hd⟩) bl.keep bl.there fl'.1 up
 have J:Inv (CQ (CXr P w) P w K mg base N qual scope f cd A outer s H E) pins σ H1 { s1 with heap:=h' }:=Inv.call' (s':={ s1 with heap:=h' }) (ch:=[]) I rfl un (hokB.kept fl'.1) I.bare (fun b z=>absurd z (by simp))
 refine ⟨a,.ref C,H1,_,.ref t,rfl,J.os,J.bare,J.base,fl',⟨hokB,fun b o q n hb=> ?_,fun b o q hb=> ?_⟩,q⟩
 ·exact bl.keep b o (I.base.keep b o q n hb (by simp [CQ])) (I.base.free b o q n (by simp [CQ])) (FG b o q hb)
 ·obtain ⟨o1,e1⟩:=I.base.there b o q (by simp [CQ])
  exact bl.there b o1 e1 (FG b o q hb)
theorem Fun.okR {x:Str} {st:Stmt} {fd:FuncData} {ps:List Str} {k:Nat} {sp:Sp} (F:Fun K x qual st f fd) (S:AZ N ps (AJ st)) (len:∀ vs H Q E,sp vs H Q E→vs.length=ps.length)
  (hbody:∀ (cdv:Value) (A:Around) (outer:List Env) (s:Shared) (H:Hp) (vs:List V) (Q:VK) (E:XK),DY k (A.deeper (envOfC qual (AJ st) s.heap.objs.size f cdv))→sp vs H Q E→
   ∃ t,PSs (CQ (CXr P w) P w K mg base N qual (AJ st) f cdv A outer s H E) (DR st) t∧t { nx:=fun _ H'=>Q .non H',rt:=Q } (start N vs) H):BR P w K mg base (CXr P w) (k+1) f fd ps sp:=by
 obtain ⟨oc,od,kV,doc,pm,an,cdv,ct,osl,rfl,lk,hcd⟩:=F.ex
 exact ZX lk hcd S len fun A outer s H vs Q E hr hsp=>hbody cdv A outer s H vs Q E hr hsp
theorem BR.upR {k:Nat} {fd:FuncData} {ps:List Str} {sp:Sp} (F:BR P w K mg base CX0 k f fd ps sp):BR P w K mg base (CXr P w) k f fd ps sp:=
 ⟨F.len,fun A outer s H args us vs Q E hr e0 hb r h=>codeAny_mono (F.run A outer s H args us vs Q E hr e0 hb r h) fun r s' q=>by
  cases r with
  | error e=>exact False.elim q
  | ok fl=>cases fl<;> exact q⟩
end
abbrev veB:List Value:=[.type "ValueError",.type "Exception",.type "BaseException",.type "object"]
def BY (K:PySem.W.Frag) (HE C:Addr):Bool:= !(C == HE) && PySem.W.ktsIn K C "BaseException" && PySem.W.tailIn K veB (.ref HE::veB) && match K.lookup C with
 | some ⟨_,_,.cls cd,sl⟩=>cd.mro == (.ref C:: .ref HE::veB) && PySem.W.nsOkIn K cd.ns && PySem.W.nsIn K cd.ns "__init__" == some none && sl.toList[4]? == some (some (.builtin "ValueError.__new__"))
 | _=>false
theorem BY.ne {K:PySem.W.Frag} {HE C:Addr} (q:BY K HE C=true):C≠HE:=by
 unfold BY at q
 simp only [Bool.and_eq_true,Bool.not_eq_true',beq_eq_false_iff_ne] at q
 exact q.1.1.1
theorem BY.obj {K:PySem.W.Frag} {HE C:Addr} {h:Heap} (q:BY K HE C=true) (k:K.In h):∃ nm qn N bs hdct sn sub ab col dd k0 k1 k2 k3 k5 mN,
  h.get? C=some (excClassObj nm qn C N bs (.ref HE::veB) hdct sn sub ab col dd k0 k1 k2 k3 k5 "ValueError.__new__")∧h.Ns N mN∧mN "__init__"=none∧OwnTail h veB (.ref HE::veB):=by
 unfold BY at q
 simp only [Bool.and_eq_true] at q
 obtain ⟨⟨⟨_,q1⟩,q2⟩,q3⟩:=q
 obtain ⟨nm,qn,N,bs,bm,hdct,sn,sub,ab,col,dd,k0,k1,k2,k3,k5,nid,e,_,_⟩:=PySem.W.kts_cls k q1
 split at q3
 ·rename_i c0 d0 cd sl lk
  have e2:=k _ _ lk
  rw [e] at e2
  simp only [Option.some.injEq,Obj.mk.injEq,Data.cls.injEq] at e2
  obtain ⟨_,_,rfl,rfl⟩:=e2
  simp only [Bool.and_eq_true,beq_iff_eq] at q3
  obtain ⟨⟨⟨m1,m2⟩,m3⟩,m4⟩:=q3
  have m1:Value.ref C::bm= .ref C:: .ref HE::veB:=m1
  injection m1 with _ m1
  subst m1
  have m4:some (some (Value.builtin nid))=some (some (.builtin "ValueError.__new__")):=m4
  have m4:nid="ValueError.__new__":=by injection m4 with m4;injection m4 with m4;injection m4
  subst m4
  exact ⟨nm,qn,N,bs,hdct,sn,sub,ab,col,dd,k0,k1,k2,k3,k5,_,e,.of_isNs (PySem.W.isNs_of_in k m2),PySem.W.nsMap_none_of_in k m2 m3,PySem.W.tail_of_in k q2⟩
 ·cases q3
section
variable {X:Cx} {E:XK} {C HE:Addr} {x:Str} {np cpos pos:Pos} {e:Expr} {es:List Expr} {t:TA}
def JS (C:Addr) (E:XK) (t:TA):TS:=fun _ σ H=>t σ H fun vs H1=>vs.length≤sizeLine∧E (.ref C) none H1
theorem JR (hM:dE X E) (hc:X.calm=true) (hx:BY X.K HE C=true) (hg:Gl X x) (hm:X.mg x=some (.ref C)) (ha:PA X (e::es) t) (hdb:(x == ("__debug__":Str))=false:=by decide)
  (he:starEach (e::es) X.env=(false,eval e X.env)::starEach es X.env:=by rfl) (hpl:(backTo cpos (starEach es X.env)).any (·.1)=false:=by rfl):
  PS X (.Raise (some (.Call (.Name x np) (e::es) [] cpos)) none pos) (JS C E t):=by
 walk_at "b72"
 obtain ⟨nm,q,N,bs,hdct,sn,sub,ab,col,dd,k0,k1,k2,k3,k5,mN,hC,hN,hni,T⟩:=BY.obj hx I.mod.kin
 refine wpAny_Raise_call_subU (C:=C) (nm:=nm) (q:=q) (N:=N) (bs:=bs) (bm:= .ref HE::veB) (hdct:=hdct) (sn:=sn) (sub:=sub) (ab:=ab) (col:=col) (dd:=dd) (k0:=k0) (k1:=k1) (k2:=k2) (k3:=k3) (k5:=k5)
  PySem.F.excBase_ValueError (by decide) PySem.F.excBase_ValueError (mN:=mN) (by rw [List.contains_cons];rfl) (I.ok.hd hc) (by rw [he];show (false || (backTo cpos (starEach es X.env)).any (·.1))=false;rw [hpl];rfl) hni (FN I hg hm ⟨rfl,?_⟩ hdb)
 have h0:=ha cpos pins s σ H _ I h
 rw [he] at h0 ⊢
 exact Calls.evalArgs_plain (wpAny_mono h0 (fun us s2 ⟨vs,H2,I2,r,l,q⟩=>⟨rfl,by rw [← r.length];exact l,I2.bk _ _ hC,hN.keeps I2.bk,T.keeps I2.bk,fun h' a hm=>hM pins σ H2 s2 h' a C us I2 hm q⟩) fun _ _ y=>y)
end
theorem SE {M:Model} {A:Around} {E:Value→Shared→Prop} {K:PySem.W.Frag} {HE C D e:Addr} {s:Shared} {oe:Obj} {Q:Bool→Shared→Prop} (qC:BY K HE C=true) (qD:BY K HE D=true) (k:K.In s.heap)
  (he:s.heap.get? e=some oe) (hcls:oe.cls= .ref C) (hq:Q (decide (C=D)) s):wpAny M A (excMatches (.ref e) (.ref D)) Q E s:=by
 walk_at "b51"
 obtain ⟨nm',q',N',bs',hdct',sn',sub',ab',col',dd',l0,l1,l2,l3,l5,_,hD,_,_,_⟩:=BY.obj qD k
 obtain ⟨h,g,d,t,os⟩:=s
 by_cases cd:C=D
 ·subst cd
  rw [decide_eq_true rfl] at hq
  exact wpAny_excMatches_sub_self hC he hcls (by rw [List.contains_cons];rfl) hq
 ·rw [decide_eq_false cd] at hq
  have hcB:(Value.ref D:: .ref HE::veB).contains (.type "BaseException")=true:=by rw [List.contains_cons,List.contains_cons];rfl
  have hcC:(Value.ref C:: .ref HE::veB).contains (.ref D)=false:=by
   rw [List.contains_cons,List.contains_cons]
   have n1:(Value.ref D == Value.ref C)=false:=by simpa using fun z=>cd z.symm
   have n2:(Value.ref D == Value.ref HE)=false:=by simpa using BY.ne qD
   rw [n1,n2]
   rfl
  have f:=tc_notTuple
  unfold excMatches
  repeat (first | (with_reducible refine wpAny_loadPart_at he ?_;rw [hcls]) | with_reducible refine wpAny_loadPart_at hD ?_ | (with_reducible refine wpAny_isSubtype_exc hD ?_;rw [hcB]) | (with_reducible refine wpAny_isSubtype_exc hC ?_;rw [hcC]) | wp_step)
  exact hq
abbrev Cx.sub (X:Cx) (a:Addr):Cx:={ X with A:=X.A.mark (some (.ref a)),calm:=false,xe:=fun _ _=>False }
section
variable {X:Cx} {pins:List (Addr×Obj)} {σ:St} {H:Hp} {s:Shared} {a:Addr}
theorem Inv.sub (I:Inv X pins σ H s) (a:Addr):Inv (X.sub a) pins σ H s:=
 ⟨⟨I.ok.mod,I.ok.kind,I.ok.glob,I.ok.blt,I.ok.above,I.ok.inj,I.ok.has,I.ok.cab,(fun z=>by cases z),I.ok.frames,I.ok.stk,I.ok.exf,I.ok.bs,I.ok.bsz,I.ok.noex,I.ok.exfs,I.ok.funs,I.ok.frf⟩,I.os,I.bare,I.base,I.loc,I.cell,I.free,I.freeC,I.pin,I.hok,I.len⟩
theorem Inv.unsub (ok:X.Ok) (I:Inv (X.sub a) pins σ H s):Inv X pins σ H s:=⟨ok,I.os,I.bare,I.base,I.loc,I.cell,I.free,I.freeC,I.pin,I.hok,I.len⟩
theorem SP.unsub (ok:X.Ok) {D:DW} {f:Flow} {s':Shared} (h:SP (X.sub a) pins D f s'):SP X pins D f s':=by
 cases f with
 | next=>obtain ⟨σ',H',I,q⟩:=h;exact ⟨σ',H',I.unsub ok,q⟩
 | brk=>obtain ⟨σ',H',I,q⟩:=h;exact ⟨σ',H',I.unsub ok,q⟩
 | cont=>obtain ⟨σ',H',I,q⟩:=h;exact ⟨σ',H',I.unsub ok,q⟩
 | ret u=>obtain ⟨v,σ',H',I,r,q⟩:=h;exact ⟨v,σ',H',I.unsub ok,r,q⟩
end
def FL (X:Cx) (pins:List (Addr×Obj)) (σ:St) (E:XK) (ev:Value) (s':Shared):Prop:=∃ (a:Addr) (C a0:Value) (B:Heap) (H':Hp),ev= .ref a∧Heap.FlyingW B X.stack a C a0 s'.heap∧
 (∀ h2,B.StaysIn h2→s'.heap.UpToSlots h2→Inv X pins σ H' { s' with heap:=h2 })∧E C none H'
abbrev TX:=St→Hp→VK→XK→Prop
def PX (X:Cx) (e:Expr) (t:TX):Prop:=
 ∀ (pins:List (Addr×Obj)) (s:Shared) (σ:St) (H:Hp) (Q:VK) (E:XK),Inv X pins σ H s→t σ H Q E→wpAny (model X.prog X.w) X.A (eval e X.env) (EP X pins σ Q) (FL X pins σ E) s
abbrev HX:=Value→DW→St→Hp→Prop
def PH (X:Cx) (hs:List ExceptHandler) (th:HX):Prop:=
 ∀ (pins:List (Addr×Obj)) (s:Shared) (σ:St) (H:Hp) (D:DW) (a:Addr) (C a0:Value) (B:Heap),X.Ok→Heap.FlyingW B X.stack a C a0 s.heap→(∀ h2,B.StaysIn h2→s.heap.UpToSlots h2→Inv X pins σ H { s with heap:=h2 })→th C D σ H→
  wpAny (model X.prog X.w) X.A (handleBy (.ref a) X.env hs) (SP X pins D) X.xe s
section
variable {X:Cx}
theorem cV:PH X [] fun _ _ _ _=>False:=fun _ _ _ _ _ _ _ _ _ _ _ _ h=>h.elim
def tHc (K:PySem.W.Frag) (HE d:Addr) (ts:TS) (tr:HX):HX:=fun C D σ H=>∃ c,C= .ref c∧BY K HE c=true∧if c=d then ts D σ H else tr C D σ H
theorem IN (h:Heap):h.UpToSlots h:=fun b o q _=>⟨o.slots,q⟩
theorem RG {HE d:Addr} {y:Str} {np pos:Pos} {b₀:Stmt} {suite:List Stmt} {CH:List ExceptHandler} {ts:TS} {tr:HX} (hg:Gl X y) (hm:X.mg y=some (.ref d)) (hd:BY X.K HE d=true)
  (hs:∀ a,PSs (X.sub a) (b₀::suite) ts) (hr:PH X CH tr) (hdb:(y == ("__debug__":Str))=false:=by decide):
  PH X (.ExceptHandler (some (.Name y np)) none (b₀::suite) pos::CH) (tHc X.K HE d ts tr):=by
 walk_at "b27"
 refine SE (K:=X.K) hc hd I0.kIn he hcls ?_
 by_cases e:c=d
 ·rw [decide_eq_true e]
  rw [if_pos e] at h
  refine codeAny_handlers_suite (lands_againW fl fun h2 fl2 up2=> ?_)
  refine wpAny_mono (hs a pins _ σ H D ((st h2 fl2.1 up2).sub a) h) (fun f s2 q=>SP.unsub ok q) fun _ _ z=>z.elim
 ·rw [decide_eq_false e]
  rw [if_neg e] at h
  exact hr pins s σ H D a (.ref c) a0 B ok fl st h
end
section
variable {X:Cx} {k:Nat} {f C:Addr} {fd:FuncData} {ps:List Str} {sp:Sp} {dvs:List V} {ds:List Value} {x:Str} {p pos:Pos} {e:Expr} {es:List Expr} {t:TA}
theorem FL.of {pins:List (Addr×Obj)} {σ:St} {H:Hp} {s s':Shared} {E:XK} {ev:Value} (I:Inv X pins σ H s) (h:CXr X.prog X.w X.stack H s E ev s'):FL X pins σ E ev s':=by
 obtain ⟨a,C,H',B,a0,rfl,os,bare,un,fl,bl,q⟩:=h
 exact ⟨a,C,a0,B,H',rfl,fl,fun h2 st up=>I.flown os bare un fl bl st up,q⟩
theorem ZB {pins:List (Addr×Obj)} {σ:St} {H:Hp} {s:Shared} {Q:VK} {E:XK} {us:List Value} {vs:List V} (F:BR X.prog X.w X.K X.mg X.base (CXr X.prog X.w) k f fd ps sp) (hr:DY k X.A) (hb:FQ X.K fd ps ds) (hd:AM dvs ds)
  (I:Inv X pins σ H s) (r:AM vs us) (h:sp (vs++dvs) H Q E):wpAny (model X.prog X.w) X.A (call (.ref f) us) (EP X pins σ Q) (FL X pins σ E) s:=by
 walk_at "b24"
 cases r with
 | error e=>exact FL.of I hq
 | ok fl=>
  cases fl with
  | ret u=>exact I.after hq
  | next=>exact False.elim hq
  | brk=>exact False.elim hq
  | cont=>exact False.elim hq
def JH (sp:Sp) (dvs:List V) (t:TA):TX:=fun σ H Q E=>t σ H fun vs H1=>sp (vs++dvs) H1 Q E
theorem QR (F:BR X.prog X.w X.K X.mg X.base (CXr X.prog X.w) k f fd ps sp) (hr:DY k X.A) (hg:Gl X x) (hm:X.mg x=some (.ref f)) (hk:PySem.W.keepIn X.K (.ref f)=true) (hb:FQ X.K fd ps ds) (hd:AM dvs ds)
  (ha:PA X.nox (e::es) t) (hdb:(x == ("__debug__":Str))=false:=by decide) (he:starEach (e::es) X.env=(false,eval e X.env)::starEach es X.env:=by rfl) (hpl:(backTo pos (starEach es X.env)).any (·.1)=false:=by rfl):
  PX X (.Call (.Name x p) (e::es) [] pos) (JH sp dvs t):=by
 intro pins s σ H Q E I h
 refine wpAny_Call_Name_kw (FN I hg hm ?_ hdb)
 refine PySem.W.callWith_K (h₀:=X.base) I.ok.mod.kin hk (wpAny_mono (ha pos pins s σ H _ (I.wish _) h) (fun us s1 ⟨vs,H1,I1,r,q⟩=>⟨I1.unwish.kIn,?_⟩) fun _ _ z=>z.elim) he hpl
 exact ZB F hr hb hd I1.unwish r q
end
section
variable {X:Cx} {e:Expr} {te:TX} {h₀:ExceptHandler} {hs:List ExceptHandler} {th:HX} {pos pos' pos'':Pos} {x:Str} {i:Nat} {L:Addr}
theorem handled (hst:X.stack=X.env::X.outer) (hf:X.env.frame=some L) (ph:PH X (h₀::hs) th) {pins:List (Addr×Obj)} {σ:St} {D:DW} {ev:Value} {s:Shared} (ok:X.Ok) (h:FL X pins σ (fun C _ H'=>th C D σ H') ev s):
  wpAny (model X.prog X.w) X.A (noteFrame ev X.env) (fun _ s₂=>wpAny (model X.prog X.w) X.A (setFlight ev none) (fun _ s₃=>wpAny (model X.prog X.w) X.A (handleBy ev X.env (h₀::hs)) (SP X pins D) X.xe s₃) X.xe s₂) X.xe s:=by
 obtain ⟨a,C,a0,B,H',rfl,fl,st,q⟩:=h
 have fl:=fl
 rw [hst] at fl
 refine wpAny_looks_onW (by rw [ok.frames,hst]) hf fl fun h4 held up4=> ?_
 refine wpAny_landsW held fun h5 fl5 up5=> ?_
 rw [← hst] at fl5
 exact ph pins _ σ H' D a C a0 B ok fl5 (fun h2 s2 u2=>st h2 s2 ((up4.trans up5).trans u2)) q
def FA (te:TX) (th:HX):TS:=fun D σ H=>te σ H (fun _ H'=>D.nx σ H') fun C _ H'=>th C D σ H'
theorem JU (hst:X.stack=X.env::X.outer) (hf:X.env.frame=some L) (he:PX X e te) (ph:PH X (h₀::hs) th) (hs':swapsWith e none pos'.line X.env=pure false:=by rfl):
  PS X (.Try [.Expr e pos'] (h₀::hs) [] [] pos) (FA te th):=by
 walk_at "b72"
 refine wpAny_Try_except (wpAny_execs_cons ?_)
 refine wpAny_Expr_any (wpAny_mono (he pins s σ H _ _ I h) (fun v s1 ⟨y,H1,I1,r1,q1⟩=> ?_) fun ev s1 q=>handled hst hf ph I.ok q) I.quiet hs'
 exact wpAny_execs_nil (wpAny_execs_nil ⟨_,H1,I1,q1⟩)
end
def Fly (B:Heap) (l:List Env) (a:Addr) (C a0:Value) (h:Heap):Prop:=B.StaysIn h∧B.get? a=none∧h.FunFrames B l∧∃ fl,h.TracedAtW B a C a0 fl
theorem Fly.of {B h:Heap} {l:List Env} {a:Addr} {C a0:Value} (x:Heap.FlyingW B l a C a0 h):Fly B l a C a0 h:=⟨x.1,x.2.1,x.2.2.1,_,x.2.2.2⟩
theorem Fly.of_held {B h:Heap} {l:List Env} {a L:Addr} {C a0:Value} (x:Heap.HeldW B l a C a0 L h):Fly B l a C a0 h:=⟨x.1,x.2.1,x.2.2.1,_,x.2.2.2⟩
theorem RM {B h:Heap} {l:List Env} {T:Addr} {oT:Obj} {ts:Array Value} {v:Value} (st:B.StaysIn h) (ff:h.FunFrames B l) (hT:h.get? T=some oT) (hd:oT.data= .fields ts) (hn:B.get? T=none):
  B.StaysIn (h.update T (Obj.mapFields fun z=>z.setIfInBounds 3 v))∧(h.update T (Obj.mapFields fun z=>z.setIfInBounds 3 v)).FunFrames B l∧h.UpToSlots (h.update T (Obj.mapFields fun z=>z.setIfInBounds 3 v))∧
   (∀ b,b≠T→(h.update T (Obj.mapFields fun z=>z.setIfInBounds 3 v)).get? b=h.get? b)∧(h.update T (Obj.mapFields fun z=>z.setIfInBounds 3 v)).get? T=some (Obj.mapFields (fun z=>z.setIfInBounds 3 v) oT):=by
 have away:∀ b,b≠T→(h.update T (Obj.mapFields fun z=>z.setIfInBounds 3 v)).get? b=h.get? b:=fun b nb=>Heap.get?_update_other _ _ fun z=>nb z.symm
 have nrec:∀ b o,h.get? b=some o→(∀ vs,o.data≠ .fields vs)→b≠T:=by
  rintro b o e nf rfl
  rw [hT] at e;cases e
  exact nf ts hd
 refine ⟨fun b o e=> ?_,ff.of_keeps fun b o e nf=>⟨o,by rw [away b (nrec b o e nf)];exact e,rfl⟩,fun b o e nf=>⟨o.slots,by rw [away b (nrec b o e nf)];exact e⟩,away,Heap.get?_update_self _ hT (Obj.isFreed_of_fields (Obj.data_mapFields hd _))⟩
 rw [away b (by rintro rfl;rw [hn] at e;cases e)]
 exact st b o e
section
variable {M:Model} {A:Around} {E:Value→Shared→Prop} {s:Shared} {B:Heap} {l:List Env} {a:Addr} {C a0:Value}
theorem QH {fr:Option Addr} {Q:Unit→Shared→Prop} (x:Fly B l a C a0 s.heap) (h:∀ h',Fly B l a C a0 h'→s.heap.UpToSlots h'→Q () { s with heap:=h' }):wpAny M A (setFlight (.ref a) fr) Q E s:=by
 obtain ⟨x1,x2,x3,fl,oe,ws,T,oT,ts,y1,y2,y3,y4,y5,y6,y7,y8,y9⟩:=x
 have sz:3<ts.size:=(Array.getElem?_eq_some_iff.mp y9).1
 unfold setFlight
 refine wpAny_bind (wpAny_field y1 y3 y4 ?_)
 rw [if_pos (by simp)]
 obtain ⟨z1,z2,z3,z4,z5⟩:=RM (l:=l) (v:=fr.elim Value.none fun f=>rawInt f) x1 x3 y7 y8 y5
 refine wpAny_setField y7 y8 sz (h _ ⟨z1,x2,z2,fr.elim Value.none fun f=>rawInt f,oe,ws,T,_,_,(z4 a (Ne.symm y6)).trans y1,y2,y3,y4,y5,y6,z5,Obj.data_mapFields y8 _,?_⟩ z3)
 ·simp [sz]
theorem QA {env:Env} {outer:List Env} {L:Addr} {Q:Unit→Shared→Prop} (hfr:A.frames=some (env::outer)) (hf:env.frame=some L) (x:Fly B (env::outer) a C a0 s.heap)
  (h:∀ h',Heap.FlyingW B outer a C a0 h'→s.heap.UpToSlots h'→Q () { s with heap:=h' }):wpAny M A (leaving env (.ref a)) Q E s:=by
 have land:∀ h1,Heap.HeldW B (env::outer) a C a0 L h1→s.heap.UpToSlots h1→wpAny M A (setFlight (.ref a) none) Q E { s with heap:=h1 }:=fun h1 hh up=>
  wpAny_landsW (s:={ s with heap:=h1 }) hh fun h2 fl up2=>h h2 ⟨fl.1,fl.2.1,fl.2.2.1.2.2,fl.2.2.2⟩ (up.trans up2)
 obtain ⟨x1,x2,x3,fl,tr⟩:=x
 unfold leaving
 refine wpAny_bind ?_
 by_cases e:fl=rawInt L
 ·subst e
  exact wpAny_noteFrame_againW hf tr (land s.heap ⟨x1,x2,x3,tr⟩ (Heap.UpToSlots.refl _))
 ·obtain ⟨oe,ws,T,oT,ts,y1,⟨y2,y2'⟩,y3,y4,y5,y6,y7,y8,y9⟩:=tr
  subst y2
  have sz:3<ts.size:=(Array.getElem?_eq_some_iff.mp y9).1
  unfold noteFrame
  simp only [hf]
  refine wpAny_bind (wpAny_field y1 y3 y4 ?_)
  rw [if_pos (by simp)]
  refine wpAny_bind (wpAny_field y7 y8 y9 ?_)
  rw [if_neg (by simpa using e)]
  obtain ⟨z1,z2,z3,z4,z5⟩:=RM (l:=env::outer) (v:=Value.none) x1 x3 y7 y8 y5
  refine wpAny_bind (wpAny_setField y7 y8 sz ?_)
  exact wpAny_entryW hfr z2 hf ((z4 a (Ne.symm y6)).trans y1) z1 x2 y3 (Array.getElem?_eq_some_iff.mp y4).1 y2' fun h' nt=>land h' ⟨nt.1,x2,nt.2.1,nt.2.2.1⟩ (z3.trans nt.2.2.2)
end
structure PC (P:Program) (w:World) (l:List Env) (ch:List Addr) (H H':Hp) (h B:Heap):Prop where
 hok:HOk P w H' B
 keep:∀ b o,h.get? b=some o→H b=none→b∉frs l→b∉ch→B.get? b=some o
 there:∀ b o,h.get? b=some o→b∉frs l→b∉ch→∃ o',B.get? b=some o'
def ZO (X:Cx) (E:XK):Prop:=∀ (pins:List (Addr×Obj)) (σ:St) (H H':Hp) (s s':Shared) (ch:List Addr) (B:Heap) (a:Addr) (C a0:Value),Inv X pins σ H s→s'.os=s.os→AllBare s'.gens→Un (frs X.stack) ch H H' s.heap s'.heap→
 (∀ b∈ch,(b∈X.ex∨X.s₀.heap.objs.size≤b)∧b≠X.env.locals∧(∀ x c,X.env.cells.lookup x=some c→c≠b)∧∀ p∈X.pn++pins,p.1≠b)→Fly B X.stack a C a0 s'.heap→PC X.prog X.w X.stack ch H H' s.heap B→E C none H'→X.xe (.ref a) s'
theorem Un.flown2 {fs ch:List Addr} {H H':Hp} {h h1 h2 B:Heap} (u:Un fs ch H H' h h1) (hf:∀ b∈fs,∃ o,h1.get? b=some o∧∀ vs,o.data≠ .fields vs)
  (k1:∀ b o,h.get? b=some o→H b=none→b∉fs→b∉ch→B.get? b=some o) (k2:∀ b o,h.get? b=some o→b∉fs→b∉ch→∃ o',B.get? b=some o') (st:B.StaysIn h2) (up:∀ b∈fs,∀ o,h1.get? b=some o→(∀ vs,o.data≠ .fields vs)→∃ sl,h2.get? b=some { o with slots:=sl }):Un fs ch H H' h h2 where
 keep:=fun b o q n hb hx=>st _ _ (k1 b o q n hb hx)
 slot:=fun b o q n hb hx=>by
  obtain ⟨sl,e⟩:=u.slot b o q n hb hx
  obtain ⟨o',e',hd⟩:=hf b hb
  rw [e] at e';cases e'
  obtain ⟨sl',e2⟩:=up b hb _ e hd
  exact ⟨sl',e2⟩
 free:=u.free
 there:=fun b o q hx=>by
  by_cases hb:b∈fs
  ·obtain ⟨o',e,hd⟩:=hf b hb
   obtain ⟨sl,e2⟩:=up b hb _ e hd
   exact ⟨_,e2⟩
  ·obtain ⟨o',e⟩:=k2 b o q hb hx
   exact ⟨o',st _ _ e⟩
 tups:=u.tups
 frzs:=u.frzs
 tbls:=u.tbls
section
variable {P:Program} {w:World} {K:PySem.W.Frag} {mg:Str→Option Value} {base:Heap} {N:List Str} {qual:Str} {scope:Scope} {f:Addr} {cd:Value} {A:Around} {outer:List Env} {s:Shared} {H:Hp} {E:XK}
theorem XA:ZO (CQ (CXr P w) P w K mg base N qual scope f cd A outer s H E) E:=by
 intro pins σ H1 H' s1 s' ch B a C a0 I os bare un hch fl bl q
 show wpAny (model P w) _ (leaving _ (.ref a)) _ _ s'
 refine QA I.ok.frames rfl fl fun h' fl' up=> ?_
 have J:Inv (CQ (CXr P w) P w K mg base N qual scope f cd A outer s H E) pins σ H' { s' with heap:=h' }:=
  Inv.call' (s':={ s' with heap:=h' }) I os (un.flown2 (DG fl.2.2.1) bl.keep bl.there fl'.1 fun b _=>up b) (bl.hok.kept fl'.1) bare hch
 have nch:∀ b o,s.heap.get? b=some o→b∉ch:=fun b o q m=>by
  rcases (hch b m).1 with z | z
  ·exact absurd (show b∈([]:List Addr) from z) (by simp)
  ·exact absurd (Nat.lt_of_lt_of_le (Heap.lt_size q) z) (Nat.lt_irrefl _)
 refine ⟨a,C,H',B,a0,rfl,J.os,J.bare,J.base,fl',⟨bl.hok,fun b o q n hb=> ?_,fun b o q hb=> ?_⟩,q⟩
 ·exact bl.keep b o (I.base.keep b o q n hb (by simp [CQ])) (I.base.free b o q n (by simp [CQ])) (FG b o q hb) (nch b o q)
 ·obtain ⟨o1,e1⟩:=I.base.there b o q (by simp [CQ])
  exact bl.there b o1 e1 (FG b o q hb) (nch b o q)
end
def XB (X:Cx) (E:XK) (s₃:Shared) (H₃:Hp) (fp:List Addr) (ev:Value) (s':Shared):Prop:=∃ (a:Addr) (C a0:Value) (B:Heap) (H':Hp),ev= .ref a∧s'.os=s₃.os∧AllBare s'.gens∧Un (frs X.stack) fp H₃ H' s₃.heap s'.heap∧
 Heap.FlyingW B X.stack a C a0 s'.heap∧PC X.prog X.w X.stack fp H₃ H' s₃.heap B∧(∃ m,s'.heap.Ns s₃.heap.objs.size m)∧H' s₃.heap.objs.size=none∧E C none H'
section
variable {X:Cx} {E:XK} {pins:List (Addr×Obj)} {σ:St} {H₃:Hp} {s₃:Shared} {fp:List Addr} {L:Addr}
theorem ND (hL:ZO X E) (I:Inv X pins σ H₃ s₃) (hst:X.stack=X.env::X.outer) (hf:X.env.frame=some L)
  (hch:∀ b∈fp,(b∈X.ex∨X.s₀.heap.objs.size≤b)∧b≠X.env.locals∧(∀ x c,X.env.cells.lookup x=some c→c≠b)∧∀ p∈X.pn++pins,p.1≠b) {scope:Scope} {cl:List (Str×Addr)} {use:Option (Value→Sem Unit)} {Q:Value→Shared→Prop} {acc ev:Value} {s':Shared}
  (h:XB X E s₃ H₃ fp ev s'):notedBy (model X.prog X.w) X.A (compEnvC scope cl s₃.heap.objs.size X.env) (fun x s2=>compPost (model X.prog X.w) X.A X.xe use Q acc s₃.heap.objs.size (.error x) s2) ev s':=by
 obtain ⟨a,C,a0,B,H',rfl,os,bare,un,fl,bl,⟨m,hm⟩,hn,q⟩:=h
 show wpAny _ X.A (noteFrame (.ref a) X.env) _ _ s'
 have fl0:=fl
 rw [hst] at fl0
 refine wpAny_looks_onW (by rw [I.ok.frames,hst]) hf fl0 fun h4 held up4=> ?_
 rw [← hst] at held
 have hm4:=up4.ns hm
 have frl:∀ b∈frs X.stack,b≠s₃.heap.objs.size:=fun b hb=>by
  obtain ⟨o,e,_⟩:=(I.stack.mem hb).2
  exact Nat.ne_of_lt (Heap.lt_size e)
 have main:∃ m,h4.Ns s₃.heap.objs.size m∧∀ h',Heap.SameBut s₃.heap.objs.size h4 h'→∀ cenv:Env,cenv.locals=s₃.heap.objs.size→wpAny (model X.prog X.w) X.A (PySem.passOn "comprehension.variables-let-go" (.ref a) cenv:Sem Value) (fun _ _=>False) X.xe { s' with heap:=h' }:=by
  refine ⟨m,hm4,fun h5 sb cenv _=> ?_⟩
  obtain ⟨oc,es,ep,hc,hcd,_⟩:=hm4
  have keep:∀ b,b≠s₃.heap.objs.size→h5.get? b=h4.get? b:=fun b nb=>sb.2 b nb
  obtain ⟨w1,w2,w3,fl4⟩:=Fly.of_held held
  obtain ⟨fv,oe,ws,T,oT,ts,y1,y2,y3,y4,y5,y6,y7,y8,y9⟩:=fl4
  have na:a≠s₃.heap.objs.size:=by
   rintro rfl
   rw [hc] at y1;cases y1
   rw [hcd] at y3;cases y3
  have nT:T≠s₃.heap.objs.size:=by
   rintro rfl
   rw [hc] at y7;cases y7
   rw [hcd] at y8;cases y8
  have sub:∀ b o,(PySem.W.hideAll B [s₃.heap.objs.size]).get? b=some o→B.get? b=some o∧b≠s₃.heap.objs.size:=fun b o e=>⟨PySem.W.of_hideAll _ e,by
   rintro rfl
   rw [PySem.W.hideAll_none [s₃.heap.objs.size] (h:=B) List.mem_cons_self] at e
   cases e⟩
  have none':∀ b,B.get? b=none→(PySem.W.hideAll B [s₃.heap.objs.size]).get? b=none:=fun b e=>by
   cases e2:(PySem.W.hideAll B [s₃.heap.objs.size]).get? b with
   | none=>rfl
   | some o=>rw [(sub b o e2).1] at e;cases e
  have put:∀ b o,B.get? b=some o→b≠s₃.heap.objs.size→(PySem.W.hideAll B [s₃.heap.objs.size]).get? b=some o:=fun b o e nb=>PySem.W.hideAll_get _ e (by simpa using nb)
  have st5:(PySem.W.hideAll B [s₃.heap.objs.size]).StaysIn h5:=fun b o e=>by rw [keep b (sub b o e).2];exact w1 b o (sub b o e).1
  have ff:∀ (l:List Env),(∀ b∈frs l,b≠s₃.heap.objs.size)→h4.FunFrames B l→h5.FunFrames (PySem.W.hideAll B [s₃.heap.objs.size]) l:=by
   intro l
   induction l with
   | nil=>intro _ _;trivial
   | cons env r ih=>
    intro hs hl
    obtain ⟨hk,⟨L',o,hf',hn',ho,hd'⟩,hr⟩:=hl
    have mL:L'∈frs (env::r):=by unfold frs;rw [List.filterMap_cons,hf'];exact List.mem_cons_self
    refine ⟨hk,⟨L',o,hf',none' _ hn',by rw [keep _ (hs _ mL)];exact ho,hd'⟩,ih (fun b hb=>hs b ?_) hr⟩
    unfold frs
    rw [List.filterMap_cons,hf']
    exact List.mem_cons_of_mem _ hb
  have fly5:Fly (PySem.W.hideAll B [s₃.heap.objs.size]) X.stack a C a0 h5:=⟨st5,none' _ w2,ff _ frl w3,fv,oe,ws,T,oT,ts,by rw [keep a na];exact y1,y2,y3,y4,none' _ y5,y6,by rw [keep T nT];exact y7,y8,y9⟩
  have bl5:PC X.prog X.w X.stack fp H₃ H' s₃.heap (PySem.W.hideAll B [s₃.heap.objs.size]):=by
   refine ⟨fun b o e=>(bl.hok b o e).stay (fun c u hc2 e2=>put c u e2 ?_) (fun _ z=>z) fun _ _ z=>z,fun b o e n hb hx=>put b o (bl.keep b o e n hb hx) (Nat.ne_of_lt (Heap.lt_size e)),fun b o e hb hx=> ?_⟩
   ·rintro rfl
    rcases hc2 with z | z
    ·rw [← z,hn] at e;cases e
    ·rw [hn] at z;cases z
   ·obtain ⟨o',e'⟩:=bl.there b o e hb hx
    exact ⟨o',put b o' e' (Nat.ne_of_lt (Heap.lt_size e))⟩
  have y1':h5.get? a=some oe:=by rw [keep a na];exact y1
  unfold PySem.passOn
  refine wpAny_bind (wpAny_field y1' y3 y4 ?_)
  rw [if_neg (by simp)]
  have CH:∀ h6,Fly (PySem.W.hideAll B [s₃.heap.objs.size]) X.stack a C a0 h6→h5.UpToSlots h6→X.xe (.ref a) { s' with heap:=h6 }:=fun h6 fl6 up6=>by
   refine hL pins σ H₃ H' s₃ { s' with heap:=h6 } fp _ a C a0 I os bare ?_ hch fl6 bl5 q
   refine un.flown2 (DG fl.2.2.1) bl5.keep bl5.there fl6.1 fun b hb o e hd=> ?_
   obtain ⟨sl,e4⟩:=up4 b o e hd
   rw [← keep b (frl b hb)] at e4
   obtain ⟨sl',e6⟩:=up6 b _ e4 hd
   exact ⟨sl',e6⟩
  first
   | exact wpAny_bind (wpAny_pure (wpAny_bind (QH (s:={ s' with heap:=h5 }) fly5 fun h6 fl6 up6=>wpAny_throw (CH h6 fl6 up6))))
   | exact wpAny_bind (QH (s:={ s' with heap:=h5 }) fly5 fun h6 fl6 up6=>wpAny_throw (CH h6 fl6 up6))
 cases use with
 | none=>exact main
 | some u=>exact main
end
abbrev QC (X:Cx) (E:XK) (scope:Scope) (cl:List (Str×Addr)) (N:List Str) (s₃:Shared) (H₃:Hp) (fp:List Addr):Cx:=(cxC X scope cl N s₃ H₃ fp).wish (XB X E s₃ H₃ fp)
theorem JI {prog:Program} {w:World} {A:Around} {R:Result→Shared→Prop} {s:Shared} {elt target iter:Expr} {ifs:List Expr} {scope:Scope} {pos:Pos} {it acc:Value} {env:Env} {EB:Value→Shared→Prop} (I:Nat→Shared→Prop)
  (turn:∀ n s,I n s→wpAny (model prog w) A (pyNext it) (fun r s₁=>match r with
   | none=>R (.ok .next) s₁
   | some v=>wpAny (model prog w) A (letOwnedTupleGo target it v) (fun _ s₁'=>wpAny (model prog w) A (assign target env v) (fun _ s₂=>
     wpAny (model prog w) A (forIn ifs true fun c r=>if r=true then do let ok ← isTrue c env (eval c env);pure (ForInStep.yield ok) else pure (ForInStep.yield r)) (fun ok s₃=>
      if ok=true then wpAny (model prog w) A (eval elt env) (fun x s₄=>
       wpAny (model prog w) A (call (.builtin "list.append") [acc,x]) (fun _ s₅=>∃ m,m<n∧I m s₅) EB s₄) EB s₃
      else ∃ m,m<n∧I m s₃) EB s₂) EB s₁') EB s₁) EB s)
  (hEB:∀ x s,EB x s→notedBy (model prog w) A env (fun x s2=>R (.error x) s2) x s) (n:Nat) (h:I n s):
  codeAny (model prog w) A (.compLoop (.ListComp elt [⟨target,iter,ifs,0⟩] scope pos) 0 it acc env) R s:=by
 walk_at "b28"
 refine wpAny_bind (wpAny_standAt (wpAny_bind (wpAny_mono (turn n s hI) (fun r s₁ h₁=> ?_) fun x s z=>hEB x s z)))
 cases r with
 | none=>exact wpAny_pure h₁
 | some v=>
  refine wpAny_bind (wpAny_mono h₁ (fun _ s₁' h₁'=> ?_) fun x s z=>hEB x s z)
  refine wpAny_bind (wpAny_mono h₁' (fun _ s₂ h₂=>wpAny_bind (wpAny_mono h₂ (fun ok s₃ h₃=> ?_) fun x s z=>hEB x s z)) fun x s z=>hEB x s z)
  cases ok with
  | false=>exact wpAny_pure ⟨rfl,h₃⟩
  | true=>
   exact wpAny_bind (wpAny_bind (wpAny_mono h₃ (fun x s₄ h₄=>wpAny_bind (wpAny_mono h₄ (fun _ s₅ h₅=>wpAny_pure (wpAny_pure ⟨rfl,h₅⟩)) fun x s z=>hEB x s z)) fun x s z=>hEB x s z))
section
variable {X:Cx} {E:XK} {scope:Scope} {cl:List (Str×Addr)} {N:List Str} {s₃:Shared} {H₃:Hp} {fp:List Addr}
theorem UV:IU (CXr X.prog X.w) (QC X E scope cl N s₃ H₃ fp) E:=by
 intro pins σ H1 s1 e s' I h
 obtain ⟨a,C,H',B,a0,rfl,os,bare,un,fl,bl,q⟩:=h
 have frl:∀ b∈frs X.stack,b≠s₃.heap.objs.size:=fun b hb=>by
  obtain ⟨o,e,_⟩:=(I.ok.funs.mem hb).2
  exact Nat.ne_of_lt (Heap.lt_size e)
 have nfr:s₃.heap.objs.size∉frs X.stack:=fun m=>frl _ m rfl
 obtain ⟨m,⟨oc,es,ep,ho,r⟩,_⟩:=id I.loc
 refine ⟨a,C,a0,B,H',rfl,os.trans I.os,bare,Un.trans I.base (un.mono (fun _ z=>z) (fun b z=>by cases z)),fl,⟨bl.hok,fun b o e n hb hx=>bl.keep b o (I.base.keep b o e n hb hx) (I.base.free b o e n hx) hb,fun b o e hb hx=> ?_⟩,⟨m,oc,es,ep,un.keep _ _ ho I.free nfr (by simp),r⟩,un.free _ _ ho I.free (by simp),q⟩
 obtain ⟨o1,e1⟩:=I.base.there b o e hx
 exact bl.there b o1 e1 hb
end
section
variable {X:Cx}
theorem WD {elt iter tg:Expr} {ifs:List Expr} {scope sc:Scope} {pos:Pos} {wi:TI} {g:TG} {tt:TT} {te:TE} {N0 N os:List Str} {js:List Nat} {E:XK} {L:Addr} (hL:ZO X E) (hst:X.stack=X.env::X.outer) (hfL:X.env.frame=some L)
  (hc:X.calm=true) (hsc:X.env.scope=sc) (hN:X.N=N0) (ok:JJ scope sc N0 js os N) (hi:PI X tg iter wi)
  (hg:∀ s₃ H₃ fp cl,PG (QC X E scope cl N s₃ H₃ fp) tg g) (ht:∀ s₃ H₃ fp cl,KF (QC X E scope cl N s₃ H₃ fp) ifs tt) (he:∀ s₃ H₃ fp cl,PE (QC X E scope cl N s₃ H₃ fp) elt te)
  (hs:∀ x,foldedSetIterable iter X.env x=pure x:=by intro _;rfl):
  PE X (.ListComp elt [⟨tg,iter,ifs,0⟩] scope pos) (NP js os wi g tt te):=by
 walk_at "b34"
 rw [eval_ListComp]
 have hfree:∀ y∈scope.names,y.2= .free→∃ c,X.env.cells.lookup y.1=some c:=fun y hy e=>I.ok.has _ (by
  walk_at "b64"
  exact this)
 walk_at "b57"
 walk_at "b0"
 have lt2:∀ b∈fp,b<s2.heap.objs.size:=fun b hb=>by
  walk_at "b50"
 walk_at "b2"
 walk_at "b10"
 have stat:∀ {H':Hp},(∀ b∈fp,H' b=none)→∀ b∈fp,FD X' [] H' b:=fun {H'} hn b hb=>by
  walk_at "b16"
  ·rcases List.mem_cons.mp (I2.stkSub b z) with q | q
   ·exact (f2 b hb).2.1 q
   ·exact (f2 b hb).2.2.1 q
  ·exact (f2 b hb).2.2.2.2.1 x c (DM (cells:=X.env.cells) scope.names [] hfree (fun _ _ e=>by cases e) _ _ e)
 walk_at "b6"
 have eX:X'.xe=XB X E s₃ (upd H1 s2.heap.objs.size (.lst [])) fp:=by subst hX';rfl
 walk_at "b11"
 have fin:∀ {σ':St} {H':Hp} {s':Shared},Inv X' [] σ' H' s'→(∀ b∈fp,H' b=none)→Q (.ref s2.heap.objs.size) H'→compPost (model X.prog X.w) X.A X.xe none (EP X pins σ Q) (.ref s2.heap.objs.size) s₃.heap.objs.size (.ok .next) s':=by
  walk_at "b40"
  have hok':HOk X.prog X.w H' h'':=fun b ob e=>by
   refine (I'.hok b ob e).stay (fun c w' hc' q'=>(sb.2 c ?_).trans q') (fun _ q'=>q') fun _ _ q'=>q'
   rintro rfl
   rcases hc' with z | z
   ·have e':=e;rw [← z] at e';rw [fC] at e';cases e'
   ·rw [fC] at z;cases z
  have u1:Un (frs X.stack) fp (upd H1 s2.heap.objs.size (.lst [])) H' s₃.heap h'':=by
   walk_at "b65"
   exact ⟨fun b o e n hb hx=>(sb.2 b (ne b o e)).trans (b0.keep b o e n hb hx),fun b o e n hb hx=>by
     obtain ⟨sl,z⟩:=b0.slot b o e n hb hx
     exact ⟨sl,(sb.2 b (ne b o e)).trans z⟩,b0.free,fun b o e hx=>by
     obtain ⟨o',z⟩:=b0.there b o e hx
     exact ⟨o',(sb.2 b (ne b o e)).trans z⟩,b0.tups,b0.frzs,b0.tbls⟩
  walk_at "b49"
 have loop:codeAny (model X.prog X.w) X.A (.compLoop (.ListComp elt [⟨tg,iter,ifs,0⟩] scope pos) 0 (.ref it) (.ref s2.heap.objs.size) (compEnvC scope (CL X.env.cells scope.names []) s₃.heap.objs.size X.env))
   (compPost (model X.prog X.w) X.A X.xe none (EP X pins σ Q) (.ref s2.heap.objs.size) s₃.heap.objs.size) { s₃ with heap:=h₁,toks:=s₃.toks }:=by
  walk_at "b12"
  rcases turn i n σ5 H5 w5 with ⟨stop,qn⟩ | ⟨go,step⟩
  ·have:=T.done X' ePr eW eK eC i [] s5 σ5 H5 X'.xe I5 (stat fr5) st5 stop
   walk_at "b13"
  ·have:=T.item X' ePr eW eK eC i [] s5 σ5 H5 X'.xe I5 (stat fr5) st5 go
   walk_at "b3"
   have again:∀ {σ9:St} {H9:Hp} {s9:Shared},Inv X' ([]++EZ fp s7.heap) σ9 H9 s9→tn (i+1) s9.heap∧∀ b∈fp,H9 b=none:=fun {σ9 H9 s9} I9=>by
    walk_at "b7"
   refine thn t8 fun b s9 ⟨H9,I9,q9⟩=> ?_
   cases b with
   | false=>
    walk_at "b15"
   | true=>
    walk_at "b1"
 walk_at "b4"
theorem NB {elt iter tg:Expr} {ifs:List Expr} {scope sc:Scope} {pos spos py:Pos} {y:Str} {i:Nat} {wi:TI} {g:TG} {tt:TT} {te:TE} {N0 N os:List Str} {js:List Nat} {E:XK} {L:Addr} (hL:ZO X E) (hst:X.stack=X.env::X.outer) (hfL:X.env.frame=some L)
  (hNd:X.N.Nodup) (hiN:X.N[i]? =some y) (hx:Loc X.env.scope y) (hc:X.calm=true) (hsc:X.env.scope=sc) (hN:X.N=N0) (ok:JJ scope sc N0 js os N) (hi:PI X tg iter wi)
  (hg:∀ s₃ H₃ fp cl,PG (QC X E scope cl N s₃ H₃ fp) tg g) (ht:∀ s₃ H₃ fp cl,KF (QC X E scope cl N s₃ H₃ fp) ifs tt) (he:∀ s₃ H₃ fp cl,PE (QC X E scope cl N s₃ H₃ fp) elt te)
  (hs:∀ x,foldedSetIterable iter X.env x=pure x:=by intro _;rfl) (hsw:swapsWith (.ListComp elt [⟨tg,iter,ifs,0⟩] scope pos) (some (.Name y py)) spos.line X.env=pure true:=by rfl)
  (hf:X.fn y=true∨X.env.scope.names.lookup y=some .local:=by first | exact .inl rfl | exact .inr rfl | assumption):
  PS X (.Assign [.Name y py] (.ListComp elt [⟨tg,iter,ifs,0⟩] scope pos) spos) (OF (NP js os wi g tt te) (IB i)):=by
 walk_at "b20"
 have hfree:∀ y∈scope.names,y.2= .free→∃ c,X.env.cells.lookup y.1=some c:=fun y hy e=>I.ok.has _ (by
  walk_at "b64"
  exact this)
 walk_at "b22"
 walk_at "b0"
 have lt2:∀ b∈fp,b<s2.heap.objs.size:=fun b hb=>by
  walk_at "b50"
 walk_at "b2"
 walk_at "b10"
 have stat:∀ {H':Hp},(∀ b∈fp,H' b=none)→∀ b∈fp,FD X' [] H' b:=fun {H'} hn b hb=>by
  walk_at "b16"
  ·rcases List.mem_cons.mp (I2.stkSub b z) with q | q
   ·exact (f2 b hb).2.1 q
   ·exact (f2 b hb).2.2.1 q
  ·exact (f2 b hb).2.2.2.2.1 x c (DM (cells:=X.env.cells) scope.names [] hfree (fun _ _ e=>by cases e) _ _ e)
 walk_at "b6"
 have eX:X'.xe=XB X E s₃ (upd H1 s2.heap.objs.size (.lst [])) fp:=by subst hX';rfl
 walk_at "b11"
 have fin:∀ {σ':St} {H':Hp} {s':Shared},Inv X' [] σ' H' s'→(∀ b∈fp,H' b=none)→D.nx (σ.set i (some (.ref s2.heap.objs.size))) H'→compPost (model X.prog X.w) X.A X.xe (some (assign (.Name y py) X.env)) (fun _ s'=>SP X pins D .next s') (.ref s2.heap.objs.size) s₃.heap.objs.size (.ok .next) s':=by
  intro σ' H' s' I' hn q
  obtain ⟨m,hm,_⟩:=id I'.loc
  subst hX'
  have fC:H' s₃.heap.objs.size=none:=I'.free
  have u1:Un (frs X.stack) fp (upd H1 s2.heap.objs.size (.lst [])) H' s₃.heap s'.heap:=by
   walk_at "b45"
  walk_at "b35"
  have cc:∀ x c,X.env.cells.lookup x=some c→c≠s₃.heap.objs.size:=fun x c e=>by
   obtain ⟨v,o,ho,_⟩:=I3.cell x c e
   exact Nat.ne_of_lt (Heap.lt_size ho)
  walk_at "b36"
  have na:s₃.heap.objs.size≠a:=by
   rcases ha with ha | ha
   ·rw [ha];exact Ne.symm cl
   ·exact Ne.symm (cc _ _ ha)
  refine ⟨m,hm.sameBut sa na,fun h3 sb=>⟨_,H',?_,q⟩⟩
  have hok':HOk X.prog X.w H' h3:=fun b ob e=>by
   refine (I''.hok b ob e).stay (fun c w' hc' q'=>(sb.2 c ?_).trans q') (fun _ q'=>q') fun _ _ q'=>q'
   rintro rfl
   rcases hc' with z | z
   ·have e':=e;rw [← z] at e';rw [fC] at e';cases e'
   ·rw [fC] at z;cases z
  have u2:Un (frs X.stack) [s₃.heap.objs.size] H' H' s''.heap h3:=
   have ne:∀ b,b∉[s₃.heap.objs.size]→b≠s₃.heap.objs.size:=fun b hb e=>hb (by rw [e];exact List.mem_singleton_self _)
   ⟨fun b o e n hb hx=>(sb.2 b (ne b hx)).trans e,fun b o e n hb hx=>⟨o.slots,(sb.2 b (ne b hx)).trans e⟩,fun b o e n hx=>n,fun b o e hx=>⟨o,(sb.2 b (ne b hx)).trans e⟩,fun b xs e=>e,fun b o u e=>e,fun b ps e=>⟨#[],by rw [e];simp⟩⟩
  exact I''.call' (s':={ s'' with heap:=h3 }) (ch:=[s₃.heap.objs.size]) rfl u2 hok' I''.bare fun b hb=>by
   walk_at "b52"
 have loop:codeAny (model X.prog X.w) X.A (.compLoop (.ListComp elt [⟨tg,iter,ifs,0⟩] scope pos) 0 (.ref it) (.ref s2.heap.objs.size) (compEnvC scope (CL X.env.cells scope.names []) s₃.heap.objs.size X.env))
   (compPost (model X.prog X.w) X.A X.xe (some (assign (.Name y py) X.env)) (fun _ s'=>SP X pins D .next s') (.ref s2.heap.objs.size) s₃.heap.objs.size) { s₃ with heap:=h₁,toks:=s₃.toks }:=by
  walk_at "b12"
  rcases turn i n σ5 H5 w5 with ⟨stop,qn⟩ | ⟨go,step⟩
  ·have:=T.done X' ePr eW eK eC i [] s5 σ5 H5 X'.xe I5 (stat fr5) st5 stop
   walk_at "b13"
  ·have:=T.item X' ePr eW eK eC i [] s5 σ5 H5 X'.xe I5 (stat fr5) st5 go
   walk_at "b3"
   have again:∀ {σ9:St} {H9:Hp} {s9:Shared},Inv X' ([]++EZ fp s7.heap) σ9 H9 s9→tn (i+1) s9.heap∧∀ b∈fp,H9 b=none:=fun {σ9 H9 s9} I9=>by
    walk_at "b7"
   refine thn t8 fun b s9 ⟨H9,I9,q9⟩=> ?_
   cases b with
   | false=>
    walk_at "b15"
   | true=>
    walk_at "b1"
 walk_at "b4"
end
structure Wk (P:Program) (w:World) (i l:Addr) (xs:Array Value) (St:Nat→Heap→Prop):Prop where
 item:∀ {A:Around} {E:Value→Shared→Prop} {s:Shared} {k:Nat} {x:Value} {Q:Value→Shared→Prop},St k s.heap→xs[k]? =some x→(∀ g,St (k+1) g→Heap.SameBut i s.heap g→Q x { s with heap:=g })→wpAny (model P w) A (Builtin.SmallTypes.nextOf (.ref i)) Q E s
 done:∀ {A:Around} {E:Value→Shared→Prop} {s:Shared} {k:Nat} {Q:Value→Shared→Prop},A.handled=none→St k s.heap→xs[k]? =none→(∀ g e,Heap.ExtBut i s.heap g→(∃ o,g.get? e=some o∧o.cls= .type "StopIteration")→E (.ref e) { s with heap:=g })→wpAny (model P w) A (Builtin.SmallTypes.nextOf (.ref i)) Q E s
 keep:∀ k h g,St k h→(∀ o,h.get? i=some o→g.get? i=some o)→(∀ o,h.get? l=some o→g.get? l=some o)→St k g
 rc:∀ k h,St k h→∃ o vs,h.get? i=some o∧o.data= .fields vs
section
variable {P:Program} {w:World} {A:Around} {E:Value→Shared→Prop} {s:Shared}
theorem ZF {i t:Addr} {k:Nat} {xs:Array Value} {x:Value} {Q:Value→Shared→Prop} (hi:IsTupIter s.heap i t k) (ht:IsTup s.heap t xs) (hx:xs[k]? =some x) (hq:∀ g,IsTupIter g i t (k+1)→Heap.SameBut i s.heap g→Q x { s with heap:=g }):
  wpAny (model P w) A (Builtin.SmallTypes.nextOf (.ref i)) Q E s:=by
 walk_at "b21"
 walk_at "b9"
 refine wpAny_bind (wpAny_setField p1 p3 (by simp) (wpAny_pure ⟨x,rfl,wpAny_pure (hq _ ⟨_,Heap.get?_update_self _ p1 (Obj.isFreed_of_fields (Obj.data_mapFields p3 _)),(Obj.cls_mapFields ..).trans p2,?_⟩ (Heap.SameBut.update ..))⟩))
 rw [Obj.data_mapFields p3]
 simp [rawInt]
theorem XR {i t:Addr} {k:Nat} {xs:Array Value} {Q:Value→Shared→Prop} (hh:A.handled=none) (hi:IsTupIter s.heap i t k) (ht:IsTup s.heap t xs) (hx:xs[k]? =none)
  (hq:∀ g e,Heap.ExtBut i s.heap g→(∃ o,g.get? e=some o∧o.cls= .type "StopIteration")→E (.ref e) { s with heap:=g }):wpAny (model P w) A (Builtin.SmallTypes.nextOf (.ref i)) Q E s:=by
 walk_at "b21"
 walk_at "b9"
 refine wpAny_bind (wpAny_rule (wpAny_bind (wpAny_setField p1 p3 (by simp) ?_)))
 show wpAny _ _ (newExc (.type "StopIteration") [] >>= _) _ _ _
 refine wpAny_bind ?_
 simp only [newExc,newTuple]
 refine wpAny_bind (wpAny_newObj_type (wpAny_bind (m:=firstArgMember _ _) (wpAny_of_eq (a:=Value.none) (by first | rfl | (simp only [firstArgMember];rfl)) (wpAny_newObj_type ?_ (by size_fits)))) (by size_fits))
 simp only [raiseNew]
 refine wpAny_bind (wpAny_handled ?_)
 first | rw [show A.in1.handled=none from hh] | rw [hh]
 exact wpAny_bind (wpAny_pure (wpAny_throw (hq _ _ (((Heap.SameBut.update ..).extBut.push _).push _) ⟨_,Heap.get?_push_size _ rfl,rfl⟩)))
end
theorem LP {P:Program} {w:World} {i t:Addr} {xs:Array Value} (ne:t≠i):Wk P w i t xs fun k h=>IsTupIter h i t k∧IsTup h t xs where
 item:=fun st hx hq=>ZF st.1 st.2 hx fun g g1 g2=>hq g ⟨g1,let ⟨o,e,r⟩:=st.2;⟨o,g2.extBut _ _ ne e,r⟩⟩ g2
 done:=fun hh st hx hq=>XR hh st.1 st.2 hx hq
 keep:=fun k h g st k1 k2=>⟨let ⟨o,e,r⟩:=st.1;⟨o,k1 o e,r⟩,let ⟨o,e,r⟩:=st.2;⟨o,k2 o e,r⟩⟩
 rc:=fun k h st=>let ⟨o,e,_,d⟩:=st.1;⟨o,_,e,d⟩
abbrev DK (h:Heap) (z TI TO:Addr) (f0 f1:Value):Prop:=h.get? z=some { cls:= .type "zip",dict:=none,data:= .fields #[f0,f1,.bool false,.ref TI,.ref TO],slots:= #[] }
section
variable {P:Program} {w:World} {A:Around} {E:Value→Shared→Prop} {s:Shared} {z TI TO i1 i2 l1 l2:Addr} {xs ys:Array Value} {S1 S2:Nat→Heap→Prop} {k1 k2:Nat} {x y a b f1:Value}
theorem Wk.but {i l c:Addr} {St:Nat→Heap→Prop} (W:Wk P w i l xs St) {k:Nat} {h g:Heap} (st:St k h) (sb:Heap.ExtBut c h g) (n1:i≠c) (n2:l≠c):St k g:=W.keep k h g st (fun o e=>sb _ o n1 e) fun o e=>sb _ o n2 e
theorem RU {M:Model} {c:Addr} {Q:Option Obj→Shared→Prop} (h:Q (s.heap.get? c) s):wpAny M A (loadIfAlive c) Q E s:=fun Γ p _=>by
 show Sem.wp M Γ (.loadIfAlive c .pure) _ _ p s
 rw [Sem.wp_loadIfAlive,Sem.wp_pure]
 exact h
theorem dN {Q:Value→Shared→Prop} (D:ZipApart z TI TO i1 i2 l1 l2) (W1:Wk P w i1 l1 xs S1) (W2:Wk P w i2 l2 ys S2) (hz:DK s.heap z TI TO .none (.bool false)) (ti:IsPair s.heap TI (.ref i1) (.ref i2)) (tt:IsPair s.heap TO a b)
  (t1:S1 k1 s.heap) (t2:S2 k2 s.heap) (hx:xs[k1]? =some x) (hy:ys[k2]? =some y)
  (hQ:∀ g,DK g z TI TO (rawInt s.heap.objs.size) (.bool false)→IsPair g TO x y→S1 (k1+1) g→S2 (k2+1) g→IsPair g s.heap.objs.size x y→g.objs.size=s.heap.objs.size+1→
   (∀ c o,c≠z→c≠TO→c≠i1→c≠i2→s.heap.get? c=some o→g.get? c=some o)→Q (.ref s.heap.objs.size) { s with heap:=g }):
  wpAny (model P w) A (Builtin.«zip.__next__» ⟨[.ref z],[]⟩) (fun fin s'=>∃ v,fin= .done (.ret v)∧Q v s') E s:=by
 walk_at "b5"
 refine wpAny_bind (W1.item (W1.but t1 e1 D.i1z D.l1z) hx fun g2 u2 e2=>wpAny_pure ?_)
 have sz2:=e2.1
 walk_at "b42"
 replace o3:IsPair g3 TO x b:=o3
 have sz3:=e3.1
 walk_at "b44"
 refine wpAny_bind (W2.item (W2.but (W2.but (W2.but t2 e1 D.i2z D.l2z) e2 D.i12.symm D.l2i1) e3 D.TOi2.symm D.l2TO) hy fun g4 u4 e4=>wpAny_pure ?_)
 have sz4:=e4.1
 have e4:=e4.extBut
 have o4:IsPair g4 TO x b:=e4 _ _ D.TOi2 o3
 refine wpAny_bind (wpAny_seqItems o4 rfl (wpAny_bind (wpAny_updateSeq_pair o4 fun g5 o5 e5=> ?_)))
 replace o5:IsPair g5 TO x y:=o5
 have sz5:=e5.1
 have e5:=e5.extBut
 refine wpAny_bind (wpAny_letGo (wpAny_pure (wpAny_pure (wpAny_bind (wpAny_seqItems o5 rfl (wpAny_bind (wpAny_newTuple ?_)))))))
 have zz:DK g5 z TI TO .ellipsis (.bool false):=e5 _ _ D.TOz.symm (e4 _ _ D.i2z.symm (e3 _ _ D.TOz.symm (e2 _ _ D.i1z.symm z1)))
 have kk:∀ c o,c≠z→c≠TO→c≠i1→c≠i2→s.heap.get? c=some o→g5.get? c=some o:=fun c o c1 c2 c3 c4 e=>e5 _ _ c2 (e4 _ _ c4 (e3 _ _ c2 (e2 _ _ c3 (e1 _ _ c1 e))))
 have v1:S1 (k1+1) g5:=W1.but (W1.but (W1.but u2 e3 D.TOi1.symm D.l1TO) e4 D.i12 D.l1i2) e5 D.TOi1.symm D.l1TO
 have v2:S2 (k2+1) g5:=W2.but u4 e5 D.TOi2.symm D.l2TO
 show wpAny _ _ (Builtin.SmallTypes.ownedTupleHandOut (.ref z) (.ref g5.objs.size) >>= _) _ _ _
 refine wpAny_bind ?_
 unfold Builtin.SmallTypes.ownedTupleHandOut
 have zp:DK (g5.push { cls:= .type "tuple",data:= .seq #[x,y] }) z TI TO .ellipsis (.bool false):=Heap.get?_push_of_some _ zz
 refine wpAny_bind (wpAny_setField_rec zp (by simp) fun g7 z7 e7=> ?_)
 replace z7:DK g7 z TI TO (rawInt g5.objs.size) (.bool false):=z7
 refine wpAny_setField_rec z7 (by simp) fun g8 z8 e8=> ?_
 replace z8:DK g8 z TI TO (rawInt g5.objs.size) (.bool false):=z8
 have sz:g5.objs.size=s.heap.objs.size:=by
  rw [sz5,sz4,sz3,sz2]
  exact (by assumption:Heap.SameBut z s.heap g1).1
 have zlt:z<g5.objs.size:=Heap.lt_size zz
 have up:∀ c o,c≠z→g5.get? c=some o→g8.get? c=some o:=fun c o c1 e=>e8.extBut _ _ c1 (e7.extBut _ _ c1 (Heap.get?_push_of_some _ e))
 have new:IsPair g8 g5.objs.size x y:=e8.extBut _ _ (Nat.ne_of_gt zlt) (e7.extBut _ _ (Nat.ne_of_gt zlt) (Heap.get?_push_size _ rfl))
 have s8:g8.objs.size=g5.objs.size+1:=by rw [e8.1,e7.1,Heap.size_push]
 rw [sz] at z8 new s8
 refine wpAny_pure ⟨_,rfl,?_⟩
 show Q (.ref g5.objs.size) _
 rw [sz]
 exact hQ g8 z8 (up _ _ D.TOz o5) (W1.keep _ _ _ v1 (fun o e=>up _ o D.i1z e) fun o e=>up _ o D.l1z e) (W2.keep _ _ _ v2 (fun o e=>up _ o D.i2z e) fun o e=>up _ o D.l2z e) new s8 fun c o c1 c2 c3 c4 e=>up c o c1 (kk c o c1 c2 c3 c4 e)
theorem cF {Q:Fin→Shared→Prop} (hh:A.handled=none) (D:ZipApart z TI TO i1 i2 l1 l2) (W1:Wk P w i1 l1 xs S1) (W2:Wk P w i2 l2 ys S2) (hz:DK s.heap z TI TO .none (.bool false)) (ti:IsPair s.heap TI (.ref i1) (.ref i2)) (tt:IsPair s.heap TO a b)
  (t1:S1 k1 s.heap) (t2:S2 k2 s.heap) (hx:xs[k1]? =none∨ys[k2]? =none)
  (hE:∀ g e,(∀ c o,c≠z→c≠TO→c≠i1→c≠i2→s.heap.get? c=some o→g.get? c=some o)→(∃ o,g.get? e=some o∧o.cls= .type "StopIteration")→E (.ref e) { s with heap:=g }):
  wpAny (model P w) A (Builtin.«zip.__next__» ⟨[.ref z],[]⟩) Q E s:=by
 walk_at "b5"
 have fin:∀ {g:Heap} {e:Addr},DK g z TI TO .ellipsis (.bool false)→(∀ c o,c≠z→c≠TO→c≠i1→c≠i2→s.heap.get? c=some o→g.get? c=some o)→(∃ o,g.get? e=some o∧o.cls= .type "StopIteration")→
   wpAny (model P w) A (setField (.ref z) 0 .none) (fun _ s'=>E (.ref e) s') E { s with heap:=g }:=fun {g e} zg kg ⟨oe,he,hc⟩=>by
  have nez:e≠z:=by
   rintro rfl
   rw [zg] at he;cases he
   simp at hc
  exact wpAny_setField_rec zg (by simp) fun g' _ e'=>hE g' e (fun c o c1 c2 c3 c4 q=>e'.extBut _ _ c1 (kg c o c1 c2 c3 c4 q)) ⟨oe,e'.extBut _ _ nez he,hc⟩
 cases hx1:xs[k1]? with
 | none=>exact wpAny_bind (W1.done hh (W1.but t1 e1 D.i1z D.l1z) hx1 fun g2 e e2 he=>fin (e2 _ _ D.i1z.symm z1) (fun c o c1 _ c3 _ q=>e2 _ _ c3 (e1 _ _ c1 q)) he)
 | some x=>
  have hy:ys[k2]? =none:=by
   rcases hx with h | h
   ·rw [hx1] at h;cases h
   ·exact h
  refine wpAny_bind (W1.item (W1.but t1 e1 D.i1z D.l1z) hx1 fun g2 u2 e2=>wpAny_pure ?_)
  walk_at "b42"
  walk_at "b44"
  exact wpAny_bind (W2.done hh (W2.but (W2.but (W2.but t2 e1 D.i2z D.l2z) e2 D.i12.symm D.l2i1) e3 D.TOi2.symm D.l2TO) hy fun g4 e e4 he=>
   fin (e4 _ _ D.i2z.symm (e3 _ _ D.TOz.symm (e2 _ _ D.i1z.symm z1))) (fun c o c1 c2 c3 c4 q=>e4 _ _ c4 (e3 _ _ c2 (e2 _ _ c3 (e1 _ _ c1 q)))) he)
theorem bR {T:Addr} {oT:Obj} {b1:Bool} {Q:Fin→Shared→Prop} (hh:A.handled=none) (D:ZipApart z TI TO i1 i2 l1 l2) (W1:Wk P w i1 l1 xs S1) (W2:Wk P w i2 l2 ys S2) (hz:DK s.heap z TI TO (rawInt T) (.bool b1)) (hT:s.heap.get? T=some oT) (ti:IsPair s.heap TI (.ref i1) (.ref i2))
  (t1:S1 k1 s.heap) (t2:S2 k2 s.heap) (hx:xs[k1]? =none∨ys[k2]? =none)
  (hE:∀ g e,(∀ c o,c≠z→c≠i1→c≠i2→s.heap.get? c=some o→g.get? c=some o)→(∃ o,g.get? e=some o∧o.cls= .type "StopIteration")→E (.ref e) { s with heap:=g }):
  wpAny (model P w) A (Builtin.«zip.__next__» ⟨[.ref z],[]⟩) Q E s:=by
 show wpAny _ _ (field (.ref z) 2 >>= _) _ _ _
 refine wpAny_bind (wpAny_field hz rfl (x:= .bool false) rfl ?_)
 show wpAny _ _ (field (.ref z) 3 >>= _) _ _ _
 refine wpAny_bind (wpAny_field hz rfl (x:= .ref TI) rfl (wpAny_bind (wpAny_seqItems ti rfl ?_)))
 show wpAny _ _ (Builtin.SmallTypes.ownedTupleIsFree (.ref z) >>= _) _ _ _
 refine wpAny_bind ?_
 unfold Builtin.SmallTypes.ownedTupleIsFree
 refine wpAny_bind (wpAny_field hz rfl (x:=rawInt T) rfl ?_)
 show wpAny _ _ (loadIfAlive T >>= _) _ _ _
 refine wpAny_bind (RU ?_)
 rw [hT]
 simp only [Option.isNone_some,Bool.false_eq_true,if_false]
 refine wpAny_bind (wpAny_field hz rfl (x:= .bool b1) rfl ?_)
 have refl:Heap.SameBut z s.heap s.heap:=⟨rfl,fun _ _=>rfl⟩
 cases b1 with
 | true=>
  simp only [bne_self_eq_false,Bool.false_eq_true,if_false]
  refine wpAny_pure ?_
  walk_at "b31"
  cases hx1:xs[k1]? with
  | none=>exact wpAny_bind (W1.done hh (W1.but t1 refl.extBut D.i1z D.l1z) hx1 fun g2 e e2 he=>hE g2 e (fun c o c1 c3 c4 q=>e2 _ _ c3 (refl.extBut _ _ c1 q)) he)
  | some x=>
   have hy:ys[k2]? =none:=by
    rcases hx with h | h
    ·rw [hx1] at h;cases h
    ·exact h
   refine wpAny_bind (W1.item (W1.but t1 refl.extBut D.i1z D.l1z) hx1 fun g2 u2 e2=>wpAny_pure ?_)
   walk_at "b63"
   exact wpAny_bind (W2.done hh (W2.but (W2.but t2 refl.extBut D.i2z D.l2z) e2.extBut D.i12.symm D.l2i1) hy fun g3 e e3 he=>hE g3 e (fun c o c1 c3 c4 q=>e3 _ _ c4 (e2.extBut _ _ c3 (refl.extBut _ _ c1 q))) he)
 | false=>
  rw [if_pos (by decide)]
  refine wpAny_bind (wpAny_setField_rec hz (by simp) fun g1 z1 e1=>wpAny_pure ?_)
  walk_at "b31"
  cases hx1:xs[k1]? with
  | none=>exact wpAny_bind (W1.done hh (W1.but t1 e1.extBut D.i1z D.l1z) hx1 fun g2 e e2 he=>hE g2 e (fun c o c1 c3 c4 q=>e2 _ _ c3 (e1.extBut _ _ c1 q)) he)
  | some x=>
   have hy:ys[k2]? =none:=by
    rcases hx with h | h
    ·rw [hx1] at h;cases h
    ·exact h
   refine wpAny_bind (W1.item (W1.but t1 e1.extBut D.i1z D.l1z) hx1 fun g2 u2 e2=>wpAny_pure ?_)
   walk_at "b63"
   exact wpAny_bind (W2.done hh (W2.but (W2.but t2 e1.extBut D.i2z D.l2z) e2.extBut D.i12.symm D.l2i1) hy fun g3 e e3 he=>hE g3 e (fun c o c1 c3 c4 q=>e3 _ _ c4 (e2.extBut _ _ c3 (e1.extBut _ _ c1 q))) he)
end
abbrev itT (t:Addr):Obj:={ cls:= .type "tuple_iterator",data:= .fields #[.ref t,.int 0 0] }
abbrev zp2 (h:Heap) (o1 o2:Obj):Heap:=(h.push o1).push o2
abbrev zp3 (h:Heap) (o1 o2:Obj):Heap:=(zp2 h o1 o2).push { cls:= .type "tuple",data:= .seq #[.ref h.objs.size,.ref (h.push o1).objs.size] }
abbrev zp4 (h:Heap) (o1 o2:Obj):Heap:=(zp3 h o1 o2).push { cls:= .type "tuple",data:= .seq #[.none,.none] }
abbrev zp5 (h:Heap) (o1 o2:Obj):Heap:=(zp4 h o1 o2).push { cls:= .type "zip",data:= .fields #[.none,.bool false,.bool false,.ref (zp2 h o1 o2).objs.size,.ref (zp3 h o1 o2).objs.size] }
theorem PM (t l:Addr) (xs ys:Array Value):Meets (Builtin.«zip.__new__» ⟨[.type "zip",.ref t,.ref l],[]⟩) (fun _ R s=>IsTup s.heap t xs∧IsTup s.heap l ys∧
   R (.ok (.ret (.ref (zp4 s.heap (itT t) (itT l)).objs.size))) { s with heap:=zp5 s.heap (itT t) (itT l) }):=
 .of_wp fun prog w A R s h=>by
  obtain ⟨hp,g,d,tk,os⟩:=s
  obtain ⟨h1,h2,h⟩:=h
  have hsub:=PySem.sub_zip
  have k1:IsTup (Shared.heap ⟨hp,g,d,tk,os⟩) t xs:=h1
  have k2:IsTup (Shared.heap ⟨hp.push (itT t),g,d,tk,os⟩) l ys:=let ⟨o,e,r⟩:=h2;⟨o,Heap.get?_push_of_some _ e,r⟩
  wp_walk using iter_tuple k1,iter_tuple k2
  exact ⟨_,rfl,h⟩
section
variable {P:Program} {w:World} {A:Around} {E:Value→Shared→Prop} {s:Shared}
theorem aE (h:Heap) (o1 o2:Obj) (f1:o1.isFreed=false) (f2:o2.isFreed=false):DK (zp5 h o1 o2) (h.objs.size+4) (h.objs.size+2) (h.objs.size+3) .none (.bool false)∧IsPair (zp5 h o1 o2) (h.objs.size+2) (.ref h.objs.size) (.ref (h.objs.size+1))∧
  IsPair (zp5 h o1 o2) (h.objs.size+3) .none .none∧(zp5 h o1 o2).get? h.objs.size=some o1∧(zp5 h o1 o2).get? (h.objs.size+1)=some o2∧(zp5 h o1 o2).objs.size=h.objs.size+5∧(∀ c o,h.get? c=some o→(zp5 h o1 o2).get? c=some o)∧(zp4 h o1 o2).objs.size=h.objs.size+4:=by
 have z1:(h.push o1).objs.size=h.objs.size+1:=Heap.size_push ..
 have z2:(zp2 h o1 o2).objs.size=h.objs.size+2:=by rw [Heap.size_push,z1]
 have z3:(zp3 h o1 o2).objs.size=h.objs.size+3:=by rw [Heap.size_push,z2]
 have z4:(zp4 h o1 o2).objs.size=h.objs.size+4:=by rw [Heap.size_push,z3]
 refine ⟨?_,?_,?_,?_,?_,by rw [Heap.size_push,z4],fun c o e=> ?_,z4⟩
 ·have q:(zp5 h o1 o2).get? (zp4 h o1 o2).objs.size=some _:=Heap.get?_push_size _ rfl
  rw [z2,z3,z4] at q
  exact q
 ·have q:(zp5 h o1 o2).get? (zp2 h o1 o2).objs.size=some _:=Heap.get?_push_of_some _ (Heap.get?_push_of_some _ (Heap.get?_push_size _ rfl))
  rw [z1,z2] at q
  exact q
 ·have q:(zp5 h o1 o2).get? (zp3 h o1 o2).objs.size=some _:=Heap.get?_push_of_some _ (Heap.get?_push_size _ rfl)
  rw [z3] at q
  exact q
 ·exact Heap.get?_push_of_some _ (Heap.get?_push_of_some _ (Heap.get?_push_of_some _ (Heap.get?_push_of_some _ (Heap.get?_push_size _ f1))))
 ·have q:(zp5 h o1 o2).get? (h.push o1).objs.size=some o2:=Heap.get?_push_of_some _ (Heap.get?_push_of_some _ (Heap.get?_push_of_some _ (Heap.get?_push_size _ f2)))
  rw [z1] at q
  exact q
 ·exact Heap.get?_push_of_some _ (Heap.get?_push_of_some _ (Heap.get?_push_of_some _ (Heap.get?_push_of_some _ (Heap.get?_push_of_some _ e))))
theorem MV {t l:Addr} {xs ys:Array Value} {Q:Value→Shared→Prop} (h1:IsTup s.heap t xs) (h2:IsTup s.heap l ys) (h:Q (.ref (s.heap.objs.size+4)) { s with heap:=zp5 s.heap (itT t) (itT l) }):
  wpAny (model P w) A (call (.type "zip") [.ref t,.ref l]) Q E s:=by
 refine callType_new F.called_zip (by decide) (F.typeCall_zip_2 _ _) (F.newCall_zip_2 _ _) (fun obj=>F.args_object_init_3 obj _ _) F.entry_zip_new (PM t l xs ys) ⟨h1,h2,?_⟩
 obtain ⟨a1,a2,a3,a4,a5,a6,a7,a8⟩:=aE s.heap (itT t) (itT l) rfl rfl
 rw [a8]
 exact ⟨⟨_,a1,rfl⟩,h⟩
end
def ZS (h:Heap) (z TI TO i1 i2:Addr):Prop:=IsPair h TI (.ref i1) (.ref i2)∧((DK h z TI TO .none (.bool false)∧∃ a b,IsPair h TO a b)∨∃ (T:Addr) (oT:Obj) (b1:Bool),DK h z TI TO (rawInt T) (.bool b1)∧h.get? T=some oT∧T≠z∧T≠i1∧T≠i2)
section
variable {P:Program} {w:World} {A:Around} {E:Value→Shared→Prop} {s:Shared} {z TI TO i1 i2 l1 l2:Addr} {xs ys:Array Value} {S1 S2:Nat→Heap→Prop} {k1 k2:Nat} {x y:Value}
theorem ZS.ty {h:Heap} (hz:ZS h z TI TO i1 i2):∃ vs,h.get? z=some { cls:= .type "zip",dict:=none,data:= .fields vs,slots:= #[] }:=by
 rcases hz with ⟨_,⟨hz,_⟩ | ⟨T,oT,b1,hz,_⟩⟩
 ·exact ⟨_,hz⟩
 ·exact ⟨_,hz⟩
theorem cK {Q:Option Value→Shared→Prop} (hh:A.handled=none) (D:ZipApart z TI TO i1 i2 l1 l2) (W1:Wk P w i1 l1 xs S1) (W2:Wk P w i2 l2 ys S2) (hz:ZS s.heap z TI TO i1 i2) (t1:S1 k1 s.heap) (t2:S2 k2 s.heap) (hx:xs[k1]? =none∨ys[k2]? =none)
  (hQ:∀ g,(∀ c o,c≠z→c≠TO→c≠i1→c≠i2→s.heap.get? c=some o→g.get? c=some o)→Q none { s with heap:=g }):wpAny (model P w) A (pyNext (.ref z)) Q E s:=by
 have ty:s.TypeIs (.ref z) "zip":=by obtain ⟨vs,e⟩:=hz.ty;exact ⟨_,e,rfl⟩
 obtain ⟨ti,hz⟩:=hz
 walk_at "b38"
 rcases hz with ⟨hz,a,b,tt⟩ | ⟨T,oT,b1,hz,hT,n1,n2,n3⟩
 ·exact cF hh D W1 W2 hz ti tt t1 t2 hx fun g e kg ⟨o,he,hc⟩=>wpAny_bind (wpAny_isInstance (T:="StopIteration") (b:=true) ⟨o,he,hc⟩ isSubtype_stop (wpAny_pure (hQ g kg)))
 ·exact bR hh D W1 W2 hz hT ti t1 t2 hx fun g e kg ⟨o,he,hc⟩=>wpAny_bind (wpAny_isInstance (T:="StopIteration") (b:=true) ⟨o,he,hc⟩ isSubtype_stop (wpAny_pure (hQ g fun c o c1 _ c3 c4 q=>kg c o c1 c3 c4 q)))
end
section
variable {P:Program} {w:World} {z TI TO i1 i2 l1 l2 d:Addr} {xs ys:Array Value} {S1 S2:Nat→Heap→Prop}
end
section
variable {P:Program} {w:World} {A:Around} {E:Value→Shared→Prop} {s:Shared}
end
section
variable {X:Cx} {e f:Expr} {ta:TA} {p p' pos pos':Pos}
end
section
variable {X:Cx} {e:Expr} {te:TE} {p pos:Pos}
end
def YO (js:List Nat) (os:List Str) (wi:TI) (g:TG) (tk tv:TE):TE:=fun σ H Q=>wi σ H fun J H1=>∀ p,H1 p=none→
 ∃ W:Nat→Nat→St→Hp→Prop,(∃ m,W 0 m (stC js os σ) (upd H1 p (.dK [])))∧∀ i m σ H,W i m σ H→
  (J.stop i H∧Q (.ref p) H)∨(J.go i H∧∀ x H',J.yld i H x H'→g x σ H' fun σ2 H2=>tk σ2 H2 fun y H3=>tv σ2 H3 fun z H4=>
   ∃ (kvs:List (Key×V)) (k:Key),y=kV k∧H4 p=some (.dK kvs)∧kvs.length<sizeLine∧∃ m',m'<m∧W (i+1) m' σ2 (upd H4 p (.dK (eG kvs k z))))
section
variable {X:Cx}
end
def DKW (J:It) (g:TG) (tk tv:TE) (p:Addr) (Q:VK) (σ:St) (H1:Hp):Prop:=∃ W:Nat→Nat→St→Hp→Prop,(∃ m,W 0 m σ H1)∧∀ i m σ H,W i m σ H→
  (J.stop i H∧Q (.ref p) H)∨(J.go i H∧∀ x H',J.yld i H x H'→g x σ H' fun σ2 H2=>tk σ2 H2 fun y H3=>tv σ2 H3 fun z H4=>
   ∃ (kvs:List (Key×V)) (k:Key),y=kV k∧H4 p=some (.dK kvs)∧kvs.length<sizeLine∧∃ m',m'<m∧W (i+1) m' σ2 (upd H4 p (.dK (eG kvs k z))))
theorem EI (js:List Nat) (os:List Str) (wi:TI) (g:TG) (tk tv:TE) (σ:St) (H:Hp) (Q:VK):YO js os wi g tk tv σ H Q=wi σ H fun J H1=>∀ p,H1 p=none→DKW J g tk tv p Q (stC js os σ) (upd H1 p (.dK [])):=rfl
section
variable {X:Cx} {o i e value:Expr} {pos pos':Pos} {td ty tv:TE}
end
def KzE (K:PySem.W.Frag) (P:Params) (k:Str×D) (e:DictEntry):Prop:=(∃ t,e.key= .str k.1 t)∧e.hash=PyData.keyHash P k.1∧JT K k.2 e.val=true
structure KZ (K:PySem.W.Frag) (P:Params) (ks:List (Str×D)) (u:Value):Prop where
 ex:∃ p o en ep,u= .ref p∧K.lookup p=some o∧o.ExactDict∧o.data= .dict en ep∧Paired (KzE K P) ks en.toList
def lkS (ks:List (Str×D)) (k:Str):Option D:=(ks.find? fun x=>decide (x.1=k)).map (·.2)
theorem MY {K:PySem.W.Frag} {prog:Program} {w:World}:∀ {ks:List (Str×D)} {es:List DictEntry},Paired (KzE K w.params) ks es→∃ kvs:List (Str×Value),Pairs (strKind prog w) es kvs∧kvs.map (·.1)=ks.map (·.1)∧(∀ e∈es,∃ k,(strKind prog w).is k e.key=true∧e.hash=(strKind prog w).hash k)∧∀ k d,lkS ks k=some d→∃ u,valueAt kvs k=some u∧∃ v,AY v u∧∀ H,Rp K H d v
 | _,_,.nil=>⟨[],.nil,rfl,(fun e he=>by cases he),fun k d h=>by cases h⟩
 | (k0,d0)::ks,e0::es,.cons ⟨⟨t,h1⟩,h2,h3⟩ r=>by
  obtain ⟨kvs,p1,p2,p3,p4⟩:=MY (prog:=prog) (w:=w) r
  have is0:(strKind prog w).is k0 e0.key=true:=by rw [h1];show Value.isStrOf k0 (.str k0 t)=true;simp [Value.isStrOf]
  refine ⟨(k0,e0.val)::kvs,.cons is0 rfl p1,by simp [p2],fun e he=> ?_,fun k d h=> ?_⟩
  ·rcases List.mem_cons.mp he with rfl | he
   ·exact ⟨k0,is0,h2⟩
   ·exact p3 e he
  ·unfold lkS at h
   unfold valueAt
   rw [List.find?_cons] at h ⊢
   by_cases hk:k0=k
   ·simp only [hk,decide_true] at h ⊢
    cases h
    obtain ⟨v,h3,h4⟩:=NS h3
    exact ⟨_,rfl,v,h3,h4⟩
   ·simp only [hk,decide_false] at h ⊢
    exact p4 k d h
section
variable {X:Cx} {o i:Expr} {pos:Pos} {td ty:TE}
def tKz (K:PySem.W.Frag) (ks:List (Str×D)) (u:V) (td ty:TE):TE:=fun σ H Q=>td σ H fun x H1=>x=u∧ty σ H1 fun y H2=>∃ k,y= .str k∧∃ d,lkS ks k=some d∧∀ v,Rp K H2 d v→Q v H2
theorem dI {K:PySem.W.Frag} {w:World} {ks:List (Str×D)} {u:V} {uv:Value} (hK:X.K=K) (hw:X.w=w) (hu:KZ K w.params ks uv) (hr:AY u uv) (nd:(ks.map (·.1)).Nodup) (ho:PE X o td) (hi:PE X i ty) (hs:XX i):PE X (.Subscript o i pos) (tKz K ks u td ty):=by
 subst hK;subst hw
 walk_at "b34"
 refine RF PySem.F.slot_dict_getitem.lookup hs (thn (ho pins s σ H _ I h) fun uo s1 ⟨x,H1,I1,rx,q1⟩=> ?_)
 obtain ⟨rfl,q1⟩:=q1
 refine thn (hi pins s1 σ H1 _ I1 q1) fun iv s2 ⟨y,H2,I2,ry,q2⟩=> ?_
 obtain ⟨k,rfl,d,lk,q⟩:=q2
 obtain ⟨p,ob,en,ep,rfl,hl,ed,hd,pr⟩:=hu.ex
 obtain ⟨kvs,p1,p2,p3,p4⟩:=MY (prog:=X.prog) (w:=X.w) pr
 have dd:s2.heap.DictOf (strKind X.prog X.w) p kvs:=⟨ob,en,ep,I2.kIn p ob hl,ed,hd,fun e he=>p3 e (by simpa using he),p1,by rw [p2];exact nd⟩
 have ex:x= .ref p:=by cases x<;> first | (cases hr;rfl) | (obtain ⟨_,hr⟩:=hr;cases hr) | cases hr
 subst ex
 cases rx
 obtain ⟨t,rfl⟩:=ry
 obtain ⟨w',hw,v,rv,hv⟩:=p4 k d lk
 exact ⟨dd.typeIs,wpAny_getItem_of (show (strKind X.prog X.w).is k (.str k t)=true by show Value.isStrOf k (.str k t)=true;simp [Value.isStrOf]) dd.mapOf hw ⟨v,H2,I2.tok _,rv,q v (hv H2)⟩⟩
end
def bA (K:PySem.W.Frag) (a b:Addr):It:=
 ⟨fun i H=>∃ xs ys x y,SqT K H a xs∧SqT K H b ys∧xs[i]? =some x∧ys[i]? =some y,
  fun i H v H'=>∃ p x y,v= .ref p∧H p=none∧H'=upd H p (.tup [x,y])∧∀ xs ys,SqT K H a xs→SqT K H b ys→xs[i]? =some x∧ys[i]? =some y,
  fun i H=>∃ xs ys,SqT K H a xs∧SqT K H b ys∧(xs.length≤i∨ys.length≤i)⟩
theorem SB {P:Program} {w:World} {K:PySem.W.Frag} {elts:List Expr} {tx:Nat} {tp:Pos} (a b z TI TO i1 i2:Addr) (ap:ZipApart z TI TO i1 i2 a b):
  UF P w K (.Tuple elts tx tp) (bA K a b) [z,TI,TO,i1,i2] z (fun i h=>DK h z TI TO .none (.bool false)∧IsPair h TI (.ref i1) (.ref i2)∧(∃ u v,IsPair h TO u v)∧IsTupIter h i1 a i∧IsTupIter h i2 b i) where
 mem:=by simp
 obj:=fun i h ⟨t1,t2,⟨u,v,t3⟩,⟨o4,e4,c4,d4⟩,⟨o5,e5,c5,d5⟩⟩ c hc=>by
  rcases List.mem_cons.mp hc with rfl | hc
  ·exact ⟨_,t1,fun v z=>by cases z⟩
  rcases List.mem_cons.mp hc with rfl | hc
  ·exact ⟨_,t2,fun v z=>by cases z⟩
  rcases List.mem_cons.mp hc with rfl | hc
  ·exact ⟨_,t3,fun v z=>by cases z⟩
  rcases List.mem_cons.mp hc with rfl | hc
  ·exact ⟨_,e4,fun v z=>by rw [d4] at z;cases z⟩
  rcases List.mem_cons.mp hc with rfl | hc
  ·exact ⟨_,e5,fun v z=>by rw [d5] at z;cases z⟩
  ·cases hc
 keep:=fun i h h' ⟨t1,t2,⟨u,v,t3⟩,⟨o4,e4,r4⟩,⟨o5,e5,r5⟩⟩ k=>⟨k z (by simp) _ t1,k TI (by simp) _ t2,⟨u,v,k TO (by simp) _ t3⟩,⟨o4,k i1 (by simp) _ e4,r4⟩,⟨o5,k i2 (by simp) _ e5,r5⟩⟩
 item:=by
  intro X hP hw hK hc i pins s σ H E I hf ⟨t1,t2,⟨u,v,t3⟩,t4,t5⟩ hg
  subst hP hw hK
  obtain ⟨xs,ys,x,y,hq,hq',hx,hy⟩:=hg
  obtain ⟨its,rv,p,hz⟩:=I.tuple hq
  obtain ⟨its',rv',p',hz'⟩:=I.tuple hq'
  obtain ⟨ux,hux,rux⟩:=rv.get hx
  obtain ⟨uy,huy,ruy⟩:=rv'.get hy
  have W1:Wk X.prog X.w i1 a its.toArray _:=LP ap.l1i1
  have W2:Wk X.prog X.w i2 b its'.toArray _:=LP ap.l2i2
  have ty:s.TypeIs (.ref z) "zip":=⟨_,t1,rfl⟩
  walk_at "b38"
  refine dN ap W1 W2 t1 t2 t3 ⟨t4,p⟩ ⟨t5,p'⟩ (x:=ux) (y:=uy) (by simpa using hux) (by simpa using huy) fun h' z1 z2 z3 z4 z5 z6 z7=>wpAny_pure ?_
  refine ⟨_,rfl,wpAny_letOwnedTupleGo_zip z1 fun h2 y1 sb=> ?_⟩
  have ne:∀ c o,s.heap.get? c=some o→s.heap.objs.size≠c:=fun c o e=>Nat.ne_of_gt (Heap.lt_size e)
  have kk:∀ c o,c∉[z,TI,TO,i1,i2]→s.heap.get? c=some o→h2.get? c=some o:=fun c o hc e=>by
   simp only [List.mem_cons,not_or,List.not_mem_nil,not_false_eq_true,and_true] at hc
   obtain ⟨n1,n2,n3,n4,n5⟩:=hc
   rw [sb.2 c n1]
   exact z7 c o n1 n3 n4 n5 e
  have hp2:h2.get? s.heap.objs.size=some { cls:= .type "tuple",data:= .seq #[ux,uy] }:=by rw [sb.2 _ (ne z _ t1)];exact z5
  have I2:Inv X pins σ (upd H s.heap.objs.size (.tup [x,y])) { s with heap:=h2 }:=I.turnedNew (t':=s.toks) kk hf (Nat.le_refl _) ⟨(by decide:(2:Nat)≤sizeLine),[ux,uy],.cons rux (.cons ruy .nil),⟨_,hp2,rfl,_,rfl⟩⟩
  refine ⟨.ref s.heap.objs.size,_,I2,rfl,⟨_,x,y,rfl,I.fresh,rfl,fun xs' ys' hx' hy'=> ?_⟩,⟨y1,?_,⟨ux,uy,?_⟩,?_,?_⟩,fun c hc=> ?_⟩
  ·rw [I.tuple_inj hx' hq,I.tuple_inj hy' hq'];exact ⟨hx,hy⟩
  ·have:=z7 TI _ ap.TIz ap.TITO ap.TIi1 ap.TIi2 t2
   show h2.get? TI=_
   rw [sb.2 _ ap.TIz];exact this
  ·show h2.get? TO=_
   rw [sb.2 _ ap.TOz];exact z2
  ·obtain ⟨o,e,r⟩:=z3.1
   exact ⟨o,by show h2.get? i1=_;rw [sb.2 _ ap.i1z];exact e,r⟩
  ·obtain ⟨o,e,r⟩:=z4.1
   exact ⟨o,by show h2.get? i2=_;rw [sb.2 _ ap.i2z];exact e,r⟩
  ·have lt:∃ o,s.heap.get? c=some o:=by
    obtain ⟨o4,e4,_⟩:=t4
    obtain ⟨o5,e5,_⟩:=t5
    simp only [List.mem_cons,List.not_mem_nil,or_false] at hc
    rcases hc with rfl | rfl | rfl | rfl | rfl
    ·exact ⟨_,t1⟩
    ·exact ⟨_,t2⟩
    ·exact ⟨_,t3⟩
    ·exact ⟨_,e4⟩
    ·exact ⟨_,e5⟩
   obtain ⟨o,e⟩:=lt
   rw [BE (Ne.symm (ne c o e))]
   exact (hf c hc).1
 done:=by
  intro X hP hw hK hc i pins s σ H E I hf ⟨t1,t2,⟨u,v,t3⟩,t4,t5⟩ hg
  subst hP hw hK
  obtain ⟨xs,ys,hq,hq',hx⟩:=hg
  obtain ⟨its,rv,p,hz⟩:=I.tuple hq
  obtain ⟨its',rv',p',hz'⟩:=I.tuple hq'
  have hl:=rv.length
  have hl':=rv'.length
  have W1:Wk X.prog X.w i1 a its.toArray _:=LP ap.l1i1
  have W2:Wk X.prog X.w i2 b its'.toArray _:=LP ap.l2i2
  refine cK (I.ok.hd hc) ap W1 W2 ⟨t2,.inl ⟨t1,u,v,t3⟩⟩ ⟨t4,p⟩ ⟨t5,p'⟩ (by simp;omega) fun h' eb=>⟨rfl,I.turnedL (t':=s.toks) (fp:=[z,TI,TO,i1,i2]) (fun c o hc e=> ?_) hf⟩
  simp only [List.mem_cons,not_or,List.not_mem_nil,not_false_eq_true,and_true] at hc
  exact eb c o hc.1 hc.2.2.1 hc.2.2.2.1 hc.2.2.2.2 e
 self:=fun _ _ _ _ _ st h=>wpAny_pyIter_zip st.1 h
section
variable {X:Cx} {elts:List Expr} {tx:Nat} {tp p pos:Pos}
def NJ (K:PySem.W.Frag) (ta:TA):TI:=fun σ H R=>ta σ H fun vs H1=>o2 vs fun x y=>CC x fun a=>CC y fun b=>(∃ xs,SqT K H1 a xs)∧(∃ ys,SqT K H1 b ys)∧R (bA K a b) H1
theorem YL {e f:Expr} {ta:TA} (hg:Gl X "zip") (hm:X.mg "zip"=none) (ha:PA X [e,f] ta)
  (hs:starEach [e,f] X.env=[(false,eval e X.env),(false,eval f X.env)]:=by rfl) (hs2:starEach [f] X.env=[(false,eval f X.env)]:=by rfl):
  PI X (.Tuple elts tx tp) (.Call (.Name "zip" p) [e,f] [] pos) (NJ X.K ta):=by
 intro pins s σ H R I h
 refine Call_ (EW I hg hm rfl (PyProof.Rows.callWith_type1 (thn (ha pos pins s σ H _ I h) fun us s1 ⟨vs,H1,I1,r1,q1⟩=> ?_) (by rw [hs,hs2]) (by rw [hs2];rfl)))
 obtain ⟨x,y,rfl,q1⟩:=o2.ex q1
 obtain ⟨a,rfl,q1⟩:=CC.ex q1
 obtain ⟨b,rfl,⟨xs,hx⟩,⟨ys,hy⟩,q⟩:=CC.ex q1
 cases r1 with
 | cons r rr=>
  cases rr with
  | cons r' rr=>
   cases rr
   cases r
   cases r'
   obtain ⟨its,rv,p,hz⟩:=I1.tuple hx
   obtain ⟨its',rv',p',hz'⟩:=I1.tuple hy
   have la:a<s1.heap.objs.size:=by obtain ⟨o,e,_⟩:=p;exact Heap.lt_size e
   have lb:b<s1.heap.objs.size:=by obtain ⟨o,e,_⟩:=p';exact Heap.lt_size e
   refine MV p p' ?_
   obtain ⟨z1,z2,z3,z4,z5,z6,z7,z8⟩:=aE s1.heap (itT a) (itT b) rfl rfl
   generalize zp5 s1.heap (itT a) (itT b)=h' at *
   refine wpAny_pyIter_zip z1 ?_
   have ap:ZipApart (s1.heap.objs.size+4) (s1.heap.objs.size+2) (s1.heap.objs.size+3) s1.heap.objs.size (s1.heap.objs.size+1) a b:=by
    exact RP la lb
   refine ⟨_,_,_,_,H1,rfl,I1.kept (t':=s1.toks) z7,SB a b _ _ _ _ _ ap,⟨z1,z2,⟨_,_,z3⟩,⟨_,z4,rfl,rfl⟩,⟨_,z5,rfl,rfl⟩⟩,fun c hc=> ?_,q⟩
   have:s1.heap.objs.size≤c:=UN hc
   exact I1.fpOk this (I1.hok.fresh this)
end
theorem XS {K:PySem.W.Frag} {a b:Addr} {xs ys:List V} {g:TG} {tt:TT} {te:TE} {p:Addr} {Q:VK} {σ:St} {H:Hp} (Pv:Nat→St→Hp→Prop) (h0:Pv 0 σ H)
  (hl:∀ i σ H,i≤min xs.length ys.length→Pv i σ H→SqT K H a xs∧SqT K H b ys)
  (hs:∀ i q x y σ H,xs[i]? =some x→ys[i]? =some y→Pv i σ H→H q=none→g (.ref q) σ (upd H q (.tup [x,y])) fun σ2 H2=>tt σ2 H2 fun b H3=>if b=true then te σ2 H3 fun y H4=>∃ ys',H4 p=some (.lst ys')∧ys'.length<sizeLine∧Nx (min xs.length ys.length) i (Pv (i+1) σ2 (upd H4 p (.lst (ys'++[y])))) else Nx (min xs.length ys.length) i (Pv (i+1) σ2 H3))
  (hd:∀ σ H,Pv (min xs.length ys.length) σ H→Q (.ref p) H):CW (bA K a b) g tt te p Q σ H:=by
 refine ⟨fun i m σ H=>m=min xs.length ys.length - i∧i≤min xs.length ys.length∧Pv i σ H,⟨_,rfl,Nat.zero_le _,h0⟩,?_⟩
 rintro i m σ H ⟨rfl,hi,q⟩
 obtain ⟨w1,w2⟩:=hl i σ H hi q
 by_cases hlt:i<min xs.length ys.length
 ·have h1:i<xs.length:=by omega
  have h2:i<ys.length:=by omega
  refine .inr ⟨⟨xs,ys,xs[i],ys[i],w1,w2,by simp [h1],by simp [h2]⟩,fun v H' z=> ?_⟩
  obtain ⟨c,x,y,rfl,hp,rfl,k⟩:=z
  obtain ⟨e1,e2⟩:=k xs ys w1 w2
  exact hs i c x y σ H e1 e2 q hp
 ·have e:i=min xs.length ys.length:=by omega
  exact .inl ⟨⟨xs,ys,w1,w2,by omega⟩,hd σ H (e ▸ q)⟩
def XF (K:PySem.W.Frag) (u:Value):List DictEntry:=match u with
 | .ref p=>(match K.lookup p with
  | some o=>(match o.data with | .dict es _=>es.toList | _=>[])
  | none=>[])
 | _=>[]
def aN (K:PySem.W.Frag) (u:Value):Bool:=match u with
 | .ref p=>(match K.lookup p with
  | some o=>(match o.cls,o.dict,o.data with
   | .type n,none,.dict es _=>n == "dict" && o.slots.size == 0
   | _,_,_=>false)
  | none=>false)
 | _=>false
def cT:Value→Option Str
 | .str x _=>some x
 | _=>none
def kzV (K:PySem.W.Frag):List (Str×D)→List DictEntry→Bool
 | [],[]=>true
 | k::ks,e::es=>JT K k.2 e.val && kzV K ks es
 | _,_=>false
theorem aF {K:PySem.W.Frag} {P:Params}:∀ {ks:List (Str×D)} {es:List DictEntry},es.map (fun e=>(cT e.key,e.hash))=ks.map (fun k=>(some k.1,PyData.keyHash P k.1))→kzV K ks es=true→Paired (KzE K P) ks es
 | [],[],_,_=> .nil
 | [],_::_,h,_=>by simp at h
 | _::_,[],h,_=>by simp at h
 | k::ks,e::es,h,g=>by
  rw [List.map_cons,List.map_cons] at h
  injection h with h1 h2
  injection h1 with h3 h4
  rw [kzV,Bool.and_eq_true] at g
  refine .cons ⟨?_,h4,g.1⟩ (aF h2 g.2)
  cases hk:e.key with
  | str x t=>rw [hk] at h3;injection h3 with h3;exact ⟨t,by rw [h3]⟩
  | _=>rw [hk] at h3;cases h3
theorem dL {K:PySem.W.Frag} {P:Params} {ks:List (Str×D)} {u:Value} (h1:aN K u=true) (h2:(XF K u).map (fun e=>(cT e.key,e.hash))=ks.map (fun k=>(some k.1,PyData.keyHash P k.1))) (h3:kzV K ks (XF K u)=true):KZ K P ks u:=by
 have h4:=aF h2 h3
 unfold aN at h1
 split at h1
 ·rename_i p
  unfold XF at h4
  cases e:K.lookup p with
  | none=>rw [e] at h1;cases h1
  | some o=>
   rw [e] at h1
   dsimp only at h1 h4
   rw [e] at h4
   dsimp only at h4
   split at h1
   ·rename_i n es ep ec ed ee
    rw [ee] at h4
    simp only [Bool.and_eq_true,beq_iff_eq] at h1
    obtain ⟨rfl,hz⟩:=h1
    exact ⟨p,o,es,ep,rfl,e,⟨ec,ed,Array.eq_empty_of_size_eq_zero hz⟩,ee,h4⟩
   ·cases h1
 ·cases h1
section
variable {X:Cx}
end
section
variable {X:Cx}
end
section
variable {X:Cx}
end
theorem YK:entryFor table "BaseException.__getattribute__"=some Builtin.«object.__getattribute__» :=entryFor_alias (id':="object.__getattribute__") (by kernel_rfl) (by decide+kernel) (by decide+kernel) (by kernel_rfl)
theorem PD:plainId "BaseException.__getattribute__"=true:=by decide+kernel
theorem RX:builtinKind "BaseException.__getattribute__"=some .slot:=by kernel_rfl
theorem PN:splitId "BaseException.__getattribute__"=some ("BaseException","__getattribute__"):=by kernel_rfl
theorem SL (v u:Value):argsOk "BaseException.__getattribute__" ⟨[v,u],[]⟩:=by kernel_rfl
theorem RZ (v:Value):bindSpecial (.builtin "BaseException.__getattribute__") v=pure (.builtin "BaseException.__getattribute__",[v]):=by
 have e:typeOf (.builtin "BaseException.__getattribute__")=pure (.type "wrapper_descriptor"):=by kernel_rfl
 unfold bindSpecial
 rw [e,pure_bind]
 rfl
theorem ZE:builtinKind "getset_descriptor.__get__"=some .slot:=by kernel_rfl
theorem XD:splitId "getset_descriptor.__get__"=some ("getset_descriptor","__get__"):=by kernel_rfl
theorem ZN (v u z:Value):argsOk "getset_descriptor.__get__" ⟨[v,u,z],[]⟩:=by kernel_rfl
theorem XE:plainId "getset_descriptor.__get__"=true:=by decide+kernel
theorem NF:plainId "object.__class__"=true:=by decide+kernel
theorem VH:entryFor table "object.__class__"=some Builtin.«object.__class__» :=entryFor_of_tree (by kernel_rfl)
theorem YH:typeOf (.builtin "object.__class__")=pure (.type "getset_descriptor"):=by kernel_rfl
theorem bF:isSubtype (.type "getset_descriptor") (.type "getset_descriptor")=pure true:=by kernel_rfl
theorem SN {prog:Program} {w:World} {A:Around} {E:Value→Shared→Prop} {Q:Option Value→Shared→Prop} {s:Shared} {K:PySem.W.Frag} {HE C x:Addr} {ox:Obj} (qC:BY K HE C=true) (k:K.In s.heap) (hx:s.heap.get? x=some ox) (hcls:ox.cls= .ref C)
  (f1:PySem.W.findIn K (.ref C) "__getattribute__"=some (some (.builtin "BaseException.__getattribute__"))) (f2:PySem.W.findIn K (.ref C) "__getattr__"=some none) (f3:PySem.W.findIn K (.ref C) "__class__"=some (some (.builtin "object.__class__")))
  (f4:PySem.W.specialIn K (.builtin "object.__class__") "__get__"=some (some (.builtin "getset_descriptor.__get__"))) (f5:PySem.W.takesIn K (.builtin "object.__class__")=some true) (f6:PySem.W.mroIn K C (.type "object")=some true)
  (h:Q (some (.ref C)) { s with toks:=s.toks+1 }):wpAny (model prog w) A (getAttr? (.ref x) "__class__") Q E s:=by
 obtain ⟨hp,g,d,t,os⟩:=s
 walk_at "b51"
 unfold getAttr? getAttrBy? getAttrBy
 repeat (any_goals (first | assumption | (with_reducible refine wpAny_loadPart_at hx ?_;rw [hcls]) | (with_reducible refine (PySem.W.looks_findIn k f1) _ _ _ _ (fun _ _ e=>e) ?_) | wp_step))
 refine PySem.W.looks_findIn (h:=hp) k f1 _ _ _ _ (fun _ _ e=>e) ?_
 show wpAny _ _ (if (onTheHeap (Value.ref C) && Value.builtin "BaseException.__getattribute__" == Value.builtin "object.__getattribute__")=true then _ else getAttrByItsOwn _ _ _ _ _ _) _ _ _
 rw [if_neg (by simp)]
 unfold getAttrByItsOwn hookBefore
 rw [if_pos (by rfl)]
 refine wpAny_bind (PySem.W.looks_findIn (h:=hp) k f2 _ _ _ _ (fun _ _ e=>e) ?_)
 unfold callGetattribute
 repeat (any_goals (first | assumption | wp_step))
 rw [RZ]
 refine wpAny_pure ?_
 show wpAny _ _ (call (Value.builtin "BaseException.__getattribute__") [Value.ref x,Value.str (Str.ofString "__class__") t]) _ _ _
 refine wpAny_call (codeAny_call_builtin PD YK ?_)
 unfold checkBuiltinCall
 rw [RX,PN]
 dsimp only
 unfold isInstance
 have hB:(Value.ref C:: .ref HE::veB).contains (.type "BaseException")=true:=by rw [List.contains_cons,List.contains_cons];rfl
 refine wpAny_bind (wpAny_bind ?_)
 repeat (any_goals (first | (with_reducible refine wpAny_loadPart_at hx ?_;rw [hcls]) | wp_step))
 refine wpAny_isSubtype_exc hC ?_
 rw [hB]
 simp only [Bool.not_true,Bool.false_eq_true,if_false]
 refine wpAny_of_eq (a:=()) (SL _ _) ?_
 unfold Builtin.«object.__getattribute__»
 repeat (any_goals (first | (with_reducible refine wpAny_loadPart_at hx ?_;rw [hcls]) | wp_step))
 refine PySem.W.looks_findIn (h:=hp) k f3 _ _ _ _ (fun _ _ e=>e) ?_
 show wpAny _ _ (Builtin.ObjectAttr.getOf (some (Value.builtin "object.__class__")) >>= _) _ _ _
 unfold Builtin.ObjectAttr.getOf
 refine wpAny_bind (PySem.W.looks_specialIn (h:=hp) k f4 _ _ _ _ (fun _ _ e=>e) ?_)
 show wpAny _ _ (Builtin.ObjectAttr.dataDescriptor? (some (Value.builtin "object.__class__")) (some (Value.builtin "getset_descriptor.__get__")) >>= _) _ _ _
 unfold Builtin.ObjectAttr.dataDescriptor?
 refine wpAny_bind (wpAny_bind (PySem.W.looks_takesIn (h:=hp) k f5 _ _ _ _ (fun _ _ e=>e) ?_))
 rw [if_pos rfl]
 refine wpAny_pure (wpAny_bind (wpAny_rule (wpAny_pure ?_)))
 show wpAny _ _ (Builtin.ObjectAttr.bindTo (Value.builtin "getset_descriptor.__get__") (Value.builtin "object.__class__") (Value.ref x) (Value.ref C)) _ _ _
 show wpAny _ _ (holding [Value.builtin "object.__class__"] (call (Value.builtin "getset_descriptor.__get__") [Value.builtin "object.__class__",Value.ref x,Value.ref C]) >>= _) _ _ _
 refine wpAny_bind (wpAny_holding (wpAny_call (codeAny_call_builtin XE PySem.F.entry_gs_get ?_)))
 unfold checkBuiltinCall
 rw [ZE,XD]
 dsimp only
 unfold isInstance
 rw [YH,pure_bind,bF,pure_bind]
 simp only [Bool.not_true,Bool.false_eq_true,if_false]
 refine wpAny_of_eq (a:=()) (ZN _ _ _) ?_
 unfold Builtin.«getset_descriptor.__get__» Builtin.Getset_descriptor.descrGet Builtin.Getset_descriptor.descrGetArgs Builtin.Getset_descriptor.descrGetter
 repeat (any_goals (first | (with_reducible refine wpAny_loadPart_at hx ?_;rw [hcls]) | wp_step))
 have eo:(".".intercalate ("object.__class__".cutAt '.').dropLast)="object":=by kernel_rfl
 rw [eo]
 refine PySem.W.looks_mroIn (h:=hp) k f6 _ _ _ _ (fun _ _ e=>e) ?_
 simp only [Bool.not_true,Bool.false_eq_true,if_false]
 refine wpAny_pure ?_
 show wpAny _ _ (again (Code.builtin "object.__class__" { pos:=[Value.ref x] })) _ _ _
 refine wpAny_pure ⟨plainId_quiet NF _,codeAny_builtin VH ?_⟩
 rw [Around.under_plainId NF _]
 unfold Builtin.«object.__class__»
 repeat (any_goals (first | (with_reducible refine wpAny_loadPart_at hx ?_;rw [hcls]) | wp_step))
 exact h
def VW (K:PySem.W.Frag) (HE C:Addr):Bool:=BY K HE C && (PySem.W.findIn K (.ref C) "__getattribute__" == some (some (.builtin "BaseException.__getattribute__"))) && (PySem.W.findIn K (.ref C) "__getattr__" == some none) && (PySem.W.findIn K (.ref C) "__class__" == some (some (.builtin "object.__class__")))
 && (PySem.W.specialIn K (.builtin "object.__class__") "__get__" == some (some (.builtin "getset_descriptor.__get__"))) && (PySem.W.takesIn K (.builtin "object.__class__") == some true) && (PySem.W.mroIn K C (.type "object") == some true)
theorem JA {K:PySem.W.Frag} {HE C x:Addr} (q:VW K HE C=true):PySem.W.KitX K (.ref x) (.ref C) fun h=>∃ ox,h.get? x=some ox∧ox.cls= .ref C:=by
 unfold VW at q
 simp only [Bool.and_eq_true,beq_iff_eq] at q
 obtain ⟨⟨⟨⟨⟨⟨q0,q1⟩,q2⟩,q3⟩,q4⟩,q5⟩,q6⟩:=q
 refine ⟨fun M h k hx=> ?_,fun M h k hx=> ?_,fun h tp dd its n sl k e=> ?_,fun {prog w A E Q s} k hx hq=> ?_⟩
 ·obtain ⟨ox,hx,hc⟩:=hx
  intro A Q E s keep hq
  unfold typeOf
  obtain ⟨hp,g,d,t,os⟩:=s
  have hx':hp.get? x=some ox:=keep _ _ hx
  repeat (any_goals (first | (with_reducible refine wpAny_loadPart_at hx' ?_;rw [hc]) | wp_step))
  exact hq
 ·obtain ⟨nm,q,N,bs,hdct,sn,sub,ab,col,dd,k0,k1,k2,k3,k5,_,hC,_,_,_⟩:=BY.obj q0 k
  intro A Q E s keep hq
  obtain ⟨hp,g,d,t,os⟩:=s
  have hC':=keep _ _ hC
  unfold isType
  repeat (any_goals (first | (with_reducible refine wpAny_loadPart_at hC' ?_) | wp_step))
  exact hq
 ·obtain ⟨nm,q,N,bs,hdct,sn,sub,ab,col,dd,k0,k1,k2,k3,k5,_,hC,_,_,_⟩:=BY.obj q0 k
  have ne:C≠tp:=by
   rintro rfl
   rw [e] at hC
   have z:Value.type "tuple"=Value.type "type":=congrArg Obj.cls (Option.some.inj hC)
   exact absurd z (by decide)
  simpa using ne
 ·obtain ⟨ox,hx,hc⟩:=hx
  exact SN q0 k hx hc q1 q2 q3 q4 q5 q6 hq
def OA (K:PySem.W.Frag) (HE:Addr):Bool:=PySem.W.ktsIn K HE "BaseException" && match K.lookup HE with
 | some ⟨_,_,.cls cd,_⟩=>cd.mro == (.ref HE::veB)
 | _=>false
theorem OA.obj {K:PySem.W.Frag} {HE:Addr} {h:Heap} (q:OA K HE=true) (k:K.In h):∃ nm qn N bs hdct sn sub ab col dd k0 k1 k2 k3 k5 nid,h.get? HE=some (excClassObj nm qn HE N bs veB hdct sn sub ab col dd k0 k1 k2 k3 k5 nid):=by
 unfold OA at q
 simp only [Bool.and_eq_true] at q
 obtain ⟨q1,q3⟩:=q
 obtain ⟨nm,qn,N,bs,bm,hdct,sn,sub,ab,col,dd,k0,k1,k2,k3,k5,nid,e,_,_⟩:=PySem.W.kts_cls k q1
 split at q3
 ·rename_i c0 d0 cd sl lk
  have e2:=k _ _ lk
  rw [e] at e2
  simp only [Option.some.injEq,Obj.mk.injEq,Data.cls.injEq] at e2
  obtain ⟨_,_,rfl,_⟩:=e2
  have q3:Value.ref HE::bm= .ref HE::veB:=beq_iff_eq.mp q3
  injection q3 with _ q3
  subst q3
  exact ⟨nm,qn,N,bs,hdct,sn,sub,ab,col,dd,k0,k1,k2,k3,k5,nid,e⟩
 ·cases q3
theorem PP {M:Model} {A:Around} {E:Value→Shared→Prop} {K:PySem.W.Frag} {HE C e:Addr} {s:Shared} {oe:Obj} {Q:Bool→Shared→Prop} (qC:BY K HE C=true) (qH:OA K HE=true) (k:K.In s.heap)
  (he:s.heap.get? e=some oe) (hcls:oe.cls= .ref C) (hq:Q true s):wpAny M A (excMatches (.ref e) (.ref HE)) Q E s:=by
 walk_at "b51"
 obtain ⟨nm',q',N',bs',hdct',sn',sub',ab',col',dd',l0,l1,l2,l3,l5,nid,hD⟩:=OA.obj qH k
 obtain ⟨h,g,d,t,os⟩:=s
 have hcB:(Value.ref HE::veB).contains (.type "BaseException")=true:=by rw [List.contains_cons];rfl
 have hcC:(Value.ref C:: .ref HE::veB).contains (.ref HE)=true:=by
  rw [List.contains_cons,List.contains_cons];simp
 have f:=tc_notTuple
 unfold excMatches
 repeat (first | (with_reducible refine wpAny_loadPart_at he ?_;rw [hcls]) | with_reducible refine wpAny_loadPart_at hD ?_ | (with_reducible refine wpAny_isSubtype_exc hD ?_;rw [hcB]) | (with_reducible refine wpAny_isSubtype_exc hC ?_;rw [hcC]) | wp_step)
 exact hq
abbrev Cx.subP (X:Cx) (a:Addr) (oe:Obj):Cx:={ X.sub a with pn:=X.pn++[(a,oe)] }
section
variable {X:Cx} {pins:List (Addr×Obj)} {σ:St} {H:Hp} {s:Shared} {a:Addr} {oe:Obj}
theorem Inv.subP (I:Inv X pins σ H s) (he:s.heap.get? a=some oe) (hn:H a=none) (hl:a≠X.env.locals) (hf:a∉X.fs) (hc:∀ v,oe.data≠ .cell v):Inv (X.subP a oe) pins σ H s:=
 ⟨⟨I.ok.mod,I.ok.kind,I.ok.glob,I.ok.blt,I.ok.above,I.ok.inj,I.ok.has,I.ok.cab,(fun z=>by cases z),I.ok.frames,I.ok.stk,I.ok.exf,I.ok.bs,I.ok.bsz,I.ok.noex,I.ok.exfs,I.ok.funs,I.ok.frf⟩,I.os,I.bare,I.base,I.loc,I.cell,I.free,I.freeC,(fun p hp=>by
  rw [List.append_assoc,List.mem_append] at hp
  rcases hp with hp | hp
  ·exact I.pin p (List.mem_append_left _ hp)
  ·rcases List.mem_cons.mp hp with rfl | hp
   ·exact ⟨he,hn,hl,hf,hc⟩
   ·exact I.pin p (List.mem_append_right _ hp)),I.hok,I.len⟩
theorem Inv.unsubP (ok:X.Ok) (I:Inv (X.subP a oe) pins σ H s):Inv X pins σ H s:=⟨ok,I.os,I.bare,I.base,I.loc,I.cell,I.free,I.freeC,(fun p hp=>I.pin p (by
  rw [List.append_assoc]
  rcases List.mem_append.mp hp with hp | hp
  ·exact List.mem_append_left _ hp
  ·exact List.mem_append_right _ (List.mem_append_right _ hp))),I.hok,I.len⟩
theorem SP.unsubP (ok:X.Ok) {D:DW} {f:Flow} {s':Shared} (h:SP (X.subP a oe) pins D f s'):SP X pins D f s':=by
 cases f with
 | next=>obtain ⟨σ',H',I,q⟩:=h;exact ⟨σ',H',I.unsubP ok,q⟩
 | brk=>obtain ⟨σ',H',I,q⟩:=h;exact ⟨σ',H',I.unsubP ok,q⟩
 | cont=>obtain ⟨σ',H',I,q⟩:=h;exact ⟨σ',H',I.unsubP ok,q⟩
 | ret u=>obtain ⟨v,σ',H',I,r,q⟩:=h;exact ⟨v,σ',H',I.unsubP ok,r,q⟩
theorem BX.there {P:Program} {w:World} {H:Hp} {h:Heap} {a:Addr} {o:HO} (x:BX P w H h a o):∃ u,h.get? a=some u:=by
 cases o with
 | lst xs=>obtain ⟨_,_,_,_,e⟩:=x;exact ⟨_,e⟩
 | tup xs=>obtain ⟨_,_,_,p⟩:=x;obtain ⟨_,e,_⟩:=p;exact ⟨_,e⟩
 | dK kvs=>obtain ⟨_,_,_,_,o,_,_,e,_⟩:=x;exact ⟨_,e⟩
 | dT kvs=>obtain ⟨_,_,_,_,o,_,_,e,_⟩:=x;exact ⟨_,e⟩
 | set S n=>obtain ⟨o,_,_,_,e,_⟩:=x;exact ⟨_,e⟩
 | ins C dx fs=>obtain ⟨_,_,_,e,_⟩:=x;exact ⟨_,e⟩
 | own y=>obtain ⟨_,e⟩:=x;exact ⟨_,e⟩
 | xd fs=>obtain ⟨_,⟨_,_,_,e,_⟩,_⟩:=x;exact ⟨_,e⟩
 | rng lo hi=>obtain ⟨_,_,_,e⟩:=x;exact ⟨_,e⟩
 | frz ob u=>obtain ⟨e,_⟩:=x;exact ⟨_,e⟩
 | tbl ps=>exact ⟨_,(show h.get? a=some _ from x)⟩
 | met f y=>exact ⟨_,(show h.get? a=some _ from x)⟩
 | ext φ=>obtain ⟨_,⟨_,e⟩,_⟩:=x;exact ⟨_,e⟩
theorem OH {C a0:Value} {B:Heap} (fl:Heap.FlyingW B X.stack a C a0 s.heap) (st:∀ h2,B.StaysIn h2→s.heap.UpToSlots h2→Inv X pins σ H { s with heap:=h2 }):
  H a=none∧a≠X.env.locals∧a∉X.fs∧∃ oe,s.heap.get? a=some oe∧oe.cls=C∧∀ v,oe.data≠ .cell v:=by
 obtain ⟨f1,f2,f3,oe,vs,T,oT,ts,he,⟨hc,_⟩,hd,_⟩:=fl
 have J:=st (PySem.W.hideAll s.heap [a]) (fun b o q=>PySem.W.hideAll_get _ (f1 b o q) (by
   rw [List.mem_singleton]
   rintro rfl
   rw [f2] at q;cases q)) (fun b o q nd=>⟨o.slots,PySem.W.hideAll_get _ q (by
   rw [List.mem_singleton]
   rintro rfl
   rw [he] at q;cases q
   exact nd _ hd)⟩)
 have hna:(PySem.W.hideAll s.heap [a]).get? a=none:=PySem.W.hideAll_none _ (List.mem_singleton.mpr rfl)
 refine ⟨?_,?_,fun z=> ?_,oe,he,hc,fun v z=>by rw [hd] at z;cases z⟩
 ·cases e:H a with
  | none=>rfl
  | some u=>
   obtain ⟨o,q⟩:=(J.hok a u e).there
   rw [hna] at q;cases q
 ·rintro rfl
  obtain ⟨m,⟨o,_,_,q,_⟩,_⟩:=J.loc
  have q:(PySem.W.hideAll s.heap [X.env.locals]).get? X.env.locals=some o:=q
  rw [hna] at q;cases q
 ·have J0:=st s.heap f1 (IN _)
  have:a∈frs X.stack:=by
   rcases J0.ok.stk with e | ⟨e,_⟩
   ·rw [e];exact z
   ·rw [e];unfold frs;rw [List.filterMap_cons];split
    ·exact z
    ·exact List.mem_cons_of_mem _ z
  obtain ⟨o,q,nd⟩:=DG f3 a this
  rw [he] at q;cases q
  exact nd _ hd
theorem FH {M:Model} {A:Around} {E:Value→Shared→Prop} {i:Nat} {x:Str} {pos:Pos} {Q:Unit→Shared→Prop} (I:Inv X pins σ H s) (hN:X.N.Nodup) (hi:X.N[i]? =some x) (hk:X.env.kindOf x=some .local)
  (h:∀ s',Inv X pins (σ.set i none) H s'→Q () s'):wpAny M A (do bindName X.env x Value.none;unbindBehindTheSuite X.env x pos) Q E s:=by
 walk_at "b25"
 obtain ⟨oL,_,_,hoL,_⟩:=id hn
 refine wpAny_nameGoes_keeps hk hn hcls fun h' v hn' hs=> ?_
 have tracked:HOk X.prog X.w H h':=fun b ob e=>by
  refine (I.hok b ob e).stay (fun c w' hc q=>(hs.2 c ?_).trans q) (fun _ q=>q) fun _ _ q=>q
  rintro rfl
  rcases hc with rfl | hc
  ·rw [I.free] at e;cases e
  ·rw [I.free] at hc;cases hc
 refine h _ ⟨I.ok,I.os,I.bare,⟨fun b o e n hb hx=> ?_,fun b o e n hb hx=> ?_,I.base.free,fun b o e hx=> ?_,I.base.tups,I.base.frzs,I.base.tbls⟩,⟨_,hn',fun j y v' e1 e2 e3=> ?_⟩,fun y c e=> ?_,I.free,I.freeC,fun p hp=> ?_,tracked,by simpa using I.len⟩
 ·exact (hs.2 b (Nat.ne_of_lt (Nat.lt_of_lt_of_le (Heap.lt_size e) I.ok.above))).trans (I.base.keep b o e n hb hx)
 ·obtain ⟨sl,e1⟩:=I.base.slot b o e n hb hx
  exact ⟨sl,(hs.2 b (Nat.ne_of_lt (Nat.lt_of_lt_of_le (Heap.lt_size e) I.ok.above))).trans e1⟩
 ·obtain ⟨o',e1⟩:=I.base.there b o e hx
  exact ⟨o',(hs.2 b (Nat.ne_of_lt (Nat.lt_of_lt_of_le (Heap.lt_size e) I.ok.above))).trans e1⟩
 ·by_cases hj:j=i
  ·subst hj
   rw [List.getElem?_set_self hiσ] at e2
   cases e2
  ·rw [List.getElem?_set_ne (Ne.symm hj)] at e2
   obtain ⟨u',r',q⟩:=hl j y v' e1 e2 e3
   refine ⟨u',r',?_⟩
   rcases q with ⟨k,e⟩ | ⟨k,c,e,z⟩
   ·refine .inl ⟨k,?_⟩
    have:y≠x:=fun e=>hj (KB hN e1 (e ▸ hi))
    simp [this,e]
   ·exact .inr ⟨k,c,e,z.sameBut hs (cne y c e)⟩
 ·obtain ⟨w',z⟩:=I.cell y c e
  exact ⟨w',z.sameBut hs (cne y c e)⟩
 ·obtain ⟨e,n,ne,nf,d⟩:=I.pin p hp
  exact ⟨(hs.2 p.1 ne).trans e,n,ne,nf,d⟩
def fgE (i:Nat) (D:DW):DW:={ nx:=fun σ H=>D.nx (σ.set i none) H,rt:=D.rt,bk:=fun σ H=>D.bk (σ.set i none) H,ct:=fun σ H=>D.ct (σ.set i none) H }
def XG (K:PySem.W.Frag) (HE:Addr) (i:Nat) (ts:Addr→Addr→TS):HX:=fun C D σ H=>∃ c,C= .ref c∧BY K HE c=true∧∀ a,ts a c (fgE i D) (σ.set i (some (.ref a))) H
theorem dC {HE:Addr} {y x:Str} {np pos:Pos} {b₀:Stmt} {suite:List Stmt} {CH:List ExceptHandler} {ts:Addr→Addr→TS} {i:Nat} (hg:Gl X y) (hm:X.mg y=some (.ref HE)) (hd:OA X.K HE=true)
  (hN:X.N.Nodup) (hi:X.N[i]? =some x) (hk:X.env.kindOf x=some .local) (hs:∀ a c oe,oe.cls= .ref c→PSs (X.subP a oe) (b₀::suite) (ts a c)) (hdb:(y == ("__debug__":Str))=false:=by decide):
  PH X (.ExceptHandler (some (.Name y np)) (some x) (b₀::suite) pos::CH) (XG X.K HE i ts):=by
 walk_at "b27"
 refine PP (K:=X.K) hc hd I0.kIn he hcls ?_
 refine codeAny_handlers_suite_as (lands_againW fl fun h2 fl2 up2=> ?_)
 obtain ⟨n1,n2,n3,oe2,he2,hc2,nc2⟩:=OH (s:={ s with heap:=h2 }) fl2 fun h3 st3 up3=>st h3 st3 (up2.trans up3)
 have I2:Inv (X.subP a oe2) pins σ H { s with heap:=h2 }:=(st h2 fl2.1 up2).subP he2 n1 n2 n3 nc2
 refine GN (X:=X.subP a oe2) (v:= .ref a) I2 hN hi (.inl hk) rfl (fun s2 I3=> ?_) (.inr hk)
 refine wpAny_mono (hs a c oe2 hc2 pins _ _ H _ I3 (h a)) (fun f s2 q=> ?_) fun _ _ z=>z.elim
 have q:=SP.unsubP ok q
 cases f with
 | next=>obtain ⟨σ',H',I,q⟩:=q;exact FH I hN hi hk fun s3 I4=>⟨_,H',I4,q⟩
 | brk=>obtain ⟨σ',H',I,q⟩:=q;exact FH I hN hi hk fun s3 I4=>⟨_,H',I4,q⟩
 | cont=>obtain ⟨σ',H',I,q⟩:=q;exact FH I hN hi hk fun s3 I4=>⟨_,H',I4,q⟩
 | ret u=>obtain ⟨v,σ',H',I,r,q⟩:=q;exact FH I hN hi hk fun s3 I4=>⟨v,_,H',I4,r,q⟩
end
section
variable {X:Cx} {a c HE:Addr} {oe:Obj}
def isE (K:PySem.W.Frag) (H:Hp) (c:Addr) (y:V) (b:Bool):Prop:=match y with
 | .ty n=>PySem.W.kitOne K (.ref c) (.type n)=some b
 | .ref d=>PySem.W.kitOne K (.ref c) (.ref d)=some b∨∃ ds:List Addr,SqT K H d (ds.map V.ref)∧PySem.W.kitAny K (.ref c) (ds.map Value.ref)=some b
 | _=>False
def TH (K:PySem.W.Frag) (HE a c:Addr):List V→Hp→VK→Prop:=fun xs H Q=>o2 xs fun x y=>x= .ref a∧VW K HE c=true∧∃ b,isE K H c y b∧Q (.bl b) H
theorem KK:∀ {ds:List Addr} {us:List Value},AM (ds.map V.ref) us→us=ds.map Value.ref
 | [],_,.nil=>rfl
 | d::ds,_,.cons r t=>by cases r;rw [KK t];rfl
theorem TR (hp:(a,oe)∈X.pn) (hc:oe.cls= .ref c):DE X (.builtin "isinstance") (TH X.K HE a c):=by
 intro pins s σ H xs us Q I rv h
 obtain ⟨x,y,rfl,rfl,hk,b,hb,q⟩:=o2.ex h
 obtain ⟨u,u',rfl,ru,ru'⟩:=rv.two
 cases (show u=Value.ref a from ru)
 have hx:=(I.pin (a,oe) (List.mem_append_left _ hp)).1
 have fin:∀ tk,EP X pins σ Q (.bool b) { s with toks:=tk }:=fun tk=>⟨.bl b,H,I.tok _,rfl,q⟩
 cases y with
 | ty n=>cases (show u'=Value.type n from ru');exact PySem.W.kia_one (JA hk) I.kIn ⟨oe,hx,hc⟩ hb (fun z=>nomatch z) fin
 | ref d=>
  cases (show u'=Value.ref d from ru')
  rcases hb with hb | ⟨ds,hs,hb⟩
  ·exact PySem.W.kia_one (JA hk) I.kIn ⟨oe,hx,hc⟩ hb (fun z=>nomatch z) fin
  ·obtain ⟨its,r,⟨o,e,e1,n,e2⟩,_⟩:=I.tuple hs
   have:=KK r
   subst this
   obtain ⟨cl,dd,da,sl⟩:=o
   cases e1;cases e2
   exact PySem.W.kia_tup (JA hk) I.kIn ⟨oe,hx,hc⟩ e hb (fun z=>nomatch z) fin
 | non=>exact hb.elim
 | bl _=>exact hb.elim
 | int _=>exact hb.elim
 | str _=>exact hb.elim
 | byt _=>exact hb.elim
 | flt _=>exact hb.elim
end
def exK (K:PySem.W.Frag) (HE:Addr) (cs:List Addr):Bool:=cs.all fun c=>VW K HE c && (PySem.W.kitOne K (.ref c) (.type "ValueError") == some true) && cs.all fun d=>PySem.W.kitOne K (.ref c) (.ref d) == some (c == d)
theorem exK.k {K:PySem.W.Frag} {HE c:Addr} {cs:List Addr} (h:exK K HE cs=true) (hc:c∈cs):VW K HE c=true:=by
 unfold exK at h
 have:=List.all_eq_true.mp h c hc
 simp only [Bool.and_eq_true] at this
 exact this.1.1
theorem exK.v {K:PySem.W.Frag} {HE c:Addr} {cs:List Addr} (h:exK K HE cs=true) (hc:c∈cs):PySem.W.kitOne K (.ref c) (.type "ValueError")=some true:=by
 unfold exK at h
 have:=List.all_eq_true.mp h c hc
 simp only [Bool.and_eq_true,beq_iff_eq] at this
 exact this.1.2
theorem exK.one {K:PySem.W.Frag} {HE c d:Addr} {cs:List Addr} (h:exK K HE cs=true) (hc:c∈cs) (hd:d∈cs):PySem.W.kitOne K (.ref c) (.ref d)=some (decide (c=d)):=by
 unfold exK at h
 have:=List.all_eq_true.mp h c hc
 simp only [Bool.and_eq_true] at this
 have:=List.all_eq_true.mp this.2 d hd
 rw [beq_iff_eq] at this
 rw [this]
 congr 1
theorem exK.any {K:PySem.W.Frag} {HE c:Addr} {cs:List Addr} (h:exK K HE cs=true) (hc:c∈cs):∀ ds:List Addr,(∀ d∈ds,d∈cs∧c≠d)→PySem.W.kitAny K (.ref c) (ds.map Value.ref)=some false
 | [],_=>by rw [List.map_nil,PySem.W.kitAny]
 | d::ds,hd=>by
  obtain ⟨h1,h2⟩:=hd d List.mem_cons_self
  rw [List.map_cons,PySem.W.kitAny,exK.one h hc h1,decide_eq_false h2]
  exact exK.any h hc ds fun e he=>hd e (List.mem_cons_of_mem _ he)
theorem BR.downR {P:Program} {w:World} {K:PySem.W.Frag} {mg:Str→Option Value} {base:Heap} {f:Addr} {k:Nat} {fd:FuncData} {ps:List Str} {sp:Sp} (F:BR P w K mg base (CXr P w) k f fd ps sp):BR P w K mg base CX0 k f fd ps (fun vs H Q _=>sp vs H Q fun _ _ _=>False):=
 ⟨fun vs H Q E h=>F.len vs H Q _ h,fun A outer s H args us vs Q E hr e0 hb r h=>codeAny_mono (F.run A outer s H args us vs Q _ hr e0 hb r h) fun r s' q=>by
  cases r with
  | error e=>obtain ⟨_,_,_,_,_,_,_,_,_,_,_,z⟩:=q;exact z.elim
  | ok fl=>cases fl<;> exact q⟩
theorem EG {X:Cx} {K:PySem.W.Frag} {a c HE:Addr} {oe:Obj} (hK:X.K=K) (hp:(a,oe)∈X.pn) (hc:oe.cls= .ref c):DE X (.builtin "isinstance") (TH K HE a c):=by subst hK;exact TR hp hc
theorem UL {l:Addr} {items:Array Value} {n:Nat} {dd:Option Addr} {sl:Array (Option Value)} {t:Tok}:
  Meets (Builtin.«tuple.__mul__» { pos:=[.ref l,.int 1 t] }) fun x R s=>s.heap.get? l=some { cls:= .type "tuple",dict:=dd,data:= .seq items n,slots:=sl }∧R (.ok (.ret (.ref l))) s:=by
 intro prog w A R s ⟨e,h⟩
 show wpAny _ _ (asIndex (.int 1 t) >>= _) _ _ s
 refine wpAny_bind ?_
 rw [show asIndex (.int 1 t)=pure 1 from rfl]
 walk_at "b67"
 rw [if_pos (by simp)]
 walk_at "b32"
section
variable {X:Cx}
def bX (K:PySem.W.Frag):R2:=fun x y H Q=>CV y fun k=>∃ ds,Rp K H (.tup ds) x∧1≤k∧k<2 ^ 62∧ds.length * k.toNat≤sizeLine∧∀ v H',AE H H'→Rp K H' (.tup (List.replicate k.toNat ds).flatten) v→Q v H'
theorem UT:OpR X (binaryOp .Mult) (bX X.K):=by
 walk_at "b71"
 obtain ⟨k,rfl,ds,hx,h0,h1,hz,q⟩:=CV.ex h
 by_cases k2:2≤k
 ·exact NE pins s σ H x (.int k) v u Q I rx ry ⟨ds,hx,k2,h1,hz,q⟩
 have k1:k=1:=by omega
 subst k1
 walk_at "b17"
 have ef:(List.replicate (Int.toNat 1) ds).flatten=ds:=by simp
 rw [ef] at q
 exact wpAny_binaryOp_repeat_ref (T:="tuple") (U:="int") (by decide) ⟨_,e,rfl⟩ (fun s'=>typeIs_int s' 1 t) CD F.fills_int_mul F.slot_int_rmul DF F.slot_int_index.lookup
  (call_meets F.slot_int_rmul (typeIs_int s 1 t) F.entry_int_rmul (F.args_int_rmul_2 _ _) (DH 1 t a _ n dd sl)
   ⟨e,rfl,⟨_,e,rfl⟩,call_meets F.slot_tuple_mul ⟨_,e,rfl⟩ F.entry_tuple_mul (F.args_tuple_mul_2 _ _) UL ⟨e,⟨.ref a,H,I,rfl,q _ _ (AE.refl _) hx⟩⟩⟩)
end
theorem VP {l:Addr} {items:Array Value} {n:Nat} {dd:Option Addr} {sl:Array (Option Value)} {t:Tok} (hne:items.isEmpty=false):
  Meets (Builtin.«tuple.__mul__» { pos:=[.ref l,.int 0 t] }) fun x R s=>s.heap.get? l=some { cls:= .type "tuple",dict:=dd,data:= .seq items n,slots:=sl }∧
   R (.ok (.ret (.ref s.heap.objs.size))) { s with heap:=s.heap.push { cls:= .type "tuple",data:= .seq #[] } }:=by
 intro prog w A R s ⟨e,h⟩
 show wpAny _ _ (asIndex (.int 0 t) >>= _) _ _ s
 refine wpAny_bind ?_
 rw [show asIndex (.int 0 t)=pure 0 from rfl]
 walk_at "b67"
 rw [if_neg (by simp [hne]),if_pos (by simp)]
 exact wpAny_bind (m:=Builtin.Tuple.tupleExact _) (wpAny_newObj_type (wpAny_pure h) (Nat.zero_le _))
section
variable {X:Cx}
def IY (K:PySem.W.Frag):R2:=fun x y H Q=>CV y fun k=>∃ ds,Rp K H (.tup ds) x∧0≤k∧k<2 ^ 62∧ds.length * k.toNat≤sizeLine∧ds≠[]∧∀ v H',AE H H'→Rp K H' (.tup (List.replicate k.toNat ds).flatten) v→Q v H'
theorem IT:OpR X (binaryOp .Mult) (IY X.K):=by
 walk_at "b71"
 obtain ⟨k,rfl,ds,hx,h0,h1,hz,hne,q⟩:=CV.ex h
 by_cases k2:1≤k
 ·exact UT pins s σ H x (.int k) v u Q I rx ry ⟨ds,hx,k2,h1,hz,q⟩
 have k1:k=0:=by omega
 subst k1
 walk_at "b17"
 have l1:its.length=ds.length:=by rw [← r1.length,la.length]
 have ef:(List.replicate (Int.toNat 0) ds).flatten=[]:=by simp
 rw [ef] at q
 refine wpAny_binaryOp_repeat_ref (T:="tuple") (U:="int") (by decide) ⟨_,e,rfl⟩ (fun s'=>typeIs_int s' 0 t) CD F.fills_int_mul F.slot_int_rmul DF F.slot_int_index.lookup
  (call_meets F.slot_int_rmul (typeIs_int s 0 t) F.entry_int_rmul (F.args_int_rmul_2 _ _) (DH 0 t a its.toArray n dd sl)
   ⟨e,rfl,⟨_,e,rfl⟩,call_meets F.slot_tuple_mul ⟨_,e,rfl⟩ F.entry_tuple_mul (F.args_tuple_mul_2 _ _) (VP (by
    cases its with
    | nil=>simp at l1;exact absurd (List.length_eq_zero_iff.mp l1.symm) hne
    | cons _ _=>rfl)) ⟨e,?_⟩⟩)
 refine ⟨.ref s.heap.objs.size,_,I.laid (t':=s.toks) (o:= .tup []) (fun b ob q=>Heap.get?_push_of_some _ q) (Nat.le_refl _) ⟨Nat.zero_le _,_,.nil,IsTup.new _ _⟩,rfl,q _ _ (AE.upd (I.hok.fresh (Nat.le_refl _))) (BF.mpr ⟨_,[],rfl,SqT.of AD,RpL.nil⟩)⟩
end
section
variable {X:Cx}
def dQ (K:PySem.W.Frag):R2:=fun x y H Q=>(x= .non∧∃ p xs,y= .ref p∧SqL K H p xs∧Q (.bl true) H)∨rAl K true x y H Q
theorem XM (hu:X.A.units+64<cLine):OpR X (compareOp .NotEq) (dQ X.K):=by
 walk_at "b71"
 rcases h with ⟨rfl,p,xs,rfl,hq,q⟩ | h
 ·cases rx
  cases ry
  obtain ⟨its,rv,pl,hz⟩:=I.list hq
  exact SeqAt.RcNeAt.none_list pl.isList (by omega) X.prog X.w X.xe _ ⟨.bl true,H,I,rfl,q⟩
 ·exact bY hu pins s σ H x y v u Q I rx ry h
theorem aZ {T:String} {name:Str} {id:String} {r:V→List V→Hp→VK→Prop} {o e:Expr} {es:List Expr} {to:TE} {t:TA} {apos cpos:Pos} {K:PySem.W.Frag} (hK:X.K=K) (pa:PlainAttrs T) (slot:Slot T name id) (hty:typeOf (.builtin id)=pure (.type "method_descriptor")) (hm:MtR X id r) (ho:PE X o to) (ha:PA X (e::es) t)
  (hbase:attributeBase o name X.env (eval o X.env)=eval o X.env:=by rfl)
  (hfew:((backTo cpos (starEach (e::es) X.env)).all (fun x=> !x.1) && (backToKw cpos (keywordEach [] X.env)).all (fun x=>x.1.isSome)
   && decide ((e::es).length+([]:List Keyword).length+(if ([]:List Keyword).isEmpty then 0 else 1)<30))=true:=by rfl)
  (hline:(apos.endLine == cpos.line)=true:=by rfl) (hs:starEach (e::es) X.env=(false,eval e X.env)::starEach es X.env:=by rfl) (hplain:(backTo cpos (starEach es X.env)).any (·.1)=false:=by rfl):
  PE X (.Call (.Attribute o name apos) (e::es) [] cpos) (tBM K T r to t):=by
 subst hK
 exact KW pa slot hty hm ho ha hbase hfew hline hs hplain
end
theorem atom (s:String) (ns:List Nat) (h:s=String.ofList (ns.map Char.ofNat)) (e:(ns.map Char.ofNat).map Char.toNat=ns):Str.ofString s=⟨⟨ns⟩⟩:=by
 rw [h,PySem.W.Fast.ofString_ofList,e]
theorem eO {α:Type} {a b:α} {l m:List α} (h:a=b) (t:l=m):a::l=b::m:=by rw [h,t]
theorem tr2 {α β:Type} {C:α→β→Prop} {a a':α} {b b':β} (e:a=a') (e':b=b') (h:C a' b'):C a b:=by subst e e';exact h
theorem YU (P:Params):((PySem.W.boot_heap P).isNs mainGlobals,(PySem.W.boot_heap P).objs.size,(PySem.W.boot_heap P).nsMap mainGlobals "__annotations__")=(true,11,some (.ref 6)):=by kernel_rfl
noncomputable def WF (p q:Program) (loose:List Str) (Xt:Shared→Bool) {α:Type} (Yf:Shared→α) (w:World) (s:Shared):=
 (PySem.W.staticsOk (importedModules p.main.body) (PySem.W.boot_heap w.params) s.heap && PySem.W.namesBound p s.heap && PySem.W.gensDone s && PySem.W.laidKept (PySem.W.boot_heap w.params) s.heap,
  PySem.W.Fast.tw4187177175401517315 q loose (importedModules p.main.body) Xt true s,Yf s)
def RJ (p q:Program) (loose:List Str) (Xt:Shared→Bool) {α:Type} (Yf:Shared→α) (Ya:World→α) (N:Nat) (w:World):Prop:=
 (fun os=>(PySem.W.Fast.tw14082659384304107361 PySem.W.Fast.tw14364793385576792824 p w 11 (some (.ref 6)) N ⟨PySem.W.boot_heap w.params,Array.mk [],PySem.W.boot_drawn,PySem.W.boot_toks,os⟩ (PySem.W.topStub p)).map (WF p q loose Xt Yf w))=
  fun _=>some (true,PySem.W.openGood q loose,Ya w)
theorem SK {p q:Program} {loose:List Str} {Xt:Shared→Bool} {α:Type} {Yf:Shared→α} {Ya:World→α} {N:Nat}
  (e:PySem.W.opening p=PySem.W.plainProg p.main.scope.names) (hN:Nat.ble 600 N=true) (f:∀ s,fenceModules? p s=some s)
  (run:∀ w:World,RJ p q loose Xt Yf Ya N w):PySem.W.LeftO p q loose Xt Yf Ya N:=fun w=>by
 obtain ⟨⟨h,gs,d,k,os⟩,e1,e2⟩:=Option.map_eq_some_iff.mp (PySem.W.boot_open e hN f w)
 simp only [Prod.mk.injEq] at e2
 obtain ⟨rfl,rfl,rfl,rfl⟩:=e2
 have b:=YU w.params
 simp only [Prod.mk.injEq] at b
 obtain ⟨b1,b2,b3⟩:=b
 have r:=congrFun (run w) os
 rw [← PySem.W.Fast.te14082659384304107361,← PySem.W.Fast.te14364793385576792824] at r
 obtain ⟨s₁,r1,r2⟩:=Option.map_eq_some_iff.mp r
 unfold WF at r2
 rw [← PySem.W.Fast.te4187177175401517315] at r2
 simp only [Prod.mk.injEq] at r2
 obtain ⟨r2,r3,r4⟩:=r2
 unfold PySem.W.openEnds
 rw [e1]
 show (PySem.W.topFrom treeTable p w N _).map _=_
 have t:PySem.W.topFrom treeTable p w N ⟨PySem.W.boot_heap w.params,Array.mk [],PySem.W.boot_drawn,PySem.W.boot_toks,os⟩=some s₁:=by
  unfold PySem.W.topFrom
  dsimp only
  rw [b1,b2,b3]
  show Option.bind (PySem.W.topRun treeTable p w 11 (some (.ref 6)) N ⟨PySem.W.boot_heap w.params,Array.mk [],PySem.W.boot_drawn,PySem.W.boot_toks,os⟩ (PySem.W.topStub p)) _=_
  rw [r1]
  show (match PySem.W.staticsOk (importedModules p.main.body) (PySem.W.boot_heap w.params) s₁.heap && PySem.W.namesBound p s₁.heap && PySem.W.gensDone s₁ && PySem.W.laidKept (PySem.W.boot_heap w.params) s₁.heap with | true=>some s₁ | false=>none)=_
  rw [r2]
 rw [t]
 exact congrArg some (Prod.ext r3 r4)
noncomputable def nm (l:List Str) (i:Nat):Str:=l.getD i Str.empty
noncomputable def de (P:Params) (x:Str) (t:Nat) (v:Value):DictEntry:=⟨PyData.keyHash P x,.str x t,v⟩
noncomputable def SQ (p:Program) (i:Nat):Stmt:=p.main.body.getD i (.Pass ⟨0,0,0,0⟩)
noncomputable def fnO (p:Program) (x:Str) (i:Nat) (kV doc pm:Value) (an:Option Addr) (cdv ct:Value):Obj:=⟨.type "function",none,.func (PySem.W.fnOf x x (FK (SQ p i)) (DR (SQ p i)) (AJ (SQ p i)) .none kV doc pm an cdv ct),#[]⟩
end L2
namespace My
open PySem PySem.Spec PyProof.Rows L2
def tmC (c:Char):Lean.MacroM Lean.Term:=do match c with
 | '_' => `(_)
 | 'r' => `((by rfl))
 | 'd' => `((by first | exact Or.inl rfl | exact Or.inr (Or.inl rfl)))
 | 'v' => `((by decide))
 | 'n' => `((fun _ _=>rfl))
 | 'i' => `(rfl)
 | 'o' => `((Or.inl rfl))
 | 'c' => `((by first | exact .inl rfl | exact .inr rfl | assumption))
 | 'a' => `(.nil)
 | 'b' => `((BI _))
 | 'e' => `((by intro _;rfl))
 | 'f' =>return ⟨Lean.mkIdent `P⟩
 | 'g' =>return ⟨Lean.mkIdent `w⟩
 | 'h' =>return ⟨Lean.mkIdent `K⟩
 | 'j' =>return ⟨Lean.mkIdent `hu1⟩
 | 'k' =>return ⟨Lean.mkIdent `PySem.F.plainAttrs_list⟩
 | 'l' =>return ⟨Lean.mkIdent `GX⟩
 | 'm' =>return ⟨Lean.mkIdent `ME⟩
 | _=>Lean.Macro.throwUnsupported
def tmT:List (Char×Lean.Name×String):=[('A',`pvD,"_*__rdvv"),('B',`AA,"_____**r"),('C',`AB,"_"),('D',`AC,"____"),('E',`AK,"________***"),('F',`AI,"_____*"),('G',`AH,"___*"),('H',`AF,"_____**"),('I',`AG,"_______**"),('J',`BC,"_______***n"),('K',`AN,"____*"),('L',`AR,"__*____*io*rc"),('M',`AQ,"________________**r***a**vrr"),('N',`BB,"____"),('O',`BH,"_____*v"),('P',`AT,"_"),('Q',`AX,"__*_*ioc"),('R',`BV,"________***"),('S',`BD,"_"),('T',`AU,"________***b"),('U',`AV,"_____**"),('V',`BG,"_____**r"),('W',`BU,"_________*r***vvrr"),('X',`CN,"__*__r**v"),('Y',`BW,"______*"),('Z',`EK,"____*"),('a',`DA,"___*"),('b',`CK,"_______**"),('c',`DL,"_"),('d',`JX,"____"),('e',`CS,"______*"),('f',`HL,"________*i***e"),('g',`EA,"_"),('h',`EC,"______fghiiij**n"),('i',`GZ,"____*r"),('j',`KW,"____________k*****rrrrr"),('k',`EU,"__________l***"),('l',`JN,"______**rrr"),('m',`FM,"______i*rr"),('n',`GP,"____*"),('o',`GF,"________***b"),('p',`HA,"______r**r"),('q',`LR,"___*e"),('r',`UC,"______m*"),('s',`MI,"__*__r**ivv")]
def tmK (st:List Lean.Term) (c:Char):Lean.MacroM (List Lean.Term):=do
 if c.isDigit then return ⟨Lean.Syntax.mkNumLit (toString c)⟩::st
 if c == '_' then return (← `(_))::st
 let some (f,t):=tmT.lookup c | Lean.Macro.throwUnsupported
 let m:=(t.toList.filter (· == '*')).length
 let (as,_) ← t.toList.foldlM (init:=((#[]:Array Lean.Term),(st.take m).reverse)) fun (as,ks) d=>do
  if d == '*' then match ks with
   | k::r=>return (as.push k,r)
   | []=>Lean.Macro.throwUnsupported
  else return (as.push (← tmC d),ks)
 return Lean.Syntax.mkApp (← `(@$(Lean.mkIdent f))) as::st.drop m
def tmD (x:Lean.Syntax):Lean.MacroM Lean.Term:=do
 let st ← x.getArgs.toList.foldlM (init:=([]:List Lean.Term)) fun st c=>match c.isInterpolatedStrLit? with
  | some w=>w.toList.foldlM tmK st
  | none=>return ⟨c⟩::st
 match st with
  | [t]=>return t
  | _=>Lean.Macro.throwUnsupported
local macro_rules | `(s! $x)=>tmD x
def top (i:Nat):Stmt:=PySem.Challenge.pw_turtlehouse_k56_changes_refused.main.body.getD i (.Pass ⟨0,0,0,0⟩)
abbrev FX:Stmt:=top 12
theorem IA:AZ ["statement","shape"] ["statement"] (AJ FX):=⟨rfl,rfl,rfl,by decide+kernel,rfl,by decide+kernel,by decide+kernel⟩
abbrev IR:Stmt:=top 13
theorem CJ:AZ ["program","words","body","waiting","size","part","statement"] ["program"] (AJ IR):=⟨rfl,rfl,rfl,by decide+kernel,rfl,by decide+kernel,by decide+kernel⟩
abbrev JF:Stmt:=top 15
theorem HW:AZ ["value","factor","product"] ["value","factor"] (AJ JF):=⟨rfl,rfl,rfl,by decide+kernel,rfl,by decide+kernel,by decide+kernel⟩
abbrev FP:Stmt:=top 16
theorem CP:AZ ["amount","factor","times","source","more"] ["amount","factor"] (AJ FP):=⟨rfl,rfl,rfl,by decide+kernel,rfl,by decide+kernel,by decide+kernel⟩
abbrev CT:Stmt:=top 17
theorem DS:AZ ["statement","first","factor","bodies"] ["statement","first","factor"] (AJ CT):=⟨rfl,rfl,rfl,by decide+kernel,rfl,by decide+kernel,by decide+kernel⟩
abbrev FC:Stmt:=top 18
theorem LZ:AZ ["body","first","factor"] ["body","first","factor"] (AJ FC):=⟨rfl,rfl,rfl,by decide+kernel,rfl,by decide+kernel,by decide+kernel⟩
abbrev DJ:Stmt:=top 19
theorem CG:AZ ["program","first","factor","words","body","told"] ["program","first","factor"] (AJ DJ):=⟨rfl,rfl,rfl,by decide+kernel,rfl,by decide+kernel,by decide+kernel⟩
abbrev NC:Stmt:=top 20
theorem RT:AZ ["program","factor"] ["program","factor"] (AJ NC):=⟨rfl,rfl,rfl,by decide+kernel,rfl,by decide+kernel,by decide+kernel⟩
abbrev MZ:Stmt:=top 21
theorem HP:AZ ["program","eighths","words","body"] ["program","eighths"] (AJ MZ):=⟨rfl,rfl,rfl,by decide+kernel,rfl,by decide+kernel,by decide+kernel⟩
abbrev GM:Stmt:=top 24
theorem EE:AZ ["start","end","found","middles","sizes","least","middle"] ["start","end","found"] (AJ GM):=⟨rfl,rfl,rfl,by decide+kernel,rfl,by decide+kernel,by decide+kernel⟩
abbrev KM:Stmt:=top 25
theorem OR:AZ ["statements","start","end","step"] ["statements","start","end","step"] (AJ KM):=⟨rfl,rfl,rfl,by decide+kernel,rfl,by decide+kernel,by decide+kernel⟩
abbrev FT:Stmt:=top 26
theorem BZ:AZ ["statements","start","end","found","length","best","step","size","body"] ["statements","start","end","found"] (AJ FT):=⟨rfl,rfl,rfl,by decide+kernel,rfl,by decide+kernel,by decide+kernel⟩
abbrev HQ:Stmt:=top 27
theorem CU:AZ ["program","statements","many","found","length","start"] ["program"] (AJ HQ):=⟨rfl,rfl,rfl,by decide+kernel,rfl,by decide+kernel,by decide+kernel⟩
abbrev NI:Stmt:=top 29
theorem FJ:AZ ["_law_cell_here","_law_k","_law_number"] ["_law_cell_here","_law_k"] (AJ NI):=⟨rfl,rfl,rfl,by decide+kernel,rfl,by decide+kernel,by decide+kernel⟩
abbrev PK:Stmt:=top 30
theorem GD:AZ ["_law_cell_here","_law_most","_law_many_here","_law_found","_law_rest","_law_k"] ["_law_cell_here","_law_most","_law_many_here"] (AJ PK):=⟨rfl,rfl,rfl,by decide+kernel,rfl,by decide+kernel,by decide+kernel⟩
abbrev QY:Stmt:=top 31
theorem IM:AZ ["_law_script","_law_k","_law_number"] ["_law_script","_law_k"] (AJ QY):=⟨rfl,rfl,rfl,by decide+kernel,rfl,by decide+kernel,by decide+kernel⟩
abbrev MQ:Stmt:=top 32
theorem SH:AZ ["_law_way","_law_program","_law_number"] ["_law_way","_law_program","_law_number"] (AJ MQ):=⟨rfl,rfl,rfl,by decide+kernel,rfl,by decide+kernel,by decide+kernel⟩
abbrev KA:Stmt:=top 33
theorem CA:AZ ["_law_way","_law_program","_law_number","_law_caught","_law_kinds","error"] ["_law_way","_law_program","_law_number"] (AJ KA):=⟨rfl,rfl,rfl,by decide+kernel,rfl,by decide+kernel,by decide+kernel⟩
abbrev aC:Stmt:=top 34
theorem UP:AZ ["_law_cell_here","_law_far","_law_amounts"] ["_law_cell_here","_law_far"] (AJ aC):=⟨rfl,rfl,rfl,by decide+kernel,rfl,by decide+kernel,by decide+kernel⟩
abbrev MW:Stmt:=top 35
theorem HD:AZ ["_law_cell_here","_law_go_here","_law_body","_law_some"] ["_law_cell_here","_law_go_here"] (AJ MW):=⟨rfl,rfl,rfl,by decide+kernel,rfl,by decide+kernel,by decide+kernel⟩
abbrev RE:Stmt:=top 36
theorem NR:AZ ["_law_cell_here","_law_size","_law_one"] ["_law_cell_here","_law_size"] (AJ RE):=⟨rfl,rfl,rfl,by decide+kernel,rfl,by decide+kernel,by decide+kernel⟩
abbrev ZW:Stmt:=top 37
theorem EL:AZ ["_law_script","_law_cell_here","_law_factor","_law_most","_law_far","_law_program","_law_found","_law_plain"] ["_law_script"] (AJ ZW):=⟨rfl,rfl,rfl,by decide+kernel,rfl,by decide+kernel,by decide+kernel⟩
structure Own (K:PySem.W.Frag) (mg:Str→Option Value) (x:Str) (st:Stmt) (ps:List Str) (f:Addr) (fd:FuncData):Prop where
 F:Fun K x x st f fd
 b:FQ K fd ps []
 m:mg x=some (.ref f)
structure OwnM (K:PySem.W.Frag) (C:Addr) (x qx:Str) (st:Stmt) (ps:List Str) (f:Addr) (fd:FuncData):Prop where
 F:Fun K x qx st f fd
 b:FQ K fd ps []
 mt:Meth K C x f
structure OwnI (K:PySem.W.Frag) (C:Addr) (x qx:Str) (st:Stmt) (ps:List Str) (f:Addr) (fd:FuncData):Prop where
 F:Fun K x qx st f fd
 b:FQ K fd ps []
 mki:Mk K C f
def D_MOST_AMOUNT:D:= .int (1000000)
def D_MOST_SIZE:D:= .int (4000)
def D_MOST_STATEMENTS:D:= .int (60)
def DZ_SHAPES:List (Str×D):=[("go",.tup [.str "amount"]),("turn",.tup [.str "amount"]),("up",.tup []),("down",.tup []),("ink",.tup [.str "amount"]),("mark",.tup [.str "number"]),("back",.tup [.str "number"]),("again",.tup [.str "amount",.str "body"]),("if",.tup [.str "amount",.str "body",.str "body"]),("do",.tup [.str "name",.str "amounts"])]
set_option genInjectivity false in
set_option genSizeOf false in
structure Adr where
 a_bodiesof:Addr
 d_bodiesof:FuncData
 a_sizeof:Addr
 d_sizeof:FuncData
 a_inttimes:Addr
 d_inttimes:FuncData
 a_amounttimes:Addr
 d_amounttimes:FuncData
 a_statementtimes:Addr
 d_statementtimes:FuncData
 a_bodytimes:Addr
 d_bodytimes:FuncData
 a_programtimes:Addr
 d_programtimes:FuncData
 a_larger:Addr
 d_larger:FuncData
 a_turned:Addr
 d_turned:FuncData
 a_parted:Addr
 d_parted:FuncData
 a_isagain:Addr
 d_isagain:FuncData
 a_shortest:Addr
 d_shortest:FuncData
 a_shorter:Addr
 d_shorter:FuncData
 a_Lmixed:Addr
 d_Lmixed:FuncData
 a_Lrow:Addr
 d_Lrow:FuncData
 a_Lcell:Addr
 d_Lcell:FuncData
 a_Lasked:Addr
 d_Lasked:FuncData
 a_Lrefused:Addr
 d_Lrefused:FuncData
 a_Lgo:Addr
 d_Lgo:FuncData
 a_Lputin:Addr
 d_Lputin:FuncData
 a_Lmany:Addr
 d_Lmany:FuncData
 a_law:Addr
 d_law:FuncData
 u_MOST_AMOUNT:Value
 v_MOST_AMOUNT:V
 u_MOST_SIZE:Value
 v_MOST_SIZE:V
 u_MOST_STATEMENTS:Value
 v_MOST_STATEMENTS:V
 u_SHAPES:Value
 v_SHAPES:V
 c_HouseError:Addr
 c_NoProgram:Addr
 c_NoText:Addr
 c_NoMark:Addr
 c_TooGreat:Addr
 c_TooLong:Addr
 c_NotWhole:Addr
local macro_rules | `(tactic| walk_at "rd")=> `(tactic| ((try simp only [L2.start,L2.stC,List.map_cons,List.map_nil,List.length_cons,List.length_nil,List.replicate_succ,List.replicate_zero,List.nil_append,List.cons_append,Nat.reduceAdd,Nat.reduceSub,Nat.zero_add,Nat.sub_self,Nat.add_one_sub_one]);(try dsimp only [XH,MG,VI,VB,VV,ipI,JD,UA,tSl,GI,OD,VY,UJ,NX,OF,IB,tOp,tUn,rI,rI0,rU,RV,tC,WA,KS,TZ,MR,NN,LK,WW,WY,UQ,tCB,VC,WG,NY,UZ,tB,VS,MA,UU,NU,WT,L2.start,VM,WI,II,OG,NZ,OB,UD,GY,L2.stC,tBM,GJ,List.getElem?_cons_zero,List.getElem?_cons_succ,List.set_cons_zero,List.set_cons_succ,List.map_cons,List.map_nil,List.length_cons,List.length_nil,List.replicate_succ,List.replicate_zero,List.nil_append,List.cons_append,Nat.reduceAdd,Nat.reduceSub,Nat.zero_add,OI,KC,tBD,JP,rID,JW,rUD,US,WU,GR,OK,KO,MO,JC,LA,JB,GW,NQ,TH,XG,fgE,LB,KT,HV,EJ,FI,IV,JZ,IY,NJ,tKz,MX,NH,EI,JS,FA,tHc,JH,JG,NO,TV,OE,WZ,EY,CC,CV,oBl,MK,o0,o1,o2,oC]);try simp only [XH,OI,KC,tBD,JP,rID,JW,rUD,US,WU,GR,OK,KO,MO,JC,LA,JB,GW,NQ,TH,XG,fgE,LB,KT,HV,EJ,FI,IV,JZ,IY,NJ,tKz,MX,NH,EI,JS,FA,tHc,JH,JG,NO,TV,OE,WZ,EY,CC,CV,oBl,MK,o0,o1,o2,oC,MG,VI,VB,VV,ipI,JD,UA,tSl,GI,OD,VY,UJ,NX,OF,IB,tOp,tUn,rI,rI0,rU,RV,tC,WA,KS,TZ,MR,NN,LK,WW,WY,UQ,tCB,VC,WG,NY,UZ,tB,VS,MA,UU,NU,WT,L2.start,VM,WI,II,OG,NZ,OB,UD,GY,L2.stC,tBM,GJ,tyV,List.getElem?_cons_zero,List.getElem?_cons_succ,List.set_cons_zero,List.set_cons_succ,List.map_cons,List.map_nil,List.length_cons,List.length_nil,List.length_map,List.replicate_succ,List.replicate_zero,List.append_nil,List.nil_append,List.cons_append,Option.some.injEq,Option.join_some,V.int.injEq,V.bl.injEq,V.ref.injEq,V.str.injEq,List.cons.injEq,exists_and_left,exists_and_right,exists_eq_left,exists_eq_left',exists_eq,exists_eq',and_true,true_and,and_self,and_assoc,decide_eq_true_eq,Nat.reduceAdd,Nat.reduceSub,Nat.add_one_sub_one,Nat.sub_self,Nat.zero_add,reduceCtorEq,eq_self,not_true_eq_false,not_false_eq_true,false_and,and_false,exists_false,false_or,or_false,if_true,if_false,ite_true,ite_false,Bool.false_eq_true,Bool.not_true,Bool.not_false,Bool.not_eq_true',decide_eq_false_iff_not]))
local macro_rules | `(tactic| walk_at "rh")=> `(tactic| ((try refine ZL ?_);walk_at "rd"))
local macro_rules | `(tactic| walk_at "ro")=> `(tactic| ((try simp only [L2.start,L2.stC,List.map_cons,List.map_nil,List.length_cons,List.length_nil,List.replicate_succ,List.replicate_zero,List.nil_append,List.cons_append,Nat.reduceAdd,Nat.reduceSub,Nat.zero_add,Nat.sub_self,Nat.add_one_sub_one]);(try dsimp only [MG,VI,VB,VV,ipI,JD,UA,tSl,GI,OD,VY,UJ,NX,OF,IB,tOp,tUn,rI,rI0,rU,RV,tC,WA,KS,TZ,MR,NN,LK,WW,WY,UQ,tCB,VC,WG,NY,UZ,tB,VS,MA,UU,NU,WT,L2.start,VM,WI,II,OG,NZ,OB,UD,GY,L2.stC,tBM,GJ,List.getElem?_cons_zero,List.getElem?_cons_succ,List.set_cons_zero,List.set_cons_succ,List.map_cons,List.map_nil,List.length_cons,List.length_nil,List.replicate_succ,List.replicate_zero,List.nil_append,List.cons_append,Nat.reduceAdd,Nat.reduceSub,Nat.zero_add,OI,KC,tBD,JP,rID,JW,rUD,US,WU,GR,OK,KO,MO,JC,LA,JB,GW,NQ,TH,XG,fgE,LB,KT,HV,EJ,FI,IV,JZ,IY,NJ,tKz,MX,NH,EI,JS,FA,tHc,JH,JG,NO,TV,OE,WZ,EY,CC,CV,oBl,MK,o0,o1,o2,oC]);try simp only [AD,RB,OI,KC,tBD,JP,rID,JW,rUD,US,WU,GR,OK,KO,MO,JC,LA,JB,GW,NQ,TH,XG,fgE,LB,KT,HV,EJ,FI,IV,JZ,IY,NJ,tKz,MX,NH,EI,JS,FA,tHc,JH,JG,NO,TV,OE,WZ,EY,CC,CV,oBl,MK,o0,o1,o2,oC,MG,VI,VB,VV,ipI,JD,UA,tSl,GI,OD,VY,UJ,NX,OF,IB,tOp,tUn,rI,rI0,rU,RV,tC,WA,KS,TZ,MR,NN,LK,WW,WY,UQ,tCB,VC,WG,NY,UZ,tB,VS,MA,UU,NU,WT,L2.start,VM,WI,II,OG,NZ,OB,UD,GY,L2.stC,tBM,GJ,tyV,List.getElem?_cons_zero,List.getElem?_cons_succ,List.set_cons_zero,List.set_cons_succ,List.map_cons,List.map_nil,List.length_cons,List.length_nil,List.length_map,List.replicate_succ,List.replicate_zero,List.append_nil,List.nil_append,List.cons_append,Option.some.injEq,Option.join_some,V.int.injEq,V.bl.injEq,V.ref.injEq,V.str.injEq,List.cons.injEq,exists_and_left,exists_and_right,exists_eq_left,exists_eq_left',exists_eq,exists_eq',and_true,true_and,and_self,and_assoc,decide_eq_true_eq,Nat.reduceAdd,Nat.reduceSub,Nat.add_one_sub_one,Nat.sub_self,Nat.zero_add,reduceCtorEq,eq_self,not_true_eq_false,not_false_eq_true,false_and,and_false,exists_false,false_or,or_false,if_true,if_false,ite_true,ite_false,Bool.false_eq_true,Bool.not_true,Bool.not_false,Bool.not_eq_true',decide_eq_false_iff_not]))
theorem kk {k:Int} (h0:0≤k) (h1:k≤100):0≤k * k∧k * k≤10000:=by
 have a:k * k≤100 * 100:=Int.mul_le_mul h1 h1 h0 (by decide)
 have a0:0≤k * k:=Int.mul_nonneg h0 h0
 exact ⟨a0,a⟩
theorem zk {k z:Int} (h0:0≤k) (h1:k≤100) (z0:0≤z) (z1:z<10 ^ 40):0≤z * (48271+k)∧z * (48271+k)≤10 ^ 40 * 48371:=by
 have b:z * (48271+k)≤10 ^ 40 * 48371:=Int.mul_le_mul (by omega) (by omega) (by omega) (by decide)
 exact ⟨Int.mul_nonneg z0 (by omega),b⟩
structure Txt (w:World) (K:PySem.W.Frag) (mg:Str→Option Value) (t:Adr):Prop where
 bodiesof:Own K mg "bodies_of" FX ["statement"] t.a_bodiesof t.d_bodiesof
 sizeof:Own K mg "size_of" IR ["program"] t.a_sizeof t.d_sizeof
 inttimes:Own K mg "int_times" JF ["value","factor"] t.a_inttimes t.d_inttimes
 amounttimes:Own K mg "amount_times" FP ["amount","factor"] t.a_amounttimes t.d_amounttimes
 statementtimes:Own K mg "statement_times" CT ["statement","first","factor"] t.a_statementtimes t.d_statementtimes
 bodytimes:Own K mg "body_times" FC ["body","first","factor"] t.a_bodytimes t.d_bodytimes
 programtimes:Own K mg "program_times" DJ ["program","first","factor"] t.a_programtimes t.d_programtimes
 larger:Own K mg "larger" NC ["program","factor"] t.a_larger t.d_larger
 turned:Own K mg "turned" MZ ["program","eighths"] t.a_turned t.d_turned
 parted:Own K mg "parted" GM ["start","end","found"] t.a_parted t.d_parted
 isagain:Own K mg "is_again" KM ["statements","start","end","step"] t.a_isagain t.d_isagain
 shortest:Own K mg "shortest" FT ["statements","start","end","found"] t.a_shortest t.d_shortest
 shorter:Own K mg "shorter" HQ ["program"] t.a_shorter t.d_shorter
 Lmixed:Own K mg "_law_mixed" NI ["_law_cell_here","_law_k"] t.a_Lmixed t.d_Lmixed
 Lrow:Own K mg "_law_row" PK ["_law_cell_here","_law_most","_law_many_here"] t.a_Lrow t.d_Lrow
 Lcell:Own K mg "_law_cell" QY ["_law_script","_law_k"] t.a_Lcell t.d_Lcell
 Lasked:Own K mg "_law_asked" MQ ["_law_way","_law_program","_law_number"] t.a_Lasked t.d_Lasked
 Lrefused:Own K mg "_law_refused" KA ["_law_way","_law_program","_law_number"] t.a_Lrefused t.d_Lrefused
 Lgo:Own K mg "_law_go" aC ["_law_cell_here","_law_far"] t.a_Lgo t.d_Lgo
 Lputin:Own K mg "_law_put_in" MW ["_law_cell_here","_law_go_here"] t.a_Lputin t.d_Lputin
 Lmany:Own K mg "_law_many" RE ["_law_cell_here","_law_size"] t.a_Lmany t.d_Lmany
 law:Own K mg "law" ZW ["_law_script"] t.a_law t.d_law
 z_ValueError:mg "ValueError"=none
 z_isinstance:mg "isinstance"=none
 z_len:mg "len"=none
 z_list:mg "list"=none
 z_min:mg "min"=none
 z_range:mg "range"=none
 z_tuple:mg "tuple"=none
 z_zip:mg "zip"=none
 g_MOST_AMOUNT:mg "MOST_AMOUNT"=some t.u_MOST_AMOUNT
 r_MOST_AMOUNT:AY t.v_MOST_AMOUNT t.u_MOST_AMOUNT
 k_MOST_AMOUNT:∀ H,Rp K H D_MOST_AMOUNT t.v_MOST_AMOUNT
 g_MOST_SIZE:mg "MOST_SIZE"=some t.u_MOST_SIZE
 r_MOST_SIZE:AY t.v_MOST_SIZE t.u_MOST_SIZE
 k_MOST_SIZE:∀ H,Rp K H D_MOST_SIZE t.v_MOST_SIZE
 g_MOST_STATEMENTS:mg "MOST_STATEMENTS"=some t.u_MOST_STATEMENTS
 r_MOST_STATEMENTS:AY t.v_MOST_STATEMENTS t.u_MOST_STATEMENTS
 k_MOST_STATEMENTS:∀ H,Rp K H D_MOST_STATEMENTS t.v_MOST_STATEMENTS
 g_SHAPES:mg "SHAPES"=some t.u_SHAPES
 r_SHAPES:AY t.v_SHAPES t.u_SHAPES
 x_SHAPES:KZ K w.params DZ_SHAPES t.u_SHAPES
 mg_NoProgram:mg "NoProgram"=some (.ref t.c_NoProgram)
 x_NoProgram:BY K t.c_HouseError t.c_NoProgram=true
 mg_NoText:mg "NoText"=some (.ref t.c_NoText)
 x_NoText:BY K t.c_HouseError t.c_NoText=true
 mg_NoMark:mg "NoMark"=some (.ref t.c_NoMark)
 x_NoMark:BY K t.c_HouseError t.c_NoMark=true
 mg_TooGreat:mg "TooGreat"=some (.ref t.c_TooGreat)
 x_TooGreat:BY K t.c_HouseError t.c_TooGreat=true
 mg_TooLong:mg "TooLong"=some (.ref t.c_TooLong)
 x_TooLong:BY K t.c_HouseError t.c_TooLong=true
 mg_NotWhole:mg "NotWhole"=some (.ref t.c_NotWhole)
 x_NotWhole:BY K t.c_HouseError t.c_NotWhole=true
 mg_HouseError:mg "HouseError"=some (.ref t.c_HouseError)
 xH:OA K t.c_HouseError=true
 xK:exK K t.c_HouseError [t.c_NoProgram,t.c_NoText,t.c_NoMark,t.c_TooGreat,t.c_TooLong,t.c_NotWhole]=true
 nx:[t.c_NoProgram,t.c_NoText,t.c_NoMark,t.c_TooGreat,t.c_TooLong,t.c_NotWhole].Nodup
section
variable {P:Program} {w:World} {K:PySem.W.Frag} {mg:Str→Option Value} {base:Heap} {t:Adr}
def WR (K:PySem.W.Frag):Sp:=fun vs H Q _=>∃ (a:Addr) (ns:List Int) (k:Int),vs=[.ref a,.int k]∧SqL K H a (ns.map V.int)∧ns.length≤63∧0≤k∧k≤100∧∀ z,Q (.int z) H
theorem WX (T:Txt w K mg t):BR P w K mg base CX0 1 t.a_Lcell t.d_Lcell ["_law_script","_law_k"] (WR K):=by
 refine T.Lcell.F.ok IM (fun vs H Q E h=> ?_) (fun cdv A outer s H vs Q E hr h=> ?_)
 ·obtain ⟨a,ns,k,rfl,_⟩:=h;rfl
 ·obtain ⟨a,ns,k,rfl,hS,hl,k0,k1,q⟩:=h
  have hk:=kk k0 k1
  refine ⟨_,s!"{WK}1A{CF}{T.z_len}{PySem.boot_len}0ACBWT{BA}0A1AJKGSR2{IM.nd}{BK}{BT}{BT}1A1AEDEDEL{PV}{CF}{T.z_len}{PySem.boot_len}0ACBWDT2{IM.nd}{BK}2A{BT}{BJ}{BA}0A{BJ}{BT}1ADE{CF}{T.z_len}{PySem.boot_len}0ACBWEJ{YB}DDEE{BK}D1AEEELGSR{BJ}{BT}2A2AEDEKGHHH",?_⟩
  walk_at "rd"
  refine ⟨_,.inl hS,?_⟩
  walk_at "rd"
  split
  ·rename_i c
   obtain ⟨z,_,hz⟩:=IZ k0 c
   exact ⟨_,hS,_,hz,q z⟩
  ·rename_i c
   refine ⟨DQ (by omega) (by omega),GQ (by decide) (by decide),_,.inl hS,?_⟩
   walk_at "rd"
   split
   ·rename_i d
    refine ⟨GQ (by decide) (by decide),_,.inl hS,?_⟩
    walk_at "rd"
    have hp:(0:Int)<ns.length:=by omega
    obtain ⟨z,_,hz⟩:=IZ (ns:=ns) (Int.emod_nonneg (k * 7) (by omega)) (Int.emod_lt_of_pos (k * 7) hp)
    refine ⟨hp,_,hS,_,hz,?_⟩
    walk_at "rd"
    refine ⟨⟨by decide,by decide,by decide⟩,by decide,GQ (by omega) (by omega),?_⟩
    have h1:=zk k0 k1 (Int.emod_nonneg z (by decide:(10:Int) ^ 40≠0)) (Int.emod_lt_of_pos z (by decide:(0:Int)<10 ^ 40))
    have e40:(10:Int) ^ Int.toNat 40=10 ^ 40:=rfl
    rw [e40]
    generalize z % 10 ^ 40 * (48271+k)=y at h1 ⊢
    refine ⟨PL 200 200 (by omega) (by omega) (by decide),by decide,q _⟩
   ·exact ⟨DQ (by omega) (by omega),by decide,q _⟩
def SV:Sp:=fun vs H Q _=>∃ (c k:Int),vs=[.int c,.int k]∧0≤k∧k≤100∧∀ z,Q (.int z) H
theorem SI (T:Txt w K mg t):BR P w K mg base CX0 1 t.a_Lmixed t.d_Lmixed ["_law_cell_here","_law_k"] SV:=by
 refine T.Lmixed.F.ok FJ (fun vs H Q E h=> ?_) (fun cdv A outer s H vs Q E hr h=> ?_)
 ·obtain ⟨c,k,rfl,_⟩:=h;rfl
 ·obtain ⟨c,k,rfl,k0,k1,q⟩:=h
  have hk:=kk k0 k1
  have md:∀ x:Int,0≤x % 2305843009213693951∧x % 2305843009213693951<2305843009213693951:=fun x=>⟨Int.emod_nonneg x (by decide),Int.emod_lt_of_pos x (by decide)⟩
  refine ⟨_,s!"2{FJ.nd}{BJ}{BK}{BK}0A{BT}{BT}1A1AEDEEDEDEL2{FJ.nd}{BJ}{BT}2A2AEDEL2{FJ.nd}{BJ}{BT}{BK}{BK}2A{BT}1ADEEDEDEDEL{DI}{BJ}{BT}2A2AEDEDEKGHHH",?_⟩
  walk_at "rd"
  refine ⟨DQ (by omega) (by omega),GQ (by decide) (by decide),by decide,?_⟩
  have h1:=md (c+k * k * 40503+12345)
  generalize (c+k * k * 40503+12345) % 2305843009213693951=x1 at h1 ⊢
  refine ⟨DQ (by omega) (by omega),by decide,?_⟩
  have h2:=md (x1 * x1)
  generalize x1 * x1 % 2305843009213693951=x2 at h2 ⊢
  refine ⟨DQ (by omega) (by omega),GQ (by decide) (by decide),by decide,?_⟩
  have h3:=md ((x2+k * 7919+1) * 48271)
  generalize (x2+k * 7919+1) * 48271 % 2305843009213693951=x3 at h3 ⊢
  refine ⟨DQ (by omega) (by omega),by decide,by decide,by decide,q _⟩
def ZA:Sp:=fun vs H Q _=>∃ (c most many:Int),vs=[.int c,.int most,.int many]∧0<most∧most<2 ^ 100∧0≤many∧many≤60∧
 ∀ (l:Addr) (xs:List Int) (H':Hp),AE H H'→H l=none→H' l=some (.lst (xs.map V.int))→xs.length=many.toNat→(∀ x∈xs,0≤x∧x<most)→Q (.ref l) H'
def bB (c m n:Int) (l:Addr) (H:Hp) (i:Nat) (σ:L2.St) (H2:Hp):Prop:=∃ (xs:List Int) (r:Int) (kv:Option V),σ=[some (.int c),some (.int m),some (.int n),some (.ref l),some (.int r),kv]∧H2=upd H l (.lst (xs.map V.int))∧xs.length=i∧∀ x∈xs,0≤x∧x<m
def XY (c m:Int) (p:Addr) (H:Hp) (i:Nat) (σ:L2.St) (H2:Hp):Prop:=∃ (ys:List Int) (kv:Option V),σ=[some (.int m),some (.int c),kv]∧AE H H2∧H2 p=some (.lst (ys.map V.int))∧ys.length=i∧∀ x∈ys,0≤x∧x<m
theorem ZT (T:Txt w K mg t):BR P w K mg base CX0 2 t.a_Lrow t.d_Lrow ["_law_cell_here","_law_most","_law_many_here"] ZA:=by
 refine T.Lrow.F.ok GD (fun vs H Q E h=> ?_) (fun cdv A outer s H vs Q E hr h=> ?_)
 ·obtain ⟨c,m,n,rfl,_⟩:=h;rfl
 ·obtain ⟨c,m,n,rfl,m0,m1,n0,n1,q⟩:=h
  have md:∀ x:Int,0≤x % m∧x % m<m:=fun x=>⟨Int.emod_nonneg x (by omega),Int.emod_lt_of_pos x m0⟩
  refine ⟨_,s!"3{GD.nd}CZL4{GD.nd}0AL{PassesOwn.never}{T.z_range}2ACBp5{GD.nd}Q{PySem.F.slot_list_append}{PySem.F.type_list_append}{EN}3A{BJ}4A1AECBji4{GD.nd}{DI}4A1AELGHf{PV}4ADT3AKGSR{@QU _ _ _ _ _ _ (AJ PK) _ _ _ _ _ (["_law_cell_here", "_law_most", "_law_many_here", "_law_found", "_law_rest", "_law_k"]) (["_law_most", "_law_cell_here", "_law_k"]) (["_law_k"]) ([1, 0]) rfl rfl rfl ⟨by decide +kernel, by decide +kernel, by decide +kernel, by decide +kernel, by decide +kernel, by decide +kernel⟩ s!"{T.z_range}2ACBp" (fun _ _ _ _ => s!"2{show List.Nodup (["_law_most","_law_cell_here","_law_k"]:List Str) by decide+kernel}Q") (fun _ _ _ _ => s!"g") (fun _ _ _ _ => s!"{BJ}{SI T}{hr.mono (by decide)}{T.Lmixed.m}{T.Lmixed.F.kp}{T.Lmixed.b}{DD}1A2ACBBM0AE") (by intro _; rfl)}KGHHHH",?_⟩
  walk_at "rd"
  refine ⟨Nat.zero_le _,fun l hl=>⟨by omega,by omega,?_⟩⟩
  refine GH (bB c m n l H) ⟨[],c,none,rfl,rfl,rfl,by intro x hx;cases hx⟩ ?_ ?_
  ·rintro i σ H2 hi ⟨xs,r,kv,rfl,rfl,hx,hb⟩
   walk_at "rd"
   refine ⟨.inl ⟨_,SqL.of AD⟩,m0,?_⟩
   refine ⟨_,AD,DZ (by rw [List.length_map];omega),m0,m1,xs++[r % m],_,_,rfl,?_,?_,?_⟩
   ·rw [RB,List.map_append];rfl
   ·rw [List.length_append,hx];rfl
   ·intro x h
    rcases List.mem_append.mp h with h | h
    ·exact hb x h
    ·rw [List.mem_singleton.mp h];exact md r
  ·rintro σ H2 ⟨xs,r,kv,rfl,rfl,hx,hb⟩
   walk_at "rd"
   split
   ·exact q l xs _ (AE.upd hl) hl AD hx hb
   ·refine ⟨by omega,by omega,fun p hp=> ?_⟩
    have hne:p≠l:=fun e=>by rw [e,AD] at hp;cases hp
    have hp0:H p=none:=by rw [BE hne] at hp;exact hp
    refine VA (XY c m p H) ⟨[],none,rfl,(AE.upd hl).upd2 hp0,AD,rfl,by intro x hx;cases hx⟩ ?_ ?_
    ·rintro i σ H2 hi ⟨ys,kv,rfl,sm,hy,hlen,hby⟩
     walk_at "rd"
     refine ⟨_,_,rfl,by omega,by omega,fun z=> ?_⟩
     walk_at "rd"
     refine ⟨m0,_,hy,DZ (by rw [List.length_map];omega),nx hi ⟨ys++[z % m],_,rfl,sm.upd2 hp0,?_,?_,?_⟩⟩
     ·rw [AD,List.map_append];rfl
     ·rw [List.length_append,hlen];rfl
     ·intro x h
      rcases List.mem_append.mp h with h | h
      ·exact hby x h
      ·rw [List.mem_singleton.mp h];exact md z
    ·rintro σ H2 ⟨ys,kv,rfl,sm,hy,hlen,hby⟩
     exact q p ys _ sm hp0 hy hlen hby
end
section
variable {κ α:Type} [DecidableEq κ]
def lkA (l:List (κ×α)) (k:κ):Option α:=(l.find? fun z=>decide (z.1=k)).map (·.2)
def As (f:κ→Key) (R:α→V→Prop):List (κ×α)→List (Key×V)→Prop:=Paired fun a b=>b.1=f a.1∧R a.2 b.2
theorem As.any {f:κ→Key} (inj:∀ a b,f a=f b→a=b) {R:α→V→Prop} {k:κ}:∀ {l:List (κ×α)} {kvs:List (Key×V)},As f R l kvs→(kvs.any fun z=>decide (z.1=f k))=(l.any fun z=>decide (z.1=k))
 | _,_,.nil=>rfl
 | (k',x)::l,(j,v)::kvs,.cons ⟨e,r⟩ t=>by
  have e:j=f k':=e
  subst e
  rw [List.any_cons,List.any_cons,As.any inj t]
  have:(f k'=f k)↔(k'=k):=⟨inj _ _,fun z=>by rw [z]⟩
  simp [this]
theorem As.map {f:κ→Key} (inj:∀ a b,f a=f b→a=b) {R:α→V→Prop} {k:κ} {x:α} {v:V} (r:R x v):∀ {l:List (κ×α)} {kvs:List (Key×V)},As f R l kvs→As f R (l.map fun z=>if z.1=k then (z.1,x) else z) (kvs.map fun z=>if z.1=f k then (z.1,v) else z)
 | _,_,.nil=> .nil
 | (k',y)::l,(j,u)::kvs,.cons ⟨e,q⟩ t=>by
  have e:j=f k':=e
  subst e
  refine .cons ?_ (As.map inj r t)
  by_cases h:k'=k
  ·subst h
   simp
   exact r
  ·have h2:¬ f k'=f k:=fun z=>h (inj _ _ z)
   simp [h,h2]
   exact q
theorem As.length {f:κ→Key} {R:α→V→Prop}:∀ {l:List (κ×α)} {kvs:List (Key×V)},As f R l kvs→l.length=kvs.length
 | _,_,.nil=>rfl
 | _::_,_::_,.cons _ t=>congrArg (· +1) (As.length t)
end
inductive Am where
 | int (i:Int) | src (f:Int) (s:Str) (m:Int)
def Am.D:Am→L2.D
 | .int i=> .int i
 | .src f s m=> .tup [.int f,.str s,.int m]
abbrev En:=List (Str×Int)
def Am.val (e:En):Am→Int
 | .int i=>i
 | .src f s m=>f * (lkA e s).getD 0+m
inductive Stm where
 | go (a:Am) | turn (a:Am) | ink (a:Am) | up | down | mark (n:Int) | back (n:Int)
 | again (a:Am) (b:List Stm) | ifs (a:Am) (b c:List Stm) | dow (w:Str) (as:List Am)
mutual
def Stm.D:Stm→L2.D
 | .go a=> .tup [.str "go",a.D]
 | .turn a=> .tup [.str "turn",a.D]
 | .ink a=> .tup [.str "ink",a.D]
 | .up=> .tup [.str "up"]
 | .down=> .tup [.str "down"]
 | .mark n=> .tup [.str "mark",.int n]
 | .back n=> .tup [.str "back",.int n]
 | .again a b=> .tup [.str "again",a.D,.tup (Stm.Ds b)]
 | .ifs a b c=> .tup [.str "if",a.D,.tup (Stm.Ds b),.tup (Stm.Ds c)]
 | .dow w as=> .tup [.str "do",.str w,.tup (as.map Am.D)]
def Stm.Ds:List Stm→List L2.D
 | []=>[]
 | s::r=>s.D::Stm.Ds r
end
theorem BP:∀ l:List Stm,Stm.Ds l=l.map Stm.D
 | []=>by rw [Stm.Ds];rfl
 | s::r=>by rw [Stm.Ds,BP r];rfl
abbrev bD (b:List Stm):L2.D:= .tup (b.map Stm.D)
structure Wd where
 name:Str
 many:Int
 body:List Stm
def Wd.D (x:Wd):L2.D:= .tup [.str x.name,.int x.many,bD x.body]
def pD (ws:List Wd) (body:List Stm):L2.D:= .tup [.tup (ws.map Wd.D),bD body]
def SY (D:Str→Prop):Am→Prop
 | .int _=>True
 | .src f s _=>(-1000000≤f∧f≤1000000)∧D s
mutual
def Stm.Ok (ar:Str→Option Nat) (D:Str→Prop):Stm→Prop
 | .go a=>SY D a
 | .turn a=>SY D a
 | .ink a=>SY D a
 | .up=>True
 | .down=>True
 | .mark n=>0≤n∧n<10
 | .back n=>0≤n∧n<10
 | .again a b=>SY D a∧Stm.Oks ar (fun x=>D x∨x="count") b
 | .ifs a b c=>SY D a∧Stm.Oks ar D b∧Stm.Oks ar D c
 | .dow w as=>(∀ a∈as,SY D a)∧as.length≤4∧ar w=some as.length
def Stm.Oks (ar:Str→Option Nat) (D:Str→Prop):List Stm→Prop
 | []=>True
 | s::r=>s.Ok ar D∧Stm.Oks ar D r
end
section
variable {κ α:Type} [DecidableEq κ]
end
theorem AO {K:PySem.W.Frag} {H:Hp} {d:L2.D} {ds:List L2.D} {v:V} {r:List V} (h1:Rp K H d v) (h2:RpL K H ds r):RpL K H (d::ds) (v::r):=by rw [RpL];exact ⟨_,_,rfl,h1,h2⟩
theorem aG {K:PySem.W.Frag} {H:Hp} {ws:List Wd} {xs:List V} {i:Nat} {x:V} (h:RpL K H (ws.map Wd.D) xs) (hx:xs[i]? =some x):∃ (z:Wd) (p:Addr) (vb:V),ws[i]? =some z∧x= .ref p∧SqT K H p [.str z.name,.int z.many,vb]∧Rp K H (bD z.body) vb:=by
 have hi:i<xs.length:=(List.getElem?_eq_some_iff.mp hx).1
 have hb:i<ws.length:=by rw [h.length,List.length_map] at hi;exact hi
 obtain ⟨v,e,r⟩:=h.at (j:=i) (by rw [List.length_map];exact hb)
 rw [hx] at e;cases e
 rw [List.getD_eq_getElem?_getD,List.getElem?_map,List.getElem?_eq_getElem hb] at r
 have r:Rp K H (ws[i]).D x:=r
 rw [Wd.D,Rp] at r
 obtain ⟨p,ys,rfl,hp,ry⟩:=r
 rw [RpL] at ry
 obtain ⟨y0,r0,rfl,a0,ry⟩:=ry
 rw [RpL] at ry
 obtain ⟨y1,r1,rfl,a1,ry⟩:=ry
 rw [RpL] at ry
 obtain ⟨y2,r2,rfl,a2,ry⟩:=ry
 rw [RpL] at ry
 subst ry
 rw [Rp] at a0;rw [Rp] at a1
 subst a0 a1
 exact ⟨_,p,y2,List.getElem?_eq_getElem hb,rfl,hp,a2⟩
theorem QP {K:PySem.W.Frag} {H:Hp} {body:List Stm} {v:V} (h:Rp K H (bD body) v):∃ a xs,v= .ref a∧SqT K H a xs∧RpL K H (body.map Stm.D) xs∧xs.length=body.length:=by
 rw [Rp] at h
 obtain ⟨a,xs,rfl,hs,hl⟩:=h
 exact ⟨a,xs,rfl,hs,hl,by rw [hl.length,List.length_map]⟩
theorem DO {n:Nat} (h:n≤50000):n<sizeLine:=Nat.lt_of_le_of_lt h (by decide)
theorem EQ {K:PySem.W.Frag} {H:Hp} {x:Str} {v:V} (h:Rp K H (.str x) v):v= .str x:=by rw [Rp] at h;exact h
theorem QG {K:PySem.W.Frag} {H:Hp} {body:List Stm} {xs:List V} {i:Nat} {s:Stm} (h:RpL K H (body.map Stm.D) xs) (hs:body[i]? =some s):∃ x,xs[i]? =some x∧Rp K H s.D x:=by
 have hi:i<body.length:=(List.getElem?_eq_some_iff.mp hs).1
 obtain ⟨v,e,r⟩:=h.at (j:=i) (by rw [List.length_map];exact hi)
 rw [List.getD_eq_getElem?_getD,List.getElem?_map,hs] at r
 exact ⟨v,e,r⟩
mutual
def Stm.dp:Stm→Nat
 | .go _=>0
 | .turn _=>0
 | .ink _=>0
 | .up=>0
 | .down=>0
 | .mark _=>0
 | .back _=>0
 | .again _ b=>Stm.dps b+1
 | .ifs _ b c=>max (Stm.dps b) (Stm.dps c)+1
 | .dow _ _=>0
def Stm.dps:List Stm→Nat
 | []=>0
 | s::r=>max s.dp (Stm.dps r)
end
mutual
def Stm.sz:Stm→Nat
 | .go _=>1
 | .turn _=>1
 | .ink _=>1
 | .up=>1
 | .down=>1
 | .mark _=>1
 | .back _=>1
 | .again _ b=>Stm.szs b+1
 | .ifs _ b c=>Stm.szs b+Stm.szs c+1
 | .dow _ _=>1
def Stm.szs:List Stm→Nat
 | []=>0
 | s::r=>s.sz+Stm.szs r
end
def wsz (ws:List Wd):Nat:=(ws.map fun z=>Stm.szs z.body).sum
def JV:Stm→List (List Stm)
 | .again _ b=>[b]
 | .ifs _ b c=>[b,c]
 | _=>[]
def bdW:Str:="body"
def bds (ks:List Str) (ds:List L2.D):List L2.D:=((ks.zip ds).filter fun z=>decide (z.1=bdW)).map (·.2)
theorem dO (s:Stm):∃ (k:Str) (ks:List Str) (ds:List L2.D),s.D= .tup (.str k::ds)∧lkS DZ_SHAPES k=some (.tup (ks.map L2.D.str))∧bds ks ds=(JV s).map bD∧ks.length=ds.length∧ds.length≤4:=by
 cases s with
 | go a=>exact ⟨"go",["amount"],[a.D],by rw [Stm.D],rfl,rfl,rfl,by simp⟩
 | turn a=>exact ⟨"turn",["amount"],[a.D],by rw [Stm.D],rfl,rfl,rfl,by simp⟩
 | ink a=>exact ⟨"ink",["amount"],[a.D],by rw [Stm.D],rfl,rfl,rfl,by simp⟩
 | up=>exact ⟨"up",[],[],by rw [Stm.D],rfl,rfl,rfl,by simp⟩
 | down=>exact ⟨"down",[],[],by rw [Stm.D],rfl,rfl,rfl,by simp⟩
 | mark n=>exact ⟨"mark",["number"],[.int n],by rw [Stm.D],rfl,rfl,rfl,by simp⟩
 | back n=>exact ⟨"back",["number"],[.int n],by rw [Stm.D],rfl,rfl,rfl,by simp⟩
 | again a b=>exact ⟨"again",["amount","body"],[a.D,bD b],by rw [Stm.D,BP],rfl,rfl,rfl,by simp⟩
 | ifs a b c=>exact ⟨"if",["amount","body","body"],[a.D,bD b,bD c],by rw [Stm.D,BP,BP],rfl,rfl,rfl,by simp⟩
 | dow x as=>exact ⟨"do",["name","amounts"],[.str x,.tup (as.map Am.D)],by rw [Stm.D],rfl,rfl,rfl,by simp⟩
theorem UE {xs:List V} (m:Nat):ID xs (some (m:Int)) none=xs.drop m:=by
 unfold ID
 rw [HT.sIx_none,HT.sIx_nat]
 by_cases h:m≤xs.length
 ·rw [Nat.min_eq_left h,List.take_of_length_le (by rw [List.length_drop];omega)]
 ·rw [Nat.min_eq_right (by omega),Nat.sub_self,List.take_zero,List.drop_of_length_le (by omega)]
section
variable {P:Program} {w:World} {K:PySem.W.Frag} {mg:Str→Option Value} {base:Heap} {t:Adr}
def SD (K:PySem.W.Frag):Sp:=fun vs H Q _=>∃ (v:V) (s:Stm),vs=[v]∧Rp K H s.D v∧∀ (p:Addr) (us:List V) (H':Hp),AE H H'→H p=none→H' p=some (.lst us)→RpL K H' ((JV s).map bD) us→Q (.ref p) H'
def dZ (K:PySem.W.Frag) (p:Addr) (ks:List Str) (ds:List L2.D) (H:Hp) (i:Nat) (σ:L2.St) (H2:Hp):Prop:=∃ (us:List V) (o1 o2:Option V),σ=[o1,o2]∧AE H H2∧H2 p=some (.lst us)∧RpL K H2 (bds (ks.take i) (ds.take i)) us∧us.length≤i
theorem WE {ks:List Str} {ds:List L2.D} {i:Nat} {k:Str} {d:L2.D} (h1:ks[i]? =some k) (h2:ds[i]? =some d):bds (ks.take (i+1)) (ds.take (i+1))=bds (ks.take i) (ds.take i)++if k=bdW then [d] else []:=by
 have l1:=(List.getElem?_eq_some_iff.mp h1).1
 have l2:=(List.getElem?_eq_some_iff.mp h2).1
 unfold bds
 rw [List.take_add_one,List.take_add_one,h1,h2]
 show (((ks.take i++[k]).zip (ds.take i++[d])).filter _).map _=_
 rw [List.zip_append (by rw [List.length_take,List.length_take];omega),List.filter_append,List.map_append]
 congr 1
 by_cases c:k=bdW
 ·rw [if_pos c];simp [c]
 ·rw [if_neg c];simp [c]
theorem NW (T:Txt w K mg t):BR P w K mg base CX0 1 t.a_bodiesof t.d_bodiesof ["statement"] (SD K):=by
 refine T.bodiesof.F.ok IA (fun vs H Q E h=> ?_) (fun cdv A outer s H vs Q E hr h=> ?_)
 ·obtain ⟨v,s,rfl,_⟩:=h;rfl
 ·obtain ⟨v,s1,rfl,rv,q⟩:=h
  obtain ⟨k,ks,ds,eD,lk,bk,ll,l4⟩:=dO s1
  rw [eD] at rv
  obtain ⟨p0,xs,rfl,h0,rx⟩:=BF.mp rv
  rw [RpL] at rx
  obtain ⟨x0,xs,rfl,e0,rx⟩:=rx
  cases EQ e0
  refine ⟨_,s!"1{IA.nd}{dI (K := K) (w := w) rfl rfl T.x_SHAPES T.r_SHAPES (by decide +kernel) s!"_{T.g_SHAPES}{T.r_SHAPES}X" s!"{BN}0ADJ" (fun _ _ => rfl)}L{@QU _ _ _ _ _ _ (AJ FX) _ _ _ _ _ (["statement", "shape"]) (["kind", "part"]) (["kind", "part"]) ([]) rfl rfl rfl ⟨by decide +kernel, by decide +kernel, by decide +kernel, by decide +kernel, by decide +kernel, by decide +kernel⟩ (YL (by rfl) T.z_zip s!"1A0ADa{@RL _}kCBB") (fun _ _ _ _ => (@QL _ (K) _ _ _ _ (2) rfl rfl s!"0{show List.Nodup (["kind","part"]:List Str) by decide+kernel}Q1{show List.Nodup (["kind","part"]:List Str) by decide+kernel}QcVV" (by rfl) (by rfl))) (fun _ _ _ _ => (@VT _ _ _ s!"{CI}0ANT")) (fun _ _ _ _ => s!"1A") (by intro _; rfl)}KGH",?_⟩
  walk_at "ro"
  refine ⟨_,h0,_,AS (j:=0) rfl,_,rfl,_,lk,fun u ru=>⟨_,h0,fun p H1 s1 h1=> ?_⟩⟩
  rw [show ID (V.str k::xs) (some 1) none=xs from UE 1] at h1
  obtain ⟨pa,ys,rfl,ha,ry⟩:=BF.mp ru
  have lx:=rx.length
  have ly:=ry.length
  rw [List.length_map] at ly
  dsimp only
  refine ⟨⟨_,s1.tup ha⟩,⟨_,h1⟩,fun p2 hp2=> ?_⟩
  have u2:=AE.upd (o:= .lst []) hp2
  have sH:=s1.trans u2
  have emin:min ys.length xs.length=ds.length:=by omega
  refine XS (xs:=ys) (ys:=xs) (dZ K p2 ks ds H1) ⟨[],none,none,rfl,u2,AD,RpL.nil,Nat.zero_le _⟩ (fun i σ H2 _ z=>by obtain ⟨_,_,_,rfl,s3,_⟩:=z;exact ⟨s3.tup (s1.tup ha),s3.tup h1⟩) ?_ ?_
  ·rintro i qa x y σ H2 hx hy ⟨us,o1,o2,rfl,s3,h3,r3,l3⟩ hqa
   have hi:i<min ys.length xs.length:=by
    have:=(List.getElem?_eq_some_iff.mp hx).1
    have:=(List.getElem?_eq_some_iff.mp hy).1
    omega
   have hik:i<ks.length:=by omega
   have hid:i<ds.length:=by omega
   have hk:ks[i]? =some ks[i]:=List.getElem?_eq_getElem hik
   have hd:ds[i]? =some ds[i]:=List.getElem?_eq_getElem hid
   have ex:x= .str ks[i]:=by
    obtain ⟨v,e,r⟩:=ry.at (j:=i) (by rw [List.length_map];exact hik)
    rw [hx] at e;cases e
    rw [List.getD_eq_getElem?_getD,List.getElem?_map,hk] at r
    exact EQ r
   have rd:Rp K H ds[i] y:=by
    obtain ⟨v,e,r⟩:=rx.at (j:=i) hid
    rw [hy] at e;cases e
    rw [List.getD_eq_getElem?_getD,hd] at r
    exact r
   subst ex
   have u4:=AE.upd (o:= .tup [.str ks[i],y]) hqa
   have h4:=u4 _ _ h3
   have bn:=WE hk hd
   walk_at "ro"
   refine ⟨_,SqT.of AD,rfl,?_⟩
   walk_at "ro"
   by_cases c:ks[i]=bdW
   ·rw [if_pos (show ks[i]=Str.ofString "body" from c)]
    have t5:BO (upd H2 qa (.tup [.str ks[i],y])) (upd (upd H2 qa (.tup [.str ks[i],y])) p2 (.lst (us++[y]))):=(BO.refl _).upd (HK h4)
    refine ⟨us,h4,DO (by omega),nx hi ⟨us++[y],_,_,rfl,(s3.trans u4).upd2 hp2,AD,?_,by simp;omega⟩⟩
    rw [bn,if_pos c]
    exact RpL.t t5 ((r3.same u4).app (RpL.one ((((rd.same s1).same s3).same u4))))
   ·rw [if_neg (show ¬ ks[i]=Str.ofString "body" from c)]
    refine nx hi ⟨us,_,_,rfl,s3.trans u4,h4,?_,by omega⟩
    rw [bn,if_neg c,List.append_nil]
    exact r3.same u4
  ·rintro σ H2 ⟨us,o1,o2,rfl,s3,h3,r3,l3⟩
   rw [emin,List.take_of_length_le (by omega),List.take_of_length_le (Nat.le_refl _),bk] at r3
   exact q p2 us H2 (s1.trans s3) (by cases e:H p2 with | none=>rfl | some o=>rw [s1 _ _ e] at hp2;cases hp2) h3 r3
def zW (wb:List (List Stm)):Nat:=(wb.map Stm.szs).sum
def mW (wb:List (List Stm)):Nat:=(wb.map fun b=>1+2 * Stm.szs b).sum
theorem MH (a b:List (List Stm)):zW (a++b)=zW a+zW b:=by unfold zW;rw [List.map_append,List.sum_append]
theorem MD (a b:List (List Stm)):mW (a++b)=mW a+mW b:=by unfold mW;rw [List.map_append,List.sum_append]
theorem LQ:∀ a:List (List Stm),a.length≤mW a
 | []=>Nat.zero_le _
 | b::a=>by have:=LQ a;unfold mW at this ⊢;rw [List.map_cons,List.sum_cons,List.length_cons];omega
def DP (l:List Stm):List (List Stm):=l.flatMap JV
theorem aL (s:Stm):s.sz=1+zW (JV s):=by
 cases s<;> simp only [Stm.sz,JV,zW,List.map_cons,List.map_nil,List.sum_cons,List.sum_nil]<;> omega
theorem aQ (s:Stm):mW (JV s)≤2 * s.sz:=by
 cases s<;> simp only [Stm.sz,JV,mW,List.map_cons,List.map_nil,List.sum_cons,List.sum_nil]<;> omega
theorem QI:∀ l:List Stm,Stm.szs l=l.length+zW (DP l)
 | []=>by simp [Stm.szs,DP,zW]
 | s::l=>by
  have:=QI l
  have:=aL s
  rw [Stm.szs,DP,List.flatMap_cons,MH,List.length_cons]
  show s.sz+Stm.szs l=l.length+1+(zW (JV s)+zW (DP l))
  omega
theorem IL:∀ l:List Stm,mW (DP l)≤2 * Stm.szs l
 | []=>by simp [DP,mW]
 | s::l=>by
  have:=IL l
  have:=aQ s
  rw [Stm.szs,DP,List.flatMap_cons,MD]
  show mW (JV s)+mW (DP l)≤_
  omega
theorem RQ (l:List Stm):(DP l).length≤2 * Stm.szs l:=Nat.le_trans (LQ _) (IL l)
theorem MP:∀ (l:List Stm) (i:Nat),Stm.szs (l.take i)≤Stm.szs l
 | [],i=>by simp
 | s::l,0=>by simp [Stm.szs]
 | s::l,i+1=>by rw [List.take_succ_cons,Stm.szs,Stm.szs];have:=MP l i;omega
theorem WO (s:Stm):(JV s).length≤2:=by cases s<;> simp [JV]
theorem NT {K:PySem.W.Frag} {H:Hp} {d:L2.D}:∀ {ds:List L2.D} {us:List V},RpL K H (ds++[d]) us→∃ us' y,us=us'++[y]∧RpL K H ds us'∧Rp K H d y
 | [],us,h=>by
  rw [List.nil_append,RpL] at h
  obtain ⟨v,r,rfl,h1,h2⟩:=h
  rw [RpL] at h2
  subst h2
  exact ⟨[],v,rfl,RpL.nil,h1⟩
 | e::ds,us,h=>by
  rw [List.cons_append,RpL] at h
  obtain ⟨v,r,rfl,h1,h2⟩:=h
  obtain ⟨us',y,rfl,h3,h4⟩:=NT h2
  exact ⟨v::us',y,rfl,AO h1 h3,h4⟩
theorem XN {c:TT} {tb:TS} {D:DW} {σ:L2.St} {H:Hp} (Pv:Nat→L2.St→Hp→Prop) {m0:Nat} (h0:Pv m0 σ H)
  (hs:∀ m σ H,Pv m σ H→c σ H fun b H1=>if b=true then ∃ N:L2.St→Hp→Prop,(∀ σ' H',N σ' H'→∃ m',m'<m∧Pv m' σ' H')∧tb { D with nx:=N,ct:=N,bk:=D.nx } σ H1 else D.nx σ H1):VF c tb D σ H:=
 ⟨Pv,⟨m0,h0⟩,hs⟩
def XW (K:PySem.W.Frag):Sp:=fun vs H Q _=>∃ (v:V) (ws:List Wd) (body:List Stm),vs=[v]∧Rp K H (pD ws body) v∧ws.length≤10∧wsz ws+Stm.szs body≤4000∧∀ (H':Hp),AE H H'→Q (.int ((wsz ws+Stm.szs body:Nat):Int)) H'
def dF (K:PySem.W.Frag) (p:Addr) (ws:List Wd) (H:Hp) (i:Nat) (σ:L2.St) (H2:Hp):Prop:=∃ (us:List V) (o1:Option V),σ=[o1]∧AE H H2∧H2 p=some (.lst us)∧RpL K H2 (((ws.take i).map (·.body)).map bD) us
def aA (K:PySem.W.Frag) (v0 v1 v2:V) (lw:Addr) (tot:Nat) (H:Hp) (m:Nat) (σ:L2.St) (H2:Hp):Prop:=∃ (wb:List (List Stm)) (us:List V) (sz:Nat) (o5 o6:Option V),σ=[some v0,some v1,some v2,some (.ref lw),some (.int sz),o5,o6]∧AE H H2∧H2 lw=some (.lst us)∧RpL K H2 (wb.map bD) us∧sz+zW wb=tot∧m=mW wb∧m≤20000
def eH (K:PySem.W.Frag) (v0 v1 v2:V) (lw:Addr) (sz:Int) (v5:V) (CH:List (List Stm)) (b:List Stm) (H H6:Hp) (i:Nat) (σ:L2.St) (H2:Hp):Prop:=∃ (us:List V) (o6:Option V),σ=[some v0,some v1,some v2,some (.ref lw),some (.int sz),some v5,o6]∧AE H H2∧BO H6 H2∧H2 lw=some (.lst us)∧RpL K H2 ((CH++DP (b.take i)).map bD) us
theorem SO (T:Txt w K mg t):BR P w K mg base CX0 2 t.a_sizeof t.d_sizeof ["program"] (XW K):=by
 refine T.sizeof.F.ok CJ (fun vs H Q E h=> ?_) (fun cdv A outer s H vs Q E hr h=> ?_)
 ·obtain ⟨v,ws,body,rfl,_⟩:=h;rfl
 ·obtain ⟨v,ws,body,rfl,rv,hw,hz,q⟩:=h
  obtain ⟨p0,vw,vb,rfl,h0,rw,rb⟩:=BM.mp rv
  obtain ⟨pw,xw,rfl,hpw,rxw⟩:=BF.mp rw
  refine ⟨_,s!"0A1{CJ.nd}Q2{CJ.nd}QcVVml{@QJ _ _ _ _ _ _ (AJ IR) _ _ _ _ (3) _ _ _ _ (["program", "words", "body", "waiting", "size", "part", "statement"]) (["word"]) (["word"]) ([]) CJ.nd rfl (Or.inl rfl) rfl rfl rfl ⟨by decide +kernel, by decide +kernel, by decide +kernel, by decide +kernel, by decide +kernel, by decide +kernel⟩ s!"1An" (fun _ _ _ _ => s!"0{show List.Nodup (["word"]:List Str) by decide+kernel}Q") (fun _ _ _ _ => s!"g") (fun _ _ _ _ => s!"{JQ (K:=K) rfl}0ADJ") (by intro _; rfl) (by rfl) (by first | exact .inl rfl | exact .inr rfl | assumption)}{PySem.F.slot_list_append}{PySem.F.type_list_append}{EN}3A2ACBji4{CJ.nd}DL{@TY _ _ _ _ _ _ PassesOwn.never (@UH _ _ _ s!"3A" (fun _ => rfl)) s!"5{CJ.nd}{@cA _ _ _ _ _ _ _ _ _ PySem.F.plainAttrs_list PySem.F.slot_list_pop PySem.F.type_list_pop cP s!"3A" (by rfl) (by rfl)}L{@dA _ _ (4) _ _ _ _ _ _ CJ.nd rfl (Or.inl rfl) s!"{CF}{T.z_len}{PySem.boot_len}5ACBW" bQ (by first | exact .inl rfl | exact .inr rfl | assumption)}{PassesOwn.never}5An6{CJ.nd}Q{PySem.F.slot_list_extend}{PySem.F.type_list_extend}{SF}3A{NW T}{hr.mono (by decide)}{T.bodiesof.m}{T.bodiesof.F.kp}{T.bodiesof.b}{DD}6ACBMCBjiGfGHH"}4AKGHHHHH",?_⟩
  walk_at "ro"
  refine ⟨_,h0,rfl,?_⟩
  walk_at "ro"
  refine ⟨⟨_,hpw⟩,fun lw hlw=> ?_⟩
  have u1:=AE.upd (o:= .lst []) hlw
  refine LX (xs:=xw) (dF K lw ws H) ⟨[],none,rfl,u1,AD,RpL.nil⟩ (fun i σ H2 _ z=>by obtain ⟨_,_,rfl,s2,_⟩:=z;exact s2.tup hpw) ?_ ?_
  ·rintro i x σ H2 hx ⟨us,o1,rfl,s2,h2,r2⟩
   have hi:=(List.getElem?_eq_some_iff.mp hx).1
   obtain ⟨z,pz,vz,ez,rfl,hz1,rz⟩:=aG (rxw.same s2) hx
   have lus:us.length≤50000:=by rw [r2.length,List.length_map,List.length_map,List.length_take];omega
   walk_at "ro"
   refine ⟨_,hz1,_,rfl,?_⟩
   have t3:BO H2 (upd H2 lw (.lst (us++[vz]))):=(BO.refl _).upd (HK h2)
   refine ⟨us,h2,DO lus,nx hi ⟨us++[vz],_,rfl,s2.upd2 hlw,AD,?_⟩⟩
   rw [List.take_add_one,ez,List.map_append,List.map_append]
   exact RpL.t t3 (r2.app (RpL.one rz))
  ·rintro σ H2 ⟨us,o1,rfl,s2,h2,r2⟩
   have lw1:xw.length=ws.length:=by rw [rxw.length,List.length_map]
   rw [lw1,List.take_length] at r2
   walk_at "ro"
   have lus:us.length≤50000:=by rw [r2.length,List.length_map,List.length_map];omega
   refine ⟨.inl ⟨_,SqL.of h2⟩,us,h2,DO lus,?_⟩
   have t3:BO H2 (upd H2 lw (.lst (us++[vb]))):=(BO.refl _).upd (HK h2)
   have r3:RpL K (upd H2 lw (.lst (us++[vb]))) ((ws.map (·.body)++[body]).map bD) (us++[vb]):=by
    rw [List.map_append]
    exact RpL.t t3 (r2.app (RpL.one (rb.same s2)))
   have s3:=s2.upd2 (o:= .lst (us++[vb])) hlw
   have z0:zW (ws.map (·.body)++[body])=wsz ws+Stm.szs body:=by
    rw [MH]
    unfold zW wsz
    rw [List.map_map]
    simp [Function.comp_def]
   have m0:mW (ws.map (·.body)++[body])≤20000:=by
    have key:∀ l:List (List Stm),mW l=l.length+2 * zW l:=by
     intro l
     induction l with
     | nil=>rfl
     | cons b l ih=>
      unfold mW zW at ih ⊢
      rw [List.map_cons,List.map_cons,List.sum_cons,List.sum_cons,List.length_cons]
      omega
    rw [key,z0,List.length_append,List.length_map]
    simp only [List.length_cons,List.length_nil]
    omega
   have h3:upd H2 lw (.lst (us++[vb])) lw=some (.lst (us++[vb])):=AD
   generalize upd H2 lw (.lst (us++[vb]))=H3 at r3 s3 h3 ⊢
   clear t3 r2 h2 s2 lus u1
   refine XN (aA K (.ref p0) (.ref pw) vb lw (wsz ws+Stm.szs body) H) ⟨_,_,0,none,none,rfl,s3,h3,r3,by omega,rfl,m0⟩ ?_
   rintro m σ H4 ⟨wb,us,sz,o5,o6,rfl,s4,h4,r4,ez,rfl,em⟩
   walk_at "ro"
   have lus:us.length≤20000:=by rw [r4.length,List.length_map];have:=LQ wb;omega
   refine ⟨!us.isEmpty,.inl ⟨us,SqL.of h4,rfl⟩,?_⟩
   rcases List.eq_nil_or_concat wb with rfl | ⟨CH,b,rfl⟩
   ·have:us=[]:=by rw [List.map_nil,RpL] at r4;exact r4
    subst this
    rw [if_neg (by decide)]
    have:sz=wsz ws+Stm.szs body:=by rw [← ez];rfl
    rw [this]
    exact q H4 s4
   ·rw [List.concat_eq_append] at r4 ez em ⊢
    rw [List.map_append] at r4
    obtain ⟨us',y,rfl,r5,ry⟩:=NT r4
    rw [if_pos (by simp)]
    obtain ⟨py,xy,rfl,hy,rxy,lxy⟩:=QP ry
    rw [MH] at ez
    rw [MD] at em ⊢
    have zb:zW [b]=Stm.szs b:=by unfold zW;simp
    have mb:mW [b]=1+2 * Stm.szs b:=by unfold mW;simp
    refine ⟨fun σ' H'=>aA K (.ref p0) (.ref pw) vb lw (wsz ws+Stm.szs body) H (mW (CH++DP b)) σ' H',?_,?_⟩
    ·intro σ' H' h
     refine ⟨_,?_,h⟩
     rw [MD]
     have:=IL b
     omega
    refine ⟨.inl ⟨_,SqL.of h4⟩,us'++[.ref py],h4,.ref py,by simp,?_⟩
    rw [List.dropLast_concat]
    have t6:BO H4 (upd H4 lw (.lst us')):=(BO.refl _).upd (HK h4)
    have hy6:=t6.tup hy
    have r6:=RpL.t t6 r5
    have ry6:=RpL.t t6 rxy
    have s6:AE H (upd H4 lw (.lst us')):=s4.upd2 hlw
    have h6:upd H4 lw (.lst us') lw=some (.lst us'):=AD
    generalize upd H4 lw (.lst us')=H6 at hy6 r6 ry6 s6 h6 ⊢
    clear t6 r5 ry rxy hy h4 r4 s4
    walk_at "ro"
    refine ⟨xy,.inr hy6,⟨_,hy6⟩,?_⟩
    refine aJ (xs:=xy) (eH K (.ref p0) (.ref pw) vb lw (sz+xy.length) (.ref py) CH b H H6) ⟨us',o6,rfl,s6,BO.refl _,h6,by simpa [DP] using r6⟩ (fun i σ H7 _ z=>by obtain ⟨_,_,rfl,_,s7,_⟩:=z;exact s7.tup hy6) ?_ ?_
    ·rintro i x σ H7 hx ⟨us,o6,rfl,s7,t7,h7,r7⟩
     have hi:=(List.getElem?_eq_some_iff.mp hx).1
     have hb:b[i]? =some b[i]:=List.getElem?_eq_getElem (by omega)
     obtain ⟨x',ex,rx⟩:=QG (RpL.t t7 ry6) hb
     rw [hx] at ex;cases ex
     have lu7:us.length≤40000:=by
      rw [r7.length,List.length_map,List.length_append]
      have:=LQ CH
      have:=RQ (b.take i)
      have:=MP b i
      omega
     walk_at "ro"
     refine ⟨.inl ⟨_,SqL.of h7⟩,x,b[i],rfl,rx,fun p8 us8 H8 s8 hp8 h8 r8=> ?_⟩
     have h78:=s8 _ _ h7
     have lu8:us8.length≤2:=by rw [r8.length,List.length_map];exact WO _
     have t9:BO H8 (upd H8 lw (.lst (us++us8))):=(BO.refl _).upd (HK h78)
     refine ⟨p8,rfl,us,h78,us8,h8,Nat.le_of_lt (DO (by omega)),us++us8,_,rfl,(s7.trans s8).upd2 hlw,(t7.trans s8.t).trans t9,AD,?_⟩
     rw [List.take_add_one,hb]
     show RpL K _ ((CH++DP (b.take i++[b[i]])).map bD) _
     rw [DP,List.flatMap_append,List.flatMap_singleton,← List.append_assoc,List.map_append]
     exact RpL.t t9 ((r7.same s8).app r8)
    ·rintro σ H7 ⟨us,o6,rfl,s7,t7,h7,r7⟩
     rw [lxy,List.take_length] at r7
     have kz:=QI b
     have km:=IL b
     refine ⟨_,us,sz+b.length,_,_,by rw [lxy];rfl,s7,h7,r7,by rw [MH];omega,rfl,by rw [MD];omega⟩
end
inductive Tr where
 | one (d:List L2.D)
 | rep (n:Nat) (b:List Tr)
mutual
def exS:Tr→List (List L2.D)
 | .one d=>[d]
 | .rep n b=>(List.replicate n (exL b)).flatten
def exL:List Tr→List (List L2.D)
 | []=>[]
 | t::ts=>exS t++exL ts
end
mutual
def szS:Tr→Nat
 | .one _=>1
 | .rep _ b=>1+szL b
def szL:List Tr→Nat
 | []=>0
 | t::ts=>szS t+szL ts
end
mutual
def dpS:Tr→Nat
 | .one _=>0
 | .rep _ b=>1+dpL b
def dpL:List Tr→Nat
 | []=>0
 | t::ts=>max (dpS t) (dpL ts)
end
def FB (d:List L2.D):Prop:=d=[.str "up"]∨d=[.str "down"]∨∃ i:Int,(-1000000≤i∧i≤1000000)∧(d=[.str "go",.int i]∨d=[.str "turn",.int i]∨d=[.str "ink",.int i])
mutual
def gdS:Tr→Prop
 | .one d=>FB d
 | .rep n b=>2≤n∧n≤60∧gdL b
def gdL:List Tr→Prop
 | []=>True
 | t::ts=>gdS t∧gdL ts
end
mutual
def fuS:Tr→Prop
 | .one _=>True
 | .rep n b=>2≤n∧exL b≠[]∧fuL b
def fuL:List Tr→Prop
 | []=>True
 | t::ts=>fuS t∧fuL ts
end
mutual
def enS:Tr→L2.D
 | .one d=> .tup d
 | .rep n b=> .tup [.str "again",.int n,.tup (enL b)]
def enL:List Tr→List L2.D
 | []=>[]
 | t::ts=>enS t::enL ts
end
theorem QM:∀ (a b:List Tr),exL (a++b)=exL a++exL b
 | [],b=>by simp [exL]
 | t::ts,b=>by rw [List.cons_append,exL,exL,QM ts b,List.append_assoc]
theorem QK:∀ (a b:List Tr),szL (a++b)=szL a+szL b
 | [],b=>by simp [szL]
 | t::ts,b=>by rw [List.cons_append,szL,szL,QK ts b,Nat.add_assoc]
theorem QO:∀ (a b:List Tr),enL (a++b)=enL a++enL b
 | [],b=>by simp [enL]
 | t::ts,b=>by rw [List.cons_append,enL,enL,QO ts b,List.cons_append]
theorem QX:∀ (a b:List Tr),gdL a→gdL b→gdL (a++b)
 | [],b,_,h=>h
 | t::ts,b,ha,h=>by rw [List.cons_append,gdL];rw [gdL] at ha;exact ⟨ha.1,QX ts b ha.2 h⟩
theorem RD:∀ (a b:List Tr),fuL a→fuL b→fuL (a++b)
 | [],b,_,h=>h
 | t::ts,b,ha,h=>by rw [List.cons_append,fuL];rw [fuL] at ha;exact ⟨ha.1,RD ts b ha.2 h⟩
theorem FV:∀ (a:List Tr),(enL a).length=a.length
 | []=>by simp [enL]
 | t::ts=>by rw [enL,List.length_cons,List.length_cons,FV ts]
theorem IK (t:Tr):1≤szS t:=by cases t<;> simp [szS]
theorem XO (t:Tr):szL [t]=szS t:=by simp [szL]
theorem QZ (t:Tr):exL [t]=exS t:=by simp [exL]
theorem GV {α:Type} (u:List α):∀ n:Nat,(List.replicate n u).flatten.length=n * u.length
 | 0=>by simp
 | n+1=>by rw [List.replicate_succ,List.flatten_cons,List.length_append,GV u n,Nat.add_mul,Nat.one_mul,Nat.add_comm]
def sl (S:List (List L2.D)) (i j:Nat):List (List L2.D):=(S.drop i).take (j - i)
theorem DV {S:List (List L2.D)} {i j:Nat} (hj:j≤S.length):(sl S i j).length=j - i:=by
 unfold sl;rw [List.length_take,List.length_drop];omega
theorem GG {S:List (List L2.D)} {i m j:Nat} (h1:i≤m) (h2:m≤j):sl S i j=sl S i m++sl S m j:=by
 unfold sl
 have e:j - i=(m - i)+(j - m):=by omega
 rw [e,List.take_add,List.drop_drop]
 congr 3
 omega
theorem MS {S u v:List (List L2.D)} {i j:Nat} (hij:i≤j) (hj:j≤S.length) (h:u++v=sl S i j):u=sl S i (i+u.length)∧v=sl S (i+u.length) j∧i+u.length≤j:=by
 have hl:u.length+v.length=j - i:=by rw [← DV hj,← h,List.length_append]
 have hle:i+u.length≤j:=by omega
 have:=GG (S:=S) (i:=i) (m:=i+u.length) (j:=j) (by omega) hle
 rw [this] at h
 have:=List.append_inj h (by rw [DV (by omega)];omega)
 exact ⟨this.1,this.2,hle⟩
theorem NL {α:Type} {q:Nat} (hq:0<q):∀ (k:Nat) (W:List α),W.length=k * q→W.take (W.length - q)=W.drop q→W=(List.replicate k (W.take q)).flatten
 | 0,W,hl,_=>by
  have:W=[]:=List.length_eq_zero_iff.mp (by omega)
  subst this;simp
 | 1,W,hl,_=>by
  rw [List.replicate_succ,List.replicate_zero,List.flatten_cons,List.flatten_nil,List.append_nil,List.take_of_length_le (by omega)]
 | k+2,W,hl,h=>by
  have hl':W.length=q+(k+1) * q:=by rw [hl,show k+2=(k+1)+1 from rfl,Nat.add_mul,Nat.one_mul,Nat.add_comm]
  have hd:(W.drop q).length=(k+1) * q:=by rw [List.length_drop];omega
  have hk:q≤(k+1) * q:=Nat.le_mul_of_pos_left q (by omega)
  have ht:(W.drop q).take q=W.take q:=by
   rw [← h,List.take_take,Nat.min_eq_left (by omega)]
  have ih:=NL hq (k+1) (W.drop q) hd (by
   rw [hd]
   have e1:(W.drop q).take ((k+1) * q - q)=(W.take (W.length - q)).take ((k+1) * q - q):=by rw [h]
   have e2:(W.drop q).drop q=(W.take (W.length - q)).drop q:=by rw [h]
   rw [e2,List.drop_take]
   congr 1
   omega)
  rw [ht] at ih
  rw [List.replicate_succ,List.flatten_cons,← ih,List.take_append_drop]
theorem QE {α:Type} (u:List α):∀ n:Nat,1≤n→((List.replicate n u).flatten).take ((List.replicate n u).flatten.length - u.length)=((List.replicate n u).flatten).drop u.length
 | 0,h=>by omega
 | n+1,_=>by
  have e1:(List.replicate (n+1) u).flatten.length - u.length=n * u.length:=by rw [GV,Nat.add_mul,Nat.one_mul];omega
  have e2:(List.replicate (n+1) u).flatten=u++(List.replicate n u).flatten:=by rw [List.replicate_succ,List.flatten_cons]
  have e3:(List.replicate (n+1) u).flatten=(List.replicate n u).flatten++u:=by rw [List.replicate_succ',List.flatten_append,List.flatten_cons,List.flatten_nil,List.append_nil]
  rw [e1]
  conv=>rhs;rw [e2,List.drop_left]
  rw [e3,List.take_left' (GV u n)]
structure CZ (S:List (List L2.D)) (i j:Nat) (z:Nat) (b:List Tr):Prop where
 ex:exL b=sl S i j
 sz:szL b=z
 gd:gdL b
 fu:fuL b
 least:∀ c:List Tr,exL c=sl S i j→z≤szL c
theorem YR {S:List (List L2.D)} {i j z:Nat} (hij:i+2≤j) (hj:j≤S.length)
  (h1:∀ m z1 b1 z2 b2,i<m→m<j→CZ S i m z1 b1→CZ S m j z2 b2→z≤z1+z2)
  (h2:∀ q z1 b1,1≤q→q≤(j - i) / 2→(j - i) % q=0→sl S i (j - q)=sl S (i+q) j→CZ S i (i+q) z1 b1→z≤z1+1)
  (h3:∀ i' j',i≤i'→i'<j'→j'≤j→j' - i'<j - i→∃ z' b',CZ S i' j' z' b'):∀ c:List Tr,exL c=sl S i j→z≤szL c:=by
 have key:∀ n (c:List Tr),szL c≤n→exL c=sl S i j→z≤szL c:=by
  intro n
  induction n with
  | zero=>
   intro c hc e
   cases c with
   | nil=>
    have:=DV (S:=S) (i:=i) hj
    rw [← e,exL,List.length_nil] at this
    omega
   | cons t ts=>rw [szL] at hc;have:=IK t;omega
  | succ n ih=>
   intro c hc e
   cases c with
   | nil=>
    have:=DV (S:=S) (i:=i) hj
    rw [← e,exL,List.length_nil] at this
    omega
   | cons t ts=>
    rw [szL] at hc ⊢
    rw [exL] at e
    have hp:=IK t
    obtain ⟨e1,e2,e3⟩:=MS (by omega) hj e
    by_cases k0:(exS t).length=0
    ·have:exS t=[]:=List.length_eq_zero_iff.mp k0
     rw [this,List.nil_append] at e
     have:=ih ts (by omega) e
     omega
    by_cases k1:i+(exS t).length<j
    ·obtain ⟨z1,b1,B1⟩:=h3 i (i+(exS t).length) (Nat.le_refl _) (by omega) (by omega) (by omega)
     obtain ⟨z2,b2,B2⟩:=h3 (i+(exS t).length) j (by omega) k1 (Nat.le_refl _) (by omega)
     have a1:=B1.least [t] (by rw [QZ];exact e1)
     have a2:=B2.least ts e2
     rw [XO] at a1
     have:=h1 _ z1 b1 z2 b2 (by omega) k1 B1 B2
     omega
    ·have ej:i+(exS t).length=j:=by omega
     have ew:exS t=sl S i j:=by rw [ej] at e1;exact e1
     cases t with
     | one d=>rw [exS,List.length_singleton] at ej;omega
     | rep m b=>
      rw [szS] at hc ⊢
      rw [exS] at ew ej
      have hl:m * (exL b).length=j - i:=by rw [GV] at ej;omega
      have hm0:m≠0:=by rintro rfl;simp at hl;omega
      have hb0:(exL b).length≠0:=by intro h;rw [h] at hl;simp at hl;omega
      by_cases hm1:m=1
      ·subst hm1
       have e4:exL b=sl S i j:=by rw [← ew];simp
       have:=ih b (by omega) e4
       omega
      ·have e5:(List.replicate m (exL b)).flatten=exL b++(List.replicate (m - 1) (exL b)).flatten:=by
        obtain ⟨m',rfl⟩:∃ m',m=m'+1:=⟨m - 1,by omega⟩
        rw [List.replicate_succ,List.flatten_cons];rfl
       rw [e5] at ew
       obtain ⟨f1,f2,f3⟩:=MS (by omega) hj ew
       have hq2:2 * (exL b).length≤j - i:=by rw [← hl];exact Nat.mul_le_mul_right _ (by omega)
       obtain ⟨z1,b1,B1⟩:=h3 i (i+(exL b).length) (Nat.le_refl _) (by omega) f3 (by omega)
       have a1:=B1.least b f1
       have per:=QE (exL b) m (by omega)
       rw [e5,ew,DV hj] at per
       have p1:(sl S i j).take (j - i - (exL b).length)=sl S i (j - (exL b).length):=by
        unfold sl;rw [List.take_take];congr 1;omega
       have p2:(sl S i j).drop (exL b).length=sl S (i+(exL b).length) j:=by
        rw [← ew,List.drop_left];exact f2
       rw [p1,p2] at per
       have:=h2 (exL b).length z1 b1 (by omega) (by omega) (by rw [← hl];exact Nat.mul_mod_left _ _) per B1
       omega
 exact fun c e=>key (szL c) c (Nat.le_refl _) e
theorem UR {S:List (List L2.D)} {i:Nat} {d:List L2.D} (hd:S[i]? =some d) (ok:FB d):CZ S i (i+1) 1 [.one d]:=by
 have hi:=(List.getElem?_eq_some_iff.mp hd).1
 have es:sl S i (i+1)=[d]:=by
  unfold sl
  rw [show i+1 - i=1 by omega,List.drop_eq_getElem_cons hi,List.take_succ_cons,List.take_zero]
  rw [List.getElem?_eq_getElem hi] at hd
  rw [Option.some.inj hd]
 refine ⟨by rw [es];simp [exL,exS],by simp [szL,szS],by simp [gdL,gdS,ok],by simp [fuL,fuS],fun c e=> ?_⟩
 cases c with
 | nil=>rw [es,exL] at e;cases e
 | cons t ts=>rw [szL];have:=IK t;omega
theorem UO (S:List (List L2.D)):CZ S 0 0 0 []:=⟨by simp [exL,sl],rfl,by simp [gdL],by simp [fuL],fun _ _=>Nat.zero_le _⟩
theorem VU {S:List (List L2.D)} {i j q:Nat} {b:List Tr} (hq:1≤q) (hij:i+q≤j) (hj:j≤S.length) (hm:(j - i) % q=0) (per:sl S i (j - q)=sl S (i+q) j) (hb:exL b=sl S i (i+q)):exL [.rep ((j - i) / q) b]=sl S i j:=by
 rw [QZ,exS,hb]
 have hl:=DV (S:=S) (i:=i) hj
 have p1:(sl S i j).take (j - i - q)=sl S i (j - q):=by
  unfold sl;rw [List.take_take];congr 1;omega
 have p2:(sl S i j).drop q=sl S (i+q) j:=by
  rw [GG (S:=S) (m:=i+q) (by omega) hij,List.drop_left' (by rw [DV (by omega)];omega)]
 have p3:(sl S i j).take q=sl S i (i+q):=by
  rw [GG (S:=S) (m:=i+q) (by omega) hij,List.take_left' (by rw [DV (by omega)];omega)]
 have:=NL (q:=q) (by omega) ((j - i) / q) (sl S i j) (by rw [hl];exact (Nat.div_mul_cancel (Nat.dvd_of_mod_eq_zero hm)).symm) (by rw [hl,p1,p2,per])
 rw [p3] at this
 exact this.symm
def IsPart (f:Nat→Nat→Nat×List Tr) (i j:Nat) (r:Nat×List Tr):Prop:=∃ m,i<m∧m<j∧r=((f i m).1+(f m j).1,(f i m).2++(f m j).2)∧(∀ m',i<m'→m'<j→r.1≤(f i m').1+(f m' j).1)∧∀ m',i<m'→m'<m→r.1<(f i m').1+(f m' j).1
theorem IsPart.uniq {f:Nat→Nat→Nat×List Tr} {i j:Nat} {r r':Nat×List Tr} (h:IsPart f i j r) (h':IsPart f i j r'):r=r':=by
 obtain ⟨m,a1,a2,a3,a4,a5⟩:=h
 obtain ⟨m',b1,b2,b3,b4,b5⟩:=h'
 have e:m=m':=by
  rcases Nat.lt_trichotomy m m' with c | c | c
  ·have x:=b5 m a1 c
   have y:=a4 m' b1 b2
   rw [a3,b3] at *
   simp only at x y
   omega
  ·exact c
  ·have x:=a5 m' b1 c
   have y:=b4 m a1 a2
   rw [a3,b3] at *
   simp only at x y
   omega
 subst e
 rw [a3,b3]
noncomputable def IC (f:Nat→Nat→Nat×List Tr) (i j:Nat):Nat×List Tr:= @dite _ (∃ r,IsPart f i j r) (Classical.propDecidable _) (fun h=>h.choose) fun _=>(0,[])
theorem VL {f:Nat→Nat→Nat×List Tr} {i j:Nat} {r:Nat×List Tr} (h:IsPart f i j r):IC f i j=r:=by
 have hx:∃ r,IsPart f i j r:=⟨r,h⟩
 unfold IC
 rw [dif_pos hx]
 exact hx.choose_spec.uniq h
noncomputable def EH (f:Nat→Nat→Nat×List Tr) (S:List (List L2.D)) (i j:Nat) (r:Nat×List Tr):Nat→Nat×List Tr
 | 0=>r
 | n+1=> @ite _ ((f i (i+(n+1))).1+1<(EH f S i j r n).1∧(j - i) % (n+1)=0∧sl S i (j - (n+1))=sl S (i+(n+1)) j) (Classical.propDecidable _) ((f i (i+(n+1))).1+1,[.rep ((j - i) / (n+1)) (f i (i+(n+1))).2]) (EH f S i j r n)
theorem RY {f:Nat→Nat→Nat×List Tr} {S:List (List L2.D)} {i j n:Nat} {r:Nat×List Tr} (h:(f i (i+(n+1))).1+1<(EH f S i j r n).1∧(j - i) % (n+1)=0∧sl S i (j - (n+1))=sl S (i+(n+1)) j):EH f S i j r (n+1)=((f i (i+(n+1))).1+1,[.rep ((j - i) / (n+1)) (f i (i+(n+1))).2]):=by
 rw [EH,if_pos h]
theorem TU {f:Nat→Nat→Nat×List Tr} {S:List (List L2.D)} {i j n:Nat} {r:Nat×List Tr} (h:¬ ((f i (i+(n+1))).1+1<(EH f S i j r n).1∧(j - i) % (n+1)=0∧sl S i (j - (n+1))=sl S (i+(n+1)) j)):EH f S i j r (n+1)=EH f S i j r n:=by
 rw [EH,if_neg h]
noncomputable def FF (S:List (List L2.D)) (i j:Nat):Nat×List Tr:=
 if j - i=1 then (1,[.one (S.getD i [])])
 else EH (fun i' j'=>if h:j' - i'<j - i then FF S i' j' else (0,[])) S i j (IC (fun i' j'=>if h:j' - i'<j - i then FF S i' j' else (0,[])) i j) ((j - i) / 2)
termination_by j - i
noncomputable def fW (S:List (List L2.D)) (i j:Nat):Nat→Nat→Nat×List Tr:=fun i' j'=>if h:j' - i'<j - i then FF S i' j' else (0,[])
theorem GS {S:List (List L2.D)} {i j i' j':Nat} (h:j' - i'<j - i):fW S i j i' j'=FF S i' j':=by unfold fW;rw [dif_pos h]
theorem cY {S:List (List L2.D)} {i:Nat}:FF S i (i+1)=(1,[.one (S.getD i [])]):=by rw [FF,if_pos (by omega)]
theorem ZY {S:List (List L2.D)} {i j:Nat} (h:j - i≠1):FF S i j=EH (fW S i j) S i j (IC (fW S i j) i j) ((j - i) / 2):=by rw [FF,if_neg h];rfl
theorem bJ {S:List (List L2.D)}:FF S 0 0=(0,[]):=by
 rw [ZY (by decide)]
 show IC (fW S 0 0) 0 0=(0,[])
 unfold IC
 rw [dif_neg]
 rintro ⟨r,m,a,b,_⟩
 omega
section
variable {P:Program} {w:World} {K:PySem.W.Frag} {mg:Str→Option Value} {base:Heap} {t:Adr}
theorem FB.tup {d:List L2.D} (h:FB d):∃ s r,d= .str s::r∧s≠"again":=by
 rcases h with rfl | rfl | ⟨i,_,rfl | rfl | rfl⟩
 ·exact ⟨"up",[],rfl,by decide⟩
 ·exact ⟨"down",[],rfl,by decide⟩
 ·exact ⟨"go",[.int i],rfl,by decide⟩
 ·exact ⟨"turn",[.int i],rfl,by decide⟩
 ·exact ⟨"ink",[.int i],rfl,by decide⟩
theorem ZC {H:Hp} {s:Str} {v:V}:Rp K H (.str s) v↔v= .str s:=by rw [Rp]
theorem DU {H:Hp} {i:Int} {v:V}:Rp K H (.int i) v↔v= .int i:=by rw [Rp]
theorem YY {H:Hp} {d:L2.D} {v:V}:Rp K H (.tup [d]) v↔∃ p x,v= .ref p∧SqT K H p [x]∧Rp K H d x:=by
 rw [BF]
 constructor
 ·rintro ⟨p,xs,rfl,h,hl⟩
  rw [RpL] at hl
  obtain ⟨x,r,rfl,hx,hr⟩:=hl
  rw [RpL] at hr
  subst hr
  exact ⟨p,x,rfl,h,hx⟩
 ·rintro ⟨p,x,rfl,h,hx⟩
  exact ⟨p,[x],rfl,h,RpL.one hx⟩
theorem TC {H:Hp} {a b c:L2.D} {v:V}:Rp K H (.tup [a,b,c]) v↔∃ p x y z,v= .ref p∧SqT K H p [x,y,z]∧Rp K H a x∧Rp K H b y∧Rp K H c z:=by
 rw [BF]
 constructor
 ·rintro ⟨p,xs,rfl,h,hl⟩
  simp only [RpL] at hl
  obtain ⟨x,_,rfl,hx,y,_,rfl,hy,z,_,rfl,hz,rfl⟩:=hl
  exact ⟨p,x,y,z,rfl,h,hx,hy,hz⟩
 ·rintro ⟨p,x,y,z,rfl,h,hx,hy,hz⟩
  exact ⟨p,_,rfl,h,by simp only [RpL];exact ⟨_,_,rfl,hx,_,_,rfl,hy,_,_,rfl,hz,rfl⟩⟩
end
section
variable {P:Program} {w:World} {K:PySem.W.Frag} {mg:Str→Option Value} {base:Heap} {t:Adr}
theorem CZ.uniq {S:List (List L2.D)} {i j z z':Nat} {b b':List Tr} (h:CZ S i j z b) (h':CZ S i j z' b'):z=z':=by
 have a:=h.least b' h'.ex
 have c:=h'.least b h.ex
 rw [h'.sz] at a
 rw [h.sz] at c
 omega
theorem RH:∀ W:List (List L2.D),exL (W.map Tr.one)=W∧szL (W.map Tr.one)=W.length
 | []=>⟨by simp [exL],by simp [szL]⟩
 | d::W=>by
  obtain ⟨h1,h2⟩:=RH W
  constructor
  ·rw [List.map_cons,exL,exS,h1];rfl
  ·rw [List.map_cons,szL,szS,h2,List.length_cons];omega
theorem CZ.le {S:List (List L2.D)} {i j z:Nat} {b:List Tr} (h:CZ S i j z b) (hj:j≤S.length):z≤j - i:=by
 obtain ⟨h1,h2⟩:=RH (sl S i j)
 have:=h.least _ h1
 rw [h2,DV hj] at this
 exact this
theorem PU:∀ b:List Tr,b.length≤szL b
 | []=>by simp [szL]
 | u::us=>by rw [szL,List.length_cons];have:=PU us;have:=IK u;omega
structure TBx (P:Program) (w:World) (K:PySem.W.Frag) (H:Hp) (d:Addr) (S:List (List L2.D)) (ok:Nat→Nat→Prop) (es:EnT):Prop where
 h:H d=some (DX P w d es)
 ks:FY K H es
 dom:∀ x∈es,∃ i j:Nat,x.1=[.inl (i:Int),.inl (j:Int)]∧ok i j
 val:∀ i j:Nat,ok i j→∃ (v:V) (z:Nat) (b:List Tr),lkX es [.inl (i:Int),.inl (j:Int)]=some v∧Rp K H (.tup [.int (z:Int),.tup (enL b)]) v∧CZ S i j z b∧FF S i j=(z,b)
theorem TBx.same {H H':Hp} {d:Addr} {S:List (List L2.D)} {ok:Nat→Nat→Prop} {es:EnT} (B:TBx P w K H d S ok es) (s:AE H H'):TBx P w K H' d S ok es:=
 ⟨s _ _ B.h,B.ks.same s,B.dom,fun i j h=>let ⟨v,z,b,e,r,q⟩:=B.val i j h;⟨v,z,b,e,r.same s,q⟩⟩
def eP (d pz:Addr) (S:List (List L2.D)) (i j:Nat) (H:Hp) (n:Nat) (σ:L2.St) (H2:Hp):Prop:=∃ (zs:List Int) (o:Option V),σ=[some (.ref d),some (.int (i:Int)),some (.int (j:Int)),o]∧AE H H2∧H2 pz=some (.lst (zs.map V.int))∧zs.length=n∧∀ k z,zs[k]? =some z→∃ z1 b1 z2 b2,CZ S i (i+1+k) z1 b1∧CZ S (i+1+k) j z2 b2∧z=((z1+z2:Nat):Int)∧FF S i (i+1+k)=(z1,b1)∧FF S (i+1+k) j=(z2,b2)
def TF (P:Program) (w:World) (K:PySem.W.Frag):Sp:=fun vs H Q _=>∃ (i j:Nat) (d:Addr) (S:List (List L2.D)) (ok:Nat→Nat→Prop) (es:EnT),vs=[.int (i:Int),.int (j:Int),.ref d]∧i+2≤j∧j≤S.length∧S.length≤60∧TBx P w K H d S ok es∧(∀ m,i<m→m<j→ok i m∧ok m j)∧
 ∀ v m z1 b1 z2 b2 H',AE H H'→i<m→m<j→CZ S i m z1 b1→CZ S m j z2 b2→(∀ m' y1 c1 y2 c2,i<m'→m'<j→CZ S i m' y1 c1→CZ S m' j y2 c2→z1+z2≤y1+y2)→FF S i m=(z1,b1)→FF S m j=(z2,b2)→(∀ m',i<m'→m'<m→z1+z2<(FF S i m').1+(FF S m' j).1)→Rp K H' (.tup [.int ((z1+z2:Nat):Int),.tup (enL (b1++b2))]) v→Q v H'
theorem SC (T:Txt w K mg t):BR P w K mg base CX0 1 t.a_parted t.d_parted ["start","end","found"] (TF P w K):=by
 refine T.parted.F.ok EE (fun vs H Q E h=> ?_) (fun cdv A outer s H vs Q E hr h=> ?_)
 ·obtain ⟨i,j,d,S,ok,es,rfl,_⟩:=h;rfl
 ·obtain ⟨i,j,d,S,ok,es,rfl,hij,hjS,hS60,B,hok,q⟩:=h
  have hj:j≤60:=by omega
  have hu:=hr.units
  have hu1:(A.deeper (envOfC (Str.ofString "parted") (AJ GM) s.heap.objs.size t.a_parted cdv)).units+1<cLine:=by omega
  refine ⟨_,s!"3{EE.nd}{@OX _ _ _ _ _ _ _ _ rfl (by rfl) T.z_list (by rfl) T.z_range s!"{BK}0ADE1ACBB" (by rfl) (by rfl) (by rfl)}L{@QJ _ _ _ _ _ _ (AJ GM) _ _ _ _ (4) _ _ _ _ (["start", "end", "found", "middles", "sizes", "least", "middle"]) (["found", "start", "end", "middle"]) (["middle"]) ([2, 0, 1]) EE.nd rfl (Or.inl rfl) rfl rfl rfl ⟨by decide +kernel, by decide +kernel, by decide +kernel, by decide +kernel, by decide +kernel, by decide +kernel⟩ (@OL _ _ _ _ s!"3A") (fun _ _ _ _ => s!"3{show List.Nodup (["found","start","end","middle"]:List Str) by decide+kernel}Q") (fun _ _ _ _ => s!"g") (fun _ _ _ _ => s!"{BK}{JQ (K:=K) rfl}0A1A3ACBBFhDJ{JQ (K:=K) rfl}0A3A2ACBBFhDJE") (by intro _; rfl) (by rfl) (by first | exact .inl rfl | exact .inr rfl | assumption)}5{EE.nd}{SA rfl}{T.z_min}{boot_min}4ACBWL6{EE.nd}{BA}3A{PySem.F.slot_list_index}{PySem.F.type_list_index}{WM}4A5ACBjJL5A{GC}{BN}2A0A6ACBBFhDJ{BN}2A6A1ACBBFhDJECBBFKGUUUU",?_⟩
  walk_at "rh"
  refine ⟨by omega,by omega,by omega,by omega,by omega,fun lm hlm=> ?_⟩
  rw [show ((j:Int) - ((i:Int)+1)).toNat=j - i - 1 by omega]
  have u1:=AE.upd (o:= .lst ((List.range (j - i - 1)).map fun (k:Nat)=>V.int ((i:Int)+1+(k:Int)))) hlm
  have hm:upd H lm (.lst ((List.range (j - i - 1)).map fun (k:Nat)=>V.int ((i:Int)+1+(k:Int)))) lm=some (.lst ((List.range (j - i - 1)).map fun (k:Nat)=>V.int ((i:Int)+1+(k:Int)))):=AD
  have B1:=B.same u1
  generalize upd H lm (.lst ((List.range (j - i - 1)).map fun (k:Nat)=>V.int ((i:Int)+1+(k:Int))))=H1 at u1 hm B1 ⊢
  clear B hlm
  walk_at "rh"
  refine ⟨⟨_,SqL.of hm⟩,fun pz hpz=> ?_⟩
  refine YQ (xs:=(List.range (j - i - 1)).map fun (k:Nat)=>V.int ((i:Int)+1+(k:Int))) (eP d pz S i j H1) ⟨[],none,rfl,AE.upd hpz,AD,rfl,fun k z e=>by simp at e⟩ (fun n σ H2 _ h=>by obtain ⟨_,_,_,s2,_⟩:=h;exact SqL.of (s2 _ _ hm)) ?_ ?_
  ·rintro n x σ H2 hn ⟨zs,o,rfl,s2,hz,zl,hzs⟩
   have hnl:n<j - i - 1:=by have:=(List.getElem?_eq_some_iff.mp hn).1;simpa using this
   have ex:x= .int ((i:Int)+1+(n:Int)):=by
    rw [List.getElem?_map,List.getElem?_range hnl] at hn
    exact (Option.some.inj hn).symm
   subst ex
   obtain ⟨ok1,ok2⟩:=hok (i+1+n) (by omega) (by omega)
   have B2:=B1.same s2
   obtain ⟨v1,z1,b1,e1,r1,q1,g1⟩:=B2.val _ _ ok1
   obtain ⟨v2,z2,b2,e2,r2,q2,g2⟩:=B2.val _ _ ok2
   obtain ⟨p1,x1,y1,rfl,h1,rx1,ry1⟩:=BM.mp r1
   obtain ⟨p2,x2,y2,rfl,h2,rx2,ry2⟩:=BM.mp r2
   rw [DU] at rx1 rx2
   subst rx1 rx2
   have ei:(i:Int)+1+(n:Int)=((i+1+n:Nat):Int):=by omega
   walk_at "rd"
   refine ⟨by decide,fun pa hpa=> ?_⟩
   have ua:=AE.upd (o:= .tup [.int (i:Int),.int ((i:Int)+1+(n:Int))]) hpa
   have B3:=B2.same ua
   refine ⟨es,B3.h,B3.ks,[.inl (i:Int),.inl ((i+1+n:Nat):Int)],by rw [ei];exact SqT.of AD,_,e1,_,ua.tup h1,_,rfl,?_⟩
   refine ⟨by decide,fun pb hpb=> ?_⟩
   have ub:=AE.upd (o:= .tup [.int ((i:Int)+1+(n:Int)),.int (j:Int)]) hpb
   have uab:=ua.trans ub
   have B4:=B3.same ub
   refine ⟨es,B4.h,B4.ks,[.inl ((i+1+n:Nat):Int),.inl (j:Int)],by rw [ei];exact SqT.of AD,_,e2,?_⟩
   dsimp only
   refine ⟨_,uab.tup h2,_,rfl,?_⟩
   dsimp only
   have hz4:=uab _ _ hz
   refine ⟨_,hz4,DZ (by rw [List.length_map];omega),nx (by simpa using hnl) ⟨zs++[((z1+z2:Nat):Int)],_,rfl,(s2.trans uab).upd2 hpz,?_,by rw [List.length_append,zl];rfl,fun k z e=> ?_⟩⟩
   ·rw [AD,List.map_append,Int.natCast_add];rfl
   ·by_cases hk:k<zs.length
    ·rw [List.getElem?_append_left hk] at e
     exact hzs k z e
    ·rw [List.getElem?_append_right (by omega)] at e
     have hk2:k=n:=by
      have:=(List.getElem?_eq_some_iff.mp e).1
      simp at this
      omega
     subst hk2
     rw [zl,Nat.sub_self] at e
     exact ⟨z1,b1,z2,b2,q1,q2,(Option.some.inj e).symm,g1,g2⟩
  ·rintro σ H2 ⟨zs,o,rfl,s2,hz,zl,hzs⟩
   have zl':zs.length=j - i - 1:=by rw [zl];simp
   clear zl
   have B2:=B1.same s2
   have hm2:=s2 _ _ hm
   have u2:=u1.trans s2
   clear B1 hm hpz s2 u1
   walk_at "rh"
   refine ⟨zs,SqL.of hz,by rintro rfl;simp at zl';omega,fun m hmem hmin=> ?_⟩
   walk_at "rh"
   refine ⟨.inl ⟨_,SqL.of hz⟩,zs,SqL.of hz,hmem,fun k hk hfirst=> ?_⟩
   have hkl:k<j - i - 1:=by rw [← zl'];exact (List.getElem?_eq_some_iff.mp hk).1
   have eat:atI ((List.range (j - i - 1)).map fun (k:Nat)=>V.int ((i:Int)+1+(k:Int))) (k:Int)=some (.int ((i:Int)+1+(k:Int))):=AS (by rw [List.getElem?_map,List.getElem?_range hkl];rfl)
   refine ⟨_,SqL.of hm2,_,eat,?_⟩
   obtain ⟨z1,b1,z2,b2,q1,q2,em,g1,g2⟩:=hzs k m hk
   obtain ⟨ok1,ok2⟩:=hok (i+1+k) (by omega) (by omega)
   obtain ⟨v1,y1,c1,e1,r1,w1,g3⟩:=B2.val _ _ ok1
   obtain ⟨v2,y2,c2,e2,r2,w2,g4⟩:=B2.val _ _ ok2
   have ey1:=q1.uniq w1
   have ey2:=q2.uniq w2
   subst ey1 ey2
   obtain ⟨p1,x1,w1',rfl,h1,rx1,ry1⟩:=BM.mp r1
   obtain ⟨p2,x2,w2',rfl,h2,rx2,ry2⟩:=BM.mp r2
   have ei:(i:Int)+1+(k:Int)=((i+1+k:Nat):Int):=by omega
   have least:∀ m' y1 c1 y2 c2,i<m'→m'<j→CZ S i m' y1 c1→CZ S m' j y2 c2→z1+z2≤y1+y2:=by
    intro m' y1 c1 y2 c2 hm1 hm2' B1' B2'
    obtain ⟨k',rfl⟩:∃ k',m'=i+1+k':=⟨m' - (i+1),by omega⟩
    have hk':k'<zs.length:=by omega
    obtain ⟨a1,d1,a2,d2,f1,f2,ef,_,_⟩:=hzs k' zs[k'] (List.getElem?_eq_getElem hk')
    have:=hmin zs[k'] (List.getElem_mem hk')
    rw [ef,em] at this
    rw [B1'.uniq f1,B2'.uniq f2]
    omega
   have strict:∀ m',i<m'→m'<i+1+k→z1+z2<(FF S i m').1+(FF S m' j).1:=by
    intro m' a1 a2
    obtain ⟨k',rfl⟩:∃ k',m'=i+1+k':=⟨m' - (i+1),by omega⟩
    have hk':k'<zs.length:=by omega
    have hget:zs[k']? =some zs[k']:=List.getElem?_eq_getElem hk'
    obtain ⟨a1,d1,a2',d2,f1,f2,ef,f3,f4⟩:=hzs k' zs[k'] hget
    have x1:=hmin zs[k'] (List.getElem_mem hk')
    have x2:=hfirst k' (by omega)
    have x3:zs[k']≠m:=fun e=>x2 (by rw [hget,e])
    rw [f3,f4]
    show z1+z2<a1+a2'
    omega
   clear hmin hzs hmem hk hz zl' eat hm2 hfirst
   subst em
   walk_at "rh"
   refine ⟨by decide,fun pa hpa=> ?_⟩
   have ua:=AE.upd (o:= .tup [.int (i:Int),.int ((i:Int)+1+(k:Int))]) hpa
   have B3:=B2.same ua
   refine ⟨es,B3.h,B3.ks,[.inl (i:Int),.inl ((i+1+k:Nat):Int)],by rw [ei];exact SqT.of AD,_,e1,?_⟩
   dsimp only
   refine ⟨_,ua.tup h1,_,rfl,by decide,fun pb hpb=> ?_⟩
   have ub:=AE.upd (o:= .tup [.int ((i:Int)+1+(k:Int)),.int (j:Int)]) hpb
   have uab:=ua.trans ub
   have B4:=B3.same ub
   refine ⟨es,B4.h,B4.ks,[.inl ((i+1+k:Nat):Int),.inl (j:Int)],by rw [ei];exact SqT.of AD,_,e2,?_⟩
   dsimp only
   refine ⟨_,uab.tup h2,_,rfl,_,ry1.same uab,_,ry2.same uab,?_,fun v3 H3 s3 r3=>⟨by decide,fun pc hpc=> ?_⟩⟩
   ·rw [FV,FV]
    have l1:=PU c1
    have l2:=PU c2
    have k1:=w1.le (by omega)
    have k2:=w2.le (by omega)
    rw [w1.sz] at l1
    rw [w2.sz] at l2
    exact Nat.le_of_lt (DZ (by omega))
   ·have uc:=AE.upd (o:= .tup [.int ((z1+z2:Nat):Int),v3]) hpc
    refine q _ (i+1+k) z1 c1 z2 c2 _ (((u2.trans uab).trans s3).trans uc) (by omega) (by omega) w1 w2 least g3 g4 strict ?_
    rw [QO]
    exact BM.mpr ⟨pc,_,_,rfl,SqT.of AD,DU.mpr rfl,r3.same uc⟩
end
theorem NV {K:PySem.W.Frag} {H:Hp}:∀ {ds:List L2.D} {xs:List V} (n:Nat),RpL K H ds xs→RpL K H (ds.take n) (xs.take n)
 | ds,xs,0,h=>by rw [List.take_zero,List.take_zero];exact RpL.nil
 | [],xs,n+1,h=>by rw [RpL] at h;subst h;rw [List.take_nil,List.take_nil];exact RpL.nil
 | d::ds,xs,n+1,h=>by
  rw [RpL] at h
  obtain ⟨v,r,rfl,h1,h2⟩:=h
  rw [List.take_succ_cons,List.take_succ_cons,RpL]
  exact ⟨_,_,rfl,h1,NV n h2⟩
theorem NG {K:PySem.W.Frag} {H:Hp}:∀ {ds:List L2.D} {xs:List V} (n:Nat),RpL K H ds xs→RpL K H (ds.drop n) (xs.drop n)
 | ds,xs,0,h=>h
 | [],xs,n+1,h=>by rw [RpL] at h;subst h;rw [List.drop_nil,List.drop_nil];exact RpL.nil
 | d::ds,xs,n+1,h=>by
  rw [RpL] at h
  obtain ⟨v,r,rfl,h1,h2⟩:=h
  rw [List.drop_succ_cons,List.drop_succ_cons]
  exact NG n h2
section
variable {P:Program} {w:World} {K:PySem.W.Frag} {mg:Str→Option Value} {base:Heap} {t:Adr}
theorem HY:∀ {a b:List (List L2.D)},a.map D.tup=b.map D.tup→a=b
 | [],[],_=>rfl
 | [],_::_,h=>by simp at h
 | _::_,[],h=>by simp at h
 | x::a,y::b,h=>by
  rw [List.map_cons,List.map_cons] at h
  injection h with h1 h2
  injection h1 with h1
  rw [h1,HY h2]
theorem YG {d:List L2.D} (h:FB d):dep (.tup d)≤1:=by
 rcases h with rfl | rfl | ⟨i,_,rfl | rfl | rfl⟩<;> simp [dep,depL]
theorem LC:∀ {W:List (List L2.D)},(∀ d∈W,FB d)→depL (W.map D.tup)≤1
 | [],_=>by simp [depL]
 | d::W,h=>by
  rw [List.map_cons,depL]
  have:=YG (h d (by simp))
  have:=LC (W:=W) fun x hx=>h x (List.mem_cons_of_mem _ hx)
  omega
theorem cD {S:List (List L2.D)} {i j:Nat} {d:List L2.D} (h:d∈sl S i j):d∈S:=List.mem_of_mem_drop (List.mem_of_mem_take h)
def PJ (K:PySem.W.Frag):Sp:=fun vs H Q _=>∃ (x:V) (S:List (List L2.D)) (i j q:Nat),vs=[x,.int (i:Int),.int (j:Int),.int (q:Int)]∧Rp K H (.tup (S.map D.tup)) x∧(∀ d∈S,FB d)∧1≤q∧i+q≤j∧j≤S.length∧∀ (k:Bool) H',AE H H'→(k=true↔(j - i) % q=0∧sl S i (j - q)=sl S (i+q) j)→Q (.bl k) H'
theorem OZ {S:List (List L2.D)} {xs:List V} {H:Hp} {i j:Nat} (h:RpL K H (S.map D.tup) xs) (hi:i≤j) (hj:j≤S.length):RpL K H ((sl S i j).map D.tup) (ID xs (some (i:Int)) (some (j:Int))):=by
 have xl:xs.length=S.length:=by rw [h.length,List.length_map]
 unfold ID sl
 rw [HT.sIx_nat,HT.sIx_nat,Nat.min_eq_left (by omega),Nat.min_eq_left (by omega),List.map_take,List.map_drop]
 exact NV _ (NG _ h)
theorem PR (T:Txt w K mg t):BR P w K mg base CX0 1 t.a_isagain t.d_isagain ["statements","start","end","step"] (PJ K):=by
 refine T.isagain.F.ok OR (fun vs H Q E h=> ?_) (fun cdv A outer s H vs Q E hr h=> ?_)
 ·obtain ⟨x,S,i,j,q,rfl,_⟩:=h;rfl
 ·obtain ⟨x,S,i,j,q,rfl,rx,hok,hq,hij,hj,k⟩:=h
  have hu:=hr.units
  obtain ⟨p,xs,rfl,hp,hl⟩:=BF.mp rx
  refine ⟨_,s!"{MJ}{BJ}{FE}2A1AE3AEDTdKGSR{cH hu}0A1Aa{FE}2A3AEak0A{BK}1A3AEa2AakoKGH",?_⟩
  have em:((j:Int) - (i:Int)) % (q:Int)=(((j - i) % q:Nat):Int):=by
   rw [Int.natCast_emod,Int.ofNat_sub (by omega)]
  walk_at "rd"
  rw [em]
  refine ⟨by omega,?_⟩
  by_cases h0:(j - i) % q=0
  ·rw [if_neg (by omega)]
   refine ⟨_,hp,fun p1 H1 s1 h1=>⟨_,s1.tup hp,fun p2 H2 s2 h2=> ?_⟩⟩
   rw [show (j:Int) - (q:Int)=((j - q:Nat):Int) by omega] at h1
   rw [show (i:Int)+(q:Int)=((i+q:Nat):Int) by omega] at h2
   have c1:=(OZ (i:=i) (j:=j - q) hl (by omega) (by omega)).same (s1.trans s2)
   have c2:=(OZ (i:=i+q) (j:=j) hl (by omega) hj).same (s1.trans s2)
   refine ⟨_,_,BF.mpr ⟨p1,_,rfl,s2.tup h1,c1⟩,BF.mpr ⟨p2,_,rfl,h2,c2⟩,?_,?_⟩
   ·have:=LC (W:=sl S i (j - q)) fun d hd=>hok d (cD hd)
    omega
   ·rw [if_neg (by decide)]
    refine k _ _ (s1.trans s2) ⟨fun e=>⟨h0,HY (deqL_eq e)⟩,fun e=> ?_⟩
    rw [e.2,deqL_self]
  ·rw [if_pos (by omega)]
   exact k _ _ (AE.refl _) ⟨fun e=>(nomatch e),fun e=>absurd e.1 h0⟩
def OP (P:Program) (w:World) (K:PySem.W.Frag):Sp:=fun vs H Q _=>∃ (x:V) (S:List (List L2.D)) (i j:Nat) (d:Addr) (ok:Nat→Nat→Prop) (es:EnT),vs=[x,.int (i:Int),.int (j:Int),.ref d]∧Rp K H (.tup (S.map D.tup)) x∧(∀ d∈S,FB d)∧i<j∧j≤S.length∧S.length≤60∧TBx P w K H d S ok es∧(∀ i' j',i≤i'→i'<j'→j'≤j→j' - i'<j - i→ok i' j')∧
 ∀ v z b H',AE H H'→CZ S i j z b→FF S i j=(z,b)→Rp K H' (.tup [.int (z:Int),.tup (enL b)]) v→Q v H'
def ZZ (K:PySem.W.Frag) (x:V) (S:List (List L2.D)) (i j:Nat) (d:Addr) (H:Hp) (n:Nat) (σ:L2.St) (H2:Hp):Prop:=∃ (v:V) (z:Nat) (b:List Tr) (o1 o2 o3:Option V),σ=[some x,some (.int (i:Int)),some (.int (j:Int)),some (.ref d),some (.int ((j:Int) - (i:Int))),some v,o1,o2,o3]∧AE H H2∧Rp K H2 (.tup [.int (z:Int),.tup (enL b)]) v∧
 exL b=sl S i j∧szL b=z∧gdL b∧fuL b∧(∀ m z1 b1 z2 b2,i<m→m<j→CZ S i m z1 b1→CZ S m j z2 b2→z≤z1+z2)∧(∀ q z1 b1,1≤q→q≤n→(j - i) % q=0→sl S i (j - q)=sl S (i+q) j→CZ S i (i+q) z1 b1→z≤z1+1)∧EH (fW S i j) S i j (IC (fW S i j) i j) n=(z,b)
theorem MT (T:Txt w K mg t):BR P w K mg base CX0 2 t.a_shortest t.d_shortest ["statements","start","end","found"] (OP P w K):=by
 refine T.shortest.F.ok BZ (fun vs H Q E h=> ?_) (fun cdv A outer s H vs Q E hr h=> ?_)
 ·obtain ⟨x,S,i,j,d,ok,es,rfl,_⟩:=h;rfl
 ·obtain ⟨x,S,i,j,d,ok,es,rfl,rx,hone,hij,hj,h60,B,hok,q⟩:=h
  have hu:=hr.units
  have hu1:(A.deeper (envOfC (Str.ofString "shortest") (AJ FT) s.heap.objs.size t.a_shortest cdv)).units+1<cLine:=by omega
  obtain ⟨p,xs,rfl,hp,hl⟩:=BF.mp rx
  refine ⟨_,s!"4{BZ.nd}{FE}2A1AEL{CI}4ADTD0A1Aa2AakCBBFKGSR5{BZ.nd}{SC T}{hr.mono (by decide)}{T.parted.m}{T.parted.F.kp}{T.parted.b}{DD}1A2A3ACBBBML{PassesOwn.never}{@LJ _ _ _ _ _ _ _ (by rfl) T.z_range s!"D{BK}{DI}4ADEDECBB" (by rfl) (by rfl)}6{BZ.nd}Q3A1A{BK}1A6AECBBFh7{BZ.nd}Q8{BZ.nd}QcVVml{@PW.pt _ _ _ (@aP _ _ _ _ _ _ _ s!"{WK}{BK}7ADE{BN}5ADJT" (@YV _ _ _ _ s!"{PR T}{hr.mono (by decide)}{T.isagain.m}{T.isagain.F.kp}{T.isagain.b}{DD}0A1A2A6ACBBBBMq"))}5{BZ.nd}{BK}7ADEN{DI}4A6AE8ACBBBFCIFCIBFLGSRGHf5AKGHHHH",?_⟩
  walk_at "rd"
  by_cases h1:(j:Int) - (i:Int)=1
  ·rw [if_pos h1]
   refine ⟨_,hp,fun p1 H1 s1 hp1=>⟨by decide,fun p2 hp2=> ?_⟩⟩
   have ej:j=i+1:=by omega
   subst ej
   have hi:i<S.length:=by omega
   have c1:=(OZ (i:=i) (j:=i+1) hl (by omega) hj).same s1
   have B1:=UR (S:=S) (i:=i) (List.getElem?_eq_getElem hi) (hone _ (List.getElem_mem hi))
   rw [← B1.ex] at c1
   have u2:=AE.upd (o:= .tup [.int 1,.ref p1]) hp2
   refine q _ 1 _ _ (s1.trans u2) B1 (by rw [cY,List.getD_eq_getElem?_getD,List.getElem?_eq_getElem hi];rfl) (BM.mpr ⟨p2,_,_,rfl,SqT.of AD,DU.mpr rfl,BF.mpr ⟨p1,_,rfl,u2.tup hp1,?_⟩⟩)
   have e:(exL [Tr.one S[i]]).map D.tup=enL [.one S[i]]:=by simp [exL,exS,enL,enS]
   rw [e] at c1
   exact c1.same u2
  rw [if_neg h1]
  refine ⟨i,j,d,S,ok,es,rfl,by omega,hj,h60,B,fun m hm1 hm2=>⟨hok i m (Nat.le_refl _) hm1 (by omega) (by omega),hok m j (by omega) hm2 (Nat.le_refl _) (by omega)⟩,fun v0 m0 z1 b1 z2 b2 H1 s1 m1 m2 B1 B2 hmin g1 g2 hst r0=> ?_⟩
  refine ⟨by decide,by decide,by decide,by decide,by omega,by omega,?_⟩
  rw [show (((j:Int) - (i:Int)) / 2+1 - 1).toNat=(j - i) / 2 by omega]
  have hall:∀ i' j',i≤i'→i'<j'→j'≤j→j' - i'<j - i→∃ z' b',CZ S i' j' z' b':=fun i' j' a1 a2 a3 a4=>by
   obtain ⟨_,z',b',_,_,q',_⟩:=B.val i' j' (hok i' j' a1 a2 a3 a4)
   exact ⟨z',b',q'⟩
  have ffb:∀ i' j',i≤i'→i'<j'→j'≤j→j' - i'<j - i→CZ S i' j' (FF S i' j').1 (FF S i' j').2:=fun i' j' a1 a2 a3 a4=>by
   obtain ⟨_,z',b',_,_,q',g'⟩:=B.val i' j' (hok i' j' a1 a2 a3 a4)
   rw [g'];exact q'
  have hpart:IC (fW S i j) i j=(z1+z2,b1++b2):=by
   refine VL ⟨m0,m1,m2,?_,fun m' c1 c2=> ?_,fun m' c1 c2=> ?_⟩
   ·rw [GS (by omega),GS (by omega),g1,g2]
   ·rw [GS (by omega),GS (by omega)]
    exact hmin m' _ _ _ _ c1 c2 (ffb _ _ (Nat.le_refl _) c1 (by omega) (by omega)) (ffb _ _ (by omega) c2 (Nat.le_refl _) (by omega))
   ·rw [GS (by omega),GS (by omega)]
    exact hst m' c1 c2
  refine GH (ZZ K (.ref p) S i j d H) ⟨v0,z1+z2,b1++b2,none,none,none,rfl,s1,r0,?_,?_,QX _ _ B1.gd B2.gd,RD _ _ B1.fu B2.fu,hmin,(fun q' z' b' a1 a2=>by omega),by rw [EH];exact hpart⟩ ?_ ?_
  ·rw [QM,B1.ex,B2.ex,← GG (by omega) (by omega)]
  ·rw [QK,B1.sz,B2.sz]
  ·rintro n σ H2 hn ⟨v,z,b,o1,o2,o3,rfl,s2,rv,he,hz,hg,hf,hm,hq,hF⟩
   have Bt:=B.same s2
   obtain ⟨vq,zq,bq,e1,r1,w1,gq⟩:=Bt.val i (i+(n+1)) (hok _ _ (Nat.le_refl _) (by omega) (by omega) (by omega))
   obtain ⟨p1,x1,y1,rfl,h1',rx1,ry1⟩:=BM.mp r1
   rw [DU] at rx1
   subst rx1
   obtain ⟨pv,x2,y2,rfl,h2',rx2,ry2⟩:=BM.mp rv
   rw [DU] at rx2
   subst rx2
   have en:(1:Int)+(n:Int)=((n+1:Nat):Int):=by omega
   have en2:(i:Int)+((n+1:Nat):Int)=((i+(n+1):Nat):Int):=by omega
   walk_at "rd"
   rw [en,en2]
   refine ⟨by decide,fun pa hpa=> ?_⟩
   have ua:=AE.upd (o:= .tup [.int (i:Int),.int ((i+(n+1):Nat):Int)]) hpa
   have B3:=Bt.same ua
   refine ⟨es,B3.h,B3.ks,[.inl (i:Int),.inl ((i+(n+1):Nat):Int)],SqT.of AD,_,e1,?_⟩
   walk_at "rd"
   refine ⟨_,ua.tup h1',rfl,?_⟩
   walk_at "rd"
   refine ⟨_,ua.tup h2',_,rfl,?_⟩
   have s2a:=s2.trans ua
   have stay:∀ H3,AE H H3→((j - i) % (n+1)=0→sl S i (j - (n+1))=sl S (i+(n+1)) j→z≤zq+1)→Rp K H3 (.tup [.int (z:Int),.tup (enL b)]) (.ref pv)→ZZ K (.ref p) S i j d H (n+1) [some (.ref p),some (.int (i:Int)),some (.int (j:Int)),some (.ref d),some (.int ((j:Int) - (i:Int))),some (.ref pv),some (.int ((n+1:Nat):Int)),some (.int (zq:Int)),some y1] H3:=by
    intro H3 s3 hn' r3
    refine ⟨.ref pv,z,b,_,_,_,rfl,s3,r3,he,hz,hg,hf,hm,(fun q' z' b' a1 a2 a3 a4 B'=> ?_),?_⟩
    ·by_cases hq':q'≤n
     ·exact hq q' z' b' a1 hq' a3 a4 B'
     ·have eq:q'=n+1:=by omega
      subst eq
      rw [B'.uniq w1]
      exact hn' a3 a4
    ·rw [TU,hF]
     rintro ⟨c1,c2,c3⟩
     rw [GS (by omega),gq,hF] at c1
     have:=hn' c2 c3
     simp only at c1
     omega
   walk_at "rd"
   by_cases c1:(zq:Int)+1<(z:Int)
   ·rw [if_pos c1]
    refine ⟨_,S,i,j,n+1,rfl,(rx.same s2).same ua,hone,by omega,by omega,hj,fun k H3 s3 hk=> ?_⟩
    dsimp only
    have s23:=s2a.trans s3
    by_cases hk1:k=true
    ·rw [if_pos hk1]
     obtain ⟨g1,g2⟩:=hk.mp hk1
     refine ⟨by omega,by omega,by decide,fun qa hqa=>⟨by decide,fun qb hqb=>⟨by decide,fun qc hqc=> ?_⟩⟩⟩
     have em:((j:Int) - (i:Int)) / ((n+1:Nat):Int)=(((j - i) / (n+1):Nat):Int):=by rw [Int.natCast_ediv,Int.ofNat_sub (by omega)]
     rw [em] at hqb hqc ⊢
     have ka:=AE.upd (o:= .tup [.str "again",.int (((j - i) / (n+1):Nat):Int),y1]) hqa
     have kb:=AE.upd (o:= .tup [.ref qa]) hqb
     have kc:=AE.upd (o:= .tup [.int ((zq:Int)+1),.ref qb]) hqc
     have ry':=(ry1.same ua).same s3
     have r3:Rp K (upd H3 qa (.tup [.str "again",.int (((j - i) / (n+1):Nat):Int),y1])) (enS (.rep ((j - i) / (n+1)) bq)) (.ref qa):=by
      rw [enS]
      exact TC.mpr ⟨qa,_,_,_,rfl,SqT.of AD,ZC.mpr rfl,DU.mpr rfl,ry'.same ka⟩
     have r4:Rp K (upd (upd H3 qa (.tup [.str "again",.int (((j - i) / (n+1):Nat):Int),y1])) qb (.tup [.ref qa])) (.tup (enL [.rep ((j - i) / (n+1)) bq])) (.ref qb):=by
      rw [enL,enL]
      exact YY.mpr ⟨qb,_,rfl,SqT.of AD,r3.same kb⟩
     have d2:2≤(j - i) / (n+1):=by
      rw [Nat.le_div_iff_mul_le (by omega)]
      omega
     have d60:(j - i) / (n+1)≤60:=Nat.le_trans (Nat.div_le_self _ _) (by omega)
     refine ⟨.ref qc,zq+1,[.rep ((j - i) / (n+1)) bq],_,_,_,rfl,((s23.trans ka).trans kb).trans kc,BM.mpr ⟨qc,_,_,rfl,SqT.of AD,DU.mpr (by rw [Int.natCast_add];rfl),r4.same kc⟩,VU (by omega) (by omega) hj g1 g2 w1.ex,?_,?_,?_,?_,?_,?_⟩
     ·simp only [szL,szS,w1.sz];omega
     ·simp only [gdL,gdS];exact ⟨⟨d2,d60,w1.gd⟩,trivial⟩
     ·simp only [fuL,fuS]
      refine ⟨⟨d2,?_,w1.fu⟩,trivial⟩
      intro h0
      have:=w1.ex
      rw [h0] at this
      have:=congrArg List.length this
      rw [DV (by omega),List.length_nil] at this
      omega
     ·intro m z1' b1' z2' b2' a1 a2 B1' B2'
      have:=hm m z1' b1' z2' b2' a1 a2 B1' B2'
      omega
     ·intro q' z' b' a1 a2 a3 a4 B'
      by_cases hq':q'≤n
      ·have:=hq q' z' b' a1 hq' a3 a4 B'
       omega
      ·have eq:q'=n+1:=by omega
       subst eq
       rw [B'.uniq w1]
       omega
     ·rw [RY ⟨by rw [GS (by omega),gq,hF];show zq+1<z;omega,g1,g2⟩,GS (by omega),gq]
    ·rw [if_neg hk1]
     exact stay _ s23 (fun a3 a4=>absurd (hk.mpr ⟨a3,a4⟩) hk1) ((rv.same ua).same s3)
   ·rw [if_neg c1]
    exact stay _ s2a (fun _ _=>by omega) (rv.same ua)
  ·rintro σ H2 ⟨v,z,b,o1,o2,o3,rfl,s2,rv,he,hz,hg,hf,hm,hq,hF⟩
   walk_at "rd"
   exact q _ z b _ s2 ⟨he,hz,hg,hf,YR (by omega) hj hm hq hall⟩ (by rw [ZY (by omega)];exact hF) rv
end
section
variable {P:Program} {w:World} {K:PySem.W.Frag} {mg:Str→Option Value} {base:Heap} {t:Adr}
theorem aH {H:Hp} {d:Addr} {es:EnT} (h:H d=some (DX P w d es)):∀ u,H d=some u→¬ ((∃ xs,u= .tup xs)∨∃ o1 o2,u= .frz o1 o2):=fun u e=>by
 rw [h] at e
 unfold DX at e
 cases e
 rintro (⟨xs,e⟩ | ⟨o1,o2,e⟩)<;> cases e
theorem YZ {es fs:EnT} {k:List Key} {v:V} (h:lkX es k=some v):lkX (es++fs) k=some v:=by
 unfold lkX at h ⊢
 obtain ⟨x,hx,e⟩:=Option.map_eq_some_iff.mp h
 rw [List.find?_append,hx]
 exact congrArg some e
theorem ZG {es:EnT} {k:List Key} {b:Addr} {v:V} (h:∀ x∈es,x.1≠k):lkX (es++[(k,b,v)]) k=some v:=by
 unfold lkX
 have e:es.find? (fun x=>decide (x.1=k))=none:=List.find?_eq_none.mpr fun x hx=>by simpa using h x hx
 rw [List.find?_append,e]
 simp
def OQ (K:PySem.W.Frag) (t:Adr):Sp:=fun vs H Q E=>∃ (x:V) (S:List (List L2.D)),vs=[x]∧Rp K H (.tup [.tup [],.tup (S.map D.tup)]) x∧(∀ d∈S,FB d)∧S.length≤100∧(S.length≤60→∀ v H',AE H H'→Q v H')∧(60<S.length→∀ H',AE H H'→E (.ref t.c_TooLong) none H')
def okT (n L s:Nat) (i j:Nat):Prop:=(i=0∧j=0)∨(i<j∧j≤n∧(j - i<L∨(j - i=L∧i<s)))
def eI (P:Program) (w:World) (K:PySem.W.Frag) (x y:V) (d:Addr) (S:List (List L2.D)) (H:Hp) (n:Nat) (σ:L2.St) (H2:Hp):Prop:=∃ (es:EnT) (o1 o2:Option V),σ=[some x,some y,some (.int (S.length:Int)),some (.ref d),o1,o2]∧AE H H2∧TBx P w K H2 d S (okT S.length (n+1) 0) es∧es.length≤1+61 * n
def dY (P:Program) (w:World) (K:PySem.W.Frag) (x y:V) (d:Addr) (S:List (List L2.D)) (L:Nat) (H:Hp) (n:Nat) (σ:L2.St) (H2:Hp):Prop:=∃ (es:EnT) (o2:Option V),σ=[some x,some y,some (.int (S.length:Int)),some (.ref d),some (.int (L:Int)),o2]∧AE H H2∧TBx P w K H2 d S (okT S.length L n) es∧es.length≤1+61 * (L - 1)+n
theorem PZ (T:Txt w K mg t):BR P w K mg base (CXr P w) 3 t.a_shorter t.d_shorter ["program"] (OQ K t):=by
 refine T.shorter.F.okR CU (fun vs H Q E h=> ?_) (fun cdv A outer s H vs Q E hr h=> ?_)
 ·obtain ⟨x,S,rfl,_⟩:=h;rfl
 ·obtain ⟨x,S,rfl,rx,hone,h100,q,qe⟩:=h
  have hu:=hr.units
  have hu1:(A.deeper (envOfC (Str.ofString "shorter") (AJ HQ) s.heap.objs.size t.a_shorter cdv)).units+1<cLine:=by omega
  obtain ⟨p,x0,y0,rfl,hp,rx0,ry0⟩:=BM.mp rx
  obtain ⟨py,ys,rfl,hpy,hly⟩:=BF.mp ry0
  have yl:ys.length=S.length:=by rw [hly.length,List.length_map]
  refine ⟨_,s!"1{CU.nd}{BN}0ADJL2{CU.nd}{CF}{T.z_len}{PySem.boot_len}1ACBWL{PV}2A_{T.g_MOST_STATEMENTS}{T.r_MOST_STATEMENTS}XT{JR WQ rfl T.x_TooLong (by rfl) T.mg_TooLong s!"NCB"}GSR3{CU.nd}{@TB _ _ (P) (w) (K) _ _ _ _ rfl rfl rfl hu1 s!"PeeO" s!"POPbeO"}L{PassesOwn.leaving}{@LJ _ _ _ _ _ _ _ (by rfl) T.z_range s!"D{BK}2ADECBB" (by rfl) (by rfl)}4{CU.nd}Q{PassesOwn.leaving}{T.z_range}{BK}{FE}2A4AEDECBp5{CU.nd}Q{@VN _ _ _ _ _ _ _ _ _ (P) (w) (K) rfl rfl rfl hu1 s!"3A" s!"5A{BK}5A4AECBBF" s!"{BR.upR (MT T)}{hr.mono (by decide)}{T.shortest.m}{T.shortest.F.kp}{T.shortest.b}{ET}1A5A{BK}5A4AE3ACBBBBM" (by rfl)}GfGfPO{BN}3AD2ACBBFhDJCBIFKGUUUUU",?_⟩
  walk_at "rh"
  refine ⟨_,hp,_,rfl,?_⟩
  walk_at "rh"
  refine ⟨_,.inr hpy,?_⟩
  rw [yl]
  walk_at "rh"
  have eM:t.v_MOST_STATEMENTS= .int 60:=by have:=T.k_MOST_STATEMENTS H;rw [D_MOST_STATEMENTS,Rp] at this;exact this
  rw [eM]
  walk_at "rh"
  rcases Nat.lt_or_ge 60 S.length with h61 | h60
  ·rw [if_pos (by omega)]
   exact ⟨by decide,qe (by omega) _ (AE.refl _)⟩
  rw [if_neg (by omega)]
  walk_at "rh"
  refine fun d hd v1 H1 s1 r1 v2 H2 s2 r2=> ?_
  have u0:=AE.upd (o:=DX P w d []) hd
  have hd2:=s2 _ _ (s1 _ _ (AD (H:=H) (a:=d) (o:=DX P w d [])))
  have s02:=(u0.trans s1).trans s2
  obtain ⟨pk,k1,k2,rfl,hpk,rk1,rk2⟩:=BM.mp (r1.same s2)
  rw [DU] at rk1 rk2
  subst rk1 rk2
  refine ⟨hd2,[.inl 0,.inl 0],hpk,?_⟩
  have tt:BO H2 (upd H2 d (DX P w d [([.inl 0,.inl 0],pk,v2)])):=(BO.refl _).upd (aH hd2)
  have Bz:TBx P w K (upd H2 d (DX P w d [([.inl 0,.inl 0],pk,v2)])) d S (okT S.length 1 0) [([.inl 0,.inl 0],pk,v2)]:=by
   refine ⟨AD,fun x hx=> ?_,fun x hx=> ?_,fun i j h=> ?_⟩
   ·rw [List.mem_singleton.mp hx];exact tt.tup hpk
   ·rw [List.mem_singleton.mp hx];exact ⟨0,0,rfl,.inl ⟨rfl,rfl⟩⟩
   ·rcases h with ⟨rfl,rfl⟩ | ⟨h1,h2,h3⟩
    ·exact ⟨v2,0,[],rfl,by rw [enL];exact Rp.t tt r2,UO S,bJ⟩
    ·omega
  have sz:AE H (upd H2 d (DX P w d [([.inl 0,.inl 0],pk,v2)])):=s02.upd2 hd
  generalize upd H2 d (DX P w d [([.inl 0,.inl 0],pk,v2)])=H3 at Bz sz ⊢
  clear tt s02 u0 s1 s2 hpk hd2 r1 r2
  walk_at "rh"
  refine ⟨by decide,by decide,by omega,by omega,?_⟩
  rw [show ((S.length:Int)+1 - 1).toNat=S.length by omega]
  refine GH (eI P w K (.ref p) (.ref py) d S H) ⟨_,none,none,rfl,sz,Bz,by simp⟩ ?_ ?_
  ·rintro n σ H4 hn ⟨es,o1,o2,rfl,s4,B4,l4⟩
   have en:(1:Int)+(n:Int)=((n+1:Nat):Int):=by omega
   walk_at "rd"
   rw [en]
   refine ⟨by omega,by omega,?_⟩
   rw [show ((S.length:Int) - ((n+1:Nat):Int)+1).toNat=S.length - n by omega]
   refine GH (dY P w K (.ref p) (.ref py) d S (n+1) H) ⟨es,_,rfl,s4,B4,by omega⟩ ?_ ?_
   ·rintro m σ H5 hm ⟨es5,o2',rfl,s5,B5,l5⟩
    have em:(0:Int)+(m:Int)=(m:Int):=by omega
    have em2:(m:Int)+((n+1:Nat):Int)=((m+(n+1):Nat):Int):=by omega
    walk_at "rd"
    rw [em,em2]
    refine ⟨.ref py,S,m,m+(n+1),d,_,es5,rfl,BF.mpr ⟨py,ys,rfl,s5.tup hpy,hly.same s5⟩,hone,by omega,by omega,h60,B5,fun i' j' a1 a2 a3 a4=> .inr ⟨a2,by omega,.inl (by omega)⟩,fun v z b H6 s6 Bm gm r6=> ?_⟩
    refine ⟨by decide,fun pk' hpk'=> ?_⟩
    have uk:=AE.upd (o:= .tup [.int (m:Int),.int ((m+(n+1):Nat):Int)]) hpk'
    have B7:=(B5.same s6).same uk
    have s7:=(s5.trans s6).trans uk
    have r7:=r6.same uk
    have hk7:SqT K (upd H6 pk' (.tup [.int (m:Int),.int ((m+(n+1):Nat):Int)])) pk' [.int (m:Int),.int ((m+(n+1):Nat):Int)]:=SqT.of AD
    generalize upd H6 pk' (.tup [.int (m:Int),.int ((m+(n+1):Nat):Int)])=H7 at B7 s7 r7 hk7 ⊢
    have new:∀ x∈es5,x.1≠[.inl (m:Int),.inl ((m+(n+1):Nat):Int)]:=by
     intro x hx e
     obtain ⟨i,j,e',h⟩:=B7.dom x hx
     rw [e'] at e
     injection e with a1 a2
     injection a2 with a2 _
     injection a1 with a1
     injection a2 with a2
     have b1:i=m:=by omega
     have b2:j=m+(n+1):=by omega
     subst b1 b2
     rcases h with h | h<;> omega
    refine ⟨es5,B7.h,B7.ks,[.inl (m:Int),.inl ((m+(n+1):Nat):Int)],hk7,new,Nat.le_of_lt (Nat.lt_of_le_of_lt (show es5.length≤10000 by omega) (by decide)),?_⟩
    have tt:BO H7 (upd H7 d (DX P w d (es5++[([.inl (m:Int),.inl ((m+(n+1):Nat):Int)],pk',v)]))):=(BO.refl _).upd (aH B7.h)
    refine ⟨_,_,rfl,s7.upd2 hd,⟨AD,fun x hx=> ?_,fun x hx=> ?_,fun i j h=> ?_⟩,by rw [List.length_append,List.length_singleton];omega⟩
    ·rcases List.mem_append.mp hx with hx | hx
     ·exact tt.tup (B7.ks x hx)
     ·rw [List.mem_singleton.mp hx];exact tt.tup hk7
    ·rcases List.mem_append.mp hx with hx | hx
     ·obtain ⟨i,j,e',h⟩:=B7.dom x hx
      exact ⟨i,j,e',h.imp id fun h=>⟨h.1,h.2.1,h.2.2.imp id fun h=>⟨h.1,by omega⟩⟩⟩
     ·rw [List.mem_singleton.mp hx]
      exact ⟨m,m+(n+1),rfl,.inr ⟨by omega,by omega,.inr ⟨by omega,by omega⟩⟩⟩
    ·by_cases hnew:i=m∧j=m+(n+1)
     ·obtain ⟨rfl,rfl⟩:=hnew
      exact ⟨v,z,b,ZG new,Rp.t tt r7,Bm,gm⟩
     ·have h':okT S.length (n+1) m i j:=by
       rcases h with h | ⟨h1,h2,h3⟩
       ·exact .inl h
       ·refine .inr ⟨h1,h2,?_⟩
        rcases h3 with h3 | h3
        ·exact .inl h3
        ·exact .inr ⟨h3.1,by omega⟩
      obtain ⟨v',z',b',e',r',q'⟩:=B7.val i j h'
      exact ⟨v',z',b',YZ e',Rp.t tt r',q'⟩
   ·rintro σ H5 ⟨es5,o2',rfl,s5,B5,l5⟩
    refine ⟨es5,_,_,rfl,s5,⟨B5.h,B5.ks,fun x hx=> ?_,fun i j h=>B5.val i j ?_⟩,by omega⟩
    ·obtain ⟨i,j,e',h⟩:=B5.dom x hx
     refine ⟨i,j,e',?_⟩
     rcases h with h | ⟨h1,h2,h3⟩
     ·exact .inl h
     ·exact .inr ⟨h1,h2,.inl (by omega)⟩
    ·rcases h with h | ⟨h1,h2,h3⟩
     ·exact .inl h
     ·refine .inr ⟨h1,h2,?_⟩
      by_cases c:j - i<n+1
      ·exact .inl c
      ·exact .inr ⟨by omega,by omega⟩
  ·rintro σ H4 ⟨es,o1,o2,rfl,s4,B4,l4⟩
   have okn:okT S.length (S.length+1) 0 0 S.length:=by
    by_cases h:S.length=0
    ·exact .inl ⟨rfl,h⟩
    ·exact .inr ⟨by omega,Nat.le_refl _,.inl (by omega)⟩
   walk_at "rh"
   walk_at "rh"
   intro v5 H5 s5 r5
   walk_at "rd"
   refine ⟨by decide,fun pk' hpk'=> ?_⟩
   have uk:=AE.upd (o:= .tup [.int 0,.int (S.length:Int)]) hpk'
   have B7:=(B4.same s5).same uk
   obtain ⟨v,z,b,e,r,Bm,gm⟩:=B7.val _ _ okn
   obtain ⟨pv,x2,y2,rfl,h2',rx2,ry2⟩:=BM.mp r
   refine ⟨es,B7.h,B7.ks,[.inl 0,.inl (S.length:Int)],SqT.of AD,_,e,?_⟩
   walk_at "rd"
   refine ⟨_,h2',_,rfl,by decide,fun pr hpr=> ?_⟩
   have ur:=AE.upd (o:= .tup [v5,y2]) hpr
   exact q h60 _ _ (((s4.trans s5).trans uk).trans ur)
end
def okI (i f:Int):Bool:=decide (-1000000≤i * f∧i * f≤1000000)
def Am.fit (f:Int):Am→Bool
 | .int i=>okI i f
 | .src a _ m=>okI a f && okI m f
def Am.lo:Am→Prop
 | .int i=> -2000000≤i∧i≤2000000
 | .src a _ m=>(-2000000≤a∧a≤2000000)∧(-2000000≤m∧m≤2000000)
mutual
def Stm.fit (f:Int):Stm→Bool
 | .go a=>a.fit f
 | .turn _=>true
 | .ink _=>true
 | .up=>true
 | .down=>true
 | .mark _=>true
 | .back _=>true
 | .again _ b=>Stm.fits f b
 | .ifs _ b c=>Stm.fits f b && Stm.fits f c
 | .dow _ _=>true
def Stm.fits (f:Int):List Stm→Bool
 | []=>true
 | s::r=>s.fit f && Stm.fits f r
end
mutual
def Stm.lo:Stm→Prop
 | .go a=>a.lo
 | .turn _=>True
 | .ink _=>True
 | .up=>True
 | .down=>True
 | .mark _=>True
 | .back _=>True
 | .again _ b=>Stm.los b
 | .ifs _ b c=>Stm.los b∧Stm.los c
 | .dow _ _=>True
def Stm.los:List Stm→Prop
 | []=>True
 | s::r=>s.lo∧Stm.los r
end
theorem IQ (f:Int):∀ (a b:List Stm),Stm.fits f (a++b)=(Stm.fits f a && Stm.fits f b)
 | [],b=>by rw [List.nil_append,Stm.fits,Bool.true_and]
 | s::a,b=>by rw [List.cons_append,Stm.fits,Stm.fits,IQ f a,Bool.and_assoc]
theorem CB (f:Int) (s:Stm):Stm.fits f [s]=s.fit f:=by rw [Stm.fits,Stm.fits,Bool.and_true]
theorem YT {f:Int} {b:List Stm} {i:Nat} {s:Stm} (h:b[i]? =some s) (hs:s.fit f=false):Stm.fits f b=false:=by
 have e:b=b.take i++s::b.drop (i+1):=by
  have hi:=(List.getElem?_eq_some_iff.mp h).1
  conv=>lhs;rw [← List.take_append_drop i b]
  rw [List.drop_eq_getElem_cons hi,(List.getElem?_eq_some_iff.mp h).2]
 rw [e,IQ,Stm.fits,hs,Bool.false_and,Bool.and_false]
theorem WC:∀ {b:List Stm} {i:Nat} {s:Stm},Stm.los b→b[i]? =some s→s.lo
 | [],_,_,_,h=>by simp at h
 | x::b,0,s,r,h=>by rw [Stm.los] at r;cases h;exact r.1
 | x::b,i+1,s,r,h=>by rw [Stm.los] at r;exact WC r.2 h
theorem WJ:∀ {b:List Stm} {i:Nat} {s:Stm},b[i]? =some s→s.dp≤Stm.dps b
 | [],_,_,h=>by simp at h
 | x::b,0,s,h=>by rw [Stm.dps];cases h;omega
 | x::b,i+1,s,h=>by rw [Stm.dps];have:=WJ (b:=b) h;omega
theorem stK (f:Int) (s:Stm):(∃ a,s= .go a)∨(∃ a b,s= .again a b)∨(∃ a b c,s= .ifs a b c)∨∃ (k:Str) (ds:List L2.D),s.D= .tup (.str k::ds)∧k≠"go"∧k≠"again"∧k≠"if"∧s.fit f=true:=by
 cases s with
 | go a=>exact .inl ⟨a,rfl⟩
 | again a b=>exact .inr (.inl ⟨a,b,rfl⟩)
 | ifs a b c=>exact .inr (.inr (.inl ⟨a,b,c,rfl⟩))
 | turn a=>exact .inr (.inr (.inr ⟨"turn",_,by rw [Stm.D],by decide+kernel,by decide+kernel,by decide+kernel,by rw [Stm.fit]⟩))
 | ink a=>exact .inr (.inr (.inr ⟨"ink",_,by rw [Stm.D],by decide+kernel,by decide+kernel,by decide+kernel,by rw [Stm.fit]⟩))
 | up=>exact .inr (.inr (.inr ⟨"up",_,by rw [Stm.D],by decide+kernel,by decide+kernel,by decide+kernel,by rw [Stm.fit]⟩))
 | down=>exact .inr (.inr (.inr ⟨"down",_,by rw [Stm.D],by decide+kernel,by decide+kernel,by decide+kernel,by rw [Stm.fit]⟩))
 | mark n=>exact .inr (.inr (.inr ⟨"mark",_,by rw [Stm.D],by decide+kernel,by decide+kernel,by decide+kernel,by rw [Stm.fit]⟩))
 | back n=>exact .inr (.inr (.inr ⟨"back",_,by rw [Stm.D],by decide+kernel,by decide+kernel,by decide+kernel,by rw [Stm.fit]⟩))
 | dow x as=>exact .inr (.inr (.inr ⟨"do",_,by rw [Stm.D],by decide+kernel,by decide+kernel,by decide+kernel,by rw [Stm.fit]⟩))
theorem FR {K:PySem.W.Frag}:PySem.W.kitOne K (.type "int") (.type "tuple")=some false:=bG (by decide+kernel) (by decide+kernel) (by decide+kernel)
theorem at0 {x:V} {xs:List V}:atI (x::xs) 0=some x:=AS (j:=0) rfl
section
variable {P:Program} {w:World} {K:PySem.W.Frag} {mg:Str→Option Value} {base:Heap} {t:Adr}
theorem ZM {H:Hp} {a b c:L2.D} {xs:List V} (h:RpL K H [a,b,c] xs):∃ x y z,xs=[x,y,z]∧Rp K H a x∧Rp K H b y∧Rp K H c z:=by
 rw [RpL] at h
 obtain ⟨x,_,rfl,a0,h⟩:=h
 rw [RpL] at h
 obtain ⟨y,_,rfl,a1,h⟩:=h
 rw [RpL] at h
 obtain ⟨z,_,rfl,a2,h⟩:=h
 rw [RpL] at h
 subst h
 exact ⟨x,y,z,rfl,a0,a1,a2⟩
theorem dU {H:Hp} {a b:L2.D} {xs:List V} (h:RpL K H [a,b] xs):∃ x y,xs=[x,y]∧Rp K H a x∧Rp K H b y:=by
 rw [RpL] at h
 obtain ⟨x,_,rfl,a0,h⟩:=h
 rw [RpL] at h
 obtain ⟨y,_,rfl,a1,h⟩:=h
 rw [RpL] at h
 subst h
 exact ⟨x,y,rfl,a0,a1⟩
theorem OV {H:Hp} {i:Int} {v:V} (h:Rp K H (.int i) v):v= .int i:=by rw [Rp] at h;exact h
def NA (t:Adr):Sp:=fun vs H Q E=>∃ (v f:Int),vs=[.int v,.int f]∧(-2000000≤v∧v≤2000000)∧(-1001≤f∧f≤1001)∧(okI v f=true→Q (.int (v * f)) H)∧(okI v f=false→E (.ref t.c_TooGreat) none H)
theorem EX (T:Txt w K mg t):BR P w K mg base (CXr P w) 1 t.a_inttimes t.d_inttimes ["value","factor"] (NA t):=by
 refine T.inttimes.F.okR HW (fun vs H Q E h=> ?_) (fun cdv A outer s H vs Q E hr h=> ?_)
 ·obtain ⟨v,f,rfl,_⟩:=h;rfl
 ·obtain ⟨v,f,rfl,hv,hf,q,qe⟩:=h
  have eM:t.v_MOST_AMOUNT= .int 1000000:=by have:=T.k_MOST_AMOUNT H;rw [D_MOST_AMOUNT,Rp] at this;exact this
  refine ⟨_,s!"2{HW.nd}{BT}0A1AEL{@UW _ _ _ _ (@XC _ _ _ _ _ _ _ _ _ _ _ _ VE VE s!"_{T.g_MOST_AMOUNT}{T.r_MOST_AMOUNT}Xr" s!"2A" s!"_{T.g_MOST_AMOUNT}{T.r_MOST_AMOUNT}X" (by with_unfolding_all rfl))}{JR WQ rfl T.x_TooGreat (by rfl) T.mg_TooGreat s!"NCB"}GSR2AKGHH",?_⟩
  walk_at "ro"
  rw [eM]
  walk_at "ro"
  refine ⟨DQ (by omega) (by omega),?_⟩
  unfold okI at q qe
  by_cases c1: -1000000≤v * f
  ·rw [if_pos c1]
   by_cases c2:v * f≤1000000
   ·rw [if_neg (by omega)]
    exact q (decide_eq_true ⟨c1,c2⟩)
   ·rw [if_pos (by omega)]
    exact ⟨by decide,qe (decide_eq_false fun h=>c2 h.2)⟩
  ·rw [if_neg c1]
   exact ⟨by decide,qe (decide_eq_false fun h=>c1 h.1)⟩
def aS (K:PySem.W.Frag) (t:Adr):Sp:=fun vs H Q E=>∃ (va:V) (a:Am) (f:Int),vs=[va,.int f]∧Rp K H a.D va∧a.lo∧(-1001≤f∧f≤1001)∧(a.fit f=true→∀ v H',AE H H'→Q v H')∧(a.fit f=false→∀ H',AE H H'→E (.ref t.c_TooGreat) none H')
theorem JY (T:Txt w K mg t):BR P w K mg base (CXr P w) 2 t.a_amounttimes t.d_amounttimes ["amount","factor"] (aS K t):=by
 refine T.amounttimes.F.okR CP (fun vs H Q E h=> ?_) (fun cdv A outer s H vs Q E hr h=> ?_)
 ·obtain ⟨va,a,f,rfl,_⟩:=h;rfl
 ·obtain ⟨va,a,f,rfl,ra,la,hf,q,qe⟩:=h
  refine ⟨_,s!"{IP (c := .type "tuple")}{T.z_isinstance}{boot_isinstance}0A{.ty "tuple"}{T.z_tuple}{boot_tuple}sCBBWq0A2{CP.nd}Q3{CP.nd}Q4{CP.nd}QcVVVml{EX T}{hr.mono (by decide)}{T.inttimes.m}{T.inttimes.F.kp}{T.inttimes.b}{ET}2A1ACBBM3A{EX T}{hr.mono (by decide)}{T.inttimes.m}{T.inttimes.F.kp}{T.inttimes.b}{ET}4A1ACBBMCBBBFKGHSR{EX T}{hr.mono (by decide)}{T.inttimes.m}{T.inttimes.F.kp}{T.inttimes.b}{ET}0A1ACBBMKGH",?_⟩
  walk_at "ro"
  cases a with
  | int i=>
   have ra:va= .int i:=by rw [Am.D,Rp] at ra;exact ra
   subst ra
   refine ⟨rfl,⟨_,rfl⟩,_,.inl (.int i),_,FR,?_⟩
   walk_at "ro"
   exact ⟨i,f,rfl,la,hf,fun h=>q h _ H (AE.refl H),fun h=>qe h H (AE.refl H)⟩
  | src f0 s0 m0=>
   rw [Am.D] at ra
   obtain ⟨pa,xs,rfl,hpa,rl⟩:=BF.mp ra
   obtain ⟨x0,x1,x2,rfl,e0,e1,e2⟩:=ZM rl
   cases OV e0;cases EQ e1;cases OV e2
   refine ⟨rfl,⟨_,rfl⟩,_,.inr ⟨pa,rfl,⟨_,hpa⟩,rfl⟩,_,ES,?_⟩
   walk_at "ro"
   refine ⟨_,hpa,rfl,?_⟩
   walk_at "ro"
   refine ⟨f0,f,rfl,la.1,hf,fun h1=>⟨m0,f,rfl,la.2,hf,fun h2=>⟨by decide,fun p hp=>q (by rw [Am.fit,h1,h2];rfl) _ _ (AE.upd hp)⟩,fun h2=>qe (by rw [Am.fit,h2,Bool.and_false]) H (AE.refl H)⟩,fun h1=>qe (by rw [Am.fit,h1,Bool.false_and]) H (AE.refl H)⟩
def cO (K:PySem.W.Frag) (t:Adr) (n:Nat):Sp:=fun vs H Q E=>∃ (v:V) (s:Stm) (f:Int),vs=[v,.str "go",.int f]∧Rp K H s.D v∧s.lo∧s.dp≤n∧(-1001≤f∧f≤1001)∧(s.sz≤100)∧(s.fit f=true→∀ v H',AE H H'→Q v H')∧(s.fit f=false→∀ H',AE H H'→E (.ref t.c_TooGreat) none H')
def OU (K:PySem.W.Frag) (t:Adr) (n:Nat):Sp:=fun vs H Q E=>∃ (v:V) (b:List Stm) (f:Int),vs=[v,.str "go",.int f]∧Rp K H (bD b) v∧Stm.los b∧Stm.dps b<n∧(-1001≤f∧f≤1001)∧(Stm.szs b≤100)∧(Stm.fits f b=true→∀ v H',AE H H'→Q v H')∧(Stm.fits f b=false→∀ H',AE H H'→E (.ref t.c_TooGreat) none H')
abbrev IhT (P:Program) (w:World) (K:PySem.W.Frag) (mg:Str→Option Value) (base:Heap) (t:Adr) (n:Nat):Prop:=BR P w K mg base (CXr P w) (2 * n+4) t.a_bodytimes t.d_bodytimes ["body","first","factor"] (OU K t n)
def aV (p:Addr) (f:Int) (b c:List Stm) (H:Hp) (i:Nat) (σ:L2.St) (H2:Hp):Prop:=∃ (vs:List V) (o:Option V),σ=[some (.str "go"),some (.int f),o]∧AE H H2∧H2 p=some (.lst vs)∧vs.length=i∧(1≤i→Stm.fits f b=true)∧(2≤i→Stm.fits f c=true)
theorem GK (T:Txt w K mg t) (n:Nat) (ih:IhT P w K mg base t n):BR P w K mg base (CXr P w) (2 * n+5) t.a_statementtimes t.d_statementtimes ["statement","first","factor"] (cO K t n):=by
 refine T.statementtimes.F.okR DS (fun vs H Q E h=> ?_) (fun cdv A outer s H vs Q E hr h=> ?_)
 ·obtain ⟨v,s1,f,rfl,_⟩:=h;rfl
 ·obtain ⟨v,s1,f,rfl,rv,ls,dn,hf,hz,q,qe⟩:=h
  refine ⟨_,s!"{CI}{BN}0ADJ1AT1A{JY T}{hr.mono (by omega)}{T.amounttimes.m}{T.amounttimes.F.kp}{T.amounttimes.b}{ET}{BN}0ADJ2ACBBMCBBFKGSR{CI}{BN}0ADJNTN{BN}0ADJ{ih}{hr.mono (by omega)}{T.bodytimes.m}{T.bodytimes.F.kp}{T.bodytimes.b}{ET}{BN}0ADJ1A2ACBBBMCBBBFKGSR{CI}{BN}0ADJNT{NB (i := 3) (sc := AJ CT) (N0 := ["statement", "first", "factor", "bodies"]) (N := ["first", "factor", "body"]) (js := [1, 2]) (os := ["body"]) XA rfl rfl DS.nd rfl (Or.inl rfl) rfl rfl rfl ⟨by decide +kernel, by decide +kernel, by decide +kernel, by decide +kernel, by decide +kernel, by decide +kernel⟩ s!"0ADa{@RL _}kn" (fun _ _ _ _ => s!"2{show List.Nodup (["first","factor","body"]:List Str) by decide+kernel}Q") (fun _ _ _ _ => s!"g") (fun _ _ _ _ => s!"{ih}{hr.mono (by omega)}{T.bodytimes.m}{T.bodytimes.F.kp}{T.bodytimes.b}{UV}2A0A1ACBBBM")}N{BN}0ADJ{BA}3ADJ{BA}3ADJCBBBBFKGHSR0AKGHHH",?_⟩
  walk_at "ro"
  rcases stK f s1 with ⟨a,rfl⟩ | ⟨a,b,rfl⟩ | ⟨a,b,c,rfl⟩ | ⟨k,ds,eD,n1,n2,n3,ef⟩
  ·rw [Stm.D] at rv
   obtain ⟨p,xs,rfl,hp,rl⟩:=BF.mp rv
   obtain ⟨x0,x1,rfl,r0,r1⟩:=dU rl
   cases EQ r0
   rw [Stm.lo] at ls
   dsimp only
   walk_at "b37"
   rw [if_pos rfl]
   refine ⟨_,hp,x1,AS (j:=1) rfl,x1,a,f,rfl,r1,ls,hf,fun h v1 H1 s1=>⟨by decide,fun p1 hp1=>q (by rw [Stm.fit];exact h) _ _ (s1.trans (AE.upd hp1))⟩,fun h H1 s1=>qe (by rw [Stm.fit];exact h) H1 s1⟩
  ·rw [Stm.D,BP] at rv
   obtain ⟨p,xs,rfl,hp,rl⟩:=BF.mp rv
   obtain ⟨x0,x1,x2,rfl,r0,r1,r2⟩:=ZM rl
   cases EQ r0
   rw [Stm.lo] at ls
   rw [Stm.dp] at dn
   rw [Stm.sz] at hz
   dsimp only
   walk_at "b37"
   rw [if_neg (by decide+kernel)]
   walk_at "b37"
   rw [if_pos rfl]
   refine ⟨_,hp,x1,AS (j:=1) rfl,_,hp,x2,AS (j:=2) rfl,x2,b,f,rfl,r2,ls,by omega,hf,by omega,fun h v1 H1 s1=>⟨by decide,fun p1 hp1=>q (by rw [Stm.fit];exact h) _ _ (s1.trans (AE.upd hp1))⟩,fun h H1 s1=>qe (by rw [Stm.fit];exact h) H1 s1⟩
  ·rw [Stm.D,BP,BP] at rv
   obtain ⟨p,xs,rfl,hp,rl⟩:=BF.mp rv
   rw [RpL] at rl
   obtain ⟨x0,xs,rfl,r0,rl⟩:=rl
   obtain ⟨x1,x2,x3,rfl,r1,r2,r3⟩:=ZM rl
   cases EQ r0
   rw [Stm.lo] at ls
   rw [Stm.dp] at dn
   rw [Stm.sz] at hz
   dsimp only
   walk_at "b37"
   rw [if_neg (by decide+kernel)]
   walk_at "b37"
   rw [if_neg (by decide+kernel)]
   walk_at "b37"
   rw [if_pos rfl]
   refine ⟨p,rfl,_,hp,fun ps H1 s1 h1=> ?_⟩
   have h1:SqT K H1 ps [x2,x3]:=h1
   refine ⟨⟨_,h1⟩,fun lp hlp=> ?_⟩
   refine LX (xs:=[x2,x3]) (aV lp f b c H1) ⟨[],none,rfl,AE.upd hlp,AD,rfl,by omega,by omega⟩ (fun i σ H2 _ z=>by obtain ⟨_,_,rfl,s2,_⟩:=z;exact s2.tup h1) ?_ ?_
   ·rintro i x σ H2 hx ⟨vs,o,rfl,s2,h2,lv,g1,g2⟩
    have s12:=s1.trans s2
    have hi:i<2:=(List.getElem?_eq_some_iff.mp hx).1
    obtain ⟨d,rd,ld,dd0,zd,ed⟩:∃ d:List Stm,Rp K H (bD d) x∧Stm.los d∧Stm.dps d<n∧Stm.szs d≤100∧((i=0∧d=b)∨(i=1∧d=c)):=by
     have:i=0∨i=1:=by omega
     rcases this with rfl | rfl
     ·cases hx;exact ⟨b,r2,ls.1,by omega,by omega,.inl ⟨rfl,rfl⟩⟩
     ·cases hx;exact ⟨c,r3,ls.2,by omega,by omega,.inr ⟨rfl,rfl⟩⟩
    walk_at "ro"
    refine ⟨x,d,f,rfl,rd.same s12,ld,dd0,hf,zd,fun h v1 H3 s3=> ?_,fun h H3 s3=> ?_⟩
    ·refine ⟨vs,s3 _ _ h2,DO (by omega),nx (by exact hi) ⟨vs++[v1],_,rfl,(s2.trans s3).upd2 hlp,AD,by rw [List.length_append,lv];rfl,?_,?_⟩⟩
     ·intro _
      rcases ed with ⟨_,rfl⟩ | ⟨rfl,_⟩
      ·exact h
      ·exact g1 (Nat.le_refl _)
     ·intro hi2
      rcases ed with ⟨rfl,_⟩ | ⟨_,rfl⟩
      ·omega
      ·exact h
    ·refine qe ?_ H3 (s12.trans s3)
     rw [Stm.fit]
     rcases ed with ⟨_,rfl⟩ | ⟨_,rfl⟩
     ·rw [h,Bool.false_and]
     ·rw [h,Bool.and_false]
   ·rintro σ H2 ⟨vs,o,rfl,s2,h2,lv,g1,g2⟩
    have s12:=s1.trans s2
    have lv:vs.length=2:=lv
    match vs,lv with
    | [y0,y1],_=>
     walk_at "ro"
     refine ⟨_,s12.tup hp,x1,AS (j:=1) rfl,_,SqL.of h2,y0,at0,_,SqL.of h2,y1,AS (j:=1) rfl,by decide,fun p1 hp1=> ?_⟩
     exact q (by rw [Stm.fit,g1 (Nat.le_of_ble_eq_true rfl),g2 (Nat.le_of_ble_eq_true rfl)];rfl) _ _ (s12.trans (AE.upd hp1))
  ·rw [eD] at rv
   obtain ⟨p,xs,rfl,hp,rl⟩:=BF.mp rv
   rw [RpL] at rl
   obtain ⟨x0,xs,rfl,r0,rl⟩:=rl
   cases EQ r0
   dsimp only
   walk_at "b37"
   rw [if_neg n1]
   walk_at "b37"
   rw [if_neg n2]
   walk_at "b37"
   rw [if_neg n3]
   exact q ef _ H (AE.refl H)
def fA (p:Addr) (f:Int) (b:List Stm) (H:Hp) (i:Nat) (σ:L2.St) (H2:Hp):Prop:=∃ (vs:List V) (o:Option V),σ=[some (.str "go"),some (.int f),o]∧AE H H2∧H2 p=some (.lst vs)∧vs.length=i∧Stm.fits f (b.take i)=true
theorem IJ:∀ b:List Stm,b.length≤Stm.szs b
 | []=>Nat.zero_le _
 | s::b=>by
  have h1:=IJ b
  have h2:1≤s.sz:=by cases s<;> rw [Stm.sz]<;> omega
  rw [Stm.szs,List.length_cons];omega
theorem UB:∀ {b:List Stm} {i:Nat} {s:Stm},b[i]? =some s→s.sz≤Stm.szs b
 | [],_,_,h=>by simp at h
 | x::b,0,s,h=>by rw [Stm.szs];cases h;omega
 | x::b,i+1,s,h=>by rw [Stm.szs];have:=UB (b:=b) h;omega
theorem KD (T:Txt w K mg t) (n:Nat) (ih:IhT P w K mg base t n):IhT P w K mg base t (n+1):=by
 refine (show BR P w K mg base (CXr P w) (2 * (n+1)+4) t.a_bodytimes t.d_bodytimes ["body","first","factor"] (OU K t (n+1)) from ?_)
 refine T.bodytimes.F.okR LZ (fun vs H Q E h=> ?_) (fun cdv A outer s H vs Q E hr h=> ?_)
 ·obtain ⟨v,b,f,rfl,_⟩:=h;rfl
 ·obtain ⟨v,b,f,rfl,rv,ls,dn,hf,hz,q,qe⟩:=h
  obtain ⟨pb,xb,rfl,hb,rl,lb⟩:=QP rv
  have lz:=IJ b
  refine ⟨_,s!"{@KQ _ _ _ _ _ _ _ _ _ ER (by rfl) T.z_tuple boot_tuple s!"{WD (sc:=AJ FC) (N0:=["body","first","factor"]) (N:=["first","factor","statement"]) (js:=[1,2]) (os:=["statement"]) XA rfl rfl rfl rfl rfl ⟨by decide+kernel,by decide+kernel,by decide+kernel,by decide+kernel,by decide+kernel,by decide+kernel⟩ s!"0An" (fun _ _ _ _=>s!"2{show List.Nodup (["first", "factor", "statement"] : List Str) by decide +kernel}Q") (fun _ _ _ _=>s!"g") (fun _ _ _ _=>s!"{GK T n ih}{hr.mono (by omega)}{T.statementtimes.m}{T.statementtimes.F.kp}{T.statementtimes.b}{UV}2A0A1ACBBBM")}CB" (by decide) (by decide) (by rfl) (by rfl)}KG",?_⟩
  walk_at "ro"
  refine ⟨⟨_,hb⟩,fun lp hlp=> ?_⟩
  refine LX (xs:=xb) (fA lp f b H) ⟨[],none,rfl,AE.upd hlp,AD,rfl,by rw [List.take_zero,Stm.fits]⟩ (fun i σ H2 _ z=>by obtain ⟨_,_,rfl,s2,_⟩:=z;exact s2.tup hb) ?_ ?_
  ·rintro i x σ H2 hx ⟨vs,o,rfl,s2,h2,lv,g⟩
   have hi:=(List.getElem?_eq_some_iff.mp hx).1
   have hs:b[i]? =some b[i]:=List.getElem?_eq_getElem (by omega)
   obtain ⟨x',ex,rx⟩:=QG (rl.same s2) hs
   rw [hx] at ex;cases ex
   have d1:=WJ hs
   have z1:=UB hs
   walk_at "ro"
   refine ⟨x,b[i],f,rfl,rx,WC ls hs,by omega,hf,by omega,fun h v1 H3 s3=> ?_,fun h H3 s3=> ?_⟩
   ·refine ⟨vs,s3 _ _ h2,DO (by omega),nx hi ⟨vs++[v1],_,rfl,(s2.trans s3).upd2 hlp,AD,by rw [List.length_append,lv];rfl,?_⟩⟩
    rw [List.take_add_one,hs,IQ,g,Bool.true_and]
    exact (CB f _).trans h
   ·exact qe (YT hs h) H3 (s2.trans s3)
  ·rintro σ H2 ⟨vs,o,rfl,s2,h2,lv,g⟩
   rw [lb,List.take_length] at g
   walk_at "ro"
   exact ⟨vs,SqL.of h2,fun p1 hp1=>q g _ _ (s2.trans (AE.upd hp1))⟩
theorem FS (T:Txt w K mg t):∀ n,IhT P w K mg base t n
 | 0=>⟨fun vs H Q E ⟨_,_,_,_,_,_,h,_⟩=>absurd h (Nat.not_lt_zero _),fun A outer s H args us vs Q E _ _ _ _ ⟨_,_,_,_,_,_,h,_⟩=>absurd h (Nat.not_lt_zero _)⟩
 | n+1=>KD T n (FS T n)
theorem FZ (T:Txt w K mg t):BR P w K mg base (CXr P w) 12 t.a_bodytimes t.d_bodytimes ["body","first","factor"] (OU K t 4):=FS T 4
def JL (f:Int) (ws:List Wd) (body:List Stm):Bool:=(ws.all fun z=>Stm.fits f z.body) && Stm.fits f body
structure PLo (ws:List Wd) (body:List Stm):Prop where
 l:ws.length≤10
 w:∀ z∈ws,Stm.los z.body∧Stm.dps z.body<4∧Stm.szs z.body≤100
 b:Stm.los body∧Stm.dps body<4∧Stm.szs body≤100
def aM (K:PySem.W.Frag) (t:Adr):Sp:=fun vs H Q E=>∃ (v:V) (ws:List Wd) (body:List Stm) (f:Int),vs=[v,.str "go",.int f]∧Rp K H (pD ws body) v∧PLo ws body∧(-1001≤f∧f≤1001)∧(JL f ws body=true→∀ v H',AE H H'→Q v H')∧(JL f ws body=false→∀ H',AE H H'→E (.ref t.c_TooGreat) none H')
def dM (p:Addr) (f:Int) (ws:List Wd) (H:Hp) (i:Nat) (σ:L2.St) (H2:Hp):Prop:=∃ (vs:List V) (o1 o2 o3:Option V),σ=[some (.str "go"),some (.int f),o1,o2,o3]∧AE H H2∧H2 p=some (.lst vs)∧vs.length=i∧((ws.take i).all fun z=>Stm.fits f z.body)=true
theorem IF (T:Txt w K mg t):BR P w K mg base (CXr P w) 13 t.a_programtimes t.d_programtimes ["program","first","factor"] (aM K t):=by
 refine T.programtimes.F.okR CG (fun vs H Q E h=> ?_) (fun cdv A outer s H vs Q E hr h=> ?_)
 ·obtain ⟨v,ws,body,f,rfl,_⟩:=h;rfl
 ·obtain ⟨v,ws,body,f,rfl,rv,lo,hf,q,qe⟩:=h
  obtain ⟨p,va,vb,rfl,hp,ra,rb⟩:=BM.mp rv
  obtain ⟨pw,xw,rfl,hw,rlw⟩:=BF.mp ra
  have lxw:xw.length=ws.length:=by rw [rlw.length,List.length_map]
  have l10:=lo.l
  refine ⟨_,s!"0A3{CG.nd}Q4{CG.nd}QcVVml{NB (i := 5) (sc := AJ DJ) (N0 := ["program", "first", "factor", "words", "body", "told"]) (N := ["first", "factor", "name", "many", "inner"]) (js := [1, 2]) (os := ["name", "many", "inner"]) XA rfl rfl CG.nd rfl (Or.inl rfl) rfl rfl rfl ⟨by decide +kernel, by decide +kernel, by decide +kernel, by decide +kernel, by decide +kernel, by decide +kernel⟩ s!"3An" (fun _ _ _ _ => (@QL _ (K) _ _ _ _ (3) rfl rfl s!"2{show List.Nodup (["first","factor","name","many","inner"]:List Str) by decide+kernel}Q3{show List.Nodup (["first","factor","name","many","inner"]:List Str) by decide+kernel}Q4{show List.Nodup (["first","factor","name","many","inner"]:List Str) by decide+kernel}QcVVV" (by rfl) (by rfl))) (fun _ _ _ _ => s!"g") (fun _ _ _ _ => s!"2A3A{FZ T}{hr.mono (by decide)}{T.bodytimes.m}{T.bodytimes.F.kp}{T.bodytimes.b}{UV}4A0A1ACBBBMCBBBF")}{@KQ _ _ _ _ _ _ _ _ _ ER (by rfl) T.z_tuple boot_tuple s!"5ACB" (by decide) (by decide) (by rfl) (by rfl)}{FZ T}{hr.mono (by decide)}{T.bodytimes.m}{T.bodytimes.F.kp}{T.bodytimes.b}{ET}4A1A2ACBBBMCBBFKGHH",?_⟩
  walk_at "ro"
  refine ⟨_,hp,rfl,?_⟩
  walk_at "ro"
  refine ⟨⟨_,hw⟩,fun lp hlp=> ?_⟩
  refine LX (xs:=xw) (dM lp f ws H) ⟨[],none,none,none,rfl,AE.upd hlp,AD,rfl,rfl⟩ (fun i σ H2 _ z=>by obtain ⟨_,_,_,_,rfl,s2,_⟩:=z;exact s2.tup hw) ?_ ?_
  ·rintro i x σ H2 hx ⟨vs,o1,o2,o3,rfl,s2,h2,lv,g⟩
   have hi:=(List.getElem?_eq_some_iff.mp hx).1
   obtain ⟨z,pz,vz,ez,rfl,hz,rz⟩:=aG rlw hx
   have hm:=List.mem_of_getElem? ez
   obtain ⟨z1,z2,z3⟩:=lo.w z hm
   walk_at "ro"
   refine ⟨_,s2.tup hz,?_⟩
   walk_at "ro"
   refine ⟨vz,z.body,f,rfl,rz.same s2,z1,z2,hf,z3,fun h v1 H3 s3=>⟨by decide,fun p1 hp1=> ?_⟩,fun h H3 s3=> ?_⟩
   ·have u:=AE.upd (o:= .tup [.str z.name,.int z.many,v1]) hp1
    refine ⟨vs,u _ _ (s3 _ _ h2),DO (by omega),nx hi ⟨vs++[.ref p1],_,_,_,rfl,((s2.trans s3).trans u).upd2 hlp,AD,by rw [List.length_append,lv];rfl,?_⟩⟩
    rw [List.take_add_one,ez,List.all_append,g,Bool.true_and]
    show (Stm.fits f z.body && true)=true
    rw [h];rfl
   ·refine qe ?_ H3 (s2.trans s3)
    unfold JL
    have:(ws.all fun z=>Stm.fits f z.body)=false:=by
     rw [Bool.eq_false_iff]
     intro ha
     rw [List.all_eq_true.mp ha z hm] at h
     cases h
    rw [this,Bool.false_and]
  ·rintro σ H2 ⟨vs,o1,o2,o3,rfl,s2,h2,lv,g⟩
   rw [lxw,List.take_length] at g
   walk_at "ro"
   refine ⟨vs,SqL.of h2,fun p1 hp1=> ?_⟩
   have u:=AE.upd (o:= .tup vs) hp1
   refine ⟨vb,body,f,rfl,(rb.same s2).same u,lo.b.1,lo.b.2.1,hf,lo.b.2.2,fun h v1 H3 s3=>⟨by decide,fun p2 hp2=> ?_⟩,fun h H3 s3=> ?_⟩
   ·exact q (by unfold JL;rw [g,h];rfl) _ _ (((s2.trans u).trans s3).trans (AE.upd hp2))
   ·exact qe (by unfold JL;rw [h,Bool.and_false]) _ ((s2.trans u).trans s3)
def SX (K:PySem.W.Frag) (t:Adr):Sp:=fun vs H Q E=>∃ (v:V) (ws:List Wd) (body:List Stm) (f:Int),vs=[v,.int f]∧Rp K H (pD ws body) v∧PLo ws body∧(-1001≤f∧f≤1001)∧(JL f ws body=true→∀ v H',AE H H'→Q v H')∧(JL f ws body=false→∀ H',AE H H'→E (.ref t.c_TooGreat) none H')
theorem TJ (T:Txt w K mg t):BR P w K mg base (CXr P w) 14 t.a_larger t.d_larger ["program","factor"] (SX K t):=by
 refine T.larger.F.okR RT (fun vs H Q E h=> ?_) (fun cdv A outer s H vs Q E hr h=> ?_)
 ·obtain ⟨v,ws,body,f,rfl,_⟩:=h;rfl
 ·obtain ⟨v,ws,body,f,rfl,rv,lo,hf,q,qe⟩:=h
  refine ⟨_,s!"{IF T}{hr.mono (by decide)}{T.programtimes.m}{T.programtimes.F.kp}{T.programtimes.b}{ET}0AN1ACBBBMKG",?_⟩
  walk_at "ro"
  exact ⟨v,ws,body,f,rfl,rv,lo,hf,q,qe⟩
theorem AL {H:Hp} {p:Addr} {d:L2.D} {ds:List L2.D} {xs:List V} (e:d= .tup ds) (hp:H p=none) (h:RpL K H ds xs):Rp K (upd H p (.tup xs)) d (.ref p):=by
 subst e
 exact BF.mpr ⟨p,xs,rfl,SqT.of AD,h.same (AE.upd hp)⟩
theorem DB {H:Hp} (i:Int):Rp K H (.int i) (.int i):=by rw [Rp]
theorem ED {H:Hp} (x:Str):Rp K H (.str x) (.str x):=by rw [Rp]
def SS (K:PySem.W.Frag) (t:Adr):Sp:=fun vs H Q E=>∃ (v:V) (ws:List Wd) (body:List Stm) (e:Int),vs=[v,.int e]∧Rp K H (pD ws body) v∧ws.length≤10∧wsz ws+Stm.szs body≤4000∧
 (wsz ws+Stm.szs body<4000→∀ v' H',AE H H'→Rp K H' (pD ws (.turn (.int e)::body)) v'→Q v' H')∧(4000≤wsz ws+Stm.szs body→∀ H',AE H H'→E (.ref t.c_TooLong) none H')
theorem LG (T:Txt w K mg t):BR P w K mg base (CXr P w) 3 t.a_turned t.d_turned ["program","eighths"] (SS K t):=by
 refine T.turned.F.okR HP (fun vs H Q E h=> ?_) (fun cdv A outer s H vs Q E hr h=> ?_)
 ·obtain ⟨v,ws,body,e,rfl,_⟩:=h;rfl
 ·obtain ⟨v,ws,body,e,rfl,rv,l10,hz,q,qe⟩:=h
  obtain ⟨p,va,vb,rfl,hp,ra,rb⟩:=BM.mp rv
  have lz:=IJ body
  refine ⟨_,s!"{cE}{BR.upR (SO T)}{hr.mono (by decide)}{T.sizeof.m}{T.sizeof.F.kp}{T.sizeof.b}{ET}0ACBM_{T.g_MOST_SIZE}{T.r_MOST_SIZE}XT{JR WQ rfl T.x_TooLong (by rfl) T.mg_TooLong s!"NCB"}GSR0A2{HP.nd}Q3{HP.nd}QcVVml2A{GC}N1ACBBFCIF3AECBBFKGHH",?_⟩
  walk_at "ro"
  refine ⟨.ref p,ws,body,rfl,rv,l10,hz,fun H1 s1=> ?_⟩
  have eS:t.v_MOST_SIZE= .int 4000:=by have:=T.k_MOST_SIZE H;rw [D_MOST_SIZE,Rp] at this;exact this
  rw [eS]
  walk_at "ro"
  by_cases c:(4000:Int)≤((wsz ws+Stm.szs body:Nat):Int)
  ·rw [if_pos c]
   exact ⟨by decide,qe (by omega) H1 s1⟩
  ·rw [if_neg c]
   refine ⟨_,s1.tup hp,rfl,?_⟩
   walk_at "ro"
   refine ⟨by decide,fun p1 hp1=>⟨by decide,fun p2 hp2=> ?_⟩⟩
   have t1:=AL (K:=K) (d:=(Stm.turn (.int e)).D) (by rw [Stm.D,Am.D]) hp1 (AO (ED _) (RpL.one (DB _)))
   have t2:=AL (K:=K) (d:=bD [Stm.turn (.int e)]) rfl hp2 (RpL.one t1)
   have u:=(AE.upd (o:= .tup [.str "turn",.int e]) hp1).trans (AE.upd (o:= .tup [.ref p1]) hp2)
   refine ⟨_,t2,body.map Stm.D,(rb.same s1).same u,Nat.le_of_lt (DO (by simp only [List.length_map,List.length_cons,List.length_nil];omega)),fun v3 H3 s3 r3=>⟨by decide,fun p4 hp4=> ?_⟩⟩
   refine q (by omega) _ _ (((s1.trans u).trans s3).trans (AE.upd hp4)) (AL rfl hp4 (AO (((ra.same s1).same u).same s3) (RpL.one ?_)))
   show Rp K H3 (.tup ((Stm.turn (.int e)).D::body.map Stm.D)) v3
   exact r3
end
section
variable {P:Program} {w:World} {K:PySem.W.Frag} {mg:Str→Option Value} {base:Heap} {t:Adr}
def UG (K:PySem.W.Frag) (H:Hp) (way:Int) (v:V) (num:Int) (oc:Option Bool):Prop:=
 (way=0∧∃ ws body,Rp K H (pD ws body) v∧PLo ws body∧(-1001≤num∧num≤1001)∧oc=if JL num ws body=true then none else some true)
 ∨(way=1∧∃ ws body,Rp K H (pD ws body) v∧ws.length≤10∧wsz ws+Stm.szs body≤4000∧oc=if wsz ws+Stm.szs body<4000 then none else some false)
 ∨(way=2∧∃ S:List (List L2.D),Rp K H (.tup [.tup [],.tup (S.map D.tup)]) v∧(∀ d∈S,FB d)∧S.length≤100∧oc=if S.length≤60 then none else some false)
theorem UG.same {H H':Hp} {way num:Int} {v:V} {oc:Option Bool} (h:UG K H way v num oc) (s:AE H H'):UG K H' way v num oc:=by
 rcases h with ⟨a,ws,body,r,b⟩ | ⟨a,ws,body,r,b⟩ | ⟨a,S,r,b⟩
 ·exact .inl ⟨a,ws,body,r.same s,b⟩
 ·exact .inr (.inl ⟨a,ws,body,r.same s,b⟩)
 ·exact .inr (.inr ⟨a,S,r.same s,b⟩)
def AskQ (t:Adr) (H:Hp) (Q:VK) (E:XK):Option Bool→Prop
 | none=>∀ v H',AE H H'→Q v H'
 | some b=>∀ H',AE H H'→E (.ref (if b then t.c_TooGreat else t.c_TooLong)) none H'
def VQ (K:PySem.W.Frag) (t:Adr):Sp:=fun vs H Q E=>∃ (way num:Int) (v:V) (oc:Option Bool),vs=[.int way,v,.int num]∧UG K H way v num oc∧AskQ t H Q E oc
theorem KU (T:Txt w K mg t):BR P w K mg base (CXr P w) 15 t.a_Lasked t.d_Lasked ["_law_way","_law_program","_law_number"] (VQ K t):=by
 refine T.Lasked.F.okR SH (fun vs H Q E h=> ?_) (fun cdv A outer s H vs Q E hr h=> ?_)
 ·obtain ⟨way,num,v,oc,rfl,_⟩:=h;rfl
 ·obtain ⟨way,num,v,oc,rfl,h,q⟩:=h
  refine ⟨_,s!"{CI}0ADT{TJ T}{hr.mono (by decide)}{T.larger.m}{T.larger.F.kp}{T.larger.b}{ET}1A2ACBBMKGSR{CI}0ADT{LG T}{hr.mono (by decide)}{T.turned.m}{T.turned.F.kp}{T.turned.b}{ET}1A2ACBBMKGSR{PZ T}{hr.mono (by decide)}{T.shorter.m}{T.shorter.F.kp}{T.shorter.b}{ET}1ACBMKGHH",?_⟩
  walk_at "ro"
  rcases h with ⟨rfl,ws,body,r,lo,hf,rfl⟩ | ⟨rfl,ws,body,r,l10,hz,rfl⟩ | ⟨rfl,S,r,h1,h100,rfl⟩
  ·rw [if_pos rfl]
   refine ⟨v,ws,body,num,rfl,r,lo,hf,fun h=> ?_,fun h=> ?_⟩
   ·rw [if_pos h] at q;exact q
   ·rw [if_neg (by rw [h];decide)] at q;exact q
  ·rw [if_neg (by decide),if_pos rfl]
   refine ⟨v,ws,body,num,rfl,r,l10,hz,fun h v' H' s' _=> ?_,fun h=> ?_⟩
   ·rw [if_pos h] at q;exact q v' H' s'
   ·rw [if_neg (by omega)] at q;exact q
  ·rw [if_neg (by decide),if_neg (by decide)]
   refine ⟨v,S,rfl,r,h1,h100,fun h=> ?_,fun h=> ?_⟩
   ·rw [if_pos h] at q;exact q
   ·rw [if_neg (by omega)] at q;exact q
theorem aD {H:Hp} {p q:Addr} {a b c d a' b' c' d':Bool} (h1:H p=some (.lst [.bl a,.bl b,.bl c,.bl d])) (h2:H q=some (.lst [.bl a',.bl b',.bl c',.bl d'])) (ha:a=a') (hb:b=b') (hc:c=c') (hd:d=d'):∃ n p' q' xs ys,n≤60∧V.ref p= .ref p'∧V.ref q= .ref q'∧((SqT K H p' xs∧SqT K H q' ys)∨(SqL K H p' xs∧SqL K H q' ys))∧xs.length=ys.length∧(∀ (i:Nat) (x y:V),xs[i]? =some x→ys[i]? =some y→DC K H n x y):=by
 subst ha hb hc hd
 refine ⟨1,p,q,_,_,by decide,rfl,rfl,.inr ⟨SqL.of h1,SqL.of h2⟩,rfl,fun i x y hx hy=> ?_⟩
 match i,hx,hy with
 | 0,hx,hy=>cases hx;cases hy;exact .bl _ _
 | 1,hx,hy=>cases hx;cases hy;exact .bl _ _
 | 2,hx,hy=>cases hx;cases hy;exact .bl _ _
 | 3,hx,hy=>cases hx;cases hy;exact .bl _ _
def rfN:Option Bool→Int
 | none=>0
 | some true=>1
 | some false=>2
def ZR (K:PySem.W.Frag):Sp:=fun vs H Q _=>∃ (way num:Int) (v:V) (oc:Option Bool),vs=[.int way,v,.int num]∧UG K H way v num oc∧∀ H',AE H H'→Q (.int (rfN oc)) H'
theorem CY (T:Txt w K mg t):BR P w K mg base CX0 16 t.a_Lrefused t.d_Lrefused ["_law_way","_law_program","_law_number"] (ZR K):=by
 refine T.Lrefused.F.ok CA (fun vs H Q E h=> ?_) (fun cdv A outer s H vs Q E hr h=> ?_)
 ·obtain ⟨way,num,v,oc,rfl,_⟩:=h;rfl
 ·obtain ⟨way,num,v,oc,rfl,h,q⟩:=h
  have hu:=hr.units
  refine ⟨_,s!"3{CA.nd}DL4{CA.nd}{@cC _ _ _}L{JU rfl rfl (QR (KU T) (hr.mono (by decide)) (by rfl) T.Lasked.m T.Lasked.F.kp T.Lasked.b .nil s!"0A1A2ACBBB") (RG (by rfl) T.mg_TooGreat T.x_TooGreat (fun _ => s!"3{CA.nd}DLG") (RG (by rfl) T.mg_TooLong T.x_TooLong (fun _ => s!"3{CA.nd}DLG") cV))}{JU rfl rfl (QR (KU T) (hr.mono (by decide)) (by rfl) T.Lasked.m T.Lasked.F.kp T.Lasked.b .nil s!"0A1A2ACBBB") (dC (i := 5) (by rfl) T.mg_HouseError T.xH CA.nd rfl rfl (fun _ _ _ hoe => s!"4{CA.nd}{EG (K:=K) (HE:=t.c_HouseError) rfl (List.mem_append_right _ List.mem_cons_self) hoe}{T.z_isinstance}{boot_isinstance}5A{.ref t.c_TooGreat}{T.mg_TooGreat}{rfl}XCBBW{EG (K:=K) (HE:=t.c_HouseError) rfl (List.mem_append_right _ List.mem_cons_self) hoe}{T.z_isinstance}{boot_isinstance}5A{.ref t.c_TooLong}{T.mg_TooLong}{rfl}XCBBW{EG (K:=K) (HE:=t.c_HouseError) rfl (List.mem_append_right _ List.mem_cons_self) hoe}{T.z_isinstance}{boot_isinstance}5A{.ty "ValueError"}{T.z_ValueError}{by decide+kernel}sCBBWCBBBZL{aZ (K:=K) rfl PySem.F.plainAttrs_list PySem.F.slot_list_append PySem.F.type_list_append EN s!"4A" s!"{@eL _ _ _ _ _ _ _ s!"{EG (K:=K) (HE:=t.c_HouseError) rfl (List.mem_append_right _ List.mem_cons_self) hoe}{T.z_isinstance}{boot_isinstance}5A{.ref t.c_NoMark}{T.mg_NoMark}{rfl}X{.ref t.c_NoProgram}{T.mg_NoProgram}{rfl}XCBBFCIBW" (@XL _ _ _ _ _ s!"{EG (K:=K) (HE:=t.c_HouseError) rfl (List.mem_append_right _ List.mem_cons_self) hoe}{T.z_isinstance}{boot_isinstance}5A{.ref t.c_NoText}{T.mg_NoText}{rfl}X{.ref t.c_NotWhole}{T.mg_NotWhole}{rfl}XCBBFCIBW")}CB"}iGH"))}{XM hu}4A{CI}3ADo{CI}3ADoddCBBBBZTDKGSR3AKGHHHHH",?_⟩
  walk_at "ro"
  refine ⟨way,num,v,oc,rfl,h,?_⟩
  cases oc with
  | none=>
   intro v1 H1 s1
   refine ⟨way,num,v,none,rfl,h.same s1,?_⟩
   intro v2 H2 s2
   refine ⟨by decide,fun p hp=> .inl ⟨rfl,p,_,rfl,SqL.of AD,?_⟩⟩
   dsimp only
   rw [if_pos rfl]
   exact q _ ((s1.trans s2).trans (AE.upd hp))
  | some b=>
   intro H1 s1
   have nd:=T.nx
   simp only [List.nodup_cons,List.mem_cons,List.not_mem_nil,or_false,not_or] at nd
   have ne:t.c_TooGreat≠t.c_TooLong:=fun e=>by simp_all
   have key:∀ c:Addr,c∈[t.c_NoProgram,t.c_NoText,t.c_NoMark,t.c_TooGreat,t.c_TooLong,t.c_NotWhole]→∀ H',isE K H' c (.ref t.c_TooGreat) (decide (c=t.c_TooGreat))∧isE K H' c (.ref t.c_TooLong) (decide (c=t.c_TooLong))∧isE K H' c (.ty "ValueError") true:=fun c hc H'=>
    ⟨.inl (exK.one T.xK hc (by simp)),.inl (exK.one T.xK hc (by simp)),exK.v T.xK hc⟩
   cases b with
   | true=>
    refine ⟨t.c_TooGreat,rfl,T.x_TooGreat,?_⟩
    rw [if_pos rfl]
    refine ⟨way,num,v,some true,rfl,h.same s1,?_⟩
    intro H2 s2
    have hm:t.c_TooGreat∈[t.c_NoProgram,t.c_NoText,t.c_NoMark,t.c_TooGreat,t.c_TooLong,t.c_NotWhole]:=by simp
    obtain ⟨k1,k2,k3⟩:=key _ hm H2
    have hk:=exK.k T.xK hm
    refine ⟨t.c_TooGreat,rfl,T.x_TooGreat,fun a=>⟨hk,_,k1,hk,_,k2,hk,_,k3,by decide,fun p hp=>⟨.inl ⟨_,SqL.of AD⟩,by decide,fun p1 hp1=>⟨hk,false,.inr ⟨[t.c_NoMark,t.c_NoProgram],SqT.of AD,exK.any T.xK hm _ ?_⟩,?_⟩⟩⟩⟩
    ·intro d hd
     walk_at "b59"
     rcases hd with rfl | rfl
     ·exact ⟨by simp,fun e=>by simp_all⟩
     ·exact ⟨by simp,fun e=>by simp_all⟩
    walk_at "b58"
    ·intro d hd
     walk_at "b59"
     rcases hd with rfl | rfl
     ·exact ⟨by simp,fun e=>by simp_all⟩
     ·exact ⟨by simp,fun e=>by simp_all⟩
    have u0:=AE.upd (o:= .lst [.bl (decide (t.c_TooGreat=t.c_TooGreat)),.bl (decide (t.c_TooGreat=t.c_TooLong)),.bl true]) hp
    walk_at "b29"
    ·refine aD ((AE.upd hp3) _ _ AD) AD ?_ ?_ rfl rfl
     ·simp
     ·rw [decide_eq_false ne];rfl
    ·exact q _ (((s1.trans s2).trans (((u0.trans u1).trans u2).upd2 hp)).trans (AE.upd hp3))
   | false=>
    refine ⟨t.c_TooLong,rfl,T.x_TooLong,?_⟩
    rw [if_neg (fun e=>ne e.symm)]
    refine ⟨t.c_TooLong,rfl,T.x_TooLong,?_⟩
    rw [if_pos rfl]
    refine ⟨way,num,v,some false,rfl,h.same s1,?_⟩
    intro H2 s2
    have hm:t.c_TooLong∈[t.c_NoProgram,t.c_NoText,t.c_NoMark,t.c_TooGreat,t.c_TooLong,t.c_NotWhole]:=by simp
    obtain ⟨k1,k2,k3⟩:=key _ hm H2
    have hk:=exK.k T.xK hm
    refine ⟨t.c_TooLong,rfl,T.x_TooLong,fun a=>⟨hk,_,k1,hk,_,k2,hk,_,k3,by decide,fun p hp=>⟨.inl ⟨_,SqL.of AD⟩,by decide,fun p1 hp1=>⟨hk,false,.inr ⟨[t.c_NoMark,t.c_NoProgram],SqT.of AD,exK.any T.xK hm _ ?_⟩,?_⟩⟩⟩⟩
    ·intro d hd
     walk_at "b59"
     rcases hd with rfl | rfl
     ·exact ⟨by simp,fun e=>by simp_all⟩
     ·exact ⟨by simp,fun e=>by simp_all⟩
    walk_at "b58"
    ·intro d hd
     walk_at "b59"
     rcases hd with rfl | rfl
     ·exact ⟨by simp,fun e=>by simp_all⟩
     ·exact ⟨by simp,fun e=>by simp_all⟩
    have u0:=AE.upd (o:= .lst [.bl (decide (t.c_TooLong=t.c_TooGreat)),.bl (decide (t.c_TooLong=t.c_TooLong)),.bl true]) hp
    walk_at "b29"
    ·refine aD ((AE.upd hp3) _ _ AD) AD ?_ ?_ rfl rfl
     ·rw [decide_eq_false (fun e=>ne e.symm)];rfl
     ·simp
    ·exact q _ (((s1.trans s2).trans (((u0.trans u1).trans u2).upd2 hp)).trans (AE.upd hp3))
end
def goA (c:Nat) (far:Int):Am:=match c with
 | 0=> .int far
 | 1=> .src far "count" 1
 | 2=> .src 1 "count" far
 | 3=> .int far
 | 4=> .src far "n0" 0
 | _=> .src 0 "n0" far
section
variable {P:Program} {w:World} {K:PySem.W.Frag} {mg:Str→Option Value} {base:Heap} {t:Adr}
def aO (K:PySem.W.Frag):Sp:=fun vs H Q _=>∃ (c:Nat) (far:Int),vs=[.int c,.int far]∧c<6∧∀ v H',AE H H'→Rp K H' (Stm.go (goA c far)).D v→Q v H'
theorem cL (T:Txt w K mg t):BR P w K mg base CX0 1 t.a_Lgo t.d_Lgo ["_law_cell_here","_law_far"] (aO K):=by
 refine T.Lgo.F.ok UP (fun vs H Q E h=> ?_) (fun cdv A outer s H vs Q E hr h=> ?_)
 ·obtain ⟨c,far,rfl,_⟩:=h;rfl
 ·obtain ⟨c,far,rfl,hc,q⟩:=h
  refine ⟨_,s!"2{UP.nd}1A1ANDCBBBFDN1ACBBBF1A1ANDCBBBFDN1ACBBBFCIIBIIBZLN{BA}2A0AJCBBFKGH",?_⟩
  walk_at "ro"
  refine ⟨by decide,fun p1 h1=>⟨by decide,fun p2 h2=>⟨by decide,fun p3 h3=>⟨by decide,fun p4 h4=>⟨by decide,fun p5 h5=> ?_⟩⟩⟩⟩⟩
  have t1:=AL (K:=K) (d:=(Am.src far "count" 1).D) rfl h1 (AO (DB _) (AO (ED _) (RpL.one (DB _))))
  have t2:=AL (K:=K) (d:=(Am.src 1 "count" far).D) rfl h2 (AO (DB _) (AO (ED _) (RpL.one (DB _))))
  have t3:=AL (K:=K) (d:=(Am.src far "n0" 0).D) rfl h3 (AO (DB _) (AO (ED _) (RpL.one (DB _))))
  have t4:=AL (K:=K) (d:=(Am.src 0 "n0" far).D) rfl h4 (AO (DB _) (AO (ED _) (RpL.one (DB _))))
  have u1:=AE.upd (o:= .tup [.int far,.str "count",.int 1]) h1
  have u2:=AE.upd (o:= .tup [.int 1,.str "count",.int far]) h2
  have u3:=AE.upd (o:= .tup [.int far,.str "n0",.int 0]) h3
  have u4:=AE.upd (o:= .tup [.int 0,.str "n0",.int far]) h4
  have u5:=AE.upd (o:= .lst [.int far,.ref p1,.ref p2,.int far,.ref p3,.ref p4]) h5
  have t1:=((t1.same u2).same u3).same (u4.trans u5)
  have t2:=(t2.same u3).same (u4.trans u5)
  have t3:=t3.same (u4.trans u5)
  have t4:=t4.same u5
  have u:=(((u1.trans u2).trans u3).trans u4).trans u5
  have h5:=AD (H:=upd (upd (upd (upd H p1 (.tup [.int far,.str "count",.int 1])) p2 (.tup [.int 1,.str "count",.int far])) p3 (.tup [.int far,.str "n0",.int 0])) p4 (.tup [.int 0,.str "n0",.int far])) (a:=p5) (o:= .lst [.int far,.ref p1,.ref p2,.int far,.ref p3,.ref p4])
  clear h1 h2 h3 h4 u1 u2 u3 u4 u5
  generalize upd (upd (upd (upd (upd H p1 (.tup [.int far,.str "count",.int 1])) p2 (.tup [.int 1,.str "count",.int far])) p3 (.tup [.int far,.str "n0",.int 0])) p4 (.tup [.int 0,.str "n0",.int far])) p5 (.lst [.int far,.ref p1,.ref p2,.int far,.ref p3,.ref p4])=H5 at *
  obtain ⟨x,hx,rx⟩:∃ x,atI [V.int far,.ref p1,.ref p2,.int far,.ref p3,.ref p4] (c:Int)=some x∧Rp K H5 (goA c far).D x:=by
   have:c=0∨c=1∨c=2∨c=3∨c=4∨c=5:=by omega
   rcases this with rfl | rfl | rfl | rfl | rfl | rfl
   ·exact ⟨_,AS (j:=0) rfl,DB _⟩
   ·exact ⟨_,AS (j:=1) rfl,t1⟩
   ·exact ⟨_,AS (j:=2) rfl,t2⟩
   ·exact ⟨_,AS (j:=3) rfl,DB _⟩
   ·exact ⟨_,AS (j:=4) rfl,t3⟩
   ·exact ⟨_,AS (j:=5) rfl,t4⟩
  refine ⟨_,SqL.of h5,x,hx,by decide,fun p6 h6=> ?_⟩
  exact q _ _ (u.trans (AE.upd h6)) (AL (by rw [Stm.D]) h6 (AO (ED _) (RpL.one rx)))
def b3 (a:Am):List Stm:=[.turn (.int 1),.go a,.go (.int 1)]
def SZ (K:PySem.W.Frag):Sp:=fun vs H Q _=>∃ (c:Int) (v:V) (a:Am),vs=[.int c,v]∧Rp K H (Stm.go a).D v∧a.lo∧(∀ x y z,a= .src x y z→y="count"∨y="n0")∧
 ∀ v' ws body H',AE H H'→Rp K H' (pD ws body) v'→PLo ws body→(∀ f,-1001≤f→f≤1001→JL f ws body=a.fit f)→Q v' H'
theorem TK (T:Txt w K mg t):BR P w K mg base CX0 1 t.a_Lputin t.d_Lputin ["_law_cell_here","_law_go_here"] (SZ K):=by
 refine T.Lputin.F.ok HD (fun vs H Q E h=> ?_) (fun cdv A outer s H vs Q E hr h=> ?_)
 ·obtain ⟨c,v,a,rfl,_⟩:=h;rfl
 ·obtain ⟨c,v,a,rfl,rv,la,hs,q⟩:=h
  have rv0:=rv
  rw [Stm.D] at rv
  obtain ⟨pv,xs,rfl,hv,rl⟩:=BF.mp rv
  obtain ⟨x0,x1,rfl,r0,r1a⟩:=dU rl
  cases EQ r0
  refine ⟨_,s!"2{HD.nd}PeYO1APeYOCIBIFL{@UW _ _ _ _ s!"{IP (c:= .type "tuple")}{T.z_isinstance}{boot_isinstance}{BN}1ADJ{.ty "tuple"}{T.z_tuple}{boot_tuple}sCBBWq"}3{HD.nd}2AND2ACBBBFCIFND2APOCIBBBFCIFNDPO2ACBIBBFCIFCIIIBZL{PySem.F.slot_list_append}{PySem.F.type_list_append}{EN}3ANDNDPYOPbO2ACBIBBFCIFCIBBFCIFCIjiPO{BA}3A{BJ}0ADEJCBIFKGHHSR{CI}{BN}{BN}1ADJDJNTPO{BA}ND2ACBBBFCIFNDNDPO2ACBIBBFCIFCIBBFCIFCIIZ{BJ}0ADEJCBIFKGSRND2ACBBBFPOPbeYOCIIFPOPbYYOPbOCIIFKGHHH",?_⟩
  walk_at "ro"
  intro v1 G1 s1 r1 v2 G2 s2 r2
  refine ⟨by decide,fun pb hb=> ?_⟩
  have r1':Rp K G1 (Stm.turn (.int 1)).D v1:=by rw [Stm.D,Am.D];exact r1
  have r2':Rp K G2 (Stm.go (.int 1)).D v2:=by rw [Stm.D,Am.D];exact r2
  have s12:=s1.trans s2
  have ub:=AE.upd (o:= .tup [v1,.ref pv,v2]) hb
  have rB:=AL (K:=K) (d:=bD (b3 a)) rfl hb (AO (r1'.same s2) (AO (rv0.same s12) (RpL.one r2')))
  have sB:=s12.trans ub
  have hv:=sB.tup hv
  have ra:=r1a.same sB
  clear r1 r1' r2 r2' s1 s2 s12 ub hb
  generalize upd G2 pb (.tup [v1,.ref pv,v2])=G3 at *
  have fin:∀ (b:List Stm),(∀ f,-1001≤f→f≤1001→Stm.fits f b=a.fit f)→Stm.los b→Stm.dps b<4→Stm.szs b≤100→∀ (v3:V) (v4:V) (G4 G5:Hp) (p5:Addr),AE G3 G4→AE G4 G5→Rp K G5 (.tup []) v3→Rp K G5 (bD b) v4→G5 p5=none→Q (.ref p5) (upd G5 p5 (.tup [v3,v4])):=by
   intro b hfit hlo hdp hsz v3 v4 G4 G5 p5 s4 s5 r3 r4 h5
   refine q _ [] b _ (((sB.trans s4).trans s5).trans (AE.upd h5)) (AL rfl h5 (AO r3 (RpL.one r4))) ⟨Nat.zero_le _,(fun z hz=>by cases hz),hlo,hdp,hsz⟩ fun f f0 f1=> ?_
   unfold JL
   rw [List.all_nil,Bool.true_and]
   exact hfit f f0 f1
  have B1:∀ f,-1001≤f→f≤1001→Stm.fits f (b3 a)=a.fit f:=by
   intro f f0 f1
   unfold b3
   rw [Stm.fits,Stm.fits,Stm.fits,Stm.fits,Stm.fit,Stm.fit,Stm.fit]
   have:okI 1 f=true:=by unfold okI;exact decide_eq_true (by omega)
   rw [Am.fit,this,Bool.true_and,Bool.true_and,Bool.and_true]
  have B2:Stm.los (b3 a):=by
   unfold b3
   rw [Stm.los,Stm.los,Stm.los,Stm.los,Stm.lo,Stm.lo,Stm.lo]
   exact ⟨trivial,la,⟨by decide,by decide⟩,trivial⟩
  have B3:Stm.dps (b3 a)=0:=by unfold b3;simp only [Stm.dps,Stm.dp];decide
  have B4:Stm.szs (b3 a)=3:=by unfold b3;simp only [Stm.szs,Stm.sz]
  refine ⟨_,hv,x1,AS (j:=1) rfl,rfl,⟨_,rfl⟩,?_⟩
  cases a with
  | int i=>
   have e1:x1= .int i:=by rw [Am.D] at ra;exact OV ra
   subst e1
   refine ⟨_,.inl (.int i),false,FR,?_⟩
   rw [if_pos rfl]
   refine ⟨by decide,fun p1 h1=>⟨by decide,fun p2 h2=> ?_⟩⟩
   have t1:=AL (K:=K) (d:=(Stm.again (.int 2) (b3 (.int i))).D) (by rw [Stm.D,Am.D,BP]) h1 (AO (ED _) (AO (DB _) (RpL.one rB)))
   have t2:=AL (K:=K) (d:=bD [Stm.again (.int 2) (b3 (.int i))]) rfl h2 (RpL.one t1)
   have u2:=(AE.upd (o:= .tup [.str "again",.int 2,.ref pb]) h1).trans (AE.upd (o:= .tup [.ref p1]) h2)
   have rB2:=rB.same u2
   clear t1 h1 h2
   generalize upd (upd G3 p1 (.tup [.str "again",.int 2,.ref pb])) p2 (.tup [.ref p1])=G4 at *
   intro v3 G5 s5 r3
   refine ⟨by decide,fun p3 h3=>⟨by decide,fun p4 h4=> ?_⟩⟩
   have t3:=AL (K:=K) (d:=(Stm.ifs (.int 1) (b3 (.int i)) []).D) (ds:=[.str "if",.int 1,bD (b3 (.int i)),.tup []]) (by rw [Stm.D,Am.D,BP,BP];rfl) h3 (AO (ED _) (AO (DB _) (AO (rB2.same s5) (RpL.one r3))))
   have t4:=AL (K:=K) (d:=bD [Stm.ifs (.int 1) (b3 (.int i)) []]) rfl h4 (RpL.one t3)
   have u4:=s5.trans ((AE.upd (o:= .tup [.str "if",.int 1,.ref pb,v3]) h3).trans (AE.upd (o:= .tup [.ref p3]) h4))
   have rB4:=rB2.same u4
   have t2:=t2.same u4
   have u4:=u2.trans u4
   clear t3 h3 h4 s5 r3
   generalize upd (upd G5 p3 (.tup [.str "if",.int 1,.ref pb,v3])) p4 (.tup [.ref p3])=G6 at *
   intro v5 G7 s7 r5
   refine ⟨by decide,fun p5 h5=>⟨by decide,fun p6 h6=>⟨by decide,fun pl hpl=> ?_⟩⟩⟩
   have t5:=AL (K:=K) (d:=(Stm.ifs (.int 1) [] (b3 (.int i))).D) (ds:=[.str "if",.int 1,.tup [],bD (b3 (.int i))]) (by rw [Stm.D,Am.D,BP,BP];rfl) h5 (AO (ED _) (AO (DB _) (AO r5 (RpL.one (rB4.same s7)))))
   have t6:=AL (K:=K) (d:=bD [Stm.ifs (.int 1) [] (b3 (.int i))]) rfl h6 (RpL.one t5)
   have fpl:G3 pl=none:=(u4.trans (s7.trans ((AE.upd (o:= .tup [.str "if",.int 1,v5,.ref pb]) h5).trans (AE.upd (o:= .tup [.ref p5]) h6)))).free hpl
   have ul:=AE.upd (o:= .lst [.ref pb,.ref p2,.ref p4,.ref p6]) hpl
   have u6:=s7.trans (((AE.upd (o:= .tup [.str "if",.int 1,v5,.ref pb]) h5).trans (AE.upd (o:= .tup [.ref p5]) h6)).trans ul)
   have rB6:=rB4.same u6
   have t2:=t2.same u6
   have t4:=t4.same u6
   have t6:=t6.same ul
   have u6:=u4.trans u6
   have hl:=AD (H:=upd (upd G7 p5 (.tup [.str "if",.int 1,v5,.ref pb])) p6 (.tup [.ref p5])) (a:=pl) (o:= .lst [.ref pb,.ref p2,.ref p4,.ref p6])
   clear t5 h5 h6 hpl s7 r5 ul
   generalize upd (upd (upd G7 p5 (.tup [.str "if",.int 1,v5,.ref pb])) p6 (.tup [.ref p5])) pl (.lst [.ref pb,.ref p2,.ref p4,.ref p6])=G8 at *
   walk_at "ro"
   refine ⟨.inl ⟨_,SqL.of hl⟩,?_⟩
   intro v7 G9 s9 r7
   refine ⟨by decide,fun p7 h7=>⟨by decide,fun p8 h8=>⟨by decide,fun p9 h9=>⟨by decide,fun pA hA=> ?_⟩⟩⟩⟩
   have r7:Rp K G9 (bD [Stm.up]) v7:=by show Rp K G9 (.tup [Stm.up.D]) v7;rw [Stm.D];exact r7
   have t7:=AL (K:=K) (d:=(Stm.ifs (.int 0) [.up] (b3 (.int i))).D) (by rw [Stm.D,Am.D,BP,BP]) h7 (AO (ED _) (AO (DB _) (AO r7 (RpL.one (rB6.same s9)))))
   have t8:=AL (K:=K) (d:=bD [Stm.ifs (.int 0) [.up] (b3 (.int i))]) rfl h8 (RpL.one t7)
   have t9:=AL (K:=K) (d:=(Stm.again (.int 3) [Stm.ifs (.int 0) [.up] (b3 (.int i))]).D) (by rw [Stm.D,Am.D,BP]) h9 (AO (ED _) (AO (DB _) (RpL.one t8)))
   have tA:=AL (K:=K) (d:=bD [Stm.again (.int 3) [Stm.ifs (.int 0) [.up] (b3 (.int i))]]) rfl hA (RpL.one t9)
   have uA:=s9.trans (((AE.upd (o:= .tup [.str "if",.int 0,v7,.ref pb]) h7).trans (AE.upd (o:= .tup [.ref p7]) h8)).trans ((AE.upd (o:= .tup [.str "again",.int 3,.ref p8]) h9).trans (AE.upd (o:= .tup [.ref p9]) hA)))
   have hl:=uA _ _ hl
   have rB8:=rB6.same uA
   have t2:=t2.same uA
   have t4:=t4.same uA
   have t6:=t6.same uA
   have uA:=u6.trans uA
   clear t7 t8 t9 h7 h8 h9 hA s9 r7
   generalize upd (upd (upd (upd G9 p7 (.tup [.str "if",.int 0,v7,.ref pb])) p8 (.tup [.ref p7])) p9 (.tup [.str "again",.int 3,.ref p8])) pA (.tup [.ref p9])=GA at *
   refine ⟨_,hl,(show (4:Nat)<sizeLine by decide),?_⟩
   intro vB GB sB2 rBB
   have st:BO GA (upd GA pl (.lst ([.ref pb,.ref p2,.ref p4,.ref p6]++[.ref pA]))):=(BO.refl _).upd (HK hl)
   have sl:AE G3 (upd GA pl (.lst ([.ref pb,.ref p2,.ref p4,.ref p6]++[.ref pA]))):=uA.upd2 fpl
   have hlB:=sB2 _ _ (AD (H:=GA) (a:=pl) (o:= .lst ([.ref pb,.ref p2,.ref p4,.ref p6]++[.ref pA])))
   refine ⟨by decide,_,SqL.of hlB,?_⟩
   have up1:Stm.fits=Stm.fits:=rfl
   obtain ⟨x,b,hx,rx,c1,c2,c3,c4⟩:∃ x b,atI ([V.ref pb,.ref p2,.ref p4,.ref p6]++[.ref pA]) (c % 5)=some x∧Rp K GA (bD b) x∧(∀ f,-1001≤f→f≤1001→Stm.fits f b=(Am.int i).fit f)∧Stm.los b∧Stm.dps b<4∧Stm.szs b≤100:=by
    have hc:c % 5=((0:Nat):Int)∨c % 5=((1:Nat):Int)∨c % 5=((2:Nat):Int)∨c % 5=((3:Nat):Int)∨c % 5=((4:Nat):Int):=by omega
    rcases hc with e | e | e | e | e<;> rw [e]
    ·exact ⟨_,_,AS rfl,rB8,B1,B2,by omega,by omega⟩
    ·refine ⟨_,_,AS rfl,t2,fun f f0 f1=> ?_,?_,?_,?_⟩
     ·rw [CB,Stm.fit];exact B1 f f0 f1
     ·rw [Stm.los,Stm.los,Stm.lo];exact ⟨B2,trivial⟩
     ·simp only [Stm.dps,Stm.dp];omega
     ·simp only [Stm.szs,Stm.sz];omega
    ·refine ⟨_,_,AS rfl,t4,fun f f0 f1=> ?_,?_,?_,?_⟩
     ·rw [CB,Stm.fit,Stm.fits,Bool.and_true];exact B1 f f0 f1
     ·rw [Stm.los,Stm.los,Stm.lo,Stm.los];exact ⟨⟨B2,trivial⟩,trivial⟩
     ·simp only [Stm.dps,Stm.dp];omega
     ·simp only [Stm.szs,Stm.sz];omega
    ·refine ⟨_,_,AS rfl,t6,fun f f0 f1=> ?_,?_,?_,?_⟩
     ·rw [CB,Stm.fit,Stm.fits,Bool.true_and];exact B1 f f0 f1
     ·rw [Stm.los,Stm.los,Stm.lo,Stm.los];exact ⟨⟨trivial,B2⟩,trivial⟩
     ·simp only [Stm.dps,Stm.dp];omega
     ·simp only [Stm.szs,Stm.sz];omega
    ·refine ⟨_,_,AS rfl,tA,fun f f0 f1=> ?_,?_,?_,?_⟩
     ·rw [CB,Stm.fit,CB,Stm.fit,CB,Stm.fit,Bool.true_and];exact B1 f f0 f1
     ·rw [Stm.los,Stm.los,Stm.lo,Stm.los,Stm.los,Stm.lo,Stm.los,Stm.los,Stm.lo];exact ⟨⟨⟨⟨trivial,trivial⟩,B2⟩,trivial⟩,trivial⟩
     ·simp only [Stm.dps,Stm.dp];omega
     ·simp only [Stm.szs,Stm.sz];omega
   refine ⟨x,hx,by decide,fun pC hC=> ?_⟩
   exact fin b c1 c2 c3 c4 vB x _ GB pC sl sB2 rBB ((rx.t st).same sB2) hC
  | src f0 y0 m0=>
   rw [Am.D] at ra
   obtain ⟨pa,xs,rfl,hpa,rla⟩:=BF.mp ra
   obtain ⟨z0,z1,z2,rfl,e0,e1,e2⟩:=ZM rla
   cases EQ e1
   refine ⟨_,.inr ⟨pa,rfl,⟨_,hpa⟩,rfl⟩,true,ES,?_⟩
   rw [if_neg (by decide)]
   refine ⟨_,hv,_,AS (j:=1) rfl,?_⟩
   dsimp only
   refine ⟨_,hpa,_,AS (j:=1) rfl,?_⟩
   dsimp only
   rcases hs f0 y0 m0 rfl with rfl | rfl
   ·rw [if_pos rfl]
    intro v3 G4 s4 r3
    refine ⟨by decide,fun p1 h1=>⟨by decide,fun p2 h2=> ?_⟩⟩
    have t1:=AL (K:=K) (d:=(Stm.again (.int 2) (b3 (.src f0 "count" m0))).D) (by rw [Stm.D,Am.D,BP]) h1 (AO (ED _) (AO (DB _) (RpL.one (rB.same s4))))
    have t2:=AL (K:=K) (d:=bD [Stm.again (.int 2) (b3 (.src f0 "count" m0))]) rfl h2 (RpL.one t1)
    have u2:=(AE.upd (o:= .tup [.str "again",.int 2,.ref pb]) h1).trans (AE.upd (o:= .tup [.ref p1]) h2)
    have r3:=r3.same u2
    have u2:=s4.trans u2
    have rB2:=rB.same u2
    clear t1 h1 h2
    generalize upd (upd G4 p1 (.tup [.str "again",.int 2,.ref pb])) p2 (.tup [.ref p1])=G5 at *
    intro v5 G7 s7 r5
    refine ⟨by decide,fun p5 h5=>⟨by decide,fun p6 h6=>⟨by decide,fun p7 h7=>⟨by decide,fun p8 h8=>⟨by decide,fun pl hpl=> ?_⟩⟩⟩⟩⟩
    have t5:=AL (K:=K) (d:=(Stm.ifs (.int 1) [] (b3 (.src f0 "count" m0))).D) (ds:=[.str "if",.int 1,.tup [],bD (b3 (.src f0 "count" m0))]) (by rw [Stm.D,Am.D,BP,BP];rfl) h5 (AO (ED _) (AO (DB _) (AO r5 (RpL.one (rB2.same s7)))))
    have t6:=AL (K:=K) (d:=bD [Stm.ifs (.int 1) [] (b3 (.src f0 "count" m0))]) rfl h6 (RpL.one t5)
    have t7:=AL (K:=K) (d:=(Stm.again (.int 0) [Stm.ifs (.int 1) [] (b3 (.src f0 "count" m0))]).D) (by rw [Stm.D,Am.D,BP]) h7 (AO (ED _) (AO (DB _) (RpL.one t6)))
    have t8:=AL (K:=K) (d:=bD [Stm.again (.int 0) [Stm.ifs (.int 1) [] (b3 (.src f0 "count" m0))]]) rfl h8 (RpL.one t7)
    have ul:=AE.upd (o:= .lst [.ref p2,.ref p8]) hpl
    have u6:=s7.trans (((AE.upd (o:= .tup [.str "if",.int 1,v5,.ref pb]) h5).trans (AE.upd (o:= .tup [.ref p5]) h6)).trans (((AE.upd (o:= .tup [.str "again",.int 0,.ref p6]) h7).trans (AE.upd (o:= .tup [.ref p7]) h8)).trans ul))
    have t2:=t2.same u6
    have r3:=r3.same u6
    have t8:=t8.same ul
    have u6:=u2.trans u6
    have hl:=AD (H:=upd (upd (upd (upd G7 p5 (.tup [.str "if",.int 1,v5,.ref pb])) p6 (.tup [.ref p5])) p7 (.tup [.str "again",.int 0,.ref p6])) p8 (.tup [.ref p7])) (a:=pl) (o:= .lst [.ref p2,.ref p8])
    clear t5 t6 t7 h5 h6 h7 h8 hpl s7 r5 ul
    generalize upd (upd (upd (upd (upd G7 p5 (.tup [.str "if",.int 1,v5,.ref pb])) p6 (.tup [.ref p5])) p7 (.tup [.str "again",.int 0,.ref p6])) p8 (.tup [.ref p7])) pl (.lst [.ref p2,.ref p8])=G8 at *
    refine ⟨by decide,_,SqL.of hl,?_⟩
    obtain ⟨x,b,hx,rx,c1,c2,c3,c4⟩:∃ x b,atI [V.ref p2,.ref p8] (c % 2)=some x∧Rp K G8 (bD b) x∧(∀ f,-1001≤f→f≤1001→Stm.fits f b=(Am.src f0 "count" m0).fit f)∧Stm.los b∧Stm.dps b<4∧Stm.szs b≤100:=by
     have hc:c % 2=((0:Nat):Int)∨c % 2=((1:Nat):Int):=by omega
     rcases hc with e | e<;> rw [e]
     ·refine ⟨_,_,AS rfl,t2,fun f f0 f1=> ?_,?_,?_,?_⟩
      ·rw [CB,Stm.fit];exact B1 f f0 f1
      ·rw [Stm.los,Stm.los,Stm.lo];exact ⟨B2,trivial⟩
      ·simp only [Stm.dps,Stm.dp];omega
      ·simp only [Stm.szs,Stm.sz];omega
     ·refine ⟨_,_,AS rfl,t8,fun f f0 f1=> ?_,?_,?_,?_⟩
      ·rw [CB,Stm.fit,CB,Stm.fit,Stm.fits,Bool.true_and];exact B1 f f0 f1
      ·rw [Stm.los,Stm.los,Stm.lo,Stm.los,Stm.los,Stm.lo,Stm.los];exact ⟨⟨⟨trivial,B2⟩,trivial⟩,trivial⟩
      ·simp only [Stm.dps,Stm.dp];omega
      ·simp only [Stm.szs,Stm.sz];omega
    refine ⟨x,hx,by decide,fun pC hC=> ?_⟩
    exact fin b c1 c2 c3 c4 v3 x _ G8 pC u6 (AE.refl _) r3 rx hC
   ·rw [if_neg (by decide+kernel)]
    refine ⟨by decide,fun p1 h1=> ?_⟩
    have t1:=AL (K:=K) (d:=(Wd.mk "leaf" 1 (b3 (.src f0 "n0" m0))).D) rfl h1 (AO (ED _) (AO (DB _) (RpL.one rB)))
    intro v3 G4 s4 r3
    refine ⟨by decide,fun p2 h2=> ?_⟩
    have t2:=AL (K:=K) (d:= .tup ([Wd.mk "leaf" 1 (b3 (.src f0 "n0" m0)),⟨"x",0,[]⟩].map Wd.D)) rfl h2 (AO (t1.same s4) (RpL.one r3))
    intro v5 G6 s6 r5
    refine ⟨by decide,fun p7 h7=> ?_⟩
    have s67:=(((AE.upd (o:= .tup [.str "leaf",.int 1,.ref pb]) h1).trans s4).trans (AE.upd (o:= .tup [.ref p1,v3]) h2)).trans s6
    have r5:Rp K G6 (bD [Stm.dow "x" []]) v5:=by show Rp K G6 (.tup [(Stm.dow "x" []).D]) v5;rw [Stm.D];exact r5
    refine q _ [Wd.mk "leaf" 1 (b3 (.src f0 "n0" m0)),⟨"x",0,[]⟩] [Stm.dow "x" []] _ ((sB.trans s67).trans (AE.upd h7)) (AL rfl h7 (AO (t2.same s6) (RpL.one r5))) ⟨Nat.le_of_ble_eq_true rfl,?_,?_⟩ fun f f0 f1=> ?_
    ·intro z hz
     rcases List.mem_cons.mp hz with rfl | hz
     ·exact ⟨B2,by show Stm.dps (b3 _)<4;omega,by show Stm.szs (b3 _)≤100;omega⟩
     ·rw [List.mem_singleton.mp hz]
      exact ⟨by show Stm.los [];rw [Stm.los];trivial,by show Stm.dps []<4;rw [Stm.dps];decide,by show Stm.szs []≤100;rw [Stm.szs];decide⟩
    ·refine ⟨?_,?_,?_⟩
     ·rw [Stm.los,Stm.los,Stm.lo];exact ⟨trivial,trivial⟩
     ·simp only [Stm.dps,Stm.dp];decide
     ·simp only [Stm.szs,Stm.sz];decide
    ·unfold JL
     rw [CB,Stm.fit,Bool.and_true]
     show (Stm.fits f (b3 _) && (Stm.fits f [] && true))=_
     rw [Stm.fits,Bool.and_true,Bool.and_true]
     exact B1 f f0 f1
end
theorem HU (a:Am):dep a.D≤3:=by
 cases a<;> simp [Am.D,dep,depL]
theorem QW:∀ as:List Am,depL (as.map Am.D)≤3
 | []=>by simp [depL]
 | a::as=>by have:=HU a;have:=QW as;rw [List.map_cons,depL];omega
mutual
theorem aT:∀ s:Stm,dep s.D≤2 * s.dp+6
 | .go a=>by have:=HU a;rw [Stm.D];simp only [dep,depL];omega
 | .turn a=>by have:=HU a;rw [Stm.D];simp only [dep,depL];omega
 | .ink a=>by have:=HU a;rw [Stm.D];simp only [dep,depL];omega
 | .up=>by rw [Stm.D];simp only [dep,depL];omega
 | .down=>by rw [Stm.D];simp only [dep,depL];omega
 | .mark n=>by rw [Stm.D];simp only [dep,depL];omega
 | .back n=>by rw [Stm.D];simp only [dep,depL];omega
 | .again a b=>by have:=HU a;have:=dep_sts b;rw [Stm.D,Stm.dp,BP];simp only [dep,depL];omega
 | .ifs a b c=>by have:=HU a;have:=dep_sts b;have:=dep_sts c;rw [Stm.D,Stm.dp,BP,BP];simp only [dep,depL];omega
 | .dow x as=>by have:=QW as;rw [Stm.D];simp only [dep,depL];omega
theorem dep_sts:∀ b:List Stm,depL (b.map Stm.D)≤2 * Stm.dps b+6
 | []=>by simp [depL]
 | s::r=>by have:=aT s;have:=dep_sts r;rw [List.map_cons,Stm.dps,depL];omega
end
theorem WS (n:Nat) (s:Stm):(List.replicate n [s.D]).flatten=(List.replicate n s).map Stm.D:=by
 induction n with
 | zero=>rfl
 | succ n ih=>rw [List.replicate_succ,List.replicate_succ,List.flatten_cons,ih];rfl
theorem MC (n:Nat) (s:Stm) (h:s.sz=1):Stm.szs (List.replicate n s)=n:=by
 induction n with
 | zero=>rw [List.replicate_zero,Stm.szs]
 | succ n ih=>rw [List.replicate_succ,Stm.szs,ih,h];omega
theorem LU (n:Nat) (s:Stm) (h:s.dp=0):Stm.dps (List.replicate n s)=0:=by
 induction n with
 | zero=>rw [List.replicate_zero,Stm.dps]
 | succ n ih=>rw [List.replicate_succ,Stm.dps,ih,h];rfl
section
variable {P:Program} {w:World} {K:PySem.W.Frag} {mg:Str→Option Value} {base:Heap} {t:Adr}
structure eN (n:Nat) (ws:List Wd) (body:List Stm):Prop where
 l:ws.length≤10
 z:wsz ws+Stm.szs body=n
 d:Stm.dps body≤3
 w:∀ z∈ws,Stm.dps z.body≤3
def VG (K:PySem.W.Frag):Sp:=fun vs H Q _=>∃ (c:Int) (n:Nat),vs=[.int c,.int n]∧0≤c∧10≤n∧n≤4000∧∀ v ws body H',AE H H'→Rp K H' (pD ws body) v→eN n ws body→Q v H'
theorem OO (T:Txt w K mg t):BR P w K mg base CX0 1 t.a_Lmany t.d_Lmany ["_law_cell_here","_law_size"] (VG K):=by
 refine T.Lmany.F.ok NR (fun vs H Q E h=> ?_) (fun cdv A outer s H vs Q E hr h=> ?_)
 ·obtain ⟨c,n,rfl,_⟩:=h;rfl
 ·obtain ⟨c,n,rfl,c0,n0,n1,q⟩:=h
  refine ⟨_,s!"2{NR.nd}N{BJ}{DI}0ADEDECBBFL{CI}{BJ}0ADEDTPO{IT}2ACBF1AECBIFKGSR{CI}{BJ}0ADEDTPOND{IT}2ACBF{FE}1ADEECBBBFCIFCIIFKGSRND{IT}2ACBF{FE}1ADEECBBBFCIFPYOPYOPbbOCIIFKGHHH",?_⟩
  walk_at "ro"
  refine ⟨by decide,by decide,by decide,by decide,fun p1 h1=> ?_⟩
  have t1:=AL (K:=K) (d:=(Stm.ink (.int (c / 3 % 8))).D) (by rw [Stm.D,Am.D]) h1 (AO (ED _) (RpL.one (DB _)))
  have s1:=AE.upd (o:= .tup [.str "ink",.int (c / 3 % 8)]) h1
  generalize upd H p1 (.tup [.str "ink",.int (c / 3 % 8)])=G1 at *
  have zi:(Stm.ink (.int (c / 3 % 8))).sz=1:=by rw [Stm.sz]
  have di:(Stm.ink (.int (c / 3 % 8))).dp=0:=by rw [Stm.dp]
  generalize Stm.ink (.int (c / 3 % 8))=si at *
  refine ⟨by decide,?_⟩
  by_cases c1:c % 3=0
  ·rw [if_pos c1]
   intro v2 G2 s2 r2
   walk_at "b60"
   refine ⟨[si.D],AL rfl h3 (RpL.one (t1.same s2)),by omega,by omega,Nat.le_of_lt (DO (by rw [List.length_singleton];omega)),by simp,fun v4 G4 s4 r4=>⟨by decide,fun p5 h5=> ?_⟩⟩
   rw [Int.toNat_natCast,WS] at r4
   refine q _ [] (List.replicate n si) _ ((((s1.trans s2).trans u3).trans s4).trans (AE.upd h5)) (AL rfl h5 (AO ((r2.same u3).same s4) (RpL.one r4))) ⟨Nat.zero_le _,?_,?_,(fun z hz=>by cases hz)⟩
   ·rw [MC _ _ zi];show 0+n=n;omega
   ·rw [LU _ _ di];decide
  ·rw [if_neg c1]
   refine ⟨by decide,?_⟩
   by_cases c2:c % 3=1
   ·rw [if_pos c2]
    intro v2 G2 s2 r2
    walk_at "b60"
    refine ⟨[si.D],AL rfl h3 (RpL.one (t1.same s2)),by omega,by omega,Nat.le_of_lt (DO (by rw [List.length_singleton];omega)),by simp,fun v4 G4 s4 r4=>⟨by decide,fun p5 h5=>⟨by decide,fun p6 h6=>⟨by decide,fun p7 h7=> ?_⟩⟩⟩⟩
    rw [show ((n:Int) - 1).toNat=n - 1 by omega,WS] at r4
    have t5:=AL (K:=K) (d:=(Stm.again (.int 1) (List.replicate (n - 1) si)).D) (by rw [Stm.D,Am.D,BP]) h5 (AO (ED _) (AO (DB _) (RpL.one r4)))
    have t6:=AL (K:=K) (d:=bD [Stm.again (.int 1) (List.replicate (n - 1) si)]) rfl h6 (RpL.one t5)
    have u6:=(AE.upd (o:= .tup [.str "again",.int 1,v4]) h5).trans (AE.upd (o:= .tup [.ref p5]) h6)
    refine q _ [] [Stm.again (.int 1) (List.replicate (n - 1) si)] _ (((((s1.trans s2).trans u3).trans s4).trans u6).trans (AE.upd h7)) (AL rfl h7 (AO (((r2.same u3).same s4).same u6) (RpL.one t6))) ⟨Nat.zero_le _,?_,?_,(fun z hz=>by cases hz)⟩
    ·rw [Stm.szs,Stm.szs,Stm.sz,MC _ _ zi];show 0+_=n;omega
    ·rw [Stm.dps,Stm.dps,Stm.dp,LU _ _ di];decide
   ·rw [if_neg c2]
    walk_at "b60"
    refine ⟨[si.D],AL rfl h3 (RpL.one t1),by omega,by omega,Nat.le_of_lt (DO (by rw [List.length_singleton];omega)),by simp,fun v4 G4 s4 r4=>⟨by decide,fun p5 h5=>⟨by decide,fun p6 h6=> ?_⟩⟩⟩
    rw [show ((n:Int) - 2).toNat=n - 2 by omega,WS] at r4
    have t5:=AL (K:=K) (d:=(Wd.mk "leaf" 0 (List.replicate (n - 2) si)).D) rfl h5 (AO (ED _) (AO (DB _) (RpL.one r4)))
    have t6:=AL (K:=K) (d:= .tup ([Wd.mk "leaf" 0 (List.replicate (n - 2) si)].map Wd.D)) rfl h6 (RpL.one t5)
    have u6:=(AE.upd (o:= .tup [.str "leaf",.int 0,v4]) h5).trans (AE.upd (o:= .tup [.ref p5]) h6)
    intro v7 G7 s7 r7
    refine ⟨by decide,fun p8 h8=> ?_⟩
    have r7:Rp K G7 (bD [Stm.up,Stm.down]) v7:=by show Rp K G7 (.tup [Stm.up.D,Stm.down.D]) v7;rw [Stm.D,Stm.D];exact r7
    refine q _ [Wd.mk "leaf" 0 (List.replicate (n - 2) si)] [Stm.up,Stm.down] _ (((((s1.trans u3).trans s4).trans u6).trans s7).trans (AE.upd h8)) (AL rfl h8 (AO (t6.same s7) (RpL.one r7))) ⟨Nat.le_of_ble_eq_true rfl,?_,?_,?_⟩
    ·simp only [Stm.szs,Stm.sz]
     show Stm.szs (List.replicate (n - 2) si)+0+_=n
     rw [MC _ _ zi];omega
    ·simp only [Stm.dps,Stm.dp];decide
    ·intro z hz
     rw [List.mem_singleton.mp hz]
     show Stm.dps (List.replicate (n - 2) si)≤3
     rw [LU _ _ di];decide
theorem QN:∀ ws:List Wd,(∀ z∈ws,Stm.dps z.body≤3)→depL (ws.map Wd.D)≤30
 | [],_=>by simp [depL]
 | z::ws,h=>by
  have h1:=h z (List.mem_cons_self ..)
  have h2:=QN ws fun y hy=>h y (List.mem_cons_of_mem _ hy)
  have h3:=dep_sts z.body
  rw [List.map_cons,depL,Wd.D]
  simp only [dep,depL]
  omega
theorem YS {c:Nat} {far f:Int} (hc:c<6) (f0: -1001≤f) (f1:f≤1001):(goA c far).fit f=okI far f:=by
 have h1:okI 1 f=true:=by unfold okI;exact decide_eq_true (by omega)
 have h0:okI 0 f=true:=by unfold okI;exact decide_eq_true (by omega)
 have:c=0∨c=1∨c=2∨c=3∨c=4∨c=5:=by omega
 rcases this with rfl | rfl | rfl | rfl | rfl | rfl<;> simp only [goA,Am.fit,h1,h0,Bool.true_and,Bool.and_true]
theorem ZH (n:Nat) (a b:List L2.D):(List.replicate n [L2.D.tup a,.tup b]).flatten=((List.replicate n [a,b]).flatten).map D.tup:=by
 induction n with
 | zero=>rfl
 | succ n ih=>rw [List.replicate_succ,List.replicate_succ,List.flatten_cons,List.flatten_cons,List.map_append,ih];rfl
theorem YF (n:Nat) (a b:List L2.D):((List.replicate n [a,b]).flatten).length=2 * n:=by
 induction n with
 | zero=>rfl
 | succ n ih=>rw [List.replicate_succ,List.flatten_cons,List.length_append,ih];show 2+_=_;omega
def Iv_f (a l:Addr) (f m:Int) (H:Hp) (_:Nat) (σ:L2.St) (H2:Hp):Prop:=∃ (o4 o5:Option V),σ=[some (.ref a),some (.ref l),some (.int f),some (.int m),o4,o5,none,none]∧AE H H2
def PY (K:PySem.W.Frag):Sp:=fun vs H Q _=>∃ (a:Addr) (ns:List Int),vs=[.ref a]∧SqL K H a (ns.map V.int)∧ns.length≤63∧∀ H',Q (.bl true) H'
theorem ok_law (T:Txt w K mg t):BR P w K mg base CX0 22 t.a_law t.d_law ["_law_script"] (PY K):=by
 refine T.law.F.ok EL (fun vs H Q E h=> ?_) (fun cdv A outer s H vs Q E hr h=> ?_)
 ·obtain ⟨a,ns,rfl,_⟩:=h;rfl
 ·obtain ⟨a,ns,rfl,hS,hl,q⟩:=h
  have hu:=hr.units
  refine ⟨_,s!"1{EL.nd}{ZT T}{hr.mono (by decide)}{T.Lrow.m}{T.Lrow.F.kp}{T.Lrow.b}{DD}{WX T}{hr.mono (by decide)}{T.Lcell.m}{T.Lcell.F.kp}{T.Lcell.b}{DD}0ADCBBMDDCBBBML2{EL.nd}{BK}D{BJ}{BA}1ADJDEEL3{EL.nd}{BT}{DI}D2AE{BA}DDrCBBZ{BJ}{BA}1ADJDEJEL{PassesOwn.never}{@OL _ _ _ _ s!"3A{BK}3A{BA}DDrCBBZ{BJ}{BA}1ADJDEJECBBZ"}4{EL.nd}Q5{EL.nd}{TK T}{hr.mono (by decide)}{T.Lputin.m}{T.Lputin.F.kp}{T.Lputin.b}{DD}{BA}1ADJ{cL T}{hr.mono (by decide)}{T.Lgo.m}{T.Lgo.F.kp}{T.Lgo.b}{DD}{BJ}{BA}1ADJDE4ACBBMCBBML{CI}4A3AT{MJ}{CY T}{hr.mono (by decide)}{T.Lrefused.m}{T.Lrefused.F.kp}{T.Lrefused.b}{DD}D5A2ACBBBMDTdKGSRG{MJ}{CY T}{hr.mono (by decide)}{T.Lrefused.m}{T.Lrefused.F.kp}{T.Lrefused.b}{DD}D5A2ACBBBMDTdKGSRGRGUf5{EL.nd}{OO T}{hr.mono (by decide)}{T.Lmany.m}{T.Lmany.F.kp}{T.Lmany.b}{DD}{BA}1ADJDCBBML6{EL.nd}{BR.downR (LG T)}{hr.mono (by decide)}{T.turned.m}{T.turned.F.kp}{T.turned.b}{DD}5A{BJ}{BA}1ADJDECBBML{cM hu}6A{BN}5ADJ{GC}N{BJ}{BA}1ADJDECBBFCIF{BN}5ADJECBBFTdKGSR{MJ}{CY T}{hr.mono (by decide)}{T.Lrefused.m}{T.Lrefused.F.kp}{T.Lrefused.b}{DD}D{OO T}{hr.mono (by decide)}{T.Lmany.m}{T.Lmany.F.kp}{T.Lmany.b}{DD}{BA}1ADJDCBBM{BJ}{BA}1ADJDECBBBMDTdKGSR7{EL.nd}{NE}PeYON{BA}1ADJCBBFCIIFDEL{@XT _ _ _ _ _ _ _ s!"{CI}{CY T}{hr.mono (by decide)}{T.Lrefused.m}{T.Lrefused.F.kp}{T.Lrefused.b}{DD}DPO7ACBIFDCBIBMDo" (@XL _ _ _ _ _ s!"{CI}{CY T}{hr.mono (by decide)}{T.Lrefused.m}{T.Lrefused.F.kp}{T.Lrefused.b}{DD}DPO{GC}7APYOPbOECBIFDCBIBMDo")}KGUUUUUUUUU",?_⟩
  walk_at "rh"
  refine ⟨a,ns,0,rfl,hS,hl,by decide,by decide,fun z=> ?_⟩
  walk_at "rh"
  refine ⟨z,1000,6,rfl,by decide,by decide,by decide,by decide,fun l r H1 s1 hl0 hl1 ln lb=> ?_⟩
  clear hS s1 hl0
  walk_at "rh"
  walk_at "rh"
  have R:∀ k:Int,0≤k→k<6→∃ z,atI (r.map V.int) k=some (.int z)∧0≤z∧z<1000:=by
   intro k k0 k1
   obtain ⟨z,hm,hz⟩:=IZ (ns:=r) k0 (by rw [ln];exact k1)
   exact ⟨z,hz,lb z hm⟩
  obtain ⟨z0,hz0,z00,z01⟩:=R 0 (by decide) (by decide)
  obtain ⟨z1,hz1,z10,z11⟩:=R 1 (by decide) (by decide)
  obtain ⟨z2,hz2,z20,z21⟩:=R 2 (by decide) (by decide)
  obtain ⟨z3,hz3,z30,z31⟩:=R 3 (by decide) (by decide)
  obtain ⟨z4,hz4,z40,z41⟩:=R 4 (by decide) (by decide)
  obtain ⟨z5,hz5,z50,z51⟩:=R 5 (by decide) (by decide)
  clear R lb
  refine ⟨_,SqL.of hl1,_,hz0,by decide,?_⟩
  obtain ⟨f,hf⟩:∃ f,2+z0 % 999=f:=⟨_,rfl⟩
  have f0:2≤f:=by omega
  have f1:f≤1000:=by omega
  rw [hf]
  walk_at "rh"
  refine ⟨by omega,Int.lt_of_le_of_lt f1 (by decide),by decide,fun p1 h1=> ?_⟩
  have s1:=AE.upd (o:= .lst [.int 1,.int (-1)]) h1
  obtain ⟨sg,hsg,sg1⟩:∃ sg:Int,atI [V.int 1,.int (-1)] (z1 % 2)=some (.int sg)∧(sg=1∨sg= -1):=by
   have:z1 % 2=((0:Nat):Int)∨z1 % 2=((1:Nat):Int):=by omega
   rcases this with e | e<;> rw [e]
   ·exact ⟨1,AS rfl,.inl rfl⟩
   ·exact ⟨-1,AS rfl,.inr rfl⟩
  obtain ⟨q0,hq0⟩:∃ q0,(1000000:Int) / f=q0:=⟨_,rfl⟩
  have q1:q0 * f≤1000000:=by rw [← hq0];exact Int.ediv_mul_le _ (by omega)
  have q2:1000000<(q0+1) * f:=by rw [← hq0];exact Int.lt_ediv_add_one_mul_self _ (by omega)
  have q3:0≤q0∧q0≤1000000:=by
   refine ⟨by rw [← hq0];exact Int.ediv_nonneg (by decide) (by omega),?_⟩
   rw [← hq0]
   exact Int.ediv_le_self _ (by decide)
  rw [hq0]
  refine ⟨_,SqL.of (s1 _ _ hl1),_,hz1,by decide,_,SqL.of AD,_,hsg,DQ (by omega) (by omega),?_⟩
  have hl2:=s1 _ _ hl1
  generalize upd H1 p1 (.lst [.int 1,.int (-1)])=H2 at *
  walk_at "rh"
  refine ⟨by decide,fun p2 h2=> ?_⟩
  have s2:=AE.upd (o:= .lst [.int 1,.int (-1)]) h2
  refine ⟨_,SqL.of (s2 _ _ hl2),_,hz1,by decide,_,SqL.of AD,_,hsg,by decide,fun p3 h3=> ?_⟩
  have s3:=AE.upd (o:= .lst [.int (q0 * sg),.int (q0 * sg+sg)]) h3
  have hl3:=s3 _ _ (s2 _ _ hl2)
  have h3:=AD (H:=upd H2 p2 (.lst [.int 1,.int (-1)])) (a:=p3) (o:= .lst [.int (q0 * sg),.int (q0 * sg+sg)])
  clear s2 h2 s3
  generalize upd (upd H2 p2 (.lst [.int 1,.int (-1)])) p3 (.lst [.int (q0 * sg),.int (q0 * sg+sg)])=H3 at *
  refine ⟨⟨_,SqL.of h3⟩,?_⟩
  refine ZQ (xs:=[.int (q0 * sg),.int (q0 * sg+sg)]) (Iv_f a l f (q0 * sg) H3) ⟨none,none,rfl,AE.refl _⟩ (fun i σ H2 _ z=>by obtain ⟨_,_,rfl,s2⟩:=z;exact SqL.of (s2 _ _ h3)) ?_ ?_
  ·rintro i v σ H4 hv ⟨o4,o5,rfl,s4⟩
   obtain ⟨far,rfl,hfar⟩:∃ far:Int,v= .int far∧(far=q0 * sg∨far=q0 * sg+sg):=by
    match i,hv with
    | 0,hv=>cases hv;exact ⟨_,rfl,.inl rfl⟩
    | 1,hv=>cases hv;exact ⟨_,rfl,.inr rfl⟩
   have fb: -2000000≤far∧far≤2000000:=by
    rcases sg1 with rfl | rfl<;> rcases hfar with rfl | rfl<;> omega
   have hl4:=s4 _ _ hl3
   walk_at "rh"
   refine ⟨_,SqL.of hl4,_,hz2,_,SqL.of hl4,_,hz3,by decide,?_⟩
   obtain ⟨c,hc,c6⟩:∃ c:Nat,z3 % 6=(c:Int)∧c<6:=⟨(z3 % 6).toNat,by omega,by omega⟩
   rw [hc]
   refine ⟨c,far,rfl,c6,fun v5 H5 s5 r5=> ?_⟩
   walk_at "rh"
   refine ⟨z2,v5,goA c far,rfl,r5,?_,?_,fun v6 ws body H6 s6 r6 lo6 fit6=> ?_⟩
   ·have:c=0∨c=1∨c=2∨c=3∨c=4∨c=5:=by omega
    rcases this with rfl | rfl | rfl | rfl | rfl | rfl<;> simp only [goA,Am.lo]<;> omega
   ·intro x y z0 e
    have:c=0∨c=1∨c=2∨c=3∨c=4∨c=5:=by omega
    rcases this with rfl | rfl | rfl | rfl | rfl | rfl<;> simp only [goA] at e
    ·cases e
    ·cases e;exact .inl rfl
    ·cases e;exact .inl rfl
    ·cases e
    ·cases e;exact .inr rfl
    ·cases e;exact .inr rfl
   have ft:=fit6 f (by omega) (by omega)
   rw [YS c6 (by omega) (by omega)] at ft
   walk_at "rh"
   walk_at "rh"
   have s46:=(s4.trans s5).trans s6
   by_cases ce:far=q0 * sg
   ·rw [if_pos ce]
    have fo:okI far f=true:=by
     unfold okI
     refine decide_eq_true ?_
     rw [ce]
     rcases sg1 with rfl | rfl
     ·rw [Int.mul_one];have:0≤q0 * f:=Int.mul_nonneg q3.1 (by omega);omega
     ·rw [Int.mul_assoc,Int.neg_one_mul,Int.mul_neg];have:0≤q0 * f:=Int.mul_nonneg q3.1 (by omega);omega
    refine ⟨0,f,v6,none,rfl,.inl ⟨rfl,ws,body,r6,lo6,⟨by omega,by omega⟩,by rw [ft,fo,if_pos rfl]⟩,fun H7 s7=> ?_⟩
    walk_at "rh"
    try rw [if_neg (by decide)]
    exact ⟨_,_,rfl,s46.trans s7⟩
   ·rw [if_neg ce]
    have fo:okI far f=false:=by
     unfold okI
     refine decide_eq_false ?_
     have e2:far=q0 * sg+sg:=by rcases hfar with e | e;exact absurd e ce;exact e
     have e3:(q0+1) * f=q0 * f+f:=by rw [Int.add_mul,Int.one_mul]
     rcases sg1 with rfl | rfl
     ·have:far * f=q0 * f+f:=by rw [e2,Int.mul_one,Int.add_mul,Int.one_mul]
      omega
     ·have:far * f= -(q0 * f+f):=by rw [e2,Int.add_mul,Int.mul_assoc,Int.neg_one_mul,Int.mul_neg];omega
      omega
    refine ⟨0,f,v6,some true,rfl,.inl ⟨rfl,ws,body,r6,lo6,⟨by omega,by omega⟩,by rw [ft,fo,if_neg (by decide)]⟩,fun H7 s7=> ?_⟩
    walk_at "rh"
    try rw [if_neg (by decide)]
    exact ⟨_,_,rfl,s46.trans s7⟩
  ·rintro σ H4 ⟨o4,o5,rfl,s4⟩
   have hl4:=s4 _ _ hl3
   clear s4 hl3 h3 hl2 s1 hl1
   walk_at "rh"
   walk_at "rh"
   refine ⟨_,SqL.of hl4,_,hz4,z4,3999,rfl,z40,by decide,by decide,fun v7 ws body H7 s7 r7 mp=> ?_⟩
   have hl7:=s7 _ _ hl4
   have mz:=mp.z
   walk_at "rh"
   walk_at "rh"
   refine ⟨_,SqL.of hl7,_,hz5,by decide,v7,ws,body,z5 % 8,rfl,r7,mp.l,by omega,(fun _ v8 H8 s8 r8=> ?_),fun h=>absurd h (by omega)⟩
   have hl8:=s8 _ _ hl7
   have r7:=r7.same s8
   obtain ⟨pp,va,vb,rfl,hpp,ra,rb⟩:=BM.mp r7
   walk_at "rh"
   walk_at "rh"
   refine ⟨_,hpp,va,at0,_,SqL.of hl8,_,hz5,by decide,by decide,fun p1 h1=>⟨by decide,fun p2 h2=> ?_⟩⟩
   have t1:=AL (K:=K) (d:=(Stm.turn (.int (z5 % 8))).D) (by rw [Stm.D,Am.D]) h1 (AO (ED _) (RpL.one (DB _)))
   have t2:=AL (K:=K) (d:=bD [Stm.turn (.int (z5 % 8))]) rfl h2 (RpL.one t1)
   have u:=(AE.upd (o:= .tup [.str "turn",.int (z5 % 8)]) h1).trans (AE.upd (o:= .tup [.ref p1]) h2)
   have lb:=IJ body
   refine ⟨_,u.tup hpp,vb,AS (j:=1) rfl,_,t2,body.map Stm.D,rb.same u,Nat.le_of_lt (DO (by simp only [List.length_map,List.length_cons,List.length_nil];omega)),fun v9 H9 s9 r9=>⟨by decide,fun p3 h3=> ?_⟩⟩
   have u3:=AE.upd (o:= .tup [va,v9]) h3
   have u93:=(u.trans s9).trans u3
   have rN:Rp K (upd H9 p3 (.tup [va,v9])) (pD ws (.turn (.int (z5 % 8))::body)) (.ref p3):=by
    refine AL rfl h3 (AO ((ra.same u).same s9) (RpL.one ?_))
    show Rp K H9 (.tup ((Stm.turn (.int (z5 % 8))).D::body.map Stm.D)) v9
    exact r9
   have hdp:Stm.dps (Stm.turn (.int (z5 % 8))::body)≤3:=by have:=mp.d;rw [Stm.dps,Stm.dp];omega
   refine ⟨_,_,r8.same u93,rN,?_,?_⟩
   ·have e1:=dep_sts (Stm.turn (.int (z5 % 8))::body)
    have e2:=QN ws mp.w
    simp only [depL,dep]
    omega
   rw [if_pos rfl,deqL_self]
   dsimp only
   rw [if_neg (by decide)]
   have hlN:=u93 _ _ hl8
   clear t1 t2 r9 rN r8 r7 ra rb hpp hl7 hl8 hl4 u u3 u93 h1 h2 h3 hdp
   generalize upd H9 p3 (.tup [va,v9])=HN at *
   walk_at "rh"
   walk_at "rh"
   refine ⟨_,SqL.of hlN,_,hz4,z4,4000,rfl,z40,by decide,by decide,fun vM wM bM HM sM rM mM=> ?_⟩
   have hlM:=sM _ _ hlN
   have mMz:=mM.z
   refine ⟨_,SqL.of hlM,_,hz5,by decide,1,z5 % 8,vM,some false,rfl,.inr (.inl ⟨rfl,wM,bM,rM,mM.l,by omega,by rw [if_neg (by omega)]⟩),fun HR sR=> ?_⟩
   walk_at "rh"
   try rw [if_neg (by decide)]
   have hlR:=sR _ _ hlM
   walk_at "rh"
   walk_at "rh"
   intro vg Hg sg' rg
   have hlg:=sg' _ _ hlR
   refine ⟨_,SqL.of hlg,_,hz5,by decide,fun p5 h5=>⟨by decide,fun p6 h6=> ?_⟩⟩
   have t5:=AL (K:=K) (d:= .tup [.str "turn",.int z5]) rfl h5 (AO (ED _) (RpL.one (DB _)))
   have t6:=AL (K:=K) (d:= .tup [.tup [.str "go",.int 1],.tup [.str "turn",.int z5]]) rfl h6 (AO (rg.same (AE.upd h5)) (RpL.one t5))
   refine ⟨_,t6,by decide,by decide,Nat.le_of_lt (DO (show (60:Nat)≤50000 by decide)),fun vS HS sS rS=> ?_⟩
   obtain ⟨S,eS,lS,oS⟩:∃ S:List (List L2.D),(List.replicate (Int.toNat 30) [L2.D.tup [.str "go",.int 1],.tup [.str "turn",.int z5]]).flatten=S.map D.tup∧S.length=60∧∀ d∈S,FB d:=by
    refine ⟨(List.replicate 30 [[.str "go",.int 1],[.str "turn",.int z5]]).flatten,?_,?_,?_⟩
    ·exact ZH 30 _ _
    ·rw [YF]
    ·intro d hd
     obtain ⟨x,hx,hd⟩:=List.mem_flatten.mp hd
     rw [List.eq_of_mem_replicate hx] at hd
     rcases List.mem_cons.mp hd with rfl | hd
     ·exact .inr (.inr ⟨1,⟨by decide,by decide⟩,.inl rfl⟩)
     ·rw [List.mem_singleton.mp hd]
      exact .inr (.inr ⟨z5,⟨by omega,by omega⟩,.inr (.inl rfl)⟩)
   rw [eS] at rS
   walk_at "rh"
   intro vE HE sE rE
   refine ⟨by decide,fun p7 h7=> ?_⟩
   have t7:=AL (K:=K) (d:= .tup [.tup [],.tup (S.map D.tup)]) rfl h7 (AO rE (RpL.one (rS.same sE)))
   refine ⟨2,0,_,none,rfl,.inr (.inr ⟨rfl,S,t7,oS,by omega,by rw [if_pos (by omega)]⟩),fun H8' s8'=> ?_⟩
   have rS:=((rS.same sE).same (AE.upd (o:= .tup [vE,vS]) h7)).same s8'
   walk_at "rh"
   rw [if_pos (show rfN none=0 from rfl)]
   intro vF HF sF rF vG HG sG rG
   refine ⟨_,(rS.same sF).same sG,_,rG,Nat.le_of_lt (DO (by rw [List.length_map];show _+1≤_;omega)),fun vH HH sH rH=>⟨by decide,fun p8 h8=> ?_⟩⟩
   have eU:S.map D.tup++[L2.D.tup [.str "up"]]=(S++[[L2.D.str "up"]]).map D.tup:=by rw [List.map_append];rfl
   rw [eU] at rH
   have t8:=AL (K:=K) (d:= .tup [.tup [],.tup ((S++[[L2.D.str "up"]]).map D.tup)]) rfl h8 (AO ((rF.same sG).same sH) (RpL.one rH))
   refine ⟨2,0,_,some false,rfl,.inr (.inr ⟨rfl,S++[[L2.D.str "up"]],t8,?_,by rw [List.length_append];show _+1≤_;omega,by rw [if_neg (by rw [List.length_append];show ¬ _+1≤_;omega)]⟩),fun H9' s9'=> ?_⟩
   ·intro d hd
    rcases List.mem_append.mp hd with hd | hd
    ·exact oS d hd
    ·rw [List.mem_singleton.mp hd];exact .inl rfl
   ·exact q _
end
@[elab_as_elim] theorem len1 {α:Type} {Pr:List α→Prop} (us:List α) (hl:us.length=1) (h:∀ a,Pr [a]):Pr us:=by
 match us,hl with
 | [a],_=>exact h a
@[elab_as_elim] theorem len2 {α:Type} {Pr:List α→Prop} (us:List α) (hl:us.length=2) (h:∀ a b,Pr [a,b]):Pr us:=by
 match us,hl with
 | [a,b],_=>exact h a b
@[elab_as_elim] theorem len3 {α:Type} {Pr:List α→Prop} (us:List α) (hl:us.length=3) (h:∀ a b c,Pr [a,b,c]):Pr us:=by
 match us,hl with
 | [a,b,c],_=>exact h a b c
@[elab_as_elim] theorem len4 {α:Type} {Pr:List α→Prop} (us:List α) (hl:us.length=4) (h:∀ a b c d,Pr [a,b,c,d]):Pr us:=by
 match us,hl with
 | [a,b,c,d],_=>exact h a b c d
theorem walk {l:PySem.W.OpenLaw} {q:Program} {loose:List Str} {XP:(Str→Option Value)→Heap→Prop} {YP:World→Heap→Prop} {d:DefRec} {K:Params→PySem.W.Frag} (hn:l.most=some 63) (hdf:d.params.defaults=[])
  (hY:∀ (w:World) (h:Heap),YP w h→(K w.params).In h)
  (F:∀ (w:World) (mg:Str→Option Value) (fa:Addr) (h:Heap),(K w.params).In h→h.Ns mainGlobals mg→mg d.name=some (.ref fa)→
   ∃ fd:FuncData,(∀ (s:Shared) (u:Value),BindsTo s fd ⟨[u],[]⟩ [("_law_script",u)])∧∀ base:Heap,(K w.params).In base→base.Ns mainGlobals mg→BR l.prog w (K w.params) mg base CX0 22 fa fd ["_law_script"] (PY (K w.params))):
  PySem.W.WalkO q loose XP YP l.row.toRowW d [] (fun f vs=>PySem.call f vs):=
 L2.walk_of (n:=63) (k:=22) (x:="_law_script") (CX:=fun _=>CX0) (sp:=fun w=>PY (K w.params)) hn (by decide) hdf ⟨rfl,by decide,by decide⟩ hY F (fun _ _ a ns hl _ hS=>⟨a,ns,rfl,hS,hl,fun _=>rfl⟩) fun _ _ _ _ _ z=>z
end My
namespace Hd
open PySem PySem.Spec PyProof.Rows L2
def nS:List String:=["_law_refused","_law_way","_law_program","_law_number","_law_caught","_law_kinds","_law_asked","TooGreat","TooLong","HouseError","error","isinstance","ValueError","append","NoMark","NoProgram","NoText","NotWhole","_law_go","_law_cell_here","_law_far","_law_amounts","count","n0","go","_law_put_in","_law_go_here","_law_body","turn","tuple","_law_some","again","if","up","leaf","x","do","_law_many","_law_size","_law_one","ink","down","law","_law_script","_law_row","_law_cell","_law_factor","_law_most","_law_found","turned","_law_plain","__name__","law_turtlehouse_k56_changes_refused","_law_mixed","_law_k","_law_many_here","_law_rest","range",".0","fast","len","larger","shorter","MOST_STATEMENTS","parted","start","end","found","middles","list","sizes","middle","least","min","index","is_again","statements","step","shortest","length","best","size","body","program","many","there are too many statements","program_times","first","factor","words","told","name","body_times","inner","eighths","size_of","MOST_SIZE","there is no room for one more statement","turtlehouse.shorter","turtlehouse.changes","int_times","value","product","MOST_AMOUNT","an amount would be more than is allowed","amount_times","amount","times","source","more","statement_times","statement","bodies","SHAPES","mark","back","number","amounts","bodies_of","shape","part","kind","zip","waiting","word","pop","extend","turtlehouse.programs","turtlehouse.errors","/claim/cut.py","__doc__","__package__","__loader__","__spec__","__annotations__","__builtins__","__file__","__cached__","__module__","__firstlineno__","__static_attributes__","__weakref__"]
noncomputable def la:List Str:=List.map Str.ofString nS
def hT (x:Lean.Syntax):Lean.MacroM Lean.Term:=do
 let so (s:String):Lean.Term:=Lean.Syntax.mkApp ⟨Lean.mkIdent `Str.ofString⟩ #[⟨Lean.Syntax.mkStrLit s⟩]
 match x.getArgs.toList.map (·.isInterpolatedStrLit?) with
 | [some "lb"]=>
  let xs ← nS.toArray.mapM fun s=>do
   let cs:Array Lean.Term:=s.toList.toArray.map fun c=>⟨Lean.Syntax.mkNumLit (toString c.toNat)⟩
   `(⟨⟨[$cs,*]⟩⟩)
  `([$xs,*])
 | [some "gt"]=>
  let ty ← (nS.take 130).foldrM (init:=(⟨Lean.mkIdent `Program⟩:Lean.Term)) fun _ t=> `($(Lean.mkIdent `Str)→ $t)
  let as:Array Lean.Term:=((nS.take 130).map so).toArray
  `({ G: $ty // $(Lean.mkIdent `PySem.Challenge.pw_turtlehouse_k56_changes_refused)=G $as* })
 | [some "gl"]=>return Lean.Syntax.mkApp (← `($(Lean.mkIdent `Gp).1)) ((List.range 130).map fun i=>Lean.Syntax.mkApp ⟨Lean.mkIdent `nm⟩ #[⟨Lean.mkIdent `l⟩,⟨Lean.Syntax.mkNumLit (toString i)⟩]).toArray
 | _=>Lean.Macro.throwUnsupported
local macro_rules | `(s! $x)=>hT x
local macro_rules | `(tactic| walk_at "gz")=>do
 let ts ← ((nS.take 130).zipIdx.toArray).mapM fun (s,i)=> `(tactic| generalize $(Lean.Syntax.mkApp ⟨Lean.mkIdent `Str.ofString⟩ #[⟨Lean.Syntax.mkStrLit s⟩])= $(Lean.mkIdent (.mkSimple ("s"++toString i))))
 `(tactic| ($[$ts];*))
noncomputable def lb:List Str:=s!"lb"
theorem hl:la=lb:=by
 unfold la lb nS
 iterate 142 (refine eO (atom _ _ (by kernel_rfl) (by kernel_rfl)) ?_)
 rfl
noncomputable def Gp:s!"gt":=⟨_,by
 unfold PySem.Challenge.pw_turtlehouse_k56_changes_refused
 walk_at "gz"
 exact rfl⟩
noncomputable def GL (l:List Str):Program:=s!"gl"
theorem hp:PySem.Challenge.pw_turtlehouse_k56_changes_refused=GL lb:=Gp.2.trans (congrArg GL hl)
noncomputable def _root_.PySem.W.Fast.tw13103109841496817803:Program:=GL lb
theorem _root_.PySem.W.Fast.te13103109841496817803:PySem.Challenge.pw_turtlehouse_k56_changes_refused=PySem.W.Fast.tw13103109841496817803:=hp
noncomputable def xi (n:Int) (t:Nat):Value:= .int n t
noncomputable def xs (l:List Str) (a t:Nat):Value:= .str (nm l a) t
noncomputable def xr (a:Nat):Value:= .ref a
noncomputable def xy (s:String):Value:= .type s
noncomputable def xb (s:String):Value:= .builtin s
noncomputable def xt (l:List Value):Obj:=⟨.type "tuple",none,.seq ⟨l⟩ 0,⟨[]⟩⟩
noncomputable def xd (l:List DictEntry) (n:Nat):Obj:=⟨.type "dict",none,.dict ⟨l⟩ n,⟨[]⟩⟩
noncomputable def xe (P:Params) (l:List Str) (a t b:Nat):DictEntry:=de P (nm l a) t (.ref b)
noncomputable def xv (P:Params) (l:List Str) (a t:Nat) (v:Value):DictEntry:=de P (nm l a) t v
noncomputable def xf (p:Program) (l:List Str) (a i m t c:Nat):Obj:=fnO p (nm l a) i .none .none (.str (nm l m) t) none (.ref c) .none
noncomputable def xc (l:List Str) (a c b e:Nat) (g h i:Int) (r:Nat) (j m:Int) (x y z:Value):Obj:=⟨.type "code",none,.fields ⟨[.str (nm l a) b,.str (nm l c) (b+1),.str (nm l e) (b+2),.int g 0,.int h 0,.int 0 0,.int 0 0,.int i 0,.ref r,.bool true,.int j 0,.ref (r+1),.none,x,y,z,.int m 0,.int g 0,.str (nm l e) (m.toNat+1)]⟩,⟨[]⟩⟩
noncomputable def KL (p:Program) (l:List Str) (P:Params):PySem.W.Frag:=[
 (3,xd [xv P l 51 165 (xs l 52 459),xv P l 130 166 .none,xv P l 131 167 .none,xv P l 132 168 (xb "__main__.__loader__#opaque"),xv P l 133 169 .none,xe P l 134 170 6,xe P l 135 171 4,xv P l 136 173 (xs l 129 172),xv P l 137 174 .none,xe P l 9 206 24,xe P l 15 222 37,xe P l 16 238 49,xe P l 14 254 61,xe P l 7 270 73,xe P l 8 286 85,xe P l 17 302 97,xv P l 103 306 (xi 1000000 305),xv P l 96 308 (xi 4000 307),xe P l 113 341 100,xe P l 118 347 115,xe P l 95 353 120,xe P l 100 364 127,xe P l 105 375 134,xe P l 110 381 139,xe P l 92 387 144,xe P l 86 393 149,xe P l 61 401 156,xe P l 49 411 163,xv P l 63 415 (xi 60 414),xe P l 64 421 168,xe P l 75 431 175,xe P l 78 446 182,xe P l 62 458 189,xe P l 53 469 196,xe P l 44 475 201,xe P l 45 484 208,xe P l 6 493 215,xe P l 0 505 222,xe P l 18 514 229,xe P l 25 524 236,xe P l 37 533 243,xe P l 42 547 250] 42),
 (22,xt []),
 (23,xd [xv P l 138 196 (xs l 128 187),xv P l 139 200 (xi 2 199),xe P l 140 201 22,xe P l 141 203 25,xv P l 130 204 .none] 3),
 (24,⟨(xy "type"),none,.cls { name:=nm l 9,bases:=[(xy "ValueError")],mro:=[(xr 24),(xy "ValueError"),(xy "Exception"),(xy "BaseException"),(xy "object")],ns:=23,qualname:=nm l 9,hasDict:=true,slotNames:=[],subclasses:=[(xr 37),(xr 49),(xr 61),(xr 73),(xr 85),(xr 97)],abstract:=false,collection:=none,hasDel:=false },⟨[(some (xr 15)),none,(some (xs l 9 189)),(some (xs l 9 197)),(some (xb "ValueError.__new__")),(some (.bool true))]⟩⟩),
 (25,⟨(xy "getset_descriptor"),none,.fields ⟨[(xs l 141 202),(xr 24),(xb "ExceptionGroup.__weakref__"),.none]⟩,⟨[]⟩⟩),
 (35,xt []),
 (36,xd [xv P l 138 214 (xs l 128 187),xv P l 139 218 (xi 4 217),xe P l 140 219 35,xv P l 130 220 .none] 2),
 (37,⟨(xy "type"),none,.cls { name:=nm l 15,bases:=[(xr 24)],mro:=[(xr 37),(xr 24),(xy "ValueError"),(xy "Exception"),(xy "BaseException"),(xy "object")],ns:=36,qualname:=nm l 15,hasDict:=true,slotNames:=[],subclasses:=[],abstract:=false,collection:=none,hasDel:=false },⟨[(some (xr 28)),none,(some (xs l 15 207)),(some (xs l 15 215)),(some (xb "ValueError.__new__")),(some (.bool true))]⟩⟩),
 (47,xt []),
 (48,xd [xv P l 138 230 (xs l 128 187),xv P l 139 234 (xi 6 233),xe P l 140 235 47,xv P l 130 236 .none] 2),
 (49,⟨(xy "type"),none,.cls { name:=nm l 16,bases:=[(xr 24)],mro:=[(xr 49),(xr 24),(xy "ValueError"),(xy "Exception"),(xy "BaseException"),(xy "object")],ns:=48,qualname:=nm l 16,hasDict:=true,slotNames:=[],subclasses:=[],abstract:=false,collection:=none,hasDel:=false },⟨[(some (xr 40)),none,(some (xs l 16 223)),(some (xs l 16 231)),(some (xb "ValueError.__new__")),(some (.bool true))]⟩⟩),
 (59,xt []),
 (60,xd [xv P l 138 246 (xs l 128 187),xv P l 139 250 (xi 8 249),xe P l 140 251 59,xv P l 130 252 .none] 2),
 (61,⟨(xy "type"),none,.cls { name:=nm l 14,bases:=[(xr 24)],mro:=[(xr 61),(xr 24),(xy "ValueError"),(xy "Exception"),(xy "BaseException"),(xy "object")],ns:=60,qualname:=nm l 14,hasDict:=true,slotNames:=[],subclasses:=[],abstract:=false,collection:=none,hasDel:=false },⟨[(some (xr 52)),none,(some (xs l 14 239)),(some (xs l 14 247)),(some (xb "ValueError.__new__")),(some (.bool true))]⟩⟩),
 (71,xt []),
 (72,xd [xv P l 138 262 (xs l 128 187),xv P l 139 266 (xi 10 265),xe P l 140 267 71,xv P l 130 268 .none] 2),
 (73,⟨(xy "type"),none,.cls { name:=nm l 7,bases:=[(xr 24)],mro:=[(xr 73),(xr 24),(xy "ValueError"),(xy "Exception"),(xy "BaseException"),(xy "object")],ns:=72,qualname:=nm l 7,hasDict:=true,slotNames:=[],subclasses:=[],abstract:=false,collection:=none,hasDel:=false },⟨[(some (xr 64)),none,(some (xs l 7 255)),(some (xs l 7 263)),(some (xb "ValueError.__new__")),(some (.bool true))]⟩⟩),
 (83,xt []),
 (84,xd [xv P l 138 278 (xs l 128 187),xv P l 139 282 (xi 12 281),xe P l 140 283 83,xv P l 130 284 .none] 2),
 (85,⟨(xy "type"),none,.cls { name:=nm l 8,bases:=[(xr 24)],mro:=[(xr 85),(xr 24),(xy "ValueError"),(xy "Exception"),(xy "BaseException"),(xy "object")],ns:=84,qualname:=nm l 8,hasDict:=true,slotNames:=[],subclasses:=[],abstract:=false,collection:=none,hasDel:=false },⟨[(some (xr 76)),none,(some (xs l 8 271)),(some (xs l 8 279)),(some (xb "ValueError.__new__")),(some (.bool true))]⟩⟩),
 (95,xt []),
 (96,xd [xv P l 138 294 (xs l 128 187),xv P l 139 298 (xi 14 297),xe P l 140 299 95,xv P l 130 300 .none] 2),
 (97,⟨(xy "type"),none,.cls { name:=nm l 17,bases:=[(xr 24)],mro:=[(xr 97),(xr 24),(xy "ValueError"),(xy "Exception"),(xy "BaseException"),(xy "object")],ns:=96,qualname:=nm l 17,hasDict:=true,slotNames:=[],subclasses:=[],abstract:=false,collection:=none,hasDel:=false },⟨[(some (xr 88)),none,(some (xs l 17 287)),(some (xs l 17 295)),(some (xb "ValueError.__new__")),(some (.bool true))]⟩⟩),
 (100,xd [xe P l 24 309 101,xe P l 28 311 102,xe P l 33 313 103,xe P l 41 314 104,xe P l 40 315 105,xe P l 114 317 106,xe P l 115 319 107,xe P l 31 321 108,xe P l 32 324 109,xe P l 36 328 110] 10),
 (101,xt [(xs l 106 310)]),
 (102,xt [(xs l 106 312)]),
 (103,xt []),
 (104,xt []),
 (105,xt [(xs l 106 316)]),
 (106,xt [(xs l 116 318)]),
 (107,xt [(xs l 116 320)]),
 (108,xt [(xs l 106 322),(xs l 82 323)]),
 (109,xt [(xs l 106 325),(xs l 82 326),(xs l 82 327)]),
 (110,xt [(xs l 91 329),(xs l 117 330)]),
 (114,xc l 118 118 342 129 20 1 3 111 181 345 .none .none (xr 113)),
 (115,xf p l 118 12 127 303 114),
 (119,xc l 95 95 348 129 23 1 3 116 181 351 .none .none (xr 118)),
 (120,xf p l 95 13 127 303 119),
 (126,xc l 100 100 356 129 35 2 3 121 181 362 (xr 123) (xr 124) (xr 125)),
 (127,xf p l 100 15 99 354 126),
 (133,xc l 105 105 365 129 40 2 3 128 181 373 (xr 130) (xr 131) (xr 132)),
 (134,xf p l 105 16 99 354 133),
 (138,xc l 110 110 376 129 45 3 3 135 181 379 .none .none (xr 137)),
 (139,xf p l 110 17 99 354 138),
 (143,xc l 92 92 382 129 54 3 3 140 181 385 .none .none (xr 142)),
 (144,xf p l 92 18 99 354 143),
 (148,xc l 86 86 388 129 56 3 3 145 181 391 .none .none (xr 147)),
 (149,xf p l 86 19 99 354 148),
 (155,xc l 61 61 394 129 60 2 3 150 181 399 (xr 152) (xr 153) (xr 154)),
 (156,xf p l 61 20 99 354 155),
 (162,xc l 49 49 402 129 62 2 3 157 181 409 (xr 159) (xr 160) (xr 161)),
 (163,xf p l 49 21 99 354 162),
 (167,xc l 64 64 416 129 69 3 3 164 181 419 .none .none (xr 166)),
 (168,xf p l 64 24 98 412 167),
 (174,xc l 75 75 422 129 75 4 3 169 181 429 (xr 171) (xr 172) (xr 173)),
 (175,xf p l 75 25 98 412 174),
 (181,xc l 78 78 432 129 79 4 3 176 181 444 (xr 178) (xr 179) (xr 180)),
 (182,xf p l 78 26 98 412 181),
 (188,xc l 62 62 447 129 89 1 3 183 181 456 (xr 185) (xr 186) (xr 187)),
 (189,xf p l 62 27 98 412 188),
 (195,xc l 53 53 461 129 100 2 3 190 181 467 (xr 192) (xr 193) (xr 194)),
 (196,xf p l 53 29 52 459 195),
 (200,xc l 44 44 470 129 105 3 3 197 181 473 .none .none (xr 199)),
 (201,xf p l 44 30 52 459 200),
 (207,xc l 45 45 476 129 114 2 3 202 181 482 (xr 204) (xr 205) (xr 206)),
 (208,xf p l 45 31 52 459 207),
 (214,xc l 6 6 485 129 121 3 3 209 181 491 (xr 211) (xr 212) (xr 213)),
 (215,xf p l 6 32 52 459 214),
 (221,xc l 0 0 494 129 127 3 3 216 181 503 (xr 218) (xr 219) (xr 220)),
 (222,xf p l 0 33 52 459 221),
 (228,xc l 18 18 506 129 144 2 3 223 181 512 (xr 225) (xr 226) (xr 227)),
 (229,xf p l 18 34 52 459 228),
 (235,xc l 25 25 515 129 147 2 3 230 181 522 (xr 232) (xr 233) (xr 234)),
 (236,xf p l 25 35 52 459 235),
 (242,xc l 37 37 525 129 156 2 3 237 181 531 (xr 239) (xr 240) (xr 241)),
 (243,xf p l 37 36 52 459 242),
 (249,xc l 42 42 534 129 163 1 3 244 181 545 (xr 246) (xr 247) (xr 248)),
 (250,xf p l 42 37 52 459 249)]
noncomputable def loose (l:List Str):List Str:=[nm l 9,nm l 15,nm l 16,nm l 14,nm l 7,nm l 8,nm l 17,nm l 103,nm l 96,nm l 113,nm l 118,nm l 95,nm l 100,nm l 105,nm l 110,nm l 92,nm l 86,nm l 61,nm l 49,nm l 63,nm l 64,nm l 75,nm l 78,nm l 62,nm l 53,nm l 44,nm l 45,nm l 6,nm l 0,nm l 18,nm l 25,nm l 37]
noncomputable def vw (p:Program):Program:=PySem.W.view p [37]
noncomputable def ad:List Addr:=[3,22,23,24,25,35,36,37,47,48,49,59,60,61,71,72,73,83,84,85,95,96,97,100,101,102,103,104,105,106,107,108,109,110,114,115,119,120,126,127,133,134,138,139,143,144,148,149,155,156,162,163,167,168,174,175,181,182,188,189,195,196,200,201,207,208,214,215,221,222,228,229,235,236,242,243,249,250]
noncomputable abbrev yf (s:Shared):List (Option Obj):=ad.map s.heap.get?
noncomputable abbrev ya (p:Program) (l:List Str) (w:World):List (Option Obj):=(KL p l w.params).map fun x=>some x.2
abbrev WV (p:Program) (l:List Str) (w:World):Prop:=RJ p (vw p) (loose l) (fun s=>PySem.W.recOk [] s) yf (ya p l) 4898 w
theorem run0 (w:World):WV (GL lb) lb (w.withFollow "special-get-raises" false):=by unfold WV RJ;kernel_rfl
theorem run1 (w:World):WV (GL lb) lb (w.withFollow "special-get-raises" true):=by unfold WV RJ;kernel_rfl
theorem left:PySem.W.LeftO PySem.Challenge.pw_turtlehouse_k56_changes_refused (vw PySem.Challenge.pw_turtlehouse_k56_changes_refused) (loose la) (fun s=>PySem.W.recOk [] s) yf (ya PySem.Challenge.pw_turtlehouse_k56_changes_refused la) 4898:=
 tr2 (C:=fun p l=>PySem.W.LeftO p (vw p) (loose l) (fun s=>PySem.W.recOk [] s) yf (ya p l) 4898) hp hl
  (SK (by kernel_rfl) (by kernel_rfl) (fun s=>by kernel_rfl) (PySem.W.byRow2 "special-get-raises" (P:=fun w=>WV (GL lb) lb w) run0 run1))
noncomputable abbrev KP (P:Params):PySem.W.Frag:=KL PySem.Challenge.pw_turtlehouse_k56_changes_refused la P
noncomputable abbrev KG (P:Params):PySem.W.Frag:=KL (GL lb) lb P
abbrev Bd (x qx:Str) (st:Stmt) (ps:List Str):Prop:=∀ (kV doc pm:Value) (an:Option Addr) (cdv ct:Value) (us:List Value),us.length=ps.length→bindArgs (PySem.W.fnOf x qx (FK st) (DR st) (AJ st) .none kV doc pm an cdv ct) ⟨us,[]⟩=pure (ps.zip us)
def dW (p:Program) (l:List Str) (P:Params) (x i f c m t:Nat):Prop:=PySem.W.nsIn (KL p l P) mainGlobals (nm l x)=some (some (.ref f))∧(KL p l P).lookup f=some (fnO p (nm l x) i .none .none (.str (nm l m) t) none (.ref c) .none)∧PySem.W.codeIn (KL p l P) (.ref c) (nm l x)=true∧PySem.W.keepIn (KL p l P) (.ref f)=true
theorem own {P:Params} {mg:Str→Option Value} {h:Heap} {ps:List Str} (x i f c m t:Nat) (X:(KP P).In h) (G:h.Ns mainGlobals mg) (e:dW (GL lb) lb P x i f c m t) (b:Bd (nm la x) (nm la x) (SQ PySem.Challenge.pw_turtlehouse_k56_changes_refused i) ps):∃ fd,My.Own (KP P) mg (nm la x) (SQ PySem.Challenge.pw_turtlehouse_k56_changes_refused i) ps f fd:=by
 obtain ⟨e1,e2,e3,e4⟩:=tr2 (C:=fun p l=>dW p l P x i f c m t) hp hl e
 have F:=aK (st:=SQ PySem.Challenge.pw_turtlehouse_k56_changes_refused i) e2 e3 e4
 exact ⟨_,F,F.binds b,PySem.W.mg_of X G e1⟩
theorem mgs {P:Params} {mg:Str→Option Value} {h:Heap} (x:Nat) (v:Value) (X:(KP P).In h) (G:h.Ns mainGlobals mg) (e:PySem.W.nsIn (KG P) mainGlobals (nm lb x)=some (some v)):mg (nm la x)=some v:=PySem.W.mg_of X G (tr2 (C:=fun p l=>PySem.W.nsIn (KL p l P) mainGlobals (nm l x)=some (some v)) hp hl e)
theorem mgn {P:Params} {mg:Str→Option Value} {h:Heap} (x:Nat) (X:(KP P).In h) (G:h.Ns mainGlobals mg) (e:PySem.W.nsIn (KG P) mainGlobals (nm lb x)=some none):mg (nm la x)=none:=PySem.W.mg_none_of X G (tr2 (C:=fun p l=>PySem.W.nsIn (KL p l P) mainGlobals (nm l x)=some none) hp hl e)
local macro_rules | `(tactic| walk_at "k4")=> `(tactic| exact ⟨by kernel_rfl,by kernel_rfl,by kernel_rfl,by kernel_rfl⟩)
local macro_rules | `(tactic| walk_at "k5")=> `(tactic| exact ⟨by kernel_rfl,by kernel_rfl,by kernel_rfl,by kernel_rfl,by kernel_rfl⟩)
local macro_rules | `(tactic| walk_at "l1")=> `(tactic| exact fun _ _ _ _ _ _ us hl=>My.len1 us hl (fun _=>rfl))
local macro_rules | `(tactic| walk_at "l2")=> `(tactic| exact fun _ _ _ _ _ _ us hl=>My.len2 us hl (fun _ _=>rfl))
local macro_rules | `(tactic| walk_at "l3")=> `(tactic| exact fun _ _ _ _ _ _ us hl=>My.len3 us hl (fun _ _ _=>rfl))
local macro_rules | `(tactic| walk_at "l4")=> `(tactic| exact fun _ _ _ _ _ _ us hl=>My.len4 us hl (fun _ _ _ _=>rfl))
local macro_rules | `(tactic| walk_at "l5")=> `(tactic| exact fun _ _ _ _ _ _ us hl=>match us,hl with | [_,_,_,_,_],_=>rfl)
theorem RR (P:Params):KZ (KL PySem.Challenge.pw_turtlehouse_k56_changes_refused la P) P My.DZ_SHAPES (.ref 100):=dL (tr2 (C:=fun p l=>aN (KL p l P) (.ref 100)=true) hp hl (by kernel_rfl)) (tr2 (C:=fun p l=>(XF (KL p l P) (.ref 100)).map (fun e=>(cT e.key,e.hash))=My.DZ_SHAPES.map (fun k=>(some k.1,PyData.keyHash P k.1))) hp hl (by kernel_rfl)) (tr2 (C:=fun p l=>kzV (KL p l P) My.DZ_SHAPES (XF (KL p l P) (.ref 100))=true) hp hl (by kernel_rfl))
theorem tx (w:World) (mg:Str→Option Value) (h:Heap) (KX:(KP w.params).In h) (G:h.Ns mainGlobals mg):∃ t,My.Txt w (KP w.params) mg t:=by
 obtain ⟨d_bodiesof,o_bodiesof⟩:=own (P:=w.params) (ps:=["statement"]) 118 12 115 114 127 303 KX G (by walk_at "k4") (by walk_at "l1")
 obtain ⟨d_sizeof,o_sizeof⟩:=own (P:=w.params) (ps:=["program"]) 95 13 120 119 127 303 KX G (by walk_at "k4") (by walk_at "l1")
 obtain ⟨d_inttimes,o_inttimes⟩:=own (P:=w.params) (ps:=["value","factor"]) 100 15 127 126 99 354 KX G (by walk_at "k4") (by walk_at "l2")
 obtain ⟨d_amounttimes,o_amounttimes⟩:=own (P:=w.params) (ps:=["amount","factor"]) 105 16 134 133 99 354 KX G (by walk_at "k4") (by walk_at "l2")
 obtain ⟨d_statementtimes,o_statementtimes⟩:=own (P:=w.params) (ps:=["statement","first","factor"]) 110 17 139 138 99 354 KX G (by walk_at "k4") (by walk_at "l3")
 obtain ⟨d_bodytimes,o_bodytimes⟩:=own (P:=w.params) (ps:=["body","first","factor"]) 92 18 144 143 99 354 KX G (by walk_at "k4") (by walk_at "l3")
 obtain ⟨d_programtimes,o_programtimes⟩:=own (P:=w.params) (ps:=["program","first","factor"]) 86 19 149 148 99 354 KX G (by walk_at "k4") (by walk_at "l3")
 obtain ⟨d_larger,o_larger⟩:=own (P:=w.params) (ps:=["program","factor"]) 61 20 156 155 99 354 KX G (by walk_at "k4") (by walk_at "l2")
 obtain ⟨d_turned,o_turned⟩:=own (P:=w.params) (ps:=["program","eighths"]) 49 21 163 162 99 354 KX G (by walk_at "k4") (by walk_at "l2")
 obtain ⟨d_parted,o_parted⟩:=own (P:=w.params) (ps:=["start","end","found"]) 64 24 168 167 98 412 KX G (by walk_at "k4") (by walk_at "l3")
 obtain ⟨d_isagain,o_isagain⟩:=own (P:=w.params) (ps:=["statements","start","end","step"]) 75 25 175 174 98 412 KX G (by walk_at "k4") (by walk_at "l4")
 obtain ⟨d_shortest,o_shortest⟩:=own (P:=w.params) (ps:=["statements","start","end","found"]) 78 26 182 181 98 412 KX G (by walk_at "k4") (by walk_at "l4")
 obtain ⟨d_shorter,o_shorter⟩:=own (P:=w.params) (ps:=["program"]) 62 27 189 188 98 412 KX G (by walk_at "k4") (by walk_at "l1")
 obtain ⟨d_Lmixed,o_Lmixed⟩:=own (P:=w.params) (ps:=["_law_cell_here","_law_k"]) 53 29 196 195 52 459 KX G (by walk_at "k4") (by walk_at "l2")
 obtain ⟨d_Lrow,o_Lrow⟩:=own (P:=w.params) (ps:=["_law_cell_here","_law_most","_law_many_here"]) 44 30 201 200 52 459 KX G (by walk_at "k4") (by walk_at "l3")
 obtain ⟨d_Lcell,o_Lcell⟩:=own (P:=w.params) (ps:=["_law_script","_law_k"]) 45 31 208 207 52 459 KX G (by walk_at "k4") (by walk_at "l2")
 obtain ⟨d_Lasked,o_Lasked⟩:=own (P:=w.params) (ps:=["_law_way","_law_program","_law_number"]) 6 32 215 214 52 459 KX G (by walk_at "k4") (by walk_at "l3")
 obtain ⟨d_Lrefused,o_Lrefused⟩:=own (P:=w.params) (ps:=["_law_way","_law_program","_law_number"]) 0 33 222 221 52 459 KX G (by walk_at "k4") (by walk_at "l3")
 obtain ⟨d_Lgo,o_Lgo⟩:=own (P:=w.params) (ps:=["_law_cell_here","_law_far"]) 18 34 229 228 52 459 KX G (by walk_at "k4") (by walk_at "l2")
 obtain ⟨d_Lputin,o_Lputin⟩:=own (P:=w.params) (ps:=["_law_cell_here","_law_go_here"]) 25 35 236 235 52 459 KX G (by walk_at "k4") (by walk_at "l2")
 obtain ⟨d_Lmany,o_Lmany⟩:=own (P:=w.params) (ps:=["_law_cell_here","_law_size"]) 37 36 243 242 52 459 KX G (by walk_at "k4") (by walk_at "l2")
 obtain ⟨d_law,o_law⟩:=own (P:=w.params) (ps:=["_law_script"]) 42 37 250 249 52 459 KX G (by walk_at "k4") (by walk_at "l1")
 obtain ⟨v_MOST_AMOUNT,r_MOST_AMOUNT,p_MOST_AMOUNT⟩:=NS (K:=KP w.params) (d:=My.D_MOST_AMOUNT) (u:=(.int (1000000) 305)) (by kernel_rfl)
 obtain ⟨v_MOST_SIZE,r_MOST_SIZE,p_MOST_SIZE⟩:=NS (K:=KP w.params) (d:=My.D_MOST_SIZE) (u:=(.int (4000) 307)) (by kernel_rfl)
 obtain ⟨v_MOST_STATEMENTS,r_MOST_STATEMENTS,p_MOST_STATEMENTS⟩:=NS (K:=KP w.params) (d:=My.D_MOST_STATEMENTS) (u:=(.int (60) 414)) (by kernel_rfl)
 have x_SHAPES:=RR w.params
 obtain ⟨v_SHAPES,r_SHAPES⟩:∃ v,AY v (.ref 100):=by obtain ⟨p,_,_,_,e,_⟩:=x_SHAPES.ex;exact ⟨.ref p,e⟩
 exact ⟨⟨115,d_bodiesof,120,d_sizeof,127,d_inttimes,134,d_amounttimes,139,d_statementtimes,144,d_bodytimes,149,d_programtimes,156,d_larger,163,d_turned,168,d_parted,175,d_isagain,182,d_shortest,189,d_shorter,196,d_Lmixed,201,d_Lrow,208,d_Lcell,215,d_Lasked,222,d_Lrefused,229,d_Lgo,236,d_Lputin,243,d_Lmany,250,d_law,(.int (1000000) 305),v_MOST_AMOUNT,(.int (4000) 307),v_MOST_SIZE,(.int (60) 414),v_MOST_STATEMENTS,(.ref 100),v_SHAPES,24,37,49,61,73,85,97⟩,⟨o_bodiesof,o_sizeof,o_inttimes,o_amounttimes,o_statementtimes,o_bodytimes,o_programtimes,o_larger,o_turned,o_parted,o_isagain,o_shortest,o_shorter,o_Lmixed,o_Lrow,o_Lcell,o_Lasked,o_Lrefused,o_Lgo,o_Lputin,o_Lmany,o_law,mgn 12 KX G (by kernel_rfl),mgn 11 KX G (by kernel_rfl),mgn 60 KX G (by kernel_rfl),mgn 69 KX G (by kernel_rfl),mgn 73 KX G (by kernel_rfl),mgn 57 KX G (by kernel_rfl),mgn 29 KX G (by kernel_rfl),mgn 122 KX G (by kernel_rfl),mgs 103 (.int (1000000) 305) KX G (by kernel_rfl),r_MOST_AMOUNT,p_MOST_AMOUNT,mgs 96 (.int (4000) 307) KX G (by kernel_rfl),r_MOST_SIZE,p_MOST_SIZE,mgs 63 (.int (60) 414) KX G (by kernel_rfl),r_MOST_STATEMENTS,p_MOST_STATEMENTS,mgs 113 (.ref 100) KX G (by kernel_rfl),r_SHAPES,x_SHAPES,mgs 15 (.ref 37) KX G (by kernel_rfl),tr2 (C:=fun p l=>BY (KL p l w.params) 24 37=true) hp hl (by kernel_rfl),mgs 16 (.ref 49) KX G (by kernel_rfl),tr2 (C:=fun p l=>BY (KL p l w.params) 24 49=true) hp hl (by kernel_rfl),mgs 14 (.ref 61) KX G (by kernel_rfl),tr2 (C:=fun p l=>BY (KL p l w.params) 24 61=true) hp hl (by kernel_rfl),mgs 7 (.ref 73) KX G (by kernel_rfl),tr2 (C:=fun p l=>BY (KL p l w.params) 24 73=true) hp hl (by kernel_rfl),mgs 8 (.ref 85) KX G (by kernel_rfl),tr2 (C:=fun p l=>BY (KL p l w.params) 24 85=true) hp hl (by kernel_rfl),mgs 17 (.ref 97) KX G (by kernel_rfl),tr2 (C:=fun p l=>BY (KL p l w.params) 24 97=true) hp hl (by kernel_rfl),mgs 9 (.ref 24) KX G (by kernel_rfl),tr2 (C:=fun p l=>OA (KL p l w.params) 24=true) hp hl (by kernel_rfl),tr2 (C:=fun p l=>exK (KL p l w.params) 24 [37,49,61,73,85,97]=true) hp hl (by kernel_rfl),of_decide_eq_true (by kernel_rfl)⟩⟩
end Hd
open PySem PySem.W PyProof.Rows
set_option maxRecDepth 100000 in
set_option maxHeartbeats 0 in
theorem PySem.Challenge.cw_turtlehouse_k56_changes_refused_holds : PySem.Challenge.rw_turtlehouse_k56_changes_refused.Holds := by
 w_on;o_law
 refine PySem.W.holds_open (r:=PySem.Challenge.rw_turtlehouse_k56_changes_refused.row) (q:=Hd.vw PySem.Challenge.pw_turtlehouse_k56_changes_refused) (loose:=Hd.loose Hd.la) (Xt:=fun s=>recOk [] s) (XP:=fun _ _=>True) (Yf:=Hd.yf) (Ya:=Hd.ya PySem.Challenge.pw_turtlehouse_k56_changes_refused Hd.la) (YP:=InK (Hd.KL PySem.Challenge.pw_turtlehouse_k56_changes_refused Hd.la)) (N:=4898) Hd.left (InK.of fun P=>by kernel_rfl) InK.keeps (fun _ _=>trivial) (fun _ _ _ _ _=>trivial) (by rfl) (by rfl) (by rfl) (fun _ e=>recFacts_of e) (by rfl) (by assumption) (by decide+kernel) ⟨rfl,rfl,rfl,rfl,rfl,by decide+kernel⟩ ?hw ?hc
 case hw=>w_witness2
 case hc=>
  refine My.walk (l:=PySem.Challenge.rw_turtlehouse_k56_changes_refused) rfl rfl (fun w h Y=>Y) ?F
  intro w mg fa h KX G hmg
  obtain ⟨t,T⟩:=Hd.tx w mg h KX G
  have e:=hmg.symm.trans T.law.m
  cases e
  refine ⟨t.d_law,?_,fun base _ _=>My.ok_law T⟩
  obtain ⟨oc,od,kV,doc,pm,an,cdv,ct,osl,e1,_⟩:=T.law.F.ex
  rw [e1]
  exact fun s v=> .of_eq rfl
