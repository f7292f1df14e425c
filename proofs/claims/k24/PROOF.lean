import PyProof.Rows.All
import Wide.All
import OpenK.AllK
import Wide.FinOn
import Lean
import PyProof.EqAt
import PyProof.EqKinds
import PyProof.TupleCall
import PyProof.NeKinds
import PyProof.StrBlock
import PyProof.CallStr
import PyProof.FactsAll.zip_1
import PyProof.AttrMissSeq
import KE.KDictOf
import PyProof.Rows.TupIter
import PyProof.Rows.TopTwo
import KE.KTryDeep
import PyProof.MeetsDict
import PyProof.TupleOfGen
import PyProof.CollectIter
import KE.KRevIter
import PyProof.ZipIter
import PyProof.DictItems
import PyProof.DictWalks
import KE.KPairComp
import KE.KSortTup
import PyProof.Rows.SetFrom
import PyProof.WalksMore
import PySem.Challenge.RW_turtlehouse_k24_refused
set_option Elab.async false
set_option linter.all false
set_option maxRecDepth 100000
set_option maxHeartbeats 4000000
namespace L2
open PySem PySem.Spec PyProof.Rows
abbrev Key := Sum Int Str
def NT : Key → Value → Bool
 | .inl k, v => Value.isInt k v
 | .inr x, v => Value.isStrOf x v
def keyH (w : World) : Key → Int
 | .inl k => hashInt k
 | .inr x => hashStr w x
theorem CP : ∀ {k : Key} {v : Value}, NT k v = true → (∃ i t, k = Sum.inl i ∧ v = Value.int i t) ∨ (∃ x t, k = Sum.inr x ∧ v = Value.str x t)
 | .inl i, v, h => by
  obtain ⟨t, e⟩ := Value.isInt_shape (k := i) (v := v) h
  exact .inl ⟨i, t, rfl, e⟩
 | .inr x, v, h => by
  obtain ⟨t, e⟩ := Value.isStrOf_shape (x := x) (v := v) h
  exact .inr ⟨x, t, rfl, e⟩
theorem YS (i : Int) (t : Tok) : NT (.inl i) (.int i t) = true := by simp [NT, Value.isInt]
theorem YX (x : Str) (t : Tok) : NT (.inr x) (.str x t) = true := by simp [NT, Value.isStrOf]
theorem kR (a b : Int) : decide ((Sum.inl a : Key) = Sum.inl b) = (a == b) := by
 by_cases e : a = b
 ·subst e; simp
 ·have h : ¬ (Sum.inl a : Key) = Sum.inl b := fun q => e (Sum.inl.inj q)
  rw [decide_eq_false h]
  exact (beq_eq_false_iff_ne.mpr e).symm
theorem kT (a b : Str) : decide ((Sum.inr a : Key) = Sum.inr b) = decide (a = b) := by
 by_cases e : a = b
 ·subst e; simp
 ·have h : ¬ (Sum.inr a : Key) = Sum.inr b := fun q => e (Sum.inr.inj q)
  rw [decide_eq_false h, decide_eq_false e]
theorem kL (a : Int) (b : Str) : decide ((Sum.inl a : Key) = Sum.inr b) = false := decide_eq_false (fun q => nomatch q)
theorem kC (a : Str) (b : Int) : decide ((Sum.inr a : Key) = Sum.inl b) = false := decide_eq_false (fun q => nomatch q)
def BQ (prog : Program) (w : World) : PySem.KeyKind prog w Key where
 is := NT
 hash := keyH w
 inj := fun v a b ha hb => by
  rcases CP ha with ⟨i, t, rfl, rfl⟩ | ⟨x, t, rfl, rfl⟩
  ·rcases CP hb with ⟨j, u, rfl, e⟩ | ⟨y, u, rfl, e⟩
   ·injection e with e1 _; rw [e1]
   ·exact nomatch e
  ·rcases CP hb with ⟨j, u, rfl, e⟩ | ⟨y, u, rfl, e⟩
   ·exact nomatch e
   ·injection e with e1 _; rw [e1]
 byValue := fun k v h => by
  rcases CP h with ⟨i, t, rfl, rfl⟩ | ⟨x, t, rfl, rfl⟩ <;> rfl
 pyHash := fun hv h => by
  rcases CP hv with ⟨i, t, rfl, rfl⟩ | ⟨x, t, rfl, rfl⟩
  ·exact wpAny_pyHash_int h
  ·exact wpAny_pyHash_str h
 eqBool := fun hu hv h => by
  rcases CP hu with ⟨i, t, rfl, rfl⟩ | ⟨x, t, rfl, rfl⟩
  ·rcases CP hv with ⟨j, u, rfl, rfl⟩ | ⟨y, u, rfl, rfl⟩
   ·rw [kR] at h; exact wpAny_eqBool_int h
   ·rw [kL] at h; exact SeqAt.EqAt.int_str i t y u _ _ _ _ h
  ·rcases CP hv with ⟨j, u, rfl, rfl⟩ | ⟨y, u, rfl, rfl⟩
   ·rw [kC] at h; exact SeqAt.EqAt.str_int x t j u _ _ _ _ h
   ·rw [kT] at h; exact wpAny_eqBool_str h
 «strs» := fun k x t v h => by
  rcases CP h with ⟨i, u, rfl, e⟩ | ⟨y, u, rfl, e⟩
  ·exact nomatch e
  ·injection e with e1 _
   subst e1
   cases v <;> rfl
theorem KH (prog : Program) (w : World) (i : Int) (t : Tok) : (BQ prog w).is (.inl i) (.int i t) = true := YS i t
theorem KG (prog : Program) (w : World) (x : Str) (t : Tok) : (BQ prog w).is (.inr x) (.str x t) = true := YX x t
inductive V where
 | non | bl (b : Bool) | int (i : Int) | str (x : Str) | byt (b : Array UInt8) | flt (b : UInt64) | ref (a : Addr) | ty (n : String)
 deriving DecidableEq
def AX : V → Value → Prop
 | .non, u => u = Value.none
 | .bl b, u => u = Value.bool b
 | .int i, u => ∃ t, u = Value.int i t
 | .str x, u => ∃ t, u = Value.str x t
 | .byt b, u => ∃ t, u = Value.bytes b t
 | .flt b, u => ∃ t, u = Value.float b t
 | .ref a, u => u = Value.ref a
 | .ty n, u => u = Value.type n
abbrev AN : List V → List Value → Prop := Paired AX
theorem AN.length {xs : List V} {us : List Value} (r : AN xs us) : xs.length = us.length := Paired.length r
theorem AN.get : ∀ {xs : List V} {us : List Value} {i : Nat} {x : V}, AN xs us → xs[i]? = some x → ∃ u, us[i]? = some u ∧ AX x u
 | _, _, _, _, .nil, e => by simp at e
 | _, _, 0, _, .cons r _, e => by simp at e; subst e; exact ⟨_, rfl, r⟩
 | _, _, i + 1, x, .cons _ t, e => by
  obtain ⟨u, h1, h2⟩ := AN.get (i := i) (x := x) t (by simpa using e)
  exact ⟨u, by simpa using h1, h2⟩
theorem AN.set {x : V} {u : Value} (r : AX x u) : ∀ {xs : List V} {us : List Value} (i : Nat), AN xs us → AN (xs.set i x) (us.set i u)
 | _, _, _, .nil => .nil
 | _, _, 0, .cons _ t => .cons r t
 | _, _, i + 1, .cons q t => .cons q (AN.set r i t)
theorem AN.append : ∀ {xs ys : List V} {us ws : List Value}, AN xs us → AN ys ws → AN (xs ++ ys) (us ++ ws)
 | _, _, _, _, .nil, s => s
 | _, _, _, _, .cons r t, s => .cons r (AN.append t s)
theorem AN.take : ∀ {xs : List V} {us : List Value} (n : Nat), AN xs us → AN (xs.take n) (us.take n)
 | _, _, 0, _ => .nil
 | _, _, _ + 1, .nil => .nil
 | _, _, n + 1, .cons r t => .cons r (AN.take n t)
theorem AN.drop : ∀ {xs : List V} {us : List Value} (n : Nat), AN xs us → AN (xs.drop n) (us.drop n)
 | _, _, 0, r => r
 | _, _, _ + 1, .nil => .nil
 | _, _, n + 1, .cons _ t => AN.drop n t
theorem AN.none_of : ∀ {xs : List V} {us : List Value} {i : Nat}, AN xs us → xs[i]? = none → us[i]? = none := fun {xs us i} r e => by
 have h1 := r.length
 have h2 : xs.length ≤ i := List.getElem?_eq_none_iff.mp e
 exact List.getElem?_eq_none_iff.mpr (by omega)
def IC : Option V → Option Value → Prop
 | some v, some u => AX v u
 | none, none => True
 | _, _ => False
def KV {κ : Type} : List (κ × V) → List (κ × Value) → Prop := Paired fun (p : κ × V) (q : κ × Value) => p.1 = q.1 ∧ AX p.2 q.2
def kV : Key → V
 | .inl i => .int i
 | .inr x => .str x
inductive HO where
 | lst (xs : List V)
 | tup (xs : List V)
 | dK (kvs : List (Key × V)) | dT (kvs : List (List Key × V))
 | set (S : Int → Bool) (n : Nat)
 | ins (C dx : Addr) (fs : List (Str × V))
 | own (x : Addr)
 | xd (fs : List (Str × V))
 | met (f x : Addr)
 | rng (lo hi : Int)
 | frz (o : Obj) (u : HO)
 | tbl (ps : Array Value)
 | ext (φ : Heap → Prop)
abbrev Hp := Addr → Option HO
def upd (H : Hp) (a : Addr) (o : HO) : Hp := fun b => if b = a then some o else H b
theorem AB {H : Hp} {a : Addr} {o : HO} : upd H a o a = some o := by unfold upd; rw [if_pos rfl]
theorem AH {H : Hp} {a b : Addr} {o : HO} (h : b ≠ a) : upd H a o b = H b := by unfold upd; rw [if_neg h]
theorem WF {H : Hp} {a : Addr} {o u : HO} : upd (upd H a o) a u = upd H a u := by
 funext b; unfold upd; split <;> rfl
theorem BL {H : Hp} {a b : Addr} {o u : HO} (h : H a = some o) (h' : H b = some u) (d : o ≠ u) : a ≠ b := by
 intro e; subst e; rw [h] at h'; exact d (Option.some.inj h')
theorem DT {H : Hp} {a b : Addr} {o : HO} (h : H a = some o) (h' : H b = none) : a ≠ b := by
 intro e; subst e; rw [h] at h'; cases h'
section
variable (P : Program) (w : World)
def CS (H : Hp) (h : Heap) (a : Addr) : HO → Prop
 | .lst xs => xs.length ≤ sizeLine ∧ ∃ (its : List Value) (n : Nat), AN xs its ∧ h.get? a = some { cls := .type "list", data := .seq its.toArray n }
 | .tup xs => xs.length ≤ sizeLine ∧ ∃ its : List Value, AN xs its ∧ IsTup h a its.toArray
 | .dK kvs => kvs.length ≤ sizeLine ∧ (a == sysModules) = false ∧ ∃ vs, KV kvs vs ∧ h.DictOf (BQ P w) a vs
 | .dT kvs => kvs.length ≤ sizeLine ∧ (a == sysModules) = false ∧ ∃ xs : List (List Key × Addr × Value),
   Paired (fun (p : List Key × V) (q : List Key × Addr × Value) => p.1 = q.1 ∧ H q.2.1 = some (.tup (p.1.map kV)) ∧ AX p.2 q.2.2) kvs xs ∧
   ∃ o es ep, h.get? a = some o ∧ o.ExactDict ∧ o.data = .dict es ep ∧ es.toList = xs.map (entryOfKey (tupleKind (BQ P w))) ∧ (xs.map (·.1)).Nodup
 | .set S n => h.SetOf (intKind P w) a S n
 | .ins C dx fs => H dx = some (.own a) ∧ fs.length ≤ 1000 ∧ dx ≠ a ∧ h.get? a = some (PySem.W.instObj C dx) ∧
   ∃ mA, h.Ns1 dx mA ∧ (∀ f, IC (fs.lookup f) (mA f)) ∧ PySem.Within mA (fs.map (·.1))
 | .own _ => ∃ o, h.get? a = some o
 | .xd fs => ∃ mA, h.Ns1 a mA ∧ ∀ f, IC (fs.lookup f) (mA f)
 | .rng lo hi => ∃ t u v, h.get? a = some { cls := .type "range", data := .fields #[.int lo t, .int hi u, .int 1 v] }
 | .frz o u => h.get? a = some o ∧ CS H h a u
 | .tbl ps => h.get? a = some { cls := .none, data := .fields ps }
 | .met f x => h.get? a = some (PySem.W.methodObj (.ref f) (.ref x))
 | .ext φ => φ h ∧ (∃ o, h.get? a = some o) ∧ ∀ h1 h2 : Heap, φ h1 → (∀ o, h1.get? a = some o → h2.get? a = some o) → φ h2
def HOk (H : Hp) (h : Heap) : Prop := ∀ a o, H a = some o → CS P w H h a o
end
section
variable {P : Program} {w : World} {H H' : Hp} {h h' : Heap} {a : Addr} {o : HO}
theorem CS.lt (x : CS P w H h a o) : a < h.objs.size := by
 cases o with
 | lst xs => obtain ⟨_, _, _, _, e⟩ := x; exact Heap.lt_size e
 | tup xs => obtain ⟨_, _, _, p⟩ := x; exact p.lt
 | dK kvs => obtain ⟨_, _, _, _, o, _, _, e, _⟩ := x; exact Heap.lt_size e
 | dT kvs => obtain ⟨_, _, _, _, o, _, _, e, _⟩ := x; exact Heap.lt_size e
 | set S n => obtain ⟨o, _, _, _, e, _⟩ := x; exact Heap.lt_size e
 | ins C dx fs => obtain ⟨_, _, _, e, _⟩ := x; exact Heap.lt_size e
 | own y => obtain ⟨_, e⟩ := x; exact Heap.lt_size e
 | xd fs => obtain ⟨_, ⟨_, _, _, e, _⟩, _⟩ := x; exact Heap.lt_size e
 | rng lo hi => obtain ⟨_, _, _, e⟩ := x; exact Heap.lt_size e
 | frz ob u => obtain ⟨e, _⟩ := x; exact Heap.lt_size e
 | tbl ps => exact Heap.lt_size (show h.get? a = some _ from x)
 | met f y => exact Heap.lt_size (show h.get? a = some _ from x)
 | ext φ => obtain ⟨_, ⟨_, e⟩, _⟩ := x; exact Heap.lt_size e
theorem Paired.mapP {α β : Type} {F G : α → β → Prop} : ∀ {l₁ : List α} {l₂ : List β}, Paired F l₁ l₂ → (∀ a b, F a b → G a b) → Paired G l₁ l₂
 | _, _, .nil, _ => .nil
 | _, _, .cons r t, f => .cons (f _ _ r) (Paired.mapP t f)
theorem CS.stay (x : CS P w H h a o) (k : ∀ b u, (b = a ∨ H b = some (.own a)) → h.get? b = some u → h'.get? b = some u)
  (ho : ∀ b, H b = some (.own a) → H' b = some (.own a)) (ht : ∀ b xs, H b = some (.tup xs) → H' b = some (.tup xs)) : CS P w H' h' a o := by
 induction o with
 | lst xs => obtain ⟨z, its, n, r, e⟩ := x; exact ⟨z, its, n, r, k _ _ (.inl rfl) e⟩
 | tup xs => obtain ⟨z, its, r, ob, e, c⟩ := x; exact ⟨z, its, r, ob, k _ _ (.inl rfl) e, c⟩
 | dK kvs => obtain ⟨z, y, vs, r, ob, es, ep, e, c⟩ := x; exact ⟨z, y, vs, r, ob, es, ep, k _ _ (.inl rfl) e, c⟩
 | dT kvs =>
  obtain ⟨z, y, xs, r, ob, es, ep, e, c⟩ := x
  exact ⟨z, y, xs, Paired.mapP r fun p q z => ⟨z.1, ht _ _ z.2.1, z.2.2⟩, ob, es, ep, k _ _ (.inl rfl) e, c⟩
 | set S n => obtain ⟨ob, es, ep, t, e, c⟩ := x; exact ⟨ob, es, ep, t, k _ _ (.inl rfl) e, c⟩
 | ins C dx fs =>
  obtain ⟨d, z, ne, e, mA, ⟨od, es, ep, e2, c⟩, r⟩ := x
  exact ⟨ho _ d, z, ne, k _ _ (.inl rfl) e, mA, ⟨od, es, ep, k _ _ (.inr d) e2, c⟩, r⟩
 | own y => obtain ⟨ob, e⟩ := x; exact ⟨ob, k _ _ (.inl rfl) e⟩
 | xd fs => obtain ⟨mA, ⟨od, es, ep, e, c⟩, r⟩ := x; exact ⟨mA, ⟨od, es, ep, k _ _ (.inl rfl) e, c⟩, r⟩
 | rng lo hi => obtain ⟨t, u, v, e⟩ := x; exact ⟨t, u, v, k _ _ (.inl rfl) e⟩
 | frz ob u ih => obtain ⟨e, q⟩ := x; exact ⟨k _ _ (.inl rfl) e, ih q⟩
 | tbl ps =>
  have e : h.get? a = some { cls := .none, data := .fields ps } := x
  show h'.get? a = some { cls := .none, data := .fields ps }
  exact k a _ (.inl rfl) e
 | met f y =>
  have e : h.get? a = some (PySem.W.methodObj (.ref f) (.ref y)) := x
  show h'.get? a = some (PySem.W.methodObj (.ref f) (.ref y))
  exact k a _ (.inl rfl) e
 | ext φ => obtain ⟨p, ⟨o, e⟩, st⟩ := x; exact ⟨st _ _ p fun o q => k _ _ (.inl rfl) q, ⟨o, k _ _ (.inl rfl) e⟩, st⟩
theorem HOk.lt (x : HOk P w H h) (e : H a = some o) : a < h.objs.size := (x a o e).lt
theorem HOk.fresh (x : HOk P w H h) (e : h.objs.size ≤ a) : H a = none := by
 cases q : H a with
 | none => rfl
 | some u => exact absurd (Nat.lt_of_lt_of_le (x.lt q) e) (Nat.lt_irrefl _)
theorem HOk.kept (x : HOk P w H h) (k : ∀ b u, h.get? b = some u → h'.get? b = some u) : HOk P w H h' := fun a o e =>
 (x a o e).stay (fun b u _ q => k b u q) (fun _ q => q) fun _ _ q => q
theorem HOk.laid (x : HOk P w H h) (k : ∀ b u, h.get? b = some u → h'.get? b = some u) (hp : h.objs.size ≤ a) (new : CS P w (upd H a o) h' a o) : HOk P w (upd H a o) h' := fun b u e => by
 have hn := x.fresh hp
 by_cases hb : b = a
 ·subst hb; rw [AB] at e; cases e; exact new
 ·rw [AH hb] at e
  exact (x b u e).stay (fun c v _ q => k c v q) (fun c q => by rw [AH (DT q hn)]; exact q) fun c xs q => by rw [AH (DT q hn)]; exact q
end
def Rd (H : Hp) (a : Addr) (u : HO) : Prop := H a = some u ∨ ∃ o, H a = some (.frz o u)
theorem Rd.ok {P : Program} {w : World} {H : Hp} {h : Heap} {a : Addr} {u : HO} (r : Rd H a u) (x : HOk P w H h) : CS P w H h a u := by
 rcases r with r | ⟨o, r⟩
 ·exact x a u r
 ·obtain ⟨_, q⟩ := x a _ r
  exact q
def Mut : Option HO → Prop
 | some (.lst _) => True
 | some (.dK _) => True
 | some (.dT _) => True
 | some (.set _ _) => True
 | some (.ins _ _ _) => True
 | some (.ext _) => True
 | _ => False
section
variable {P : Program} {w : World} {H : Hp} {h h' : Heap} {x e : Addr} {o' : HO}
theorem HOk.write (ok : HOk P w H h) (mu : Mut (H x)) (he : e = x ∨ H e = some (.own x)) (k : ∀ b u, b ≠ e → h.get? b = some u → h'.get? b = some u) (heo : ∃ u, h'.get? e = some u)
  (new : CS P w (upd H x o') h' x o') : HOk P w (upd H x o') h' := fun b u q => by
 have nown : ∀ c y, H c = some (.own y) → c ≠ x := fun c y r z => by subst z; rw [r] at mu; exact mu
 have ntup : ∀ c xs, H c = some (.tup xs) → c ≠ x := fun c xs r z => by subst z; rw [r] at mu; exact mu
 by_cases hb : b = x
 ·subst hb; rw [AB] at q; cases q; exact new
 ·rw [AH hb] at q
  by_cases hbe : b = e
  ·have q' : H b = some (.own x) := by
    rcases he with z | z
    ·exact absurd (hbe.trans z) hb
    ·rw [hbe]; exact z
   rw [q] at q'; cases q'
   obtain ⟨v, hv⟩ := heo
   exact ⟨v, by rw [hbe]; exact hv⟩
  ·refine (ok b u q).stay (fun c v hc r => k c v ?_ r) (fun c r => by rw [AH (nown c b r)]; exact r) fun c xs r => by rw [AH (ntup c xs r)]; exact r
   rcases hc with rfl | hc
   ·exact hbe
   ·rintro rfl
    rcases he with z | z
    ·exact nown c b hc z
    ·rw [hc] at z; cases z; exact hb rfl
end
structure Un (fs ex : List Addr) (H H' : Hp) (h h' : Heap) : Prop where
 keep : ∀ b o, h.get? b = some o → H b = none → b ∉ fs → b ∉ ex → h'.get? b = some o
 slot : ∀ b o, h.get? b = some o → H b = none → b ∈ fs → b ∉ ex → ∃ sl, h'.get? b = some { o with slots := sl }
 free : ∀ b o, h.get? b = some o → H b = none → b ∉ ex → H' b = none
 there : ∀ b o, h.get? b = some o → b ∉ ex → ∃ o', h'.get? b = some o'
 tups : ∀ b xs, H b = some (.tup xs) → H' b = some (.tup xs)
 frzs : ∀ b o u, H b = some (.frz o u) → H' b = some (.frz o u)
 tbls : ∀ b ps, H b = some (.tbl ps) → ∃ more, H' b = some (.tbl (ps ++ more))
section
variable {fs fs' ex ex' : List Addr} {H H1 H2 : Hp} {h h1 h2 h' : Heap} {a x e : Addr} {o : HO}
theorem Un.any (u : Un fs ex H H1 h h1) {b : Addr} {ob : Obj} (q : h.get? b = some ob) (n : H b = none) (hx : b ∉ ex) : ∃ sl, h1.get? b = some { ob with slots := sl } := by
 by_cases hb : b ∈ fs
 ·exact u.slot b ob q n hb hx
 ·exact ⟨ob.slots, u.keep b ob q n hb hx⟩
theorem Un.trans (a : Un fs ex H H1 h h1) (b : Un fs ex H1 H2 h1 h2) : Un fs ex H H2 h h2 where
 keep := fun c ob q n hc hx => b.keep c ob (a.keep c ob q n hc hx) (a.free c ob q n hx) hc hx
 slot := fun c ob q n hc hx => by
  obtain ⟨sl, e1⟩ := a.slot c ob q n hc hx
  obtain ⟨sl', e2⟩ := b.slot c _ e1 (a.free c ob q n hx) hc hx
  exact ⟨sl', e2⟩
 free := fun c ob q n hx => by
  obtain ⟨o', e1⟩ := a.there c ob q hx
  exact b.free c o' e1 (a.free c ob q n hx) hx
 there := fun c ob q hx => by
  obtain ⟨o', e1⟩ := a.there c ob q hx
  exact b.there c o' e1 hx
 tups := fun c xs q => b.tups c xs (a.tups c xs q)
 frzs := fun c ob xs q => b.frzs c ob xs (a.frzs c ob xs q)
 tbls := fun c ps q => by
  obtain ⟨m1, e1⟩ := a.tbls c ps q
  obtain ⟨m2, e2⟩ := b.tbls c _ e1
  exact ⟨m1 ++ m2, by rw [e2, Array.append_assoc]⟩
theorem Un.kept (k : ∀ b u, h.get? b = some u → h'.get? b = some u) : Un fs ex H H h h' :=
 ⟨fun b ob q _ _ _ => k b ob q, fun b ob q _ _ _ => ⟨ob.slots, k b ob q⟩, fun _ _ _ n _ => n, fun b ob q _ => ⟨ob, k b ob q⟩, fun _ _ q => q, fun _ _ _ q => q, fun _ ps q => ⟨#[], by rw [q]; simp⟩⟩
theorem Un.refl : Un fs ex H H h h := Un.kept fun _ _ q => q
theorem Un.laid (k : ∀ b u, h.get? b = some u → h'.get? b = some u) (hp : h.objs.size ≤ a) (hn : H a = none) : Un fs ex H (upd H a o) h h' where
 keep := fun b u q _ _ _ => k b u q
 slot := fun b u q _ _ _ => ⟨u.slots, k b u q⟩
 free := fun b u q n _ => by rw [AH (Nat.ne_of_lt (Nat.lt_of_lt_of_le (Heap.lt_size q) hp))]; exact n
 there := fun b u q _ => ⟨u, k b u q⟩
 tups := fun b xs q => by rw [AH (DT q hn)]; exact q
 frzs := fun b u xs q => by rw [AH (DT q hn)]; exact q
 tbls := fun b ps q => ⟨#[], by rw [AH (DT q hn), q]; simp⟩
theorem Un.write (mu : Mut (H x)) (he : e = x ∨ H e = some (.own x)) (k : ∀ b u, b ≠ e → h.get? b = some u → h'.get? b = some u) (heo : ∃ u, h'.get? e = some u) : Un fs ex H (upd H x o) h h' := by
 have hx : ∀ b, H b = none → b ≠ x := fun b n z => by subst z; rw [n] at mu; exact mu
 have hb : ∀ b, H b = none → b ≠ e := fun b n z => by
  subst z
  rcases he with r | r
  ·exact hx b n r
  ·rw [n] at r; cases r
 have hm : ∀ b u, H b = some u → ¬ Mut (some u) → b ≠ x := fun b u q nm z => by subst z; rw [q] at mu; exact nm mu
 refine ⟨fun b u q n _ _ => k b u (hb b n) q, fun b u q n _ _ => ⟨u.slots, k b u (hb b n) q⟩, fun b u q n _ => by rw [AH (hx b n)]; exact n, fun b u q _ => ?_,
  fun b xs q => by rw [AH (hm b _ q fun z => z)]; exact q, fun b u xs q => by rw [AH (hm b _ q fun z => z)]; exact q, fun b ps q => ⟨#[], by rw [AH (hm b _ q fun z => z), q]; simp⟩⟩
 by_cases hbe : b = e
 ·subst hbe; exact heo
 ·exact ⟨u, k b u hbe q⟩
theorem Un.mono (u : Un fs ex H H1 h h1) (hs : ∀ b ∈ fs, b ∈ fs') (hx : ∀ b ∈ ex, b ∈ ex') : Un fs' ex' H H1 h h1 :=
 ⟨fun b ob q n hb he => u.keep b ob q n (fun z => hb (hs b z)) fun z => he (hx b z), fun _ _ q n _ he => u.any q n fun z => he (hx _ z), fun b ob q n he => u.free b ob q n fun z => he (hx b z), fun b ob q he => u.there b ob q fun z => he (hx b z), u.tups, u.frzs, u.tbls⟩
end
def trk (h : Heap) (H : Hp) : List Addr := (List.range h.objs.size).filter fun a => (H a).isSome
def QK (h : Heap) (H : Hp) : Heap := PySem.W.hideAll h (trk h H)
theorem ZD (h : Heap) (H : Hp) : (QK h H).objs.size = h.objs.size := PySem.W.hideAll_size _ _
theorem bK {h : Heap} {H : Hp} {b : Addr} {o : Obj} (e : h.get? b = some o) (n : H b = none) : (QK h H).get? b = some o :=
 PySem.W.hideAll_get _ e fun hm => by
  have q : (H b).isSome = true := (List.mem_filter.mp hm).2
  rw [n] at q; simp at q
theorem gJ {h : Heap} {H : Hp} {b : Addr} {o : Obj} (e : (QK h H).get? b = some o) : h.get? b = some o ∧ H b = none := by
 have e' : h.get? b = some o := PySem.W.of_hideAll (trk h H) e
 refine ⟨e', ?_⟩
 cases q : H b with
 | none => rfl
 | some x =>
  have hm : b ∈ trk h H := List.mem_filter.mpr ⟨List.mem_range.mpr (Heap.lt_size e'), by simp [q]⟩
  have z : (QK h H).get? b = none := PySem.W.hideAll_none (trk h H) hm
  rw [z] at e; cases e
def gU (g h : Heap) (L : Addr) : List (Addr × Obj) := (List.range h.objs.size).filterMap fun a => if a = L ∨ (g.get? a).isSome = true then none else (h.get? a).map fun o => (a, o)
def EA (g h : Heap) (L d : Addr) : List (Addr × Obj) := (gU g h L).filter fun p => decide (p.1 ≠ d)
structure Mod (K : PySem.W.Frag) (mg : Str → Option Value) (base : Heap) : Prop where
 kin : K.In base
 glob : base.Ns mainGlobals mg
 blt : ∃ mb, base.Ns builtinsNs mb ∧ ∀ x : Str, x ≠ "__name__" → mb x = bootBuiltins x
 nolimit : base.NoLimit
structure Cx where
 prog : Program
 w : World
 K : PySem.W.Frag
 mg : Str → Option Value
 base : Heap
 A : Around
 N : List Str
 s₀ : Shared
 H₀ : Hp
 env : Env
 outer : List Env
 stack : List Env
 ex : List Addr
 fn : Str → Bool
 calm : Bool
 pn : List (Addr × Obj)
 xe : Value → Shared → Prop
def frs (l : List Env) : List Addr := l.filterMap (·.frame)
abbrev Cx.fs (X : Cx) : List Addr := frs X.outer
def Vis (sc : Scope) (x : Str) : Prop := sc.names.lookup x = some .local ∨ sc.names.lookup x = some .cell ∨ sc.names.lookup x = some .free
def Loc (sc : Scope) (x : Str) : Prop := sc.names.lookup x = some .local ∨ sc.names.lookup x = some .cell
def Look (env : Env) (h : Heap) (m : Str → Option Value) (x : Str) (u : Value) : Prop :=
 (env.kindOf x = some .local ∧ m x = some u) ∨ ((env.kindOf x = some .cell ∨ env.kindOf x = some .free) ∧ ∃ c, env.cells.lookup x = some c ∧ h.IsCell c (some u))
structure Cx.Ok (X : Cx) : Prop where
 mod : Mod X.K X.mg X.base
 kind : X.env.scope.kind = .function
 glob : X.env.globals = mainGlobals
 blt : X.env.builtins = builtinsNs
 above : X.s₀.heap.objs.size ≤ X.env.locals
 inj : ∀ x y c, X.env.cells.lookup x = some c → X.env.cells.lookup y = some c → x = y
 has : ∀ x, (X.env.kindOf x = some .cell ∨ X.env.kindOf x = some .free) → ∃ c, X.env.cells.lookup x = some c
 cab : ∀ x c, X.fn x = true → X.env.cells.lookup x = some c → X.s₀.heap.objs.size ≤ c
 hd : X.calm = true → X.A.handled = none
 frames : X.A.frames = some X.stack
 stk : X.stack = X.outer ∨ (X.stack = X.env :: X.outer ∧ X.env.frame = some X.env.locals)
 exf : ∀ b ∈ X.ex, b ≠ X.env.locals ∧ ∀ x c, X.env.cells.lookup x = some c → c ≠ b
 bs : ∀ b o, X.base.get? b = some o → X.s₀.heap.get? b = some o ∧ X.H₀ b = none
 bsz : X.base.objs.size ≤ X.s₀.heap.objs.size
 noex : ∀ b o, X.base.get? b = some o → b ∉ X.ex
 exfs : ∀ b ∈ X.ex, b ∉ X.fs
 funs : X.s₀.heap.FunFrames X.base X.outer
 frf : ∀ b ∈ X.fs, X.H₀ b = none
structure Inv (X : Cx) (pins : List (Addr × Obj)) (σ : List (Option V)) (H : Hp) (s : Shared) : Prop where
 ok : X.Ok
 os : s.os = X.s₀.os
 bare : AllBare s.gens
 base : Un X.fs X.ex X.H₀ H X.s₀.heap s.heap
 loc : ∃ m, s.heap.Ns X.env.locals m ∧ ∀ (i : Nat) (x : Str) (v : V), X.N[i]? = some x → σ[i]? = some (some v) → Vis X.env.scope x → ∃ u, AX v u ∧ Look X.env s.heap m x u
 cell : ∀ x c, X.env.cells.lookup x = some c → ∃ v, s.heap.IsCell c v
 free : H X.env.locals = none
 freeC : ∀ x c, X.env.cells.lookup x = some c → H c = none
 pin : ∀ p ∈ X.pn ++ pins, s.heap.get? p.1 = some p.2 ∧ H p.1 = none ∧ p.1 ≠ X.env.locals ∧ p.1 ∉ X.fs ∧ ∀ v, p.2.data ≠ .cell v
 hok : HOk X.prog X.w H s.heap
 len : σ.length = X.N.length
section
variable {X : Cx} {pins : List (Addr × Obj)} {σ : List (Option V)} {H H' : Hp} {s : Shared} {h' : Heap}
theorem Cx.Ok.nofr (ok : X.Ok) {b : Addr} {o : Obj} (e : X.base.get? b = some o) : b ∉ X.fs := fun hb => by
 have := (ok.funs.mem hb).1
 rw [e] at this; cases this
theorem Inv.bs (I : Inv X pins σ H s) : ∀ b o, X.base.get? b = some o → s.heap.get? b = some o ∧ H b = none := fun b o e =>
 ⟨I.base.keep b o (I.ok.bs b o e).1 (I.ok.bs b o e).2 (I.ok.nofr e) (I.ok.noex b o e), I.base.free b o (I.ok.bs b o e).1 (I.ok.bs b o e).2 (I.ok.noex b o e)⟩
theorem Inv.bk (I : Inv X pins σ H s) : ∀ b o, X.base.get? b = some o → s.heap.get? b = some o := fun b o e => (I.bs b o e).1
theorem Inv.mod (I : Inv X pins σ H s) : Mod X.K X.mg X.base := I.ok.mod
theorem Inv.kIn (I : Inv X pins σ H s) : X.K.In s.heap := I.ok.mod.kin.keeps I.bk
theorem Inv.fr (I : Inv X pins σ H s) : ∃ m, Fr X.base X.env.locals s.heap m :=
 let ⟨m, hn, _⟩ := I.loc
 ⟨m, hn, I.bk, Nat.le_trans I.ok.bsz I.ok.above⟩
theorem Inv.lt (I : Inv X pins σ H s) : X.env.locals < s.heap.objs.size := let ⟨_, hn, _⟩ := I.loc; hn.lt
theorem Inv.sz (I : Inv X pins σ H s) : X.s₀.heap.objs.size ≤ s.heap.objs.size := Nat.le_trans I.ok.above (Nat.le_of_lt I.lt)
theorem Inv.nofs (I : Inv X pins σ H s) {a : Addr} (h : s.heap.objs.size ≤ a) : a ∉ X.fs := fun hb => by
 obtain ⟨_, o, ho, _⟩ := I.ok.funs.mem hb
 exact absurd (Nat.lt_of_lt_of_le (Heap.lt_size ho) (Nat.le_trans I.sz h)) (Nat.lt_irrefl _)
theorem Inv.cne (I : Inv X pins σ H s) : ∀ x c, X.env.cells.lookup x = some c → c ≠ X.env.locals := fun x c e z => by
 obtain ⟨v, o, ho, hd⟩ := I.cell x c e
 obtain ⟨m, ⟨o', es, ep, ho', hd', _⟩, _⟩ := I.loc
 rw [z, ho'] at ho; cases ho; rw [hd'] at hd; cases hd
theorem Inv.funs (I : Inv X pins σ H s) : s.heap.FunFrames X.base X.outer := by
 have all : ∀ (l : List Env), (∀ b ∈ frs l, b ∈ X.fs) → X.s₀.heap.FunFrames X.base l → s.heap.FunFrames X.base l := by
  intro l
  induction l with
  | nil => intro _ _; trivial
  | cons env r ih =>
   intro hs hl
   obtain ⟨hk, ⟨L, o, hf, hn, ho, hd⟩, hr⟩ := hl
   have hL : L ∈ X.fs := hs L (by unfold frs; rw [List.filterMap_cons, hf]; exact List.mem_cons_self)
   obtain ⟨sl, e⟩ := I.base.slot L o ho (I.ok.frf L hL) hL fun z => I.ok.exfs L z hL
   exact ⟨hk, ⟨L, _, hf, hn, e, hd⟩, ih (fun b hb => hs b (by unfold frs; rw [List.filterMap_cons, hf]; exact List.mem_cons_of_mem _ hb)) hr⟩
 exact all X.outer (fun _ hb => hb) I.ok.funs
theorem Inv.stack (I : Inv X pins σ H s) : s.heap.FunFrames X.base X.stack := by
 rcases I.ok.stk with e | ⟨e, hf⟩
 ·rw [e]; exact I.funs
 ·rw [e]
  obtain ⟨m, hn, _⟩ := I.loc
  refine .cons (by rw [I.ok.kind]; decide) hf hn ?_ I.funs
  exact Heap.get?_none_of_le (Nat.le_trans I.ok.bsz I.ok.above)
theorem Inv.stkSub (I : Inv X pins σ H s) : ∀ b ∈ frs X.stack, b ∈ X.env.locals :: X.fs := fun b hb => by
 rcases I.ok.stk with e | ⟨e, hf⟩
 ·rw [e] at hb; exact List.mem_cons_of_mem _ hb
 ·rw [e] at hb
  unfold frs at hb
  rw [List.filterMap_cons, hf] at hb
  exact hb
theorem Inv.stkFree (I : Inv X pins σ H s) : ∀ b ∈ frs X.stack, H b = none := fun b hb => by
 rcases List.mem_cons.mp (I.stkSub b hb) with e | hb
 ·rw [e]; exact I.free
 ·obtain ⟨_, o, ho, _⟩ := I.ok.funs.mem hb
  exact I.base.free b o ho (I.ok.frf b hb) fun z => I.ok.exfs b z hb
theorem Inv.step {g' : Array GenState} {t' : Nat} {d' : Drawn} {ch : List Addr} (I : Inv X pins σ H s)
  (hch : ∀ b ∈ ch, (b ∈ X.ex ∨ X.s₀.heap.objs.size ≤ b) ∧ b ≠ X.env.locals ∧ (∀ x c, X.env.cells.lookup x = some c → c ≠ b) ∧ ∀ p ∈ X.pn ++ pins, p.1 ≠ b)
  (keep : ∀ b o, b ≠ X.env.locals → b ∉ X.fs → b ∉ ch → s.heap.get? b = some o → H b = none → h'.get? b = some o)
  (slot : ∀ b o, b ≠ X.env.locals → b ∈ X.fs → b ∉ ch → s.heap.get? b = some o → H b = none → ∃ sl, h'.get? b = some { o with slots := sl }) (free : ∀ b o, b ∉ ch → s.heap.get? b = some o → H b = none → H' b = none)
  (there : ∀ b o, b ∉ ch → s.heap.get? b = some o → ∃ o', h'.get? b = some o')
  (tups : ∀ b xs, H b = some (.tup xs) → H' b = some (.tup xs)) (frzs : ∀ b o u, H b = some (.frz o u) → H' b = some (.frz o u)) (tbls : ∀ b ps, H b = some (.tbl ps) → ∃ more, H' b = some (.tbl (ps ++ more)))
  (ns : ∀ m, s.heap.Ns X.env.locals m → h'.Ns X.env.locals m) (hok : HOk X.prog X.w H' h') (hg : AllBare g') :
  Inv X pins σ H' { s with heap := h', gens := g', drawn := d', toks := t' } := by
 have neL : ∀ b o, X.s₀.heap.get? b = some o → b ≠ X.env.locals := fun b o e => Nat.ne_of_lt (Nat.lt_of_lt_of_le (Heap.lt_size e) I.ok.above)
 have neC : ∀ b o, X.s₀.heap.get? b = some o → b ∉ X.ex → b ∉ ch := fun b o e hx hb => by
  rcases (hch b hb).1 with z | z
  ·exact hx z
  ·exact absurd (Nat.lt_of_lt_of_le (Heap.lt_size e) z) (Nat.lt_irrefl _)
 have cellK : ∀ x c, X.env.cells.lookup x = some c → ∀ v, s.heap.IsCell c v → h'.IsCell c v := fun x c e v ⟨o, ho, hd⟩ => by
  have nch : c ∉ ch := fun z => (hch c z).2.2.1 x c e rfl
  by_cases hc : c ∈ X.fs
  ·obtain ⟨sl, q⟩ := slot c o (I.cne x c e) hc nch ho (I.freeC x c e)
   exact ⟨_, q, hd⟩
  ·exact ⟨o, keep c o (I.cne x c e) hc nch ho (I.freeC x c e), hd⟩
 refine ⟨I.ok, I.os, hg, ⟨fun b o e n hb hx => ?_, fun b o e n hb hx => ?_, fun b o e n hx => ?_, fun b o e hx => ?_, fun b xs e => tups b xs (I.base.tups b xs e), fun b o xs e => frzs b o xs (I.base.frzs b o xs e), fun b ps e => ?_⟩, ?_, fun x c e => ?_, ?_, fun x c e => ?_, fun p hp => ?_, hok, I.len⟩
 ·exact keep b o (neL b o e) hb (neC b o e hx) (I.base.keep b o e n hb hx) (I.base.free b o e n hx)
 ·obtain ⟨sl, e1⟩ := I.base.slot b o e n hb hx
  obtain ⟨sl', e2⟩ := slot b _ (neL b o e) hb (neC b o e hx) e1 (I.base.free b o e n hx)
  exact ⟨sl', e2⟩
 ·obtain ⟨o', e1⟩ := I.base.there b o e hx
  exact free b o' (neC b o e hx) e1 (I.base.free b o e n hx)
 ·obtain ⟨o', e1⟩ := I.base.there b o e hx
  exact there b o' (neC b o e hx) e1
 ·obtain ⟨m1, e1⟩ := I.base.tbls b ps e
  obtain ⟨m2, e2⟩ := tbls b _ e1
  exact ⟨m1 ++ m2, by rw [e2, Array.append_assoc]⟩
 ·obtain ⟨m, hn, hl⟩ := I.loc
  refine ⟨m, ns m hn, fun i x v e1 e2 e3 => ?_⟩
  obtain ⟨u, r, l⟩ := hl i x v e1 e2 e3
  refine ⟨u, r, ?_⟩
  rcases l with l | ⟨k, c, e, z⟩
  ·exact .inl l
  ·exact .inr ⟨k, c, e, cellK x c e _ z⟩
 ·obtain ⟨v, z⟩ := I.cell x c e
  exact ⟨v, cellK x c e v z⟩
 ·obtain ⟨m, ⟨o, _, _, ho, _⟩, _⟩ := I.loc
  exact free _ o (fun z => (hch _ z).2.1 rfl) ho I.free
 ·obtain ⟨v, o, ho, hd⟩ := I.cell x c e
  exact free c o (fun z => (hch c z).2.2.1 x c e rfl) ho (I.freeC x c e)
 ·obtain ⟨e, n, ne, nf, d⟩ := I.pin p hp
  have nch : p.1 ∉ ch := fun z => (hch p.1 z).2.2.2 p hp rfl
  exact ⟨keep p.1 p.2 ne nf nch e n, free p.1 p.2 nch e n, ne, nf, d⟩
theorem Inv.un {t' : Nat} (I : Inv X pins σ H s) (u : Un X.fs [] H H' s.heap h') (hok : HOk X.prog X.w H' h') : Inv X pins σ H' { s with heap := h', toks := t' } := by
 obtain ⟨m, ⟨o, es, ep, ho, r⟩, _⟩ := id I.loc
 obtain ⟨sl, hL⟩ := u.any ho I.free (by simp)
 exact I.step (g' := s.gens) (d' := s.drawn) (ch := []) (fun _ z => nomatch z) (fun b o _ hb _ e n => u.keep b o e n hb (by simp)) (fun b o _ hb _ e n => u.slot b o e n hb (by simp)) (fun b o _ e n => u.free b o e n (by simp)) (fun b o _ e => u.there b o e (by simp)) u.tups u.frzs u.tbls (fun m' hm => by
  obtain ⟨o', es', ep', ho', r'⟩ := hm
  rw [ho] at ho'; cases ho'
  exact ⟨_, es', ep', hL, r'⟩) hok I.bare
theorem Inv.call {g' : Array GenState} {t' : Nat} {d' : Drawn} {ch : List Addr} (I : Inv X pins σ H s) (u : Un (frs X.stack) ch H H' s.heap h') (hok : HOk X.prog X.w H' h') (hg : AllBare g')
  (hch : ∀ b ∈ ch, (b ∈ X.ex ∨ X.s₀.heap.objs.size ≤ b) ∧ b ≠ X.env.locals ∧ (∀ x c, X.env.cells.lookup x = some c → c ≠ b) ∧ ∀ p ∈ X.pn ++ pins, p.1 ≠ b) :
  Inv X pins σ H' { s with heap := h', gens := g', drawn := d', toks := t' } := by
 obtain ⟨m, ⟨o, es, ep, ho, r⟩, _⟩ := id I.loc
 obtain ⟨sl, hL⟩ := u.any ho I.free fun z => (hch _ z).2.1 rfl
 exact I.step (ch := ch) hch (fun b o hL hb hc e n => u.keep b o e n (fun z => (List.mem_cons.mp (I.stkSub b z)).elim hL hb) hc) (fun b o _ _ hc e n => u.any e n hc) (fun b o hc e n => u.free b o e n hc) (fun b o hc e => u.there b o e hc) u.tups u.frzs u.tbls (fun m' hm => by
  obtain ⟨o', es', ep', ho', r'⟩ := hm
  rw [ho] at ho'; cases ho'
  exact ⟨_, es', ep', hL, r'⟩) hok hg
theorem Inv.turned {t' : Nat} {it : Addr} (I : Inv X pins σ H s) (k : ∀ b o, b ≠ it → s.heap.get? b = some o → h'.get? b = some o) (hn : H it = none) (hL : it ≠ X.env.locals)
  (h1 : it ∈ X.ex ∨ X.s₀.heap.objs.size ≤ it) (h2 : ∀ x c, X.env.cells.lookup x = some c → c ≠ it) (h3 : ∀ p ∈ X.pn ++ pins, p.1 ≠ it) : Inv X pins σ H { s with heap := h', toks := t' } := by
 have nit : ∀ b u, H b = some u → b ≠ it := fun b u e z => by rw [z, hn] at e; cases e
 refine I.step (g' := s.gens) (d' := s.drawn) (ch := [it]) (fun b hb => ?_) (fun b o _ _ hc e _ => k b o (fun z => hc (by simp [z])) e) (fun b o _ _ hc e _ => ⟨o.slots, k b o (fun z => hc (by simp [z])) e⟩) (fun _ _ _ _ n => n)
  (fun b o hc e => ⟨o, k b o (fun z => hc (by simp [z])) e⟩) (fun _ _ e => e) (fun _ _ _ e => e) (fun b ps e => ⟨#[], by rw [e]; simp⟩) (fun m hm => ?_) (fun b u e => ?_) I.bare
 ·have e : b = it := by simpa using hb
  subst e
  exact ⟨h1, hL, h2, h3⟩
 ·obtain ⟨o, es, ep, ho, r⟩ := hm
  exact ⟨o, es, ep, k _ o (Ne.symm hL) ho, r⟩
 ·refine (I.hok b u e).stay (fun c v hc q => k c v ?_ q) (fun _ q => q) fun _ _ q => q
  rcases hc with z | z
  ·rw [z]; exact nit b u e
  ·exact nit c _ z
theorem Inv.tok (I : Inv X pins σ H s) (t : Nat) : Inv X pins σ H { s with toks := t } := I.un (h' := s.heap) (t' := t) Un.refl I.hok
theorem Inv.kept {t' : Nat} (I : Inv X pins σ H s) (k : ∀ b u, s.heap.get? b = some u → h'.get? b = some u) : Inv X pins σ H { s with heap := h', toks := t' } := I.un (Un.kept k) (I.hok.kept k)
theorem Inv.laid {a : Addr} {o : HO} {t' : Nat} (I : Inv X pins σ H s) (k : ∀ b u, s.heap.get? b = some u → h'.get? b = some u) (hp : s.heap.objs.size ≤ a) (new : CS X.prog X.w (upd H a o) h' a o) :
  Inv X pins σ (upd H a o) { s with heap := h', toks := t' } := I.un (Un.laid k hp (I.hok.fresh hp)) (I.hok.laid k hp new)
theorem Inv.write {x e : Addr} {o : HO} {t' : Nat} (I : Inv X pins σ H s) (mu : Mut (H x)) (he : e = x ∨ H e = some (.own x)) (k : ∀ b u, b ≠ e → s.heap.get? b = some u → h'.get? b = some u) (heo : ∃ u, h'.get? e = some u)
  (new : CS X.prog X.w (upd H x o) h' x o) : Inv X pins σ (upd H x o) { s with heap := h', toks := t' } := I.un (Un.write mu he k heo) (I.hok.write mu he k heo new)
theorem Inv.pins_of {pins' : List (Addr × Obj)} (I : Inv X pins σ H s) (h : ∀ p ∈ pins', s.heap.get? p.1 = some p.2 ∧ H p.1 = none ∧ p.1 ≠ X.env.locals ∧ p.1 ∉ X.fs ∧ ∀ v, p.2.data ≠ .cell v) : Inv X pins' σ H s :=
 ⟨I.ok, I.os, I.bare, I.base, I.loc, I.cell, I.free, I.freeC, fun p hp => (List.mem_append.mp hp).elim (fun z => I.pin p (List.mem_append_left _ z)) (h p), I.hok, I.len⟩
theorem LJ {N : List Str} (hN : N.Nodup) {i j : Nat} {x : Str} (a : N[i]? = some x) (b : N[j]? = some x) : i = j := by
 obtain ⟨h1, e1⟩ := List.getElem?_eq_some_iff.mp a
 obtain ⟨h2, e2⟩ := List.getElem?_eq_some_iff.mp b
 exact (List.getElem_inj hN).mp (e1.trans e2.symm)
theorem OD {M : Model} {A : Around} {E : Value → Shared → Prop} {i : Nat} {x : Str} {v : V} {u : Value} {Q : Unit → Shared → Prop} (I : Inv X pins σ H s) (hN : X.N.Nodup) (hi : X.N[i]? = some x) (hx : Loc X.env.scope x) (r : AX v u)
  (h : ∀ s', Inv X pins (σ.set i (some v)) H s' → (∃ a, Heap.SameBut a s.heap s'.heap ∧ (a = X.env.locals ∨ X.env.cells.lookup x = some a)) → Q () s') (hf : X.fn x = true ∨ X.env.scope.names.lookup x = some .local := by first | exact .inl rfl | exact .inr rfl | assumption) : wpAny M A (storeName X.env x u) Q E s := by
 obtain ⟨m, hn, hl⟩ := id I.loc
 have hcls : (X.env.scope.kind == .class || (X.env.scope.kind == .module && X.env.locals != X.env.globals)) = false := by rw [I.ok.kind]; rfl
 have hiσ : i < σ.length := by rw [I.len]; exact (List.getElem?_eq_some_iff.mp hi).1
 have cne := I.cne
 have tracked : ∀ {a : Addr} {h' : Heap}, (∃ o, s.heap.get? a = some o ∧ H a = none) → Heap.SameBut a s.heap h' → HOk X.prog X.w H h' := fun {a h'} ha hs b ob e => by
  obtain ⟨_, _, hfree⟩ := ha
  refine (I.hok b ob e).stay (fun c w' hc q => (hs.2 c ?_).trans q) (fun _ q => q) fun _ _ q => q
  rintro rfl
  rcases hc with rfl | hc
  ·rw [hfree] at e; cases e
  ·rw [hfree] at hc; cases hc
 rcases hx with hk | hk
 ·refine wpAny_storeName_local hk hn (fun h' hn' hs => ?_) hcls
  obtain ⟨oL, _, _, hoL, _⟩ := id hn
  refine h _ ⟨I.ok, I.os, I.bare, ⟨fun b o e n hb hx => ?_, fun b o e n hb hx => ?_, I.base.free, fun b o e hx => ?_, I.base.tups, I.base.frzs, I.base.tbls⟩, ⟨_, hn', fun j y v' e1 e2 e3 => ?_⟩, fun y c e => ?_, I.free, I.freeC, fun p hp => ?_, tracked ⟨oL, hoL, I.free⟩ hs, by simpa using I.len⟩ ⟨_, hs, .inl rfl⟩
  ·exact (hs.2 b (Nat.ne_of_lt (Nat.lt_of_lt_of_le (Heap.lt_size e) I.ok.above))).trans (I.base.keep b o e n hb hx)
  ·obtain ⟨sl, e1⟩ := I.base.slot b o e n hb hx
   exact ⟨sl, (hs.2 b (Nat.ne_of_lt (Nat.lt_of_lt_of_le (Heap.lt_size e) I.ok.above))).trans e1⟩
  ·obtain ⟨o', e1⟩ := I.base.there b o e hx
   exact ⟨o', (hs.2 b (Nat.ne_of_lt (Nat.lt_of_lt_of_le (Heap.lt_size e) I.ok.above))).trans e1⟩
  ·by_cases hj : j = i
   ·subst hj
    rw [hi] at e1; cases e1
    rw [List.getElem?_set_self hiσ] at e2
    cases e2
    exact ⟨u, r, .inl ⟨hk, by simp⟩⟩
   ·rw [List.getElem?_set_ne (Ne.symm hj)] at e2
    obtain ⟨u', r', q⟩ := hl j y v' e1 e2 e3
    refine ⟨u', r', ?_⟩
    rcases q with ⟨k, e⟩ | ⟨k, c, e, z⟩
    ·refine .inl ⟨k, ?_⟩
     have : y ≠ x := fun e => hj (LJ hN e1 (e ▸ hi))
     simp [this, e]
    ·exact .inr ⟨k, c, e, z.sameBut hs (cne y c e)⟩
  ·obtain ⟨w', z⟩ := I.cell y c e
   exact ⟨w', z.sameBut hs (cne y c e)⟩
  ·obtain ⟨e, n, ne, nf, d⟩ := I.pin p hp
   exact ⟨(hs.2 p.1 ne).trans e, n, ne, nf, d⟩
 ·have hfn : X.fn x = true := by
   rcases hf with z | z
   ·exact z
   ·rw [z] at hk; cases hk
  obtain ⟨c, hc⟩ := I.ok.has x (.inl hk)
  obtain ⟨w', z⟩ := I.cell x c hc
  refine wpAny_storeName_cell I.ok.kind hk hc z (fun h' hc' hs => ?_)
  obtain ⟨oc, hoc, hocd⟩ := id z
  refine h { s with heap := h' } ⟨I.ok, I.os, I.bare, ⟨fun b o e n hb hx => ?_, fun b o e n hb hx => ?_, I.base.free, fun b o e hx => ?_, I.base.tups, I.base.frzs, I.base.tbls⟩, ⟨m, hn.sameBut hs (Ne.symm (cne x c hc)), fun j y v' e1 e2 e3 => ?_⟩, fun y c' e => ?_, I.free, I.freeC, fun p hp => ?_, tracked ⟨oc, hoc, I.freeC x c hc⟩ hs, by simpa using I.len⟩ ⟨c, hs, .inr hc⟩
  ·exact (hs.2 b (Nat.ne_of_lt (Nat.lt_of_lt_of_le (Heap.lt_size e) (I.ok.cab x c hfn hc)))).trans (I.base.keep b o e n hb hx)
  ·obtain ⟨sl, e1⟩ := I.base.slot b o e n hb hx
   exact ⟨sl, (hs.2 b (Nat.ne_of_lt (Nat.lt_of_lt_of_le (Heap.lt_size e) (I.ok.cab x c hfn hc)))).trans e1⟩
  ·obtain ⟨o', e1⟩ := I.base.there b o e hx
   exact ⟨o', (hs.2 b (Nat.ne_of_lt (Nat.lt_of_lt_of_le (Heap.lt_size e) (I.ok.cab x c hfn hc)))).trans e1⟩
  ·by_cases hj : j = i
   ·subst hj
    rw [hi] at e1; cases e1
    rw [List.getElem?_set_self hiσ] at e2
    cases e2
    exact ⟨u, r, .inr ⟨.inl hk, c, hc, hc'⟩⟩
   ·rw [List.getElem?_set_ne (Ne.symm hj)] at e2
    obtain ⟨u', r', q⟩ := hl j y v' e1 e2 e3
    refine ⟨u', r', ?_⟩
    rcases q with q | ⟨k, c', e, z'⟩
    ·exact .inl q
    ·refine .inr ⟨k, c', e, z'.sameBut hs ?_⟩
     rintro rfl
     exact hj (LJ hN e1 (I.ok.inj _ _ _ e hc ▸ hi))
  ·by_cases hcc : c' = c
   ·subst hcc; exact ⟨_, hc'⟩
   ·obtain ⟨w2, z2⟩ := I.cell y c' e
    exact ⟨w2, z2.sameBut hs hcc⟩
  ·obtain ⟨e, n, ne, nf, d⟩ := I.pin p hp
   refine ⟨(hs.2 p.1 ?_).trans e, n, ne, nf, d⟩
   intro q
   rw [q, hoc] at e
   have q' : oc = p.2 := Option.some.inj e
   exact d w' (by rw [← q']; exact hocd)
theorem JH {M : Model} {A : Around} {E : Value → Shared → Prop} {i : Nat} {x : Str} {v : V} {u : Value} {Q : Unit → Shared → Prop} (I : Inv X pins σ H s) (hN : X.N.Nodup) (hi : X.N[i]? = some x) (hx : Loc X.env.scope x) (r : AX v u)
  (h : ∀ s', Inv X pins (σ.set i (some v)) H s' → Q () s') (hf : X.fn x = true ∨ X.env.scope.names.lookup x = some .local := by first | exact .inl rfl | exact .inr rfl | assumption) : wpAny M A (storeName X.env x u) Q E s :=
 OD I hN hi hx r (fun s' I' _ => h s' I') hf
theorem Inv.call' {s' : Shared} {ch : List Addr} (I : Inv X pins σ H s) (ho : s'.os = s.os) (u : Un (frs X.stack) ch H H' s.heap s'.heap) (hok : HOk X.prog X.w H' s'.heap) (hg : AllBare s'.gens)
  (hch : ∀ b ∈ ch, (b ∈ X.ex ∨ X.s₀.heap.objs.size ≤ b) ∧ b ≠ X.env.locals ∧ (∀ x c, X.env.cells.lookup x = some c → c ≠ b) ∧ ∀ p ∈ X.pn ++ pins, p.1 ≠ b) : Inv X pins σ H' s' := by
 obtain ⟨h', g', d', t', o'⟩ := s'
 have e : o' = s.os := ho
 subst e
 exact I.call (g' := g') (t' := t') (d' := d') u hok hg hch
end
abbrev XK := Value → Option Addr → Hp → Prop
abbrev St := List (Option V)
abbrev VK := V → Hp → Prop
abbrev TE := St → Hp → VK → Prop
abbrev TT := St → Hp → (Bool → Hp → Prop) → Prop
abbrev TA := St → Hp → (List V → Hp → Prop) → Prop
structure GK where
 nx : St → Hp → Prop
 rt : VK
 bk : St → Hp → Prop := fun _ _ => False
 ct : St → Hp → Prop := fun _ _ => False
abbrev TS := GK → St → Hp → Prop
def EP (X : Cx) (pins : List (Addr × Obj)) (σ : St) (Q : VK) (u : Value) (s' : Shared) : Prop := ∃ v H', Inv X pins σ H' s' ∧ AX v u ∧ Q v H'
def TP (X : Cx) (pins : List (Addr × Obj)) (σ : St) (Q : Bool → Hp → Prop) (b : Bool) (s' : Shared) : Prop := ∃ H', Inv X pins σ H' s' ∧ Q b H'
def AP (X : Cx) (pins : List (Addr × Obj)) (σ : St) (Q : List V → Hp → Prop) (us : List Value) (s' : Shared) : Prop := ∃ vs H', Inv X pins σ H' s' ∧ AN vs us ∧ Q vs H'
def SP (X : Cx) (pins : List (Addr × Obj)) (D : GK) (f : Flow) (s' : Shared) : Prop :=
 match f with
 | .next => ∃ σ' H', Inv X pins σ' H' s' ∧ D.nx σ' H'
 | .brk => ∃ σ' H', Inv X pins σ' H' s' ∧ D.bk σ' H'
 | .cont => ∃ σ' H', Inv X pins σ' H' s' ∧ D.ct σ' H'
 | .ret u => ∃ v σ' H', Inv X pins σ' H' s' ∧ AX v u ∧ D.rt v H'
def PE (X : Cx) (e : Expr) (t : TE) : Prop :=
 ∀ (pins : List (Addr × Obj)) (s : Shared) (σ : St) (H : Hp) (Q : VK), Inv X pins σ H s → t σ H Q → wpAny (model X.prog X.w) X.A (eval e X.env) (EP X pins σ Q) X.xe s
def PT (X : Cx) (e : Expr) (t : TT) : Prop :=
 ∀ (pins : List (Addr × Obj)) (s : Shared) (σ : St) (H : Hp) (Q : Bool → Hp → Prop), Inv X pins σ H s → t σ H Q → wpAny (model X.prog X.w) X.A (isTrue e X.env (eval e X.env)) (TP X pins σ Q) X.xe s
def PW (X : Cx) (e : Expr) (t : TT) : Prop :=
 ∀ (whole : Sem Value) (pins : List (Addr × Obj)) (s : Shared) (σ : St) (H : Hp) (Q : Bool → Hp → Prop), Inv X pins σ H s → t σ H Q → wpAny (model X.prog X.w) X.A (isTrue e X.env whole) (TP X pins σ Q) X.xe s
theorem PW.pt {X : Cx} {e : Expr} {t : TT} (h : PW X e t) : PT X e t := h _
def PA (X : Cx) (es : List Expr) (t : TA) : Prop :=
 ∀ (pos : Pos) (pins : List (Addr × Obj)) (s : Shared) (σ : St) (H : Hp) (Q : List V → Hp → Prop), Inv X pins σ H s → t σ H Q → wpAny (model X.prog X.w) X.A (spliced (backTo pos (starEach es X.env))) (AP X pins σ Q) X.xe s
def PS (X : Cx) (st : Stmt) (t : TS) : Prop :=
 ∀ (pins : List (Addr × Obj)) (s : Shared) (σ : St) (H : Hp) (D : GK), Inv X pins σ H s → t D σ H → wpAny (model X.prog X.w) X.A (exec st X.env) (SP X pins D) X.xe s
def PSs (X : Cx) (st : List Stmt) (t : TS) : Prop :=
 ∀ (pins : List (Addr × Obj)) (s : Shared) (σ : St) (H : Hp) (D : GK), Inv X pins σ H s → t D σ H → wpAny (model X.prog X.w) X.A (execs st X.env) (SP X pins D) X.xe s
theorem thn {α : Type} {t : Sem α} {Q Q' : α → Shared → Prop} {M : Model} {A : Around} {E : Value → Shared → Prop} {s : Shared} (h : wpAny M A t Q E s) (hQ : ∀ a s, Q a s → Q' a s) : wpAny M A t Q' E s := wpAny_mono h hQ fun _ _ x => x
section
variable {X : Cx}
def XL (i : Nat) : TE := fun σ H Q => ∃ v, σ[i]? = some (some v) ∧ Q v H
def tC (v : V) : TE := fun _ H Q => Q v H
theorem kZ {i : Nat} {x : Str} {pos : Pos} (hN : X.N[i]? = some x) (hv : Vis X.env.scope x) (hd : (x == ("__debug__" : Str)) = false := by decide) (hcd : (x == ("__classdict__" : Str)) = false := by decide) : PE X (.Name x pos) (XL i) := by
 intro pins s σ H Q I h
 obtain ⟨v, e, h⟩ := h
 obtain ⟨m, hn, hl⟩ := I.loc
 obtain ⟨u, r, l⟩ := hl i x v hN e hv
 have fin : EP X pins σ Q u s := ⟨v, H, I, r, h⟩
 rcases l with ⟨hk, hm⟩ | ⟨hk, c, hc, hcell⟩
 ·exact wpAny_Name (wpAny_loadName_local I.ok.kind hk hn hm fin) hd
 ·rcases hk with hk | hk
  ·exact wpAny_Name (wpAny_loadName_cell I.ok.kind hk hc hcell fin) hd
  ·exact wpAny_Name (wpAny_loadName_free I.ok.kind hk hc hcell fin hcd) hd
theorem AE {i j pos} : PE X (.Constant (.int i) j pos) (tC (.int i)) := fun _ _ _ H _ I h => wpAny_Constant_int ⟨.int i, H, I.tok _, ⟨_, rfl⟩, h⟩
theorem II {b j pos} : PE X (.Constant (.bool b) j pos) (tC (.bl b)) := fun _ _ _ H _ I h => Constant_bool ⟨.bl b, H, I, rfl, h⟩
theorem AS {x j pos} : PE X (.Constant (.str x) j pos) (tC (.str x)) := fun _ _ _ H _ I h => Calls.Constant_str ⟨.str x, H, I.tok _, ⟨_, rfl⟩, h⟩
def Gl (X : Cx) (x : Str) : Prop := X.env.kindOf x = some .globalImplicit
theorem FH {E : Value → Shared → Prop} {pins : List (Addr × Obj)} {s : Shared} {σ : St} {H : Hp} {x : Str} {u : Value} {pos : Pos} {Q : Value → Shared → Prop} (I : Inv X pins σ H s) (hg : Gl X x) (hm : X.mg x = some u) (h : Q u s)
  (hd : (x == ("__debug__" : Str)) = false := by decide) : wpAny (model X.prog X.w) X.A (eval (.Name x pos) X.env) Q E s :=
 Calls.Name_function_global I.ok.kind hg (Calls.loadGlobal_global (by rw [I.ok.glob]; exact I.mod.glob.keeps I.bk) hm h) hd
theorem IS {E : Value → Shared → Prop} {pins : List (Addr × Obj)} {s : Shared} {σ : St} {H : Hp} {x : Str} {u : Value} {pos : Pos} {Q : Value → Shared → Prop} (I : Inv X pins σ H s) (hg : Gl X x) (hm : X.mg x = none) (hv : bootBuiltins x = some u) (h : Q u s)
  (hn : x ≠ "__name__" := by decide) (hd : (x == ("__debug__" : Str)) = false := by decide) : wpAny (model X.prog X.w) X.A (eval (.Name x pos) X.env) Q E s := by
 obtain ⟨mb, h1, h2⟩ := I.mod.blt
 exact Calls.Name_function_global I.ok.kind hg (Calls.loadGlobal_builtin (by rw [I.ok.glob]; exact I.mod.glob.keeps I.bk) hm (by rw [I.ok.blt]; exact h1.keeps I.bk) ((h2 x hn).trans hv) h) hd
theorem CV {x : Str} {v : V} {u : Value} {pos : Pos} (hg : Gl X x) (hm : X.mg x = some u) (r : AX v u) (hd : (x == ("__debug__" : Str)) = false := by decide) : PE X (.Name x pos) (tC v) :=
 fun _ _ _ H _ I h => FH I hg hm ⟨v, H, I, r, h⟩ hd
theorem WH {x : Str} {v : V} {u : Value} {pos : Pos} (hg : Gl X x) (hm : X.mg x = none) (hv : bootBuiltins x = some u) (r : AX v u) (hn : x ≠ "__name__" := by decide) (hd : (x == ("__debug__" : Str)) = false := by decide) : PE X (.Name x pos) (tC v) :=
 fun _ _ _ H _ I h => IS I hg hm hv ⟨v, H, I, r, h⟩ hn hd
variable {a b : Expr} {ta tb : TE} {pos : Pos}
def tB (t : TE) : TT := fun σ H Q => t σ H fun x H1 => ∃ c, x = .bl c ∧ Q c H1
theorem lH {e : Expr} {t : TE} (h : PE X e t) (he : ∀ whole, isTrue e X.env whole = (do let v ← whole; standAt e.pos; holding [v] (truthy v)) := by intro _; rfl) : PT X e (tB t) := by
 intro pins s σ H Q I hw
 refine isTrue_plain (thn (h pins s σ H _ I hw) fun v s1 ⟨x, H1, I1, r1, q1⟩ => ?_) (he _)
 obtain ⟨d, rfl, q⟩ := q1
 cases r1
 exact wpAny_truthy_bool ⟨H1, I1, q⟩
variable {tA tB' : TT} {EA : List Expr}
def aI (t u : TT) : TT := fun σ H Q => t σ H fun c H1 => if c = true then u σ H1 Q else Q false H1
def tOr (t u : TT) : TT := fun σ H Q => t σ H fun c H1 => if c = true then Q true H1 else u σ H1 Q
def bV (t : TT) : TT := fun σ H Q => t σ H fun c H1 => Q (!c) H1
theorem OX (ha : PT X a tA) : PW X (.BoolOp .And [a] pos) tA := by
 intro wh pins s σ H Q I h
 refine isTrue_and (thn (ha pins s σ H Q I h) fun c s1 e => ?_)
 cases c with
 | true => exact isTrue_and_nil e
 | false => exact e
theorem QL (ha : PT X a tA) : PW X (.BoolOp .Or [a] pos) tA := by
 intro wh pins s σ H Q I h
 refine isTrue_or (thn (ha pins s σ H Q I h) fun c s1 e => ?_)
 cases c with
 | false => exact isTrue_or_nil e
 | true => exact e
theorem TW (ha : PT X a tA) (hb : PW X (.BoolOp .And (b :: EA) pos) tB') : PW X (.BoolOp .And (a :: b :: EA) pos) (aI tA tB') := by
 intro wh pins s σ H Q I h
 refine isTrue_and (thn (ha pins s σ H _ I h) fun c s1 ⟨H1, I1, q1⟩ => ?_)
 cases c with
 | true => exact hb wh pins s1 σ H1 Q I1 q1
 | false => exact ⟨H1, I1, q1⟩
theorem VW (ha : PT X a tA) (hb : PW X (.BoolOp .Or (b :: EA) pos) tB') : PW X (.BoolOp .Or (a :: b :: EA) pos) (tOr tA tB') := by
 intro wh pins s σ H Q I h
 refine isTrue_or (thn (ha pins s σ H _ I h) fun c s1 ⟨H1, I1, q1⟩ => ?_)
 cases c with
 | true => exact ⟨H1, I1, q1⟩
 | false => exact hb wh pins s1 σ H1 Q I1 q1
theorem QH (ha : PT X a tA) : PT X (.UnaryOp .Not a pos) (bV tA) := by
 intro pins s σ H Q I h
 exact isTrue_not (ha pins s σ H (fun c H1 => Q (!c) H1) I h)
def RB (ta tb : TE) : TE := fun σ H Q => ta σ H fun x H1 => ∃ c, x = .bl c ∧ if c = true then tb σ H1 Q else Q (.bl false) H1
theorem UA {op} {t : TE} (h : PE X a t) : PE X (.BoolOp op [a] pos) t := fun pins s σ H Q I hw => BoolOp_one (h pins s σ H Q I hw)
theorem jA (ha : PE X a ta) (hb : PE X (.BoolOp .And (b :: EA) pos) tb) : PE X (.BoolOp .And (a :: b :: EA) pos) (RB ta tb) := by
 intro pins s σ H Q I h
 refine BoolOp_and (thn (ha pins s σ H _ I h) fun v s1 ⟨x, H1, I1, r1, q1⟩ => ?_)
 obtain ⟨c, rfl, q1⟩ := q1
 cases r1
 refine wpAny_truthy_bool ?_
 cases c with
 | true => exact hb pins s1 σ H1 Q I1 q1
 | false => exact ⟨.bl false, H1, I1, rfl, q1⟩
def tIf (t : TT) (ta tb : TE) : TE := fun σ H Q => t σ H fun c H1 => if c = true then ta σ H1 Q else tb σ H1 Q
theorem dI {c : Expr} (hc : PT X c tA) (ha : PE X a ta) (hb : PE X b tb) : PE X (.IfExp c a b pos) (tIf tA ta tb) := by
 intro pins s σ H Q I h
 refine wpAny_IfExp (thn (hc pins s σ H _ I h) fun d s1 ⟨H1, I1, q1⟩ => ?_)
 cases d with
 | true => exact ha pins s1 σ H1 Q I1 q1
 | false => exact hb pins s1 σ H1 Q I1 q1
end
def SqL (K : PySem.W.Frag) (H : Hp) (a : Addr) (xs : List V) : Prop :=
 Rd H a (.lst xs) ∨
  ∃ (o : Obj) (its : Array Value) (n : Nat), K.lookup a = some o ∧ o.cls = .type "list" ∧ o.dict = none ∧ o.data = .seq its n ∧ its.size ≤ sizeLine ∧ AN xs its.toList
def SqT (K : PySem.W.Frag) (H : Hp) (a : Addr) (xs : List V) : Prop :=
 Rd H a (.tup xs) ∨
  ∃ (o : Obj) (its : Array Value) (n : Nat), K.lookup a = some o ∧ o.cls = .type "tuple" ∧ o.data = .seq its n ∧ its.size ≤ sizeLine ∧ AN xs its.toList
def absV : Value → Option V
 | .none => some .non
 | .bool b => some (.bl b)
 | .int i _ => some (.int i)
 | .str x _ => some (.str x)
 | .bytes b _ => some (.byt b)
 | .float b _ => some (.flt b)
 | .ref a => some (.ref a)
 | .type n => some (.ty n)
 | _ => none
theorem AX.abs {x : V} {u : Value} (r : AX x u) : absV u = some x := by
 cases x with
 | non => cases r; rfl
 | bl _ => cases r; rfl
 | int _ => obtain ⟨t, rfl⟩ := r; rfl
 | str _ => obtain ⟨t, rfl⟩ := r; rfl
 | byt _ => obtain ⟨t, rfl⟩ := r; rfl
 | flt _ => obtain ⟨t, rfl⟩ := r; rfl
 | ref _ => cases r; rfl
 | ty _ => cases r; rfl
theorem AX.inj {x y : V} {u : Value} (r : AX x u) (q : AX y u) : x = y := Option.some.inj (r.abs.symm.trans q.abs)
theorem AN.inj : ∀ {xs ys : List V} {us : List Value}, AN xs us → AN ys us → xs = ys
 | _, _, _, .nil, .nil => rfl
 | _, _, _, .cons r t, .cons r' t' => by rw [r.inj r', AN.inj t t']
section
variable {X : Cx} {pins : List (Addr × Obj)} {σ : St} {H : Hp} {s : Shared} {a : Addr} {xs ys : List V}
theorem SqL.of {K : PySem.W.Frag} (h : H a = some (.lst xs)) : SqL K H a xs := .inl (.inl h)
theorem SqT.of {K : PySem.W.Frag} (h : H a = some (.tup xs)) : SqT K H a xs := .inl (.inl h)
theorem Inv.list (I : Inv X pins σ H s) (h : SqL X.K H a xs) : ∃ its : List Value, AN xs its ∧ PlainL s.heap a its.toArray ∧ xs.length ≤ sizeLine := by
 rcases h with h | ⟨o, its, n, hk, hc, hd, hs, hz, r⟩
 ·obtain ⟨z, its, n, r, e⟩ := h.ok I.hok
  exact ⟨its, r, ⟨_, n, e, rfl, rfl, rfl⟩, z⟩
 ·refine ⟨its.toList, r, ⟨o, n, I.kIn a o hk, hc, hd, by simpa using hs⟩, ?_⟩
  have e := r.length
  simp only [Array.length_toList] at e
  omega
theorem Inv.tuple (I : Inv X pins σ H s) (h : SqT X.K H a xs) : ∃ its : List Value, AN xs its ∧ IsTup s.heap a its.toArray ∧ xs.length ≤ sizeLine := by
 rcases h with h | ⟨o, its, n, hk, hc, hs, hz, r⟩
 ·obtain ⟨z, its, r, p⟩ := h.ok I.hok
  exact ⟨its, r, p, z⟩
 ·refine ⟨its.toList, r, ⟨o, I.kIn a o hk, hc, n, by simpa using hs⟩, ?_⟩
  have e := r.length
  simp only [Array.length_toList] at e
  omega
theorem Inv.list_inj (I : Inv X pins σ H s) (h : SqL X.K H a xs) (h' : SqL X.K H a ys) : xs = ys := by
 obtain ⟨its, r, ⟨o, n, e, _, _, d⟩, _⟩ := I.list h
 obtain ⟨its', r', ⟨o', n', e', _, _, d'⟩, _⟩ := I.list h'
 rw [e] at e'; cases e'
 rw [d] at d'
 injection d' with d1 _
 have : its = its' := by simpa using congrArg Array.toList d1
 subst this
 exact r.inj r'
theorem Inv.tuple_inj (I : Inv X pins σ H s) (h : SqT X.K H a xs) (h' : SqT X.K H a ys) : xs = ys := by
 obtain ⟨its, r, ⟨o, e, _, n, d⟩, _⟩ := I.tuple h
 obtain ⟨its', r', ⟨o', e', _, n', d'⟩, _⟩ := I.tuple h'
 rw [e] at e'; cases e'
 rw [d] at d'
 injection d' with d1 _
 have : its = its' := by simpa using congrArg Array.toList d1
 subst this
 exact r.inj r'
end
abbrev Cx.wish (X : Cx) (E : Value → Shared → Prop) : Cx := { X with xe := E }
abbrev Cx.nox (X : Cx) : Cx := X.wish fun _ _ => False
theorem Cx.Ok.wish {X : Cx} (ok : X.Ok) (E : Value → Shared → Prop) : (X.wish E).Ok :=
 ⟨ok.mod, ok.kind, ok.glob, ok.blt, ok.above, ok.inj, ok.has, ok.cab, ok.hd, ok.frames, ok.stk, ok.exf, ok.bs, ok.bsz, ok.noex, ok.exfs, ok.funs, ok.frf⟩
theorem Cx.Ok.unwish {X : Cx} {E : Value → Shared → Prop} (ok : (X.wish E).Ok) : X.Ok :=
 ⟨ok.mod, ok.kind, ok.glob, ok.blt, ok.above, ok.inj, ok.has, ok.cab, ok.hd, ok.frames, ok.stk, ok.exf, ok.bs, ok.bsz, ok.noex, ok.exfs, ok.funs, ok.frf⟩
section
variable {X : Cx} {pins : List (Addr × Obj)} {σ : St} {H : Hp} {s : Shared} {E : Value → Shared → Prop}
theorem Inv.wish (I : Inv X pins σ H s) (E : Value → Shared → Prop) : Inv (X.wish E) pins σ H s := ⟨I.ok.wish E, I.os, I.bare, I.base, I.loc, I.cell, I.free, I.freeC, I.pin, I.hok, I.len⟩
theorem Inv.unwish (I : Inv (X.wish E) pins σ H s) : Inv X pins σ H s := ⟨I.ok.unwish, I.os, I.bare, I.base, I.loc, I.cell, I.free, I.freeC, I.pin, I.hok, I.len⟩
theorem SP.unwish {D : GK} {f : Flow} {s' : Shared} (h : SP (X.wish E) pins D f s') : SP X pins D f s' := by
 cases f with
 | next => obtain ⟨σ', H', I, q⟩ := h; exact ⟨σ', H', I.unwish, q⟩
 | brk => obtain ⟨σ', H', I, q⟩ := h; exact ⟨σ', H', I.unwish, q⟩
 | cont => obtain ⟨σ', H', I, q⟩ := h; exact ⟨σ', H', I.unwish, q⟩
 | ret u => obtain ⟨v, σ', H', I, r, q⟩ := h; exact ⟨v, σ', H', I.unwish, r, q⟩
theorem PSs.nox {st : List Stmt} {t : TS} (h : PSs X.nox st t) : PSs X st t := fun pins s σ H D I hw =>
 wpAny_mono (h pins s σ H D (I.wish _) hw) (fun _ _ q => q.unwish) fun _ _ z => False.elim z
end
section
variable {X : Cx} {st : Stmt} {EA : List Stmt} {t u : TS} {e : Expr} {te : TE} {pos : Pos}
def SY : TS := fun D σ H => D.nx σ H
def bS (t u : TS) : TS := fun D σ H => t { D with nx := u D } σ H
theorem CF : PSs X [] SY := fun _ _ σ H _ I h => wpAny_execs_nil ⟨σ, H, I, h⟩
theorem AF (h1 : PS X st t) (h2 : PSs X EA u) : PSs X (st :: EA) (bS t u) := by
 intro pins s σ H D I h
 refine wpAny_execs_cons (thn (h1 pins s σ H { D with nx := u D } I h) fun f s1 q => ?_)
 cases f with
 | next =>
  obtain ⟨σ', H', I', q⟩ := q
  exact h2 pins s1 σ' H' D I' q
 | ret v => exact q
 | brk => exact q
 | cont => exact q
theorem AG (h1 : PS X st t) : PSs X [st] t := by
 intro pins s σ H D I h
 refine wpAny_execs_cons (thn (h1 pins s σ H D I h) fun f s1 q => ?_)
 cases f with
 | next => exact wpAny_execs_nil q
 | ret v => exact q
 | brk => exact q
 | cont => exact q
theorem Inv.quiet {pins : List (Addr × Obj)} {σ : St} {H : Hp} {s : Shared} (I : Inv X pins σ H s) : interactive X.env = false := by simp [interactive, I.ok.kind]
def QS (te : TE) : TS := fun D σ H => te σ H fun _ H1 => D.nx σ H1
theorem CG (he : PE X e te) (hs : swapsWith e none pos.line X.env = pure false := by rfl) : PS X (.Expr e pos) (QS te) := by
 intro pins s σ H D I h
 exact wpAny_Expr_any (thn (he pins s σ H _ I h) fun v s1 ⟨x, H1, I1, r1, q1⟩ => ⟨σ, H1, I1, q1⟩) I.quiet hs
def dW (te : TE) : TS := fun D σ H => te σ H D.rt
theorem BD (he : PE X e te) : PS X (.Return (some e) pos) (dW te) := by
 intro pins s σ H D I h
 exact wpAny_Return_some (thn (he pins s σ H _ I h) fun v s1 ⟨x, H1, I1, r1, q1⟩ => ⟨x, σ, H1, I1, r1, q1⟩)
def dQ (c : TT) (t u : TS) : TS := fun D σ H => c σ H fun b H1 => if b = true then t D σ H1 else u D σ H1
theorem CN {c : Expr} {a b : List Stmt} {tc : TT} (hc : PT X c tc) (ha : PSs X a t) (hb : PSs X b u) : PS X (.If c a b pos) (dQ tc t u) := by
 intro pins s σ H D I h
 refine wpAny_If (thn (hc pins s σ H _ I h) fun d s1 ⟨H1, I1, q1⟩ => ?_)
 cases d with
 | true => exact ha pins s1 σ H1 D I1 q1
 | false => exact hb pins s1 σ H1 D I1 q1
end
abbrev TG := V → St → Hp → (St → Hp → Prop) → Prop
abbrev TGs := List V → St → Hp → (St → Hp → Prop) → Prop
def PG (X : Cx) (target : Expr) (t : TG) : Prop :=
 ∀ (pins : List (Addr × Obj)) (s : Shared) (σ : St) (H : Hp) (v : V) (u : Value) (Q : St → Hp → Prop), Inv X pins σ H s → AX v u → t v σ H Q →
  wpAny (model X.prog X.w) X.A (assign target X.env u) (fun _ s' => ∃ σ' H', Inv X pins σ' H' s' ∧ Q σ' H') X.xe s
def PGs (X : Cx) (ts : List Expr) (t : TGs) : Prop :=
 ∀ (pins : List (Addr × Obj)) (s : Shared) (σ : St) (H : Hp) (vs : List V) (us : List Value) (Q : St → Hp → Prop), Inv X pins σ H s → AN vs us → t vs σ H Q →
  wpAny (model X.prog X.w) X.A (assignInOrder ((assignEach ts X.env).map (·.2)) us) (fun _ s' => ∃ σ' H', Inv X pins σ' H' s' ∧ Q σ' H') X.xe s
abbrev mT := V → V → V → Hp → (Hp → Prop) → Prop
def jV (X : Cx) (t : mT) : Prop :=
 ∀ (pins : List (Addr × Obj)) (s : Shared) (σ : St) (H : Hp) (o i v : V) (ov iv u : Value) (Q : Hp → Prop), Inv X pins σ H s → AX o ov → AX i iv → AX v u → t o i v H Q →
  wpAny (model X.prog X.w) X.A (setItem ov iv u) (fun _ s' => ∃ H', Inv X pins σ H' s' ∧ Q H') X.xe s
abbrev TIp := V → V → Hp → VK → Prop
def PIp (X : Cx) (op : Operator) (t : TIp) : Prop :=
 ∀ (pins : List (Addr × Obj)) (s : Shared) (σ : St) (H : Hp) (x y : V) (v u : Value) (Q : VK), Inv X pins σ H s → AX x v → AX y u → t x y H Q →
  wpAny (model X.prog X.w) X.A (inplaceOp op v u) (EP X pins σ Q) X.xe s
section
variable {X : Cx} {pos : Pos}
def MU (i : Nat) : TG := fun v σ H Q => Q (σ.set i (some v)) H
theorem BV {i : Nat} {x : Str} (hN : X.N.Nodup) (hi : X.N[i]? = some x) (hx : Loc X.env.scope x) (hf : X.fn x = true ∨ X.env.scope.names.lookup x = some .local := by first | exact .inl rfl | exact .inr rfl | assumption) : PG X (.Name x pos) (MU i) := by
 intro pins s σ H v u Q I r h
 exact wpAny_assign_Name (JH I hN hi hx r (fun s' I' => ⟨_, H, I', h⟩) hf)
def cM : TGs := fun vs σ H Q => vs = [] ∧ Q σ H
def SN (t : TG) (u : TGs) : TGs := fun vs σ H Q => ∃ v r, vs = v :: r ∧ t v σ H fun σ' H' => u r σ' H' Q
theorem fU : PGs X [] cM := by
 intro pins s σ H vs us Q I r h
 obtain ⟨e, h⟩ := h
 subst e
 cases r
 exact assignInOrder_nil ⟨σ, H, I, h⟩
theorem cE {e : Expr} {es : List Expr} {t : TG} {u : TGs} (h1 : PG X e t) (h2 : PGs X es u)
  (hs : (assignEach (e :: es) X.env).map (·.2) = assign e X.env :: (assignEach es X.env).map (·.2) := by rfl) : PGs X (e :: es) (SN t u) := by
 intro pins s σ H vs us Q I r h
 obtain ⟨v, vr, e1, h⟩ := h
 subst e1
 cases r with
 | cons r rr =>
  rw [hs]
  refine assignInOrder_cons (thn (h1 pins s σ H _ _ _ I r h) fun _ s1 ⟨σ1, H1, I1, q1⟩ => ?_)
  exact h2 pins s1 σ1 H1 _ _ Q I1 rr q1
def dJ (K : PySem.W.Frag) (n : Nat) (t : TGs) : TG := fun v σ H Q => ∃ a xs, v = .ref a ∧ SqT K H a xs ∧ xs.length = n ∧ t xs σ H Q
theorem jU {es : List Expr} {k : Nat} {t : TGs} {n : Nat} (hc : X.calm = true) (h : PGs X es t)
  (hn : (assignEach es X.env).length = n := by rfl) (hst : (assignEach es X.env).findIdx? (·.1) = none := by rfl) : PG X (.Tuple es k pos) (dJ X.K n t) := by
 intro pins s σ H v u Q I r hw
 obtain ⟨a, xs, e1, hq, hl, hw⟩ := hw
 subst e1
 cases r
 obtain ⟨its, rv, ht, hz⟩ := I.tuple hq
 refine assign_Tuple_tuple (I.ok.hd hc) ht (by simp [hn, ← hl, rv.length]) hst fun h' hx => ?_
 have I1 : Inv X pins σ H { s with heap := h' } := I.kept (t' := s.toks) fun b o e => hx b o (Nat.ne_of_lt (Heap.lt_size e)) e
 exact h pins _ σ H xs _ Q I1 (by simpa using rv) hw
def UN (te : TE) (g : TG) : TS := fun D σ H => te σ H fun x H1 => g x σ H1 D.nx
theorem ML {tg e : Expr} {te : TE} {g : TG} (he : PE X e te) (hg : PG X tg g) (hs : swapsWithSole [tg] e pos.line X.env = pure false := by rfl) (hw : swappedStores [tg] e X.env = pure none := by rfl)
  (h1 : (assignEach [tg] X.env).map (·.2) = [assign tg X.env] := by rfl) : PS X (.Assign [tg] e pos) (UN te g) := by
 intro pins s σ H D I h
 refine wpAny_Assign_stores (thn (he pins s σ H _ I h) fun v s1 ⟨x, H1, I1, r1, q1⟩ => ?_) hs hw
 rw [h1]
 exact thn (hg pins s1 σ H1 x v _ I1 r1 q1) fun _ s2 q => q
theorem AW {i : Nat} {x : Str} {e : Expr} {te : TE} {pos' : Pos} (hN : X.N.Nodup) (hi : X.N[i]? = some x) (hx : Loc X.env.scope x) (he : PE X e te) (hs : swapsWith e (some (.Name x pos')) pos.line X.env = pure false := by rfl) (hf : X.fn x = true ∨ X.env.scope.names.lookup x = some .local := by first | exact .inl rfl | exact .inr rfl | assumption) :
  PS X (.Assign [.Name x pos'] e pos) (UN te (MU i)) := by
 intro pins s σ H D I h
 refine wpAny_Assign_Name (thn (he pins s σ H _ I h) fun v s1 ⟨y, H1, I1, r1, q1⟩ => ?_) hs
 exact JH I1 hN hi hx r1 (fun s2 I2 => ⟨_, H1, I2, q1⟩) hf
def bH (i : Nat) (te : TE) (ti : TIp) : TS := fun D σ H => ∃ x, σ[i]? = some (some x) ∧ te σ H fun y H1 => ti x y H1 fun z H2 => D.nx (σ.set i (some z)) H2
theorem jW {i : Nat} {x : Str} {e : Expr} {te : TE} {op : Operator} {ti : TIp} {pos' : Pos} (hN : X.N.Nodup) (hi : X.N[i]? = some x) (hx : Loc X.env.scope x) (he : PE X e te) (ho : PIp X op ti) (hf : X.fn x = true ∨ X.env.scope.names.lookup x = some .local := by first | exact .inl rfl | exact .inr rfl | assumption) :
  PS X (.AugAssign (.Name x pos') op e pos) (bH i te ti) := by
 intro pins s σ H D I h
 obtain ⟨v, e1, h⟩ := h
 obtain ⟨m, hn, hl⟩ := I.loc
 have vis : Vis X.env.scope x := by rcases hx with k | k; exact .inl k; exact .inr (.inl k)
 obtain ⟨u, r, l⟩ := hl i x v hi e1 vis
 refine wpAny_AugAssign_Name ?_
 have go : wpAny (model X.prog X.w) X.A (eval e X.env) (fun w s₂ => wpAny (model X.prog X.w) X.A (inplaceOp op u w) (fun r s₃ => wpAny (model X.prog X.w) X.A (storeName X.env x r) (fun _ => SP X pins D .next) X.xe s₃) X.xe s₂) X.xe s := by
  refine thn (he pins s σ H _ I h) fun w s1 ⟨y, H1, I1, r1, q1⟩ => ?_
  refine thn (ho pins s1 σ H1 v y u w _ I1 r r1 q1) fun z s2 ⟨zv, H2, I2, r2, q2⟩ => ?_
  exact JH I2 hN hi hx r2 (fun s3 I3 => ⟨_, H2, I3, q2⟩) hf
 rcases l with ⟨hk, hm⟩ | ⟨hk, c, hc, hcell⟩
 ·exact wpAny_loadName_local I.ok.kind hk hn hm go
 ·rcases hk with hk | hk
  ·exact wpAny_loadName_cell I.ok.kind hk hc hcell go
  ·rcases hx with k | k
   ·have : X.env.scope.names.lookup x = some .free := hk
    rw [k] at this; cases this
   ·have : X.env.scope.names.lookup x = some .free := hk
    rw [k] at this; cases this
def ipI (f : Int → Int → Int) : TIp := fun x y H Q => ∃ i j, x = .int i ∧ y = .int j ∧ Q (.int (f i j)) H
theorem lD : PIp X .Add (ipI fun i j => i + j) := by
 intro pins s σ H x y v u Q I r1 r2 h
 obtain ⟨i, j, e1, e2, q⟩ := h
 subst e1; subst e2
 obtain ⟨t, rfl⟩ := r1
 obtain ⟨t', rfl⟩ := r2
 exact iadd_int ⟨.int _, H, I.tok _, ⟨_, rfl⟩, q⟩
end
section
variable {X : Cx} {pos : Pos}
def ZN (c : TT) (tb : TS) : TS := fun D σ H => ∃ W : Nat → St → Hp → Prop, (∃ m, W m σ H) ∧ ∀ m σ H, W m σ H →
 c σ H fun b H1 => if b = true then ∃ N : St → Hp → Prop, (∀ σ' H', N σ' H' → ∃ m', m' < m ∧ W m' σ' H') ∧ tb { D with nx := N, ct := N, bk := D.nx } σ H1 else D.nx σ H1
theorem RZ {c : Expr} {body : List Stmt} {tc : TT} {tb : TS} (hp : PassesOwn (model X.prog X.w) X.A X.env X.xe) (hc : PT X c tc) (hb : PSs X body tb) : PS X (.While c body [] pos) (ZN tc tb) := by
 intro pins s σ H D I h
 obtain ⟨W, ⟨m0, w0⟩, turn⟩ := h
 refine wpAny_While (codeAny_whileLoop (fun n s' => ∃ σ' H', Inv X pins σ' H' s' ∧ W n σ' H') ?_ m0 ⟨σ, H, I, w0⟩)
 rintro n s1 ⟨σ1, H1, I1, w1⟩
 refine wpAny_passesOwn hp (thn (hc pins s1 σ1 H1 _ I1 (turn n σ1 H1 w1)) fun b s2 ⟨H2, I2, q2⟩ => ?_)
 cases b with
 | true =>
  obtain ⟨N, hN, q2⟩ := q2
  rw [if_pos rfl]
  refine wpAny_passesOwn hp (thn (hb pins s2 σ1 H2 _ I2 q2) fun f s3 q3 => ?_)
  cases f with
  | next =>
   obtain ⟨σ3, H3, I3, n3⟩ := q3
   obtain ⟨m', hm, w3⟩ := hN σ3 H3 n3
   exact ⟨m', hm, σ3, H3, I3, w3⟩
  | cont =>
   obtain ⟨σ3, H3, I3, n3⟩ := q3
   obtain ⟨m', hm, w3⟩ := hN σ3 H3 n3
   exact ⟨m', hm, σ3, H3, I3, w3⟩
  | brk => exact q3
  | ret v => exact q3
 | false =>
  rw [if_neg Bool.false_ne_true]
  exact wpAny_execs_nil ⟨σ1, H2, I2, q2⟩
end
structure It where
 go : Nat → Hp → Prop
 yld : Nat → Hp → V → Hp → Prop
 stop : Nat → Hp → Prop
def JS (X : Cx) (pins : List (Addr × Obj)) (H : Hp) (b : Addr) : Prop :=
 H b = none ∧ b ≠ X.env.locals ∧ b ∉ X.fs ∧ (b ∈ X.ex ∨ X.s₀.heap.objs.size ≤ b) ∧ (∀ x c, X.env.cells.lookup x = some c → c ≠ b) ∧ ∀ p ∈ X.pn ++ pins, p.1 ≠ b
theorem Inv.fpOk {X : Cx} {pins : List (Addr × Obj)} {σ : St} {H H' : Hp} {s : Shared} {b : Addr} (I : Inv X pins σ H s) (hb : s.heap.objs.size ≤ b) (hn : H' b = none) : JS X pins H' b := by
 refine ⟨hn, Nat.ne_of_gt (Nat.lt_of_lt_of_le I.lt hb), I.nofs hb, .inr (Nat.le_trans I.sz hb), fun x c e z => ?_, fun p hp z => ?_⟩
 ·obtain ⟨v, q⟩ := I.cell x c e
  exact absurd (Nat.lt_of_lt_of_le q.lt (by rw [z]; exact hb)) (Nat.lt_irrefl _)
 ·exact absurd (Nat.lt_of_lt_of_le (Heap.lt_size (I.pin p hp).1) (by rw [z]; exact hb)) (Nat.lt_irrefl _)
structure gH (P : Program) (w : World) (K : PySem.W.Frag) (tg : Expr) (J : It) (fp : List Addr) (it : Addr) (tn : Nat → Heap → Prop) : Prop where
 mem : it ∈ fp
 obj : ∀ i h, tn i h → ∀ b ∈ fp, ∃ o, h.get? b = some o ∧ ∀ v, o.data ≠ .cell v
 keep : ∀ i h h', tn i h → (∀ b ∈ fp, ∀ o, h.get? b = some o → h'.get? b = some o) → tn i h'
 item : ∀ (X : Cx), X.prog = P → X.w = w → X.K = K → X.calm = true → ∀ (i : Nat) (pins : List (Addr × Obj)) (s : Shared) (σ : St) (H : Hp) (E : Value → Shared → Prop), Inv X pins σ H s → (∀ b ∈ fp, JS X pins H b) → tn i s.heap → J.go i H →
  wpAny (model P w) X.A (pyNext (.ref it)) (fun r s1 => ∃ u, r = some u ∧
   wpAny (model P w) X.A (letOwnedTupleGo tg (.ref it) u) (fun _ s2 => ∃ x H', Inv X pins σ H' s2 ∧ AX x u ∧ J.yld i H x H' ∧ tn (i + 1) s2.heap ∧ ∀ b ∈ fp, H' b = none) E s1) E s
 done : ∀ (X : Cx), X.prog = P → X.w = w → X.K = K → X.calm = true → ∀ (i : Nat) (pins : List (Addr × Obj)) (s : Shared) (σ : St) (H : Hp) (E : Value → Shared → Prop), Inv X pins σ H s → (∀ b ∈ fp, JS X pins H b) → tn i s.heap → J.stop i H →
  wpAny (model P w) X.A (pyNext (.ref it)) (fun r s1 => r = none ∧ Inv X pins σ H s1) E s
 self : ∀ (A : Around) (i : Nat) (s : Shared) (Q : Value → Shared → Prop) (E : Value → Shared → Prop), tn i s.heap → Q (.ref it) s → wpAny (model P w) A (pyIter (.ref it)) Q E s
abbrev TI := St → Hp → (It → Hp → Prop) → Prop
def PIE (X : Cx) (pins : List (Addr × Obj)) (σ : St) (tg : Expr) (R : It → Hp → Prop) (itv : Value) (s2 : Shared) : Prop :=
 ∃ (it : Addr) (fp : List Addr) (tn : Nat → Heap → Prop) (J : It) (H' : Hp), itv = .ref it ∧ Inv X pins σ H' s2 ∧ gH X.prog X.w X.K tg J fp it tn ∧ tn 0 s2.heap ∧ (∀ b ∈ fp, JS X pins H' b) ∧ R J H'
def PI (X : Cx) (tg iter : Expr) (wi : TI) : Prop :=
 ∀ (pins : List (Addr × Obj)) (s : Shared) (σ : St) (H : Hp) (R : It → Hp → Prop), Inv X pins σ H s → wi σ H R →
  wpAny (model X.prog X.w) X.A (eval iter X.env) (fun v s1 => wpAny (model X.prog X.w) X.A (pyIter v) (PIE X pins σ tg R) X.xe s1) X.xe s
theorem dY {M : Model} {A : Around} {E : Value → Shared → Prop} {s : Shared} {tg : Expr} {it : Addr} {u : Value} {o : Obj} {n : String} {vs : Array Value} {Q : Unit → Shared → Prop} (ho : s.heap.get? it = some o) (hc : o.cls = .type n) (hd : o.data = .fields vs)
  (hn : ["enumerate", "zip", "dict_itemiterator", "dict_reverseitemiterator", "odict_iterator", "itertools.zip_longest", "itertools.pairwise"].contains n = false) (hQ : Q () s) : wpAny M A (letOwnedTupleGo tg (.ref it) u) Q E s := by
 unfold letOwnedTupleGo
 cases tg <;> first
  | exact wpAny_pure hQ
  | (cases u <;> first
    | exact wpAny_pure hQ
    | (refine wpAny_bind (wpAny_load ho ?_)
       rw [hc, hd]
       show wpAny M A (if (["enumerate", "zip", "dict_itemiterator", "dict_reverseitemiterator", "odict_iterator", "itertools.zip_longest", "itertools.pairwise"].contains n && vs[0]? == some (rawInt _)) = true then _ else _) Q E s
       rw [if_neg (by intro h; rw [hn, Bool.false_and] at h; cases h)]
       exact wpAny_pure hQ))
def Itl (K : PySem.W.Frag) (a : Addr) : It :=
 ⟨fun i H => ∃ xs x, SqL K H a xs ∧ xs[i]? = some x, fun i H x H' => H' = H ∧ ∀ xs, SqL K H a xs → xs[i]? = some x, fun i H => ∃ xs, SqL K H a xs ∧ xs.length ≤ i⟩
def Itt (K : PySem.W.Frag) (a : Addr) : It :=
 ⟨fun i H => ∃ xs x, SqT K H a xs ∧ xs[i]? = some x, fun i H x H' => H' = H ∧ ∀ xs, SqT K H a xs → xs[i]? = some x, fun i H => ∃ xs, SqT K H a xs ∧ xs.length ≤ i⟩
def Itr (lo : Int) (n : Nat) : It := ⟨fun i _ => i < n, fun i H x H' => H' = H ∧ x = .int (lo + i), fun i _ => n ≤ i⟩
theorem YW {P : Program} {w : World} {K : PySem.W.Frag} {tg : Expr} (a it : Addr) : gH P w K tg (Itl K a) [it] it (fun i h => h.IsListIter it a i) where
 mem := by simp
 obj := fun i h st b hb => by
  have e : b = it := by simpa using hb
  subst e
  obtain ⟨o, e, c, d⟩ := st
  exact ⟨o, e, fun v z => by rw [d] at z; cases z⟩
 keep := fun i h h' st k => st.at fun o e => k it (by simp) o e
 item := by
  intro X hP hw hK hc i pins s σ H E I hf st hg
  subst hP hw hK
  obtain ⟨xs, x, hq, hx⟩ := hg
  obtain ⟨its, rv, p, hz⟩ := I.list hq
  obtain ⟨u, hu, ru⟩ := rv.get hx
  obtain ⟨f0, f1, f2, f3, f4, f5⟩ := hf it (by simp)
  refine wpAny_pyNext_list_item st p.isList (x := u) (by simpa using hu) fun h' st' sb => ?_
  have I1 : Inv X pins σ H { s with heap := h' } := I.turned (t' := s.toks) (fun b o hb e => (sb.2 b hb).trans e) f0 f1 f3 f4 f5
  obtain ⟨o, e, c, d⟩ := id st'
  exact ⟨u, rfl, dY (s := { s with heap := h' }) e c d (by decide) ⟨x, H, I1, ru, ⟨rfl, fun ys hy => by rw [I.list_inj hy hq]; exact hx⟩, st', fun b hb => (hf b hb).1⟩⟩
 done := by
  intro X hP hw hK hc i pins s σ H E I hf st hg
  subst hP hw hK
  obtain ⟨xs, hq, hx⟩ := hg
  obtain ⟨its, rv, p, hz⟩ := I.list hq
  obtain ⟨f0, f1, f2, f3, f4, f5⟩ := hf it (by simp)
  have hl := rv.length
  exact wpAny_pyNext_list_end (I.ok.hd hc) st p.isList (by simp; omega) fun h' eb => ⟨rfl, I.turned (t' := s.toks) (fun b o hb e => eb b o hb e) f0 f1 f3 f4 f5⟩
 self := fun _ _ _ _ _ st h => wpAny_pyIter_listiter st h
theorem UW {P : Program} {w : World} {K : PySem.W.Frag} {tg : Expr} (a it : Addr) : gH P w K tg (Itt K a) [it] it (fun i h => h.IsTupleIter it a i) where
 mem := by simp
 obj := fun i h st b hb => by
  have e : b = it := by simpa using hb
  subst e
  obtain ⟨o, e, c, d⟩ := st
  exact ⟨o, e, fun v z => by rw [d] at z; cases z⟩
 keep := fun i h h' st k => st.at fun o e => k it (by simp) o e
 item := by
  intro X hP hw hK hc i pins s σ H E I hf st hg
  subst hP hw hK
  obtain ⟨xs, x, hq, hx⟩ := hg
  obtain ⟨its, rv, p, hz⟩ := I.tuple hq
  obtain ⟨u, hu, ru⟩ := rv.get hx
  obtain ⟨f0, f1, f2, f3, f4, f5⟩ := hf it (by simp)
  refine wpAny_pyNext_tuple_item st (show s.heap.IsTuple a its.toArray from p) (x := u) (by simpa using hu) fun h' st' sb => ?_
  have I1 : Inv X pins σ H { s with heap := h' } := I.turned (t' := s.toks) (fun b o hb e => (sb.2 b hb).trans e) f0 f1 f3 f4 f5
  obtain ⟨o, e, c, d⟩ := id st'
  exact ⟨u, rfl, dY (s := { s with heap := h' }) e c d (by decide) ⟨x, H, I1, ru, ⟨rfl, fun ys hy => by rw [I.tuple_inj hy hq]; exact hx⟩, st', fun b hb => (hf b hb).1⟩⟩
 done := by
  intro X hP hw hK hc i pins s σ H E I hf st hg
  subst hP hw hK
  obtain ⟨xs, hq, hx⟩ := hg
  obtain ⟨its, rv, p, hz⟩ := I.tuple hq
  obtain ⟨f0, f1, f2, f3, f4, f5⟩ := hf it (by simp)
  have hl := rv.length
  exact wpAny_pyNext_tuple_end (I.ok.hd hc) st (show s.heap.IsTuple a its.toArray from p) (by simp; omega) fun h' eb => ⟨rfl, I.turned (t' := s.toks) (fun b o hb e => eb b o hb e) f0 f1 f3 f4 f5⟩
 self := fun _ _ _ _ _ st h => wpAny_pyIter_tupleiter st h
theorem UX {P : Program} {w : World} {K : PySem.W.Frag} {tg : Expr} (it : Addr) (lo : Int) (n : Nat) : gH P w K tg (Itr lo n) [it] it (fun i h => IsRangeIter h it (lo + (i : Nat) * 1) ((n : Int) - (i : Nat)) 1) where
 mem := by simp
 obj := fun i h st b hb => by
  have e : b = it := by simpa using hb
  subst e
  exact ⟨_, st, fun v z => by
   have z' : Data.fields _ = Data.cell v := z
   cases z'⟩
 keep := fun i h h' st k => k it (by simp) _ st
 item := by
  intro X hP hw hK hc i pins s σ H E I hf st hg
  subst hP hw hK
  obtain ⟨f0, f1, f2, f3, f4, f5⟩ := hf it (by simp)
  have W := Walks.range (prog := X.prog) (w := X.w) (I.ok.hd hc) it lo 1 n
  refine W.item i s _ _ hg st fun v h' tk hv st' kk => ?_
  obtain ⟨t, rfl⟩ := hv
  have I1 : Inv X pins σ H { s with heap := h', toks := tk } := I.turned (fun b o hb e => kk b o (by simpa using hb) e) f0 f1 f3 f4 f5
  refine ⟨_, rfl, dY (s := { s with heap := h', toks := tk }) (n := "range_iterator") st' rfl rfl (by decide) ⟨.int (lo + i), H, I1, ⟨t, ?_⟩, ⟨rfl, rfl⟩, st', fun b hb => (hf b hb).1⟩⟩
  rw [Int.mul_one]
 done := by
  intro X hP hw hK hc i pins s σ H E I hf st hg
  subst hP hw hK
  obtain ⟨f0, f1, f2, f3, f4, f5⟩ := hf it (by simp)
  exact wpAny_pyNext_range_end (I.ok.hd hc) st (by have : n ≤ i := hg; omega) fun h' eb => ⟨rfl, I.turned (t' := s.toks) (fun b o hb e => eb b o hb e) f0 f1 f3 f4 f5⟩
 self := fun _ _ _ _ _ st h => wpAny_pyIter_rangeiter st h
section
variable {X : Cx} {tg : Expr}
def RP (K : PySem.W.Frag) (tl : TE) : TI := fun σ H R => tl σ H fun x H1 => ∃ a, x = .ref a ∧ (∃ xs, SqL K H1 a xs) ∧ R (Itl K a) H1
def bO (K : PySem.W.Frag) (tl : TE) : TI := fun σ H R => tl σ H fun x H1 => ∃ a, x = .ref a ∧ (∃ xs, SqT K H1 a xs) ∧ R (Itt K a) H1
theorem fQ {l : Expr} {tl : TE} (hl : PE X l tl) : PI X tg l (RP X.K tl) := by
 intro pins s σ H R I h
 refine thn (hl pins s σ H _ I h) fun v s1 ⟨x, H1, I1, r1, q1⟩ => ?_
 obtain ⟨a, e, ⟨xs, hq⟩, q⟩ := q1
 subst e
 cases r1
 obtain ⟨its, rv, p, hz⟩ := I1.list hq
 refine wpAny_pyIter_list p.isList ?_
 refine ⟨s1.heap.objs.size, [s1.heap.objs.size], _, _, H1, rfl, I1.kept (t' := s1.toks) fun b o e => Heap.get?_push_of_some _ e, YW a _, ⟨_, Heap.get?_push_size _ rfl, rfl, rfl⟩, fun b hb => ?_, q⟩
 have e : b = s1.heap.objs.size := by simpa using hb
 subst e
 exact I1.fpOk (Nat.le_refl _) (I1.hok.fresh (Nat.le_refl _))
theorem kG {l : Expr} {tl : TE} (hl : PE X l tl) : PI X tg l (bO X.K tl) := by
 intro pins s σ H R I h
 refine thn (hl pins s σ H _ I h) fun v s1 ⟨x, H1, I1, r1, q1⟩ => ?_
 obtain ⟨a, e, ⟨xs, hq⟩, q⟩ := q1
 subst e
 cases r1
 obtain ⟨its, rv, p, hz⟩ := I1.tuple hq
 refine wpAny_pyIter_tuple (show s1.heap.IsTuple a its.toArray from p) ?_
 refine ⟨s1.heap.objs.size, [s1.heap.objs.size], _, _, H1, rfl, I1.kept (t' := s1.toks) fun b o e => Heap.get?_push_of_some _ e, UW a _, ⟨_, Heap.get?_push_size _ rfl, rfl, rfl⟩, fun b hb => ?_, q⟩
 have e : b = s1.heap.objs.size := by simpa using hb
 subst e
 exact I1.fpOk (Nat.le_refl _) (I1.hok.fresh (Nat.le_refl _))
theorem ZL {pins : List (Addr × Obj)} {σ : St} {H : Hp} {s : Shared} {R : It → Hp → Prop} {E : Value → Shared → Prop} {lo hi : Int} {t u v : Tok} {tk : Nat} (I : Inv X pins σ H s) (h1 : -(2 ^ 62) ≤ lo) (h2 : lo < 2 ^ 62) (h3 : -(2 ^ 62) ≤ hi) (h4 : hi < 2 ^ 62)
  (q : R (Itr lo (hi - lo).toNat) H) : wpAny (model X.prog X.w) X.A (pyIter (.ref s.heap.objs.size)) (PIE X pins σ tg R) E { s with heap := s.heap.push { cls := .type "range", data := .fields #[.int lo t, .int hi u, .int 1 v] }, toks := tk } := by
 refine wpAny_pyIter_range (IsRange.new ..) (small_one h1 h2 h3 h4) ?_
 have I1 : Inv X pins σ H { s with heap := s.heap.push { cls := .type "range", data := .fields #[.int lo t, .int hi u, .int 1 v] }, toks := tk } := I.kept fun b o e => Heap.get?_push_of_some _ e
 refine ⟨(s.heap.push { cls := .type "range", data := .fields #[.int lo t, .int hi u, .int 1 v] }).objs.size, [(s.heap.push { cls := .type "range", data := .fields #[.int lo t, .int hi u, .int 1 v] }).objs.size], _, _, H, rfl,
  I1.kept (t' := tk) fun b o e => Heap.get?_push_of_some _ e, UX _ lo (hi - lo).toNat, ?_, fun b hb => ?_, q⟩
 ·have e1 : lo + ((0 : Nat) : Int) * 1 = lo := by simp
  have e2 : (((hi - lo).toNat : Nat) : Int) - ((0 : Nat) : Int) = Builtin.Range.rangeSize lo hi 1 := by rw [rangeSize_one]; split <;> omega
  show IsRangeIter _ _ (lo + ((0 : Nat) : Int) * 1) ((((hi - lo).toNat : Nat) : Int) - ((0 : Nat) : Int)) 1
  rw [e1, e2]
  exact Heap.get?_push_size _ rfl
 ·have e : b = (s.heap.push { cls := .type "range", data := .fields #[.int lo t, .int hi u, .int 1 v] }).objs.size := by simpa using hb
  subst e
  exact I1.fpOk (Nat.le_refl _) (I1.hok.fresh (Nat.le_refl _))
def RC (ta : TA) : TI := fun σ H R => ta σ H fun vs H1 => ∃ j : Int, vs = [.int j] ∧ -(2 ^ 62) ≤ j ∧ j < 2 ^ 62 ∧ R (Itr 0 j.toNat) H1
theorem HV {a : Expr} {ta : TA} {p pos : Pos} (hg : Gl X "range") (hm : X.mg "range" = none) (ha : PA X [a] ta) (hs : starEach [a] X.env = [(false, eval a X.env)] := by rfl) : PI X tg (.Call (.Name "range" p) [a] [] pos) (RC ta) := by
 intro pins s σ H R I h
 refine Call_ (IS I hg hm boot_range (PyProof.Rows.callWith_type1 (thn (ha pos pins s σ H _ I h) fun us s1 ⟨vs, H1, I1, r1, q1⟩ => ?_) hs rfl))
 obtain ⟨j, e, q1, q2, q⟩ := q1
 subst e
 cases r1 with
 | cons r rr =>
  cases rr
  obtain ⟨t, rfl⟩ := r
  exact call_range_1 (ZL I1 (by omega) (by omega) q1 q2 (by simpa using q))
def lU (wi : TI) (g : TG) (tb : TS) : TS := fun D σ H => wi σ H fun J H1 => ∃ W : Nat → Nat → St → Hp → Prop, (∃ m, W 0 m σ H1) ∧ ∀ i m σ H, W i m σ H →
 (J.stop i H ∧ D.nx σ H) ∨ (J.go i H ∧ ∃ N : St → Hp → Prop, (∀ σ' H', N σ' H' → ∃ m', m' < m ∧ W (i + 1) m' σ' H') ∧ ∀ x H', J.yld i H x H' → g x σ H' fun σ2 H2 => tb { D with nx := N, ct := N, bk := D.nx } σ2 H2)
def IL (fp : List Addr) (h : Heap) : List (Addr × Obj) := fp.filterMap fun b => (h.get? b).map fun o => (b, o)
theorem DI {fp : List Addr} {h : Heap} {b : Addr} {o : Obj} (hb : b ∈ fp) (e : h.get? b = some o) : (b, o) ∈ IL fp h := List.mem_filterMap.mpr ⟨b, hb, by rw [e]; rfl⟩
theorem XW {fp : List Addr} {h : Heap} {p : Addr × Obj} (hp : p ∈ IL fp h) : p.1 ∈ fp ∧ h.get? p.1 = some p.2 := by
 obtain ⟨b, hb, e⟩ := List.mem_filterMap.mp hp
 cases q : h.get? b with
 | none => rw [q] at e; cases e
 | some o =>
  rw [q] at e
  have e' : (b, o) = p := Option.some.inj e
  subst e'
  exact ⟨hb, q⟩
theorem Inv.pinned {pins : List (Addr × Obj)} {σ : St} {H : Hp} {s : Shared} {fp : List Addr} (I : Inv X pins σ H s) (hf : ∀ b ∈ fp, JS X pins H b) (ho : ∀ b ∈ fp, ∃ o, s.heap.get? b = some o ∧ ∀ v, o.data ≠ .cell v) : Inv X (pins ++ IL fp s.heap) σ H s :=
 I.pins_of fun p hp => (List.mem_append.mp hp).elim (fun z => I.pin p (List.mem_append_right _ z)) fun z => by
  obtain ⟨hb, e⟩ := XW z
  obtain ⟨f0, f1, f2, _⟩ := hf p.1 hb
  obtain ⟨o, e', d⟩ := ho p.1 hb
  rw [e] at e'; cases e'
  exact ⟨e, f0, f1, f2, d⟩
theorem Inv.unpinned {pins pl : List (Addr × Obj)} {σ : St} {H : Hp} {s : Shared} (I : Inv X (pins ++ pl) σ H s) : Inv X pins σ H s := I.pins_of fun p hp => I.pin p (List.mem_append_right _ (List.mem_append_left _ hp))
theorem PY {iter : Expr} {body : List Stmt} {wi : TI} {g : TG} {tb : TS} {pos : Pos} (hp : PassesOwn (model X.prog X.w) X.A X.env X.xe) (hc : X.calm = true) (hi : PI X tg iter wi) (hg : PG X tg g) (hb : PSs X body tb)
  (hs : ∀ x, foldedSetIterable iter X.env x = pure x := by intro _; rfl) : PS X (.For tg iter body [] pos) (lU wi g tb) := by
 intro pins s σ H D I h
 refine wpAny_For (thn (hi pins s σ H _ I h) fun v s1 h1 => thn h1 fun itv s2 h2 => ?_) hs
 obtain ⟨it, fp, tn, J, H2, e, I2, T, st2, f2, W, ⟨m0, w0⟩, turn⟩ := h2
 subst e
 have stat : ∀ {H' : Hp}, (∀ b ∈ fp, H' b = none) → ∀ b ∈ fp, JS X pins H' b := fun hn b hb => ⟨hn b hb, (f2 b hb).2⟩
 refine codeAny_forLoop_any (fun n s' => ∃ i σ' H', Inv X pins σ' H' s' ∧ tn i s'.heap ∧ (∀ b ∈ fp, H' b = none) ∧ W i n σ' H') ?_ m0 ⟨0, σ, H2, I2, st2, fun b hb => (f2 b hb).1, w0⟩
 rintro n s3 ⟨i, σ3, H3, I3, st3, fr3, w3⟩
 rcases turn i n σ3 H3 w3 with ⟨stop, qn⟩ | ⟨go, N, hN, step⟩
 ·refine wpAny_passesOwn hp (thn (T.done X rfl rfl rfl hc i pins s3 σ3 H3 X.xe I3 (stat fr3) st3 stop) fun r s4 ⟨hr, I4⟩ => ?_)
  subst hr
  exact wpAny_execs_nil ⟨σ3, H3, I4, qn⟩
 ·refine wpAny_passesOwn hp (thn (T.item X rfl rfl rfl hc i pins s3 σ3 H3 X.xe I3 (stat fr3) st3 go) fun r s4 ⟨u, hr, h4⟩ => ?_)
  subst hr
  refine wpAny_passesOwn hp (thn h4 fun _ s5 ⟨x, H5, I5, r5, y5, st5, fr5⟩ => ?_)
  have I5' := I5.pinned (stat fr5) (T.obj _ _ st5)
  refine wpAny_passesOwn hp (thn (hg _ s5 σ3 H5 x u _ I5' r5 (step x H5 y5)) fun _ s6 ⟨σ6, H6, I6, q6⟩ => ?_)
  refine wpAny_passesOwn hp (thn (hb _ s6 σ6 H6 _ I6 q6) fun f s7 q7 => ?_)
  have again : ∀ {σ7 : St} {H7 : Hp}, Inv X (pins ++ IL fp s5.heap) σ7 H7 s7 → N σ7 H7 → ∃ m, m < n ∧ ∃ i σ' H', Inv X pins σ' H' s7 ∧ tn i s7.heap ∧ (∀ b ∈ fp, H' b = none) ∧ W i m σ' H' := fun {σ7 H7} I7 n7 => by
   obtain ⟨m', hm, w7⟩ := hN σ7 H7 n7
   refine ⟨m', hm, i + 1, σ7, H7, I7.unpinned, T.keep _ _ _ st5 fun b hb o e => (I7.pin (b, o) (List.mem_append_right _ (List.mem_append_right _ (DI hb e)))).1, fun b hb => ?_, w7⟩
   obtain ⟨o, e, d⟩ := T.obj _ _ st5 b hb
   exact (I7.pin (b, o) (List.mem_append_right _ (List.mem_append_right _ (DI hb e)))).2.1
  cases f with
  | next => obtain ⟨σ7, H7, I7, n7⟩ := q7; exact again I7 n7
  | cont => obtain ⟨σ7, H7, I7, n7⟩ := q7; exact again I7 n7
  | brk => obtain ⟨σ7, H7, I7, q7⟩ := q7; exact ⟨σ7, H7, I7.unpinned, q7⟩
  | ret v => obtain ⟨x7, σ7, H7, I7, r7, q7⟩ := q7; exact ⟨x7, σ7, H7, I7.unpinned, r7, q7⟩
end
theorem cY {K : PySem.W.Frag} {a : Addr} {xs : List V} {g : TG} {tb : TS} {D : GK} {σ : St} {H : Hp} (Pv : Nat → St → Hp → Prop) (h0 : Pv 0 σ H) (hl : ∀ i σ H, i ≤ xs.length → Pv i σ H → SqL K H a xs)
  (hs : ∀ i x σ H, xs[i]? = some x → Pv i σ H → g x σ H fun σ2 H2 => tb { D with nx := Pv (i + 1), ct := Pv (i + 1), bk := D.nx } σ2 H2) (hd : ∀ σ H, Pv xs.length σ H → D.nx σ H) :
  ∃ W : Nat → Nat → St → Hp → Prop, (∃ m, W 0 m σ H) ∧ ∀ i m σ H, W i m σ H →
   ((Itl K a).stop i H ∧ D.nx σ H) ∨ ((Itl K a).go i H ∧ ∃ N : St → Hp → Prop, (∀ σ' H', N σ' H' → ∃ m', m' < m ∧ W (i + 1) m' σ' H') ∧ ∀ x H', (Itl K a).yld i H x H' → g x σ H' fun σ2 H2 => tb { D with nx := N, ct := N, bk := D.nx } σ2 H2) := by
 refine ⟨fun i m σ H => m = xs.length - i ∧ i ≤ xs.length ∧ Pv i σ H, ⟨xs.length, by simp, Nat.zero_le _, h0⟩, ?_⟩
 rintro i m σ H ⟨rfl, hi, p⟩
 have q := hl i σ H hi p
 by_cases hlt : i < xs.length
 ·refine .inr ⟨⟨xs, xs[i], q, by simp [hlt]⟩, Pv (i + 1), fun σ' H' p' => ⟨xs.length - (i + 1), by omega, rfl, hlt, p'⟩, fun x H' y => ?_⟩
  obtain ⟨e, y⟩ := y
  subst e
  exact hs i x σ _ (y xs q) p
 ·have e : i = xs.length := by omega
  subst e
  exact .inl ⟨⟨xs, q, Nat.le_refl _⟩, hd σ H p⟩
theorem XS {lo : Int} {n : Nat} {g : TG} {tb : TS} {D : GK} {σ : St} {H : Hp} (Pv : Nat → St → Hp → Prop) (h0 : Pv 0 σ H)
  (hs : ∀ i σ H, i < n → Pv i σ H → g (.int (lo + i)) σ H fun σ2 H2 => tb { D with nx := Pv (i + 1), ct := Pv (i + 1), bk := D.nx } σ2 H2) (hd : ∀ σ H, Pv n σ H → D.nx σ H) :
  ∃ W : Nat → Nat → St → Hp → Prop, (∃ m, W 0 m σ H) ∧ ∀ i m σ H, W i m σ H →
   ((Itr lo n).stop i H ∧ D.nx σ H) ∨ ((Itr lo n).go i H ∧ ∃ N : St → Hp → Prop, (∀ σ' H', N σ' H' → ∃ m', m' < m ∧ W (i + 1) m' σ' H') ∧ ∀ x H', (Itr lo n).yld i H x H' → g x σ H' fun σ2 H2 => tb { D with nx := N, ct := N, bk := D.nx } σ2 H2) := by
 refine ⟨fun i m σ H => m = n - i ∧ i ≤ n ∧ Pv i σ H, ⟨n, by simp, Nat.zero_le _, h0⟩, ?_⟩
 rintro i m σ H ⟨rfl, hi, p⟩
 by_cases hlt : i < n
 ·refine .inr ⟨hlt, Pv (i + 1), fun σ' H' p' => ⟨n - (i + 1), by omega, rfl, hlt, p'⟩, fun x H' y => ?_⟩
  obtain ⟨e, y⟩ := y
  subst e y
  exact hs i σ _ hlt p
 ·have e : i = n := by omega
  subst e
  exact .inl ⟨Nat.le_refl _, hd σ H p⟩
abbrev R2 := V → V → Hp → VK → Prop
def OpR (X : Cx) (f : Value → Value → Sem Value) (r : R2) : Prop :=
 ∀ (pins : List (Addr × Obj)) (s : Shared) (σ : St) (H : Hp) (x y : V) (v u : Value) (Q : VK), Inv X pins σ H s → AX x v → AX y u → r x y H Q →
  wpAny (model X.prog X.w) X.A (f v u) (EP X pins σ Q) X.xe s
def UnR (X : Cx) (f : Value → Sem Value) (r : V → Hp → VK → Prop) : Prop :=
 ∀ (pins : List (Addr × Obj)) (s : Shared) (σ : St) (H : Hp) (x : V) (v : Value) (Q : VK), Inv X pins σ H s → AX x v → r x H Q →
  wpAny (model X.prog X.w) X.A (f v) (EP X pins σ Q) X.xe s
def DX (X : Cx) (f : Value) (r : List V → Hp → VK → Prop) : Prop :=
 ∀ (pins : List (Addr × Obj)) (s : Shared) (σ : St) (H : Hp) (xs : List V) (us : List Value) (Q : VK), Inv X pins σ H s → AN xs us → r xs H Q →
  wpAny (model X.prog X.w) X.A (call f us) (EP X pins σ Q) X.xe s
def TruR (X : Cx) (r : V → Hp → (Bool → Hp → Prop) → Prop) : Prop :=
 ∀ (pins : List (Addr × Obj)) (s : Shared) (σ : St) (H : Hp) (x : V) (v : Value) (Q : Bool → Hp → Prop), Inv X pins σ H s → AX x v → r x H Q →
  wpAny (model X.prog X.w) X.A (truthy v) (TP X pins σ Q) X.xe s
def tOp (r : R2) (ta tb : TE) : TE := fun σ H Q => ta σ H fun x H1 => tb σ H1 fun y H2 => r x y H2 Q
def tUn (r : V → Hp → VK → Prop) (ta : TE) : TE := fun σ H Q => ta σ H fun x H1 => r x H1 Q
def rI (C : Int → Int → Prop) (g : Int → Int → V) : R2 := fun x y H Q => ∃ i j, x = .int i ∧ y = .int j ∧ C i j ∧ Q (g i j) H
def rI0 (g : Int → Int → V) : R2 := fun x y H Q => ∃ i j, x = .int i ∧ y = .int j ∧ Q (g i j) H
def rU (g : Int → V) : V → Hp → VK → Prop := fun x H Q => ∃ i, x = .int i ∧ Q (g i) H
section
variable {X : Cx} {a b c : Expr} {ta tb tc : TE} {pos : Pos}
theorem kY (ha : PE X a ta) (hb : PE X b tb) {pins : List (Addr × Obj)} {s : Shared} {σ : St} {H : Hp} {R : V → V → Hp → Prop} (I : Inv X pins σ H s)
  (h : ta σ H fun x H1 => tb σ H1 fun y H2 => R x y H2) {Q : Value → Shared → Prop} {f : Value → Value → Sem Value}
  (hf : ∀ v u s2 x y H2, Inv X pins σ H2 s2 → AX x v → AX y u → R x y H2 → wpAny (model X.prog X.w) X.A (f v u) Q X.xe s2) :
  wpAny (model X.prog X.w) X.A (eval a X.env) (fun v s₁ => wpAny (model X.prog X.w) X.A (eval b X.env) (fun u s₂ => wpAny (model X.prog X.w) X.A (f v u) Q X.xe s₂) X.xe s₁) X.xe s := by
 refine thn (ha pins s σ H _ I h) fun v s1 ⟨x, H1, I1, r1, q1⟩ => ?_
 refine thn (hb pins s1 σ H1 _ I1 q1) fun u s2 ⟨y, H2, I2, r2, q2⟩ => ?_
 exact hf v u s2 x y H2 I2 r1 r2 q2
theorem AJ {op : Operator} {r : R2} (ho : OpR X (binaryOp op) r) (ha : PE X a ta) (hb : PE X b tb) : PE X (.BinOp a op b pos) (tOp r ta tb) := by
 intro pins s σ H Q I h
 exact wpAny_BinOp (kY ha hb I h fun v u s2 x y H2 I2 rx ry q => ho pins s2 σ H2 x y v u Q I2 rx ry q)
theorem NX {op : UnaryOp} {r : V → Hp → VK → Prop} (ho : UnR X (unaryOp op) r) (ha : PE X a ta) : PE X (.UnaryOp op a pos) (tUn r ta) := by
 intro pins s σ H Q I h
 exact UnaryOp_ (thn (ha pins s σ H _ I h) fun v s1 ⟨x, H1, I1, r1, q1⟩ => ho pins s1 σ H1 x v Q I1 r1 q1)
theorem opI {f : Value → Value → Sem Value} {C : Int → Int → Prop} {g : Int → Int → Int}
  (rule : ∀ (i j : Int) (t u : Tok) (s : Shared) (Q : Value → Shared → Prop) (E : Value → Shared → Prop), C i j → Q (.int (g i j) s.toks) { s with toks := s.toks + 1 } → wpAny (model X.prog X.w) X.A (f (.int i t) (.int j u)) Q E s) :
  OpR X f (rI C fun i j => .int (g i j)) := by
 intro pins s σ H x y v u Q I rx ry h
 obtain ⟨i, j, rfl, rfl, hc, q⟩ := h
 obtain ⟨t, rfl⟩ := rx
 obtain ⟨t', rfl⟩ := ry
 exact rule i j t t' s _ _ hc ⟨.int (g i j), H, I.tok _, ⟨_, rfl⟩, q⟩
theorem mP {f : Value → Value → Sem Value} {g : Int → Int → Int}
  (rule : ∀ (i j : Int) (t u : Tok) (s : Shared) (Q : Value → Shared → Prop) (E : Value → Shared → Prop), Q (.int (g i j) s.toks) { s with toks := s.toks + 1 } → wpAny (model X.prog X.w) X.A (f (.int i t) (.int j u)) Q E s) :
  OpR X f (rI0 fun i j => .int (g i j)) := by
 intro pins s σ H x y v u Q I rx ry h
 obtain ⟨i, j, rfl, rfl, q⟩ := h
 obtain ⟨t, rfl⟩ := rx
 obtain ⟨t', rfl⟩ := ry
 exact rule i j t t' s _ _ ⟨.int (g i j), H, I.tok _, ⟨_, rfl⟩, q⟩
theorem iC {f : Value → Value → Sem Value} {g : Int → Int → Bool}
  (rule : ∀ (i j : Int) (t u : Tok) (s : Shared) (Q : Value → Shared → Prop) (E : Value → Shared → Prop), Q (.bool (g i j)) s → wpAny (model X.prog X.w) X.A (f (.int i t) (.int j u)) Q E s) :
  OpR X f (rI0 fun i j => .bl (g i j)) := by
 intro pins s σ H x y v u Q I rx ry h
 obtain ⟨i, j, rfl, rfl, q⟩ := h
 obtain ⟨t, rfl⟩ := rx
 obtain ⟨t', rfl⟩ := ry
 exact rule i j t t' s _ _ ⟨.bl (g i j), H, I, rfl, q⟩
def kU (i j : Int) : Prop := 0 ≤ j ∧ j ≤ 1000000 ∧ i.natAbs < 2 ^ 64
theorem jM : OpR X (binaryOp .Add) (rI0 fun i j => .int (i + j)) := mP fun _ _ _ _ _ _ _ q => add_int q
theorem lJ : OpR X (binaryOp .Sub) (rI0 fun i j => .int (i - j)) := mP fun _ _ _ _ _ _ _ q => sub_int q
theorem jX : OpR X (binaryOp .Mod) (rI (fun _ j => 0 < j) fun i j => .int (i % j)) := opI fun i j _ _ _ _ _ hc q => by
 have h1 : (0 : Int) < j := hc
 exact mod_int' (by omega) (by rw [Int.fmod_eq_emod_of_nonneg i (by omega)]; exact q)
theorem lI : OpR X (binaryOp .Pow) (rI kU fun i j => .int (i ^ j.toNat)) := opI fun _ _ _ _ _ _ _ hc q => pow_int_small hc.1 hc.2.1 hc.2.2 q
theorem unI {f : Value → Sem Value} {g : Int → Int}
  (rule : ∀ (i : Int) (t : Tok) (s : Shared) (Q : Value → Shared → Prop) (E : Value → Shared → Prop), Q (.int (g i) s.toks) { s with toks := s.toks + 1 } → wpAny (model X.prog X.w) X.A (f (.int i t)) Q E s) :
  UnR X f (rU fun i => .int (g i)) := by
 intro pins s σ H x v Q I rx h
 obtain ⟨i, rfl, q⟩ := h
 obtain ⟨t, rfl⟩ := rx
 exact rule i t s _ _ ⟨.int (g i), H, I.tok _, ⟨_, rfl⟩, q⟩
theorem bX : UnR X (unaryOp .USub) (rU fun i => .int (-i)) := unI fun _ _ _ _ _ q => neg_int q
end
def lN : V → V → Bool
 | .non, .non => true | .non, .int _ => true | .int _, .non => true | .non, .bl _ => true | .bl _, .non => true | .non, .str _ => true | .str _, .non => true
 | .int _, .int _ => true | .bl _, .bl _ => true | .str _, .str _ => true | .byt _, .byt _ => true
 | .int _, .str _ => true | .str _, .int _ => true | .bl _, .str _ => true | .str _, .bl _ => true
 | _, _ => false
def rEq : R2 := fun x y H Q => lN x y = true ∧ Q (.bl (decide (x = y))) H
def rNe : R2 := fun x y H Q => lN x y = true ∧ Q (.bl (!decide (x = y))) H
theorem WA {i j : Int} : decide (V.int i = V.int j) = (i == j) := by
 rw [Bool.eq_iff_iff]
 simp
theorem ZO {i j : Bool} : decide (V.bl i = V.bl j) = (i == j) := by
 rw [Bool.eq_iff_iff]
 simp
theorem VY {i j : Str} : decide (V.str i = V.str j) = (i == j) := by
 rw [Bool.eq_iff_iff]
 simp
theorem VR {i j : Array UInt8} : decide (V.byt i = V.byt j) = (i.toList == j.toList) := by
 rw [Bool.eq_iff_iff]
 cases i
 cases j
 simp
section
variable {X : Cx} {a b c : Expr} {ta tb tc : TE} {pos : Pos}
theorem BK {pins : List (Addr × Obj)} {σ : St} {H : Hp} {s : Shared} {Q : VK} {k k' : Bool} (I : Inv X pins σ H s) (q : Q (.bl k) H) (e : k = k') : EP X pins σ Q (.bool k') s := by
 subst e
 exact ⟨.bl k, H, I, rfl, q⟩
theorem mW : OpR X (compareOp .Eq) rEq := by
 intro pins s σ H x y v u Q I rx ry h
 obtain ⟨hs, q⟩ := h
 cases x with
 | non =>
  cases rx
  cases y with
  | non => cases ry; exact PySem.EqNone.eq_none_none (BK I q (by simp))
  | bl j => cases ry; exact PySem.EqNone.eq_none_bool (BK I q (by simp))
  | int j => obtain ⟨t', rfl⟩ := ry; exact PySem.EqNone.eq_none_int (BK I q (by simp))
  | str j => obtain ⟨t', rfl⟩ := ry; exact PySem.EqNone.eq_none_str (BK I q (by simp))
  | _ => exact absurd (show false = true from hs) Bool.false_ne_true
 | bl i =>
  cases rx
  cases y with
  | non => cases ry; exact PySem.EqNone.eq_bool_none (BK I q (by simp))
  | bl j => cases ry; exact eq_bool (BK I q ZO)
  | str j => obtain ⟨t', rfl⟩ := ry; exact PySem.EqMixed.eq_bool_str (BK I q (by simp))
  | _ => exact absurd (show false = true from hs) Bool.false_ne_true
 | int i =>
  obtain ⟨t, rfl⟩ := rx
  cases y with
  | non => cases ry; exact PySem.EqNone.eq_int_none (BK I q (by simp))
  | int j => obtain ⟨t', rfl⟩ := ry; exact eq_int (BK I q WA)
  | str j => obtain ⟨t', rfl⟩ := ry; exact PySem.EqMixed.eq_int_str (BK I q (by simp))
  | _ => exact absurd (show false = true from hs) Bool.false_ne_true
 | str i =>
  obtain ⟨t, rfl⟩ := rx
  cases y with
  | non => cases ry; exact PySem.EqNone.eq_str_none (BK I q (by simp))
  | bl j => cases ry; exact PySem.EqMixed.eq_str_bool (BK I q (by simp))
  | int j => obtain ⟨t', rfl⟩ := ry; exact PySem.EqMixed.eq_str_int (BK I q (by simp))
  | str j => obtain ⟨t', rfl⟩ := ry; exact eq_str (BK I q VY)
  | _ => exact absurd (show false = true from hs) Bool.false_ne_true
 | byt i =>
  obtain ⟨t, rfl⟩ := rx
  cases y with
  | byt j => obtain ⟨t', rfl⟩ := ry; exact PySem.W.eq_bytes (BK I q VR)
  | _ => exact absurd (show false = true from hs) Bool.false_ne_true
 | _ => cases y <;> exact absurd (show false = true from hs) Bool.false_ne_true
theorem mX : OpR X (compareOp .NotEq) rNe := by
 intro pins s σ H x y v u Q I rx ry h
 obtain ⟨hs, q⟩ := h
 cases x with
 | non =>
  cases rx
  cases y with
  | non => cases ry; exact PySem.EqNone.ne_none_none (BK I q (by simp))
  | bl j => cases ry; exact PySem.EqNone.ne_none_bool (BK I q (by simp))
  | int j => obtain ⟨t', rfl⟩ := ry; exact PySem.EqNone.ne_none_int (BK I q (by simp))
  | str j => obtain ⟨t', rfl⟩ := ry; exact PySem.EqNone.ne_none_str (BK I q (by simp))
  | _ => exact absurd (show false = true from hs) Bool.false_ne_true
 | bl i =>
  cases rx
  cases y with
  | non => cases ry; exact PySem.EqNone.ne_bool_none (BK I q (by simp))
  | bl j => cases ry; exact ne_bool (BK I q (congrArg not ZO))
  | str j => obtain ⟨t', rfl⟩ := ry; exact PySem.EqMixed.ne_bool_str (BK I q (by simp))
  | _ => exact absurd (show false = true from hs) Bool.false_ne_true
 | int i =>
  obtain ⟨t, rfl⟩ := rx
  cases y with
  | non => cases ry; exact PySem.EqNone.ne_int_none (BK I q (by simp))
  | int j => obtain ⟨t', rfl⟩ := ry; exact ne_int (BK I q (congrArg not WA))
  | str j => obtain ⟨t', rfl⟩ := ry; exact PySem.EqMixed.ne_int_str (BK I q (by simp))
  | _ => exact absurd (show false = true from hs) Bool.false_ne_true
 | str i =>
  obtain ⟨t, rfl⟩ := rx
  cases y with
  | non => cases ry; exact PySem.EqNone.ne_str_none (BK I q (by simp))
  | bl j => cases ry; exact PySem.EqMixed.ne_str_bool (BK I q (by simp))
  | int j => obtain ⟨t', rfl⟩ := ry; exact PySem.EqMixed.ne_str_int (BK I q (by simp))
  | str j => obtain ⟨t', rfl⟩ := ry; exact ne_str (BK I q (congrArg not VY))
  | _ => exact absurd (show false = true from hs) Bool.false_ne_true
 | byt i =>
  obtain ⟨t, rfl⟩ := rx
  cases y with
  | byt j => obtain ⟨t', rfl⟩ := ry; exact PySem.W.ne_bytes (BK I q (congrArg not VR))
  | _ => exact absurd (show false = true from hs) Bool.false_ne_true
 | _ => cases y <;> exact absurd (show false = true from hs) Bool.false_ne_true
theorem lS : OpR X (compareOp .Lt) (rI0 fun i j => .bl (decide (i < j))) := iC fun _ _ _ _ _ _ _ q => lt_int q
theorem lY : OpR X (compareOp .LtE) (rI0 fun i j => .bl (decide (i ≤ j))) := iC fun _ _ _ _ _ _ _ q => le_int q
theorem mC : OpR X (compareOp .Gt) (rI0 fun i j => .bl (decide (j < i))) := iC fun _ _ _ _ _ _ _ q => gt_int q
theorem mR : OpR X (compareOp .GtE) (rI0 fun i j => .bl (decide (j ≤ i))) := iC fun _ _ _ _ _ _ _ q => ge_int q
theorem BE (b : Expr) {op : CmpOp} (h : op ≠ .In := by decide) (h2 : op ≠ .NotIn := by decide) : behindInMarks op b = false := by
 have e1 : (op == CmpOp.In) = false := by cases op <;> first | rfl | exact absurd rfl h
 have e2 : (op == CmpOp.NotIn) = false := by cases op <;> first | rfl | exact absurd rfl h2
 cases b <;> simp [behindInMarks, e1, e2]
theorem EU {op : CmpOp} {r : R2} (ho : OpR X (compareOp op) r) (ha : PE X a ta) (hb : PE X b tb) (hm : behindInMarks op b = false) : PE X (.Compare a [op] [b] pos) (tOp r ta tb) := by
 intro pins s σ H Q I h
 exact wpAny_Compare1 (kY ha hb I h fun v u s2 x y H2 I2 rx ry q => ho pins s2 σ H2 x y v u Q I2 rx ry q) hm
def NR (t : TE) : TT := fun σ H Q => t σ H fun x H' => ∃ k, x = .bl k ∧ Q k H'
theorem fJ {op : CmpOp} {r : R2} (ho : OpR X (compareOp op) r) (ha : PE X a ta) (hb : PE X b tb) (hm : behindInMarks op b = false) : PT X (.Compare a [op] [b] pos) (NR (tOp r ta tb)) := by
 intro pins s σ H Q I h
 refine wpAny_isTrue_Compare1 (thn (ha pins s σ H _ I h) fun v s1 ⟨x, H1, I1, r1, q1⟩ => thn (hb pins s1 σ H1 _ I1 q1) fun u s2 ⟨y, H2, I2, r2, q2⟩ =>
  thn (ho pins s2 σ H2 x y v u _ I2 r1 r2 q2) fun c s3 ⟨z, H3, I3, r3, k, e, q3⟩ => ?_) hm
 subst e
 cases r3
 exact wpAny_truthy_bool ⟨H3, I3, q3⟩
def MM (r r' : R2) (ta tb tc : TE) : TE := fun σ H Q => ta σ H fun x H1 => tb σ H1 fun y H2 => r x y H2 fun z H3 => ∃ k, z = .bl k ∧
 (if k = true then tc σ H3 fun w' H4 => r' y w' H4 Q else Q (.bl false) H3)
theorem ZP {op op' : CmpOp} {r r' : R2} (ho : OpR X (compareOp op) r) (ho' : OpR X (compareOp op') r') (ha : PE X a ta) (hb : PE X b tb) (hc : PE X c tc)
  (hm : lastMarks [op, op'] [b, c] = false := by with_unfolding_all rfl) : PT X (.Compare a [op, op'] [b, c] pos) (NR (MM r r' ta tb tc)) := by
 intro pins s σ H Q I h
 refine isTrue_chain (thn (ha pins s σ H _ I h) fun v s1 ⟨x, H1, I1, r1, q1⟩ => test_link (thn (hb pins s1 σ H1 _ I1 q1) fun u s2 ⟨y, H2, I2, r2, q2⟩ =>
  thn (ho pins s2 σ H2 x y v u _ I2 r1 r2 q2) fun d s3 ⟨z, H3, I3, r3, k, e, q3⟩ => ?_)) hm
 subst e
 cases r3
 refine wpAny_truthy_bool ?_
 cases k with
 | false =>
  obtain ⟨k', e', q'⟩ := q3
  cases e'
  exact ite_ff ⟨H3, I3, q'⟩
 | true =>
  refine ite_tt (test_last (thn (hc pins s3 σ H3 _ I3 q3) fun w' s4 ⟨z', H4, I4, r4, q4⟩ => thn (ho' pins s4 σ H4 y z' u w' _ I4 r2 r4 q4) fun d' s5 ⟨z2, H5, I5, r5, k2, e2, q5⟩ => ?_))
  subst e2
  cases r5
  exact wpAny_truthy_bool ⟨H5, I5, q5⟩
def iX (K : PySem.W.Frag) (x : V) (H : Hp) (k : Bool) : Prop :=
 match x with
 | .non => k = false
 | .bl b => k = b
 | .int i => k = (i != 0)
 | .str y => y.length ≤ sizeLine ∧ k = ((y.length : Int) != 0)
 | .byt y => y.size ≤ sizeLine ∧ k = ((y.size : Int) != 0)
 | .ref p => (∃ xs, SqL K H p xs ∧ k = !xs.isEmpty) ∨ (∃ xs, SqT K H p xs ∧ k = !xs.isEmpty) ∨ ∃ kvs, H p = some (.dK kvs) ∧ k = !kvs.isEmpty
 | _ => False
theorem UZ {κ : Type} {kvs : List (κ × V)} {vs : List (κ × Value)} (r : KV kvs vs) : (!vs.isEmpty) = !kvs.isEmpty := by
 cases r <;> rfl
theorem MS {xs : List V} {its : List Value} (r : AN xs its) : (!its.toArray.isEmpty) = !xs.isEmpty := by
 cases r <;> simp
theorem PZ : (sizeLine : Nat) < 2 ^ 63 := by rw [sizeLine_eq]; decide
theorem dD : TruR X (fun x H Q => ∃ k, iX X.K x H k ∧ Q k H) := by
 intro pins s σ H x v Q I rx h
 obtain ⟨k, e, q⟩ := h
 have hl := PZ
 have hs : sizeLine = 16777216 := sizeLine_eq
 cases x with
 | non =>
  cases rx
  have e' : k = false := e
  subst e'
  exact truthy_none ⟨H, I, q⟩
 | bl b =>
  cases rx
  have e' : k = b := e
  subst e'
  exact wpAny_truthy_bool ⟨H, I, q⟩
 | int i =>
  obtain ⟨t, rfl⟩ := rx
  have e' : k = (i != 0) := e
  subst e'
  exact PySem.P.truthy_int ⟨H, I, q⟩
 | str y =>
  obtain ⟨t, rfl⟩ := rx
  obtain ⟨hy, e'⟩ : y.length ≤ sizeLine ∧ k = ((y.length : Int) != 0) := e
  subst e'
  exact PySem.P.truthy_str (by omega) ⟨H, I.tok _, q⟩
 | byt y =>
  obtain ⟨t, rfl⟩ := rx
  obtain ⟨hy, e'⟩ : y.size ≤ sizeLine ∧ k = ((y.size : Int) != 0) := e
  subst e'
  exact PySem.W.truthy_bytes (by omega) ⟨H, I.tok _, q⟩
 | ref p =>
  cases rx
  have e' : (∃ xs, SqL X.K H p xs ∧ k = !xs.isEmpty) ∨ (∃ xs, SqT X.K H p xs ∧ k = !xs.isEmpty) ∨ ∃ kvs, H p = some (.dK kvs) ∧ k = !kvs.isEmpty := e
  rcases e' with ⟨xs, hx, e'⟩ | ⟨xs, hx, e'⟩ | ⟨kvs, hx, e'⟩
  ·subst e'
   obtain ⟨its, r, pl, hz⟩ := I.list hx
   have hlen := r.length
   exact wpAny_truthy_list pl.isList (by simp only [List.size_toArray]; omega) ⟨H, I.tok _, by rw [MS r]; exact q⟩
  ·subst e'
   obtain ⟨its, r, pl, hz⟩ := I.tuple hx
   have hlen := r.length
   exact truthy_tuple pl (by simp only [List.size_toArray]; omega) ⟨H, I.tok _, by rw [MS r]; exact q⟩
  ·subst e'
   obtain ⟨hz, hS, vs, r, m⟩ : kvs.length ≤ sizeLine ∧ (p == sysModules) = false ∧ ∃ vs, KV kvs vs ∧ s.heap.DictOf (BQ X.prog X.w) p vs := I.hok p _ hx
   have hlen : kvs.length = vs.length := Paired.length r
   exact wpAny_truthy_dict hS m (by omega) ⟨H, I.tok _, by rw [UZ r]; exact q⟩
 | _ => exact (show False from e).elim
theorem ZZ (ha : PE X a ta) (he : ∀ whole, isTrue a X.env whole = (do let v ← whole; standAt a.pos; holding [v] (truthy v))) :
  PT X a (fun σ H Q => ta σ H fun x H' => ∃ k, iX X.K x H' k ∧ Q k H') := by
 intro pins s σ H Q I h
 exact isTrue_plain (thn (ha pins s σ H _ I h) fun v s1 ⟨x, H1, I1, r1, q1⟩ => dD pins s1 σ H1 x v Q I1 r1 q1) (he _)
theorem WL {x : V} {us : List Value} (r : AN [x] us) : ∃ u, us = [u] ∧ AX x u := by
 cases r with
 | cons r1 r2 => cases r2; exact ⟨_, rfl, r1⟩
theorem iL {x y : V} {us : List Value} (r : AN [x, y] us) : ∃ u w', us = [u, w'] ∧ AX x u ∧ AX y w' := by
 cases r with
 | cons r1 r2 =>
  cases r2 with
  | cons r3 r4 => cases r4; exact ⟨_, _, rfl, r1, r3⟩
theorem YD (hc : X.calm = true) : DX X (.builtin "max") (fun xs H Q => ∃ i j, xs = [.int i, .int j] ∧ Q (.int (if j > i then j else i)) H) := by
 intro pins s σ H xs us Q I r h
 obtain ⟨i, j, rfl, q⟩ := h
 obtain ⟨u, w', rfl, ⟨t, rfl⟩, ⟨t', rfl⟩⟩ := iL r
 refine max_two_ints (I.ok.hd hc) fun h' tk k => ⟨_, H, I.kept k, ?_, q⟩
 by_cases hj : j > i
 ·rw [if_pos hj, if_pos hj]; exact ⟨_, rfl⟩
 ·rw [if_neg hj, if_neg hj]; exact ⟨_, rfl⟩
theorem YU (hc : X.calm = true) : DX X (.builtin "min") (fun xs H Q => ∃ i j, xs = [.int i, .int j] ∧ Q (.int (if j < i then j else i)) H) := by
 intro pins s σ H xs us Q I r h
 obtain ⟨i, j, rfl, q⟩ := h
 obtain ⟨u, w', rfl, ⟨t, rfl⟩, ⟨t', rfl⟩⟩ := iL r
 refine min_two_ints (I.ok.hd hc) fun h' tk k => ⟨_, H, I.kept k, ?_, q⟩
 by_cases hj : j < i
 ·rw [if_pos hj, if_pos hj]; exact ⟨_, rfl⟩
 ·rw [if_neg hj, if_neg hj]; exact ⟨_, rfl⟩
theorem XT : DX X (.type "int") (fun xs H Q => (∃ i, xs = [.int i] ∧ Q (.int i) H) ∨ ∃ k, xs = [.bl k] ∧ Q (.int (if k then 1 else 0)) H) := by
 intro pins s σ H xs us Q I r h
 rcases h with ⟨i, rfl, q⟩ | ⟨k, rfl, q⟩
 ·obtain ⟨u, rfl, t, rfl⟩ := WL r
  exact call_int_int ⟨.int i, H, I, ⟨_, rfl⟩, q⟩
 ·obtain ⟨u, rfl, r1⟩ := WL r
  cases r1
  exact call_int_bool ⟨.int (if k then 1 else 0), H, I.tok _, ⟨_, rfl⟩, q⟩
end
structure VJ (h : Heap) (x dx C : Addr) (mA : Str → Option Value) : Prop where
 obj : h.get? x = some (PySem.W.instObj C dx)
 ns : h.Ns1 dx mA
 ne : dx ≠ x
theorem WZ {h : Heap} {dx : Addr} {mA : Str → Option Value} (n : h.Ns1 dx mA) : ∃ od, h.get? dx = some od ∧ ∀ name, PySem.W.lookIn name od = some (mA name) := by
 obtain ⟨o, es, ep, ho, hd, hk, _, hm⟩ := n
 refine ⟨o, ho, fun name => ?_⟩
 have e := hm name
 unfold nsFind findBy at e
 rw [← Array.find?_toList] at e
 unfold PySem.W.lookIn
 rw [hd]
 dsimp only
 split
 ·rename_i y q
  rw [q] at e
  exact congrArg some e
 ·rename_i q
  rw [q] at e
  have a : es.toList.any (·.refKey) = false := by
   rw [List.any_eq_false]
   intro y hy
   obtain ⟨z, t, hkey⟩ := hk y (Array.mem_toList_iff.mp hy)
   simp [DictEntry.refKey, hkey]
  have a' : ¬ es.toList.any (·.refKey) = true := by rw [a]; exact Bool.false_ne_true
  rw [if_neg a']
  exact congrArg some e
theorem VJ.look {h : Heap} {x dx C : Addr} {mA : Str → Option Value} (I : VJ h x dx C mA) : ∃ od, PySem.W.InstAt h x (PySem.W.instObj C dx) C (some od) ∧ ∀ name, PySem.W.lookIn name od = some (mA name) :=
 let ⟨od, ho, hl⟩ := WZ I.ns
 ⟨od, ⟨I.obj, rfl, rfl, ho⟩, hl⟩
section
variable {prog : Program} {w : World} {A : Around} {E : Value → Shared → Prop} {s : Shared} {K : PySem.W.Frag} {x dx C f : Addr} {mA : Str → Option Value} {name : Str} {v : Value}
theorem fA {expr : Bool} {Q : Value → Shared → Prop} (X : K.In s.heap) (I : VJ s.heap x dx C mA) (hg : PySem.W.plainGet K C name = true) (hh : PySem.W.hasDictIn K C = true)
  (ha : PySem.W.findIn K (.ref C) name = some none) (hv : mA name = some v) (hv' : PySem.W.handedIn v = true) (h : Q v { s with toks := s.toks + 1 }) :
  wpAny (model prog w) A (getAttr (.ref x) name expr) Q E s := by
 obtain ⟨od, J, hl⟩ := I.look
 exact PySem.W.get_value X J (PySem.W.plainGet_of hg).1 (PySem.W.findObj_own hh ha rfl (by rw [hl, hv])) hv' h
theorem bR {pl : Sem Bool} {Q : Value × List Value → Shared → Prop} (X : K.In s.heap) (I : VJ s.heap x dx C mA) (hg : PySem.W.plainGet K C name = true)
  (hf : PySem.W.findIn K (.ref C) name = some (some (.ref f))) (ht : PySem.W.isFn K (.ref f) = true) (hv : mA name = none) (h : Q (.ref f, [.ref x]) s) :
  wpAny (model prog w) A (getMethod (.ref x) name pl) Q E s := by
 obtain ⟨od, J, hl⟩ := I.look
 exact PySem.W.method_fn X J (PySem.W.plainGet_of hg).1 (PySem.W.plainGet_of hg).2 hf (beq_iff_eq.mp ht) (by show (PySem.W.lookIn name od).map (·.isSome) = some false; rw [hl, hv]; rfl) h
theorem fD {ns : List Str} {Q : Unit → Shared → Prop} (X : K.In s.heap) (I : VJ s.heap x dx C mA)
  (hs : PySem.W.findIn K (.ref C) "__setattr__" = some (some (.builtin "object.__setattr__"))) (hp : PySem.W.plainOver K C = true) (ht : PySem.W.takerIn K C name = some none) (hh : PySem.W.hasDictIn K C = true)
  (hw : PySem.Within mA ns) (hsz : ns.length ≤ sizeLine)
  (h : ∀ h', VJ h' x dx C (fun y => if y = name then some v else mA y) → Heap.SameBut dx s.heap h' → Q () { s with heap := h', toks := s.toks + 2 }) :
  wpAny (model prog w) A (setAttr (.ref x) name v) Q E s := by
 obtain ⟨od, J, hl⟩ := I.look
 refine PySem.W.set_plain X J hs (PySem.W.osa_open (s := { s with toks := s.toks + 1 }) (r := none) X J hp ht fun b => ?_)
 obtain ⟨cd, hc, hd'⟩ := PySem.W.any_some hh
 have hx : s.heap.get? x = some ⟨.ref C, some dx, .plain, #[]⟩ := I.obj
 refine wpAny_bind (wpAny_pure (wpAny_bind (wpAny_bind (wpAny_loadPart hx (wpAny_bind (PySem.W.Looks.here (s := { s with toks := s.toks + 1 }) (PySem.W.looks_clsIn X hc) ?_))))))
 rw [hd']
 refine wpAny_pure (a := some dx) (wpAny_bind (wpAny_pure (wpAny_bind ?_)))
 refine wpAny_nsSet1 (s := { s with toks := s.toks + 1 }) I.ns fun h' hn2 hs2 => ?_
 obtain ⟨oD, esD, epD, hoD, hdD, hcD⟩ := hn2.count (PySem.Within.cons name v hw)
 refine wpAny_bind (wpAny_lookBehind hoD (by rw [hdD]; exact pastItsLine_dict (Nat.le_trans hcD (by rw [List.length_cons]; omega))) ?_)
 exact wpAny_pure (h _ ⟨(hs2.2 _ (Ne.symm I.ne)).trans I.obj, hn2, I.ne⟩ hs2)
theorem bL {R : Result → Shared → Prop} {vs : List Value} {kw : List (Str × Value)} (X : K.In s.heap) (hm : PySem.W.makesIn K C = true)
  (hi : PySem.W.findIn K (.ref C) "__init__" = some (some (.ref f))) (hf : PySem.W.typeIn K (.ref f) = some (.type "function"))
  (h : codeAny (model prog w) (A.under (.builtin "type.__call__" ⟨.ref C :: vs, kw⟩)) (.call (.ref f) ⟨.ref (s.heap.objs.size + 1) :: vs, kw⟩) (PySem.W.InitBack (s.heap.objs.size + 1) R)
   { s with heap := (s.heap.push PySem.W.emptyDict).push (PySem.W.instObj C s.heap.objs.size) }) :
  codeAny (model prog w) A (.call (.ref C) ⟨vs, kw⟩) R s := by
 obtain ⟨hh, g, d, t, os⟩ := s
 exact PySem.W.make_core (PySem.W.makes_of X hm) (PySem.W.looks_findIn X hi) (fun self => PySem.W.bind_fn X self hf) (.inl rfl) h
end
def BB (f : Str) (v : V) : List (Str × V) → List (Str × V)
 | [] => [(f, v)]
 | (g, x) :: r => if g = f then (g, v) :: r else (g, x) :: BB f v r
theorem KJ (f g : Str) (v : V) : ∀ fs : List (Str × V), (BB f v fs).lookup g = if g = f then some v else fs.lookup g
 | [] => by
  show List.lookup g [(f, v)] = _
  by_cases h : g = f
  ·have hb : (g == f) = true := beq_iff_eq.mpr h
   simp only [List.lookup, hb, if_pos h]
  ·have hb : (g == f) = false := beq_eq_false_iff_ne.mpr h
   simp only [List.lookup, hb, if_neg h]
 | (k, x) :: r => by
  have ih := KJ f g v r
  rw [show BB f v ((k, x) :: r) = (if k = f then (k, v) :: r else (k, x) :: BB f v r) from rfl]
  by_cases hk : k = f
  ·rw [if_pos hk]
   by_cases h : g = k
   ·have hb : (g == k) = true := beq_iff_eq.mpr h
    simp only [List.lookup, hb, if_pos (h.trans hk)]
   ·have hb : (g == k) = false := beq_eq_false_iff_ne.mpr h
    simp only [List.lookup, hb, if_neg (fun e : g = f => h (e.trans hk.symm))]
  ·rw [if_neg hk]
   by_cases h : g = k
   ·have hb : (g == k) = true := beq_iff_eq.mpr h
    simp only [List.lookup, hb, if_neg (fun e : g = f => hk (h.symm.trans e))]
   ·have hb : (g == k) = false := beq_eq_false_iff_ne.mpr h
    simp only [List.lookup, hb]
    exact ih
theorem JY (f : Str) (v : V) : ∀ fs : List (Str × V), f ∈ (BB f v fs).map (·.1) ∧ ∀ g, g ∈ fs.map (·.1) → g ∈ (BB f v fs).map (·.1)
 | [] => ⟨by simp [BB], fun g h => by simp at h⟩
 | (k, x) :: r => by
  obtain ⟨i1, i2⟩ := JY f v r
  rw [show BB f v ((k, x) :: r) = (if k = f then (k, v) :: r else (k, x) :: BB f v r) from rfl]
  by_cases hk : k = f
  ·rw [if_pos hk]
   subst hk
   exact ⟨by simp, fun g h => by simpa using h⟩
  ·rw [if_neg hk]
   refine ⟨?_, fun g h => ?_⟩
   ·rw [List.map_cons]
    exact List.mem_cons_of_mem _ i1
   ·rw [List.map_cons] at h ⊢
    rcases List.mem_cons.mp h with e | e
    ·exact List.mem_cons.mpr (.inl e)
    ·exact List.mem_cons_of_mem _ (i2 g e)
theorem KC (f : Str) (v : V) : ∀ fs : List (Str × V), (BB f v fs).length ≤ fs.length + 1
 | [] => by simp [BB]
 | (k, x) :: r => by
  have ih := KC f v r
  rw [show BB f v ((k, x) :: r) = (if k = f then (k, v) :: r else (k, x) :: BB f v r) from rfl]
  by_cases hk : k = f
  ·rw [if_pos hk, List.length_cons, List.length_cons]; omega
  ·rw [if_neg hk, List.length_cons, List.length_cons]; omega
theorem IC.some_of {v : V} {o : Option Value} (r : IC (some v) o) : ∃ u, o = some u ∧ AX v u := by
 cases o with
 | none => exact (show False from r).elim
 | some u => exact ⟨u, rfl, r⟩
theorem IC.none_of {o : Option Value} (r : IC none o) : o = none := by
 cases o with
 | none => rfl
 | some u => exact (show False from r).elim
theorem ZA {v : V} {u : Value} (r : AX v u) : PySem.W.handedIn u = true := by
 cases v with
 | non => cases (show u = Value.none from r); rfl
 | bl b => cases (show u = Value.bool b from r); rfl
 | int i => obtain ⟨t, e⟩ := (show ∃ t, u = Value.int i t from r); cases e; rfl
 | str x => obtain ⟨t, e⟩ := (show ∃ t, u = Value.str x t from r); cases e; rfl
 | byt b => obtain ⟨t, e⟩ := (show ∃ t, u = Value.bytes b t from r); cases e; rfl
 | flt b => obtain ⟨t, e⟩ := (show ∃ t, u = Value.float b t from r); cases e; rfl
 | ref a => cases (show u = Value.ref a from r); rfl
 | ty n => cases (show u = Value.type n from r); rfl
section
variable {P : Program} {w : World} {H H' : Hp} {h h' : Heap} {a C dx : Addr} {fs fs' : List (Str × V)}
theorem KR (hok : HOk P w H h) (e : H a = some (.ins C dx fs)) : ∃ mA, VJ h a dx C mA ∧ (∀ f, IC (fs.lookup f) (mA f)) ∧ PySem.Within mA (fs.map (·.1)) ∧ fs.length ≤ 1000 ∧ H dx = some (.own a) := by
 obtain ⟨d, z, ne, ob, mA, n, r, q⟩ := (show CS P w H h a (.ins C dx fs) from hok a _ e)
 exact ⟨mA, ⟨ob, n, ne⟩, r, q, z, d⟩
end
structure Cls (K : PySem.W.Frag) (C : Addr) : Prop where
 pg : PySem.W.plainGet K C Str.empty = true
 hd : PySem.W.hasDictIn K C = true
 po : PySem.W.plainOver K C = true
 sa : PySem.W.findIn K (.ref C) "__setattr__" = some (some (.builtin "object.__setattr__"))
theorem Cls.get {K : PySem.W.Frag} {C : Addr} (c : Cls K C) (f : Str) : PySem.W.plainGet K C f = true := c.pg
def BW (K : PySem.W.Frag) (C : Addr) (f : Str) : Prop := PySem.W.findIn K (.ref C) f = some none
theorem BW.taker {K : PySem.W.Frag} {C : Addr} {f : Str} (n : BW K C f) : PySem.W.takerIn K C f = some none := by
 unfold PySem.W.takerIn
 rw [show PySem.W.findIn K (.ref C) f = some none from n]
 rfl
structure Con (K : PySem.W.Frag) (C : Addr) (f : Str) (v : V) (u : Value) : Prop where
 at_ : PySem.W.findIn K (.ref C) f = some (some u)
 rel : AX v u
 get : PySem.W.specialIn K u "__get__" = some none
 cp : PySem.W.copiedNames.contains f = false
structure hX (K : PySem.W.Frag) (C : Addr) (m : Str) (f : Addr) : Prop where
 at_ : PySem.W.findIn K (.ref C) m = some (some (.ref f))
 fn : PySem.W.isFn K (.ref f) = true
 kp : PySem.W.keepIn K (.ref f) = true
section
variable {X : Cx} {pins : List (Addr × Obj)} {σ : St} {H : Hp} {s : Shared} {a C dx : Addr} {fs : List (Str × V)} {f : Str} {v : V} {A : Around} {E : Value → Shared → Prop}
theorem MY {b : Bool} {Q : Value → Shared → Prop} (I : Inv X pins σ H s) (e : H a = some (.ins C dx fs)) (c : Cls X.K C) (n : BW X.K C f) (l : fs.lookup f = some v)
  (h : ∀ u s', Inv X pins σ H s' → AX v u → Q u s') : wpAny (model X.prog X.w) A (getAttr (.ref a) f b) Q E s := by
 obtain ⟨mA, O, r, _, _, _⟩ := KR I.hok e
 obtain ⟨u, hu, ru⟩ := IC.some_of (v := v) (o := mA f) (by rw [← l]; exact r f)
 exact fA I.kIn O (c.get f) c.hd n hu (ZA ru) (h u _ (I.tok _) ru)
theorem LU {m : Str} {g : Addr} {pl : Sem Bool} {Q : Value × List Value → Shared → Prop} (I : Inv X pins σ H s) (e : H a = some (.ins C dx fs)) (c : Cls X.K C) (k : hX X.K C m g) (l : fs.lookup m = none)
  (h : Q (.ref g, [.ref a]) s) : wpAny (model X.prog X.w) A (getMethod (.ref a) m pl) Q E s := by
 obtain ⟨mA, O, r, _, _, _⟩ := KR I.hok e
 have hn : mA m = none := IC.none_of (by rw [← l]; exact r m)
 exact bR I.kIn O (c.get m) k.at_ k.fn hn h
theorem MW {y : V} {u : Value} {Q : Unit → Shared → Prop} (I : Inv X pins σ H s) (e : H a = some (.ins C dx fs)) (c : Cls X.K C) (n : BW X.K C f) (hl : fs.length < 1000) (ry : AX y u)
  (h : ∀ s', Inv X pins σ (upd H a (.ins C dx (BB f y fs))) s' → Q () s') : wpAny (model X.prog X.w) A (setAttr (.ref a) f u) Q E s := by
 obtain ⟨mA, O, r, wi, _, ho⟩ := KR I.hok e
 have hz : (fs.map (·.1)).length ≤ sizeLine := by rw [List.length_map, sizeLine_eq]; omega
 refine fD I.kIn O c.sa c.po n.taker c.hd wi hz fun h' O' sb => h _ ?_
 have hd : ∃ o, h'.get? dx = some o := let ⟨o, _, _, e', _⟩ := O'.ns; ⟨o, e'⟩
 refine I.write (x := a) (e := dx) (by rw [e]; exact True.intro) (.inr ho) (fun b q hb z => (sb.2 b hb).trans z) hd ?_
 refine ⟨by rw [AH O.ne]; exact ho, ?_, O.ne, O'.obj, _, O'.ns, fun g => ?_, fun g hg => ?_⟩
 ·have := KC f y fs; omega
 ·show IC ((BB f y fs).lookup g) (if g = f then some u else mA g)
  rw [KJ]
  by_cases q : g = f
  ·rw [if_pos q, if_pos q]; exact ry
  ·rw [if_neg q, if_neg q]; exact r g
 ·by_cases q : g = f
  ·rw [q]; exact (JY f y fs).1
  ·refine (JY f y fs).2 g (wi g fun z => hg ?_)
   show (if g = f then some u else mA g) = none
   rw [if_neg q]; exact z
theorem Inv.made (I : Inv X pins σ H s) : Inv X pins σ (upd (upd H s.heap.objs.size (.own (s.heap.objs.size + 1))) (s.heap.objs.size + 1) (.ins C s.heap.objs.size []))
  { s with heap := (s.heap.push PySem.W.emptyDict).push (PySem.W.instObj C s.heap.objs.size) } := by
 have e1 : (s.heap.push PySem.W.emptyDict).get? s.heap.objs.size = some PySem.W.emptyDict := Heap.get?_push_size s.heap rfl
 have e2 : ((s.heap.push PySem.W.emptyDict).push (PySem.W.instObj C s.heap.objs.size)).get? (s.heap.objs.size + 1) = some (PySem.W.instObj C s.heap.objs.size) := by
  have := Heap.get?_push_size (s.heap.push PySem.W.emptyDict) (o := PySem.W.instObj C s.heap.objs.size) rfl
  rwa [Heap.size_push] at this
 have e3 : (s.heap.push PySem.W.emptyDict).Ns s.heap.objs.size (fun _ => none) := ⟨PySem.W.emptyDict, #[], _, e1, rfl, (fun e he => absurd he (by simp)), fun _ => rfl⟩
 have I1 := I.laid (a := s.heap.objs.size) (o := .own (s.heap.objs.size + 1)) (h' := s.heap.push PySem.W.emptyDict) (t' := s.toks) (fun b u q => Heap.get?_push_of_some _ q) (Nat.le_refl _) ⟨_, e1⟩
 refine I1.laid (a := s.heap.objs.size + 1) (o := .ins C s.heap.objs.size []) (t' := s.toks) (fun b u q => Heap.get?_push_of_some _ q) (Nat.le_of_eq (Heap.size_push _ _)) ?_
 have ne : s.heap.objs.size ≠ s.heap.objs.size + 1 := Nat.ne_of_lt (Nat.lt_succ_self _)
 refine ⟨by rw [AH ne, AB], Nat.zero_le _, ne, e2, fun _ => none, (Heap.Ns1.of_empty e3).at fun o q => Heap.get?_push_of_some _ q, fun _ => True.intro, fun y hy => absurd rfl hy⟩
theorem gQ {prog : Program} {w : World} {env : Env} {e : Expr} {f : Str} {pos : Pos} {s : Shared} {Q : Value → Shared → Prop} (hb : attributeBase e f env (eval e env) = eval e env)
  (h : wpAny (model prog w) A (eval e env) (fun o s₁ => wpAny (model prog w) A (getAttr o f true) Q E s₁) E s) : wpAny (model prog w) A (eval (.Attribute e f pos) env) Q E s :=
 Attribute_any_ h (by rw [arm_eval_Attribute, hb])
end
def ZU (K : PySem.W.Frag) (ta : TE) (f : Str) : TE := fun σ H Q => ta σ H fun x H1 => ∃ a C dx fs v, x = .ref a ∧ H1 a = some (.ins C dx fs) ∧ Cls K C ∧ BW K C f ∧ fs.lookup f = some v ∧ Q v H1
def cV (K : PySem.W.Frag) (ta tv : TE) (f : Str) : TS := fun D σ H => tv σ H fun y H1 => ta σ H1 fun x H2 => ∃ a C dx fs, x = .ref a ∧ H2 a = some (.ins C dx fs) ∧ Cls K C ∧ BW K C f ∧ fs.length < 1000 ∧
 D.nx σ (upd H2 a (.ins C dx (BB f y fs)))
def jC (X : Cx) (op : Operator) (rd : V → V → Hp → VK → Prop) : Prop :=
 ∀ (pins : List (Addr × Obj)) (s : Shared) (σ : St) (H : Hp) (x y : V) (u v : Value) (Q : VK), Inv X pins σ H s → AX x u → AX y v → rd x y H Q → wpAny (model X.prog X.w) X.A (inplaceOp op u v) (EP X pins σ Q) X.xe s
def JC (K : PySem.W.Frag) (ta tv : TE) (rd : V → V → Hp → VK → Prop) (f : Str) : TS := fun D σ H => ta σ H fun x H1 => ∃ a C dx fs v, x = .ref a ∧ H1 a = some (.ins C dx fs) ∧ Cls K C ∧ BW K C f ∧ fs.lookup f = some v ∧
 tv σ H1 fun y H2 => rd v y H2 fun z H3 => ∃ dx' fs', H3 a = some (.ins C dx' fs') ∧ fs'.length < 1000 ∧ D.nx σ (upd H3 a (.ins C dx' (BB f z fs')))
section
variable {X : Cx} {o e value : Expr} {f : Str} {pos pos' tpos : Pos} {ta tv : TE}
theorem lG (he : PE X e ta) (hb : attributeBase e f X.env (eval e X.env) = eval e X.env) : PE X (.Attribute e f pos) (ZU X.K ta f) := by
 intro pins s σ H Q I h
 refine gQ hb (thn (he pins s σ H _ I h) fun u s1 ⟨x, H1, I1, rx, a, C, dx, fs, v, ex, ea, c, n, l, q⟩ => ?_)
 subst ex
 obtain rfl : u = Value.ref a := rx
 exact MY I1 ea c n l fun u' s2 I2 ru => ⟨v, H1, I2, ru, q⟩
theorem jZ (ha : PE X o ta) (hv : PE X value tv) (hs : swapsWith value (some (.Attribute o f pos')) pos.line X.env = pure false) : PS X (.Assign [.Attribute o f pos'] value pos) (cV X.K ta tv f) := by
 intro pins s σ H D I h
 refine plainObj_wpAny_Assign_Attribute (thn (hv pins s σ H _ I h) fun u s1 ⟨y, H1, I1, ry, q⟩ => thn (ha pins s1 σ H1 _ I1 q) fun ov s2 ⟨x, H2, I2, rx, a, C, dx, fs, ex, ea, c, n, l, q2⟩ => ?_) hs
 subst ex
 obtain rfl : ov = Value.ref a := rx
 exact MW I2 ea c n l ry fun s3 I3 => ⟨σ, _, I3, q2⟩
theorem WY {op : Operator} {rd : V → V → Hp → VK → Prop} (ha : PE X o ta) (hv : PE X value tv) (hop : jC X op rd) : PS X (.AugAssign (.Attribute o f tpos) op value pos) (JC X.K ta tv rd f) := by
 intro pins s σ H D I h
 refine wpAny_AugAssign_AttributeAny (thn (ha pins s σ H _ I h) fun ov s1 ⟨x, H1, I1, rx, a, C, dx, fs, v, ex, ea, c, n, l, q⟩ => ?_)
 subst ex
 obtain rfl : ov = Value.ref a := rx
 refine MY I1 ea c n l fun u s2 I2 ru => thn (hv pins s2 σ H1 _ I2 q) fun w3 s3 ⟨y, H2, I3, ry, q3⟩ => thn (hop pins s3 σ H2 v y u w3 _ I3 ru ry q3) fun w4 s4 ⟨z, H3, I4, rz, dx', fs', ea', l', q4⟩ => ?_
 exact MW I4 ea' c n l' rz fun s5 I5 => ⟨σ, _, I5, q4⟩
def cH : V → V → Hp → VK → Prop := fun x y H Q => ∃ i j, x = .int i ∧ y = .int j ∧ Q (.int (i + j)) H
theorem VL : jC X .Add cH := by
 rintro pins s σ H x y u v Q I rx ry ⟨i, j, rfl, rfl, q⟩
 obtain ⟨t, rfl⟩ := (show ∃ t, u = Value.int i t from rx)
 obtain ⟨t', rfl⟩ := (show ∃ t', v = Value.int j t' from ry)
 exact PyProof.Rows.iadd_int ⟨.int (i + j), H, I.tok _, ⟨_, rfl⟩, q⟩
end
section
variable {X : Cx} {pins : List (Addr × Obj)} {σ : St} {H : Hp} {s : Shared} {A : Around} {E : Value → Shared → Prop} {Q : Value → Shared → Prop} {c : Value} {b : Bool}
inductive IT (K : PySem.W.Frag) (H : Hp) : V → Value → Prop where
 | non : IT K H .non (.type "NoneType")
 | bl (x : Bool) : IT K H (.bl x) (.type "bool")
 | int (i : Int) : IT K H (.int i) (.type "int")
 | str (x : Str) : IT K H (.str x) (.type "str")
 | flt (x : UInt64) : IT K H (.flt x) (.type "float")
 | lst {a : Addr} {xs : List V} (e : H a = some (.lst xs)) : IT K H (.ref a) (.type "list")
 | frz {a : Addr} {o : Obj} {xs : List V} (e : H a = some (.frz o (.lst xs))) : IT K H (.ref a) (.type "list")
 | tup {a : Addr} {xs : List V} (e : H a = some (.tup xs)) : IT K H (.ref a) (.type "tuple")
 | dK {a : Addr} {kvs : List (Key × V)} (e : H a = some (.dK kvs)) : IT K H (.ref a) (.type "dict")
 | dT {a : Addr} {kvs : List (List Key × V)} (e : H a = some (.dT kvs)) : IT K H (.ref a) (.type "dict")
 | ins {a C dx : Addr} {fs : List (Str × V)} (e : H a = some (.ins C dx fs)) (cl : Cls K C) (ha : PySem.W.findIn K (.ref C) "__class__" = some (some (.builtin "object.__class__")))
   (hn : PySem.W.specialIn K (.builtin "object.__class__") "__get__" = some (some (.builtin "getset_descriptor.__get__"))) (htk : PySem.W.takesIn K (.builtin "object.__class__") = some true)
   (hm : PySem.W.mroIn K C (.type "object") = some true) : IT K H (.ref a) (.ref C)
theorem XD {x : V} {u t : Value} (I : Inv X pins σ H s) (rx : AX x u) (ty : IT X.K H x t) (e : PySem.W.kitOne X.K t c = some b) (h : ∀ tk, Q (.bool b) { s with toks := tk }) :
  wpAny (model X.prog X.w) A (call (.builtin "isinstance") [u, c]) Q E s := by
 cases ty with
 | non => cases (show u = Value.none from rx); exact PySem.W.kia_one PySem.W.kitx_none I.kIn True.intro e (fun z => nomatch z) h
 | bl y => cases (show u = Value.bool y from rx); exact PySem.W.kia_one PySem.W.kitx_bool I.kIn True.intro e (fun z => nomatch z) h
 | int i => obtain ⟨t, q⟩ := (show ∃ t, u = Value.int i t from rx); cases q; exact PySem.W.kia_one PySem.W.kitx_int I.kIn True.intro e (fun z => nomatch z) h
 | str y => obtain ⟨t, q⟩ := (show ∃ t, u = Value.str y t from rx); cases q; exact PySem.W.kia_one PySem.W.kitx_str I.kIn True.intro e (fun z => nomatch z) h
 | flt y => obtain ⟨t, q⟩ := (show ∃ t, u = Value.float y t from rx); cases q; exact PySem.W.kia_one PySem.W.kitx_float I.kIn True.intro e (fun z => nomatch z) h
 | @lst a xs ea =>
  cases (show u = Value.ref a from rx)
  obtain ⟨_, _, n, _, h1⟩ := (show CS X.prog X.w H s.heap a (.lst xs) from I.hok a _ ea)
  exact PySem.W.kia_one PySem.W.kitx_list I.kIn ⟨_, h1, rfl⟩ e (fun z => nomatch z) h
 | @frz a ob xs ea =>
  cases (show u = Value.ref a from rx)
  obtain ⟨_, _, _, n, _, h1⟩ := (show CS X.prog X.w H s.heap a (.frz ob (.lst xs)) from I.hok a _ ea)
  exact PySem.W.kia_one PySem.W.kitx_list I.kIn ⟨_, h1, rfl⟩ e (fun z => nomatch z) h
 | @tup a xs ea =>
  cases (show u = Value.ref a from rx)
  obtain ⟨_, _, _, p⟩ := (show CS X.prog X.w H s.heap a (.tup xs) from I.hok a _ ea)
  obtain ⟨o, h1, h2, _⟩ := p
  exact PySem.W.kia_one PySem.W.kitx_tuple I.kIn ⟨o, h1, h2⟩ e (fun z => nomatch z) h
 | @dK a kvs ea =>
  cases (show u = Value.ref a from rx)
  obtain ⟨_, _, vs, _, p⟩ := (show CS X.prog X.w H s.heap a (.dK kvs) from I.hok a _ ea)
  obtain ⟨o, es, ep, h1, h2, _⟩ := p
  exact PySem.W.kia_one PySem.W.kitx_dict I.kIn ⟨o, h1, h2.1⟩ e (fun z => nomatch z) h
 | @dT a kvs ea =>
  cases (show u = Value.ref a from rx)
  obtain ⟨_, _, xs, _, o, es, ep, h1, h2, _⟩ := (show CS X.prog X.w H s.heap a (.dT kvs) from I.hok a _ ea)
  exact PySem.W.kia_one PySem.W.kitx_dict I.kIn ⟨o, h1, h2.1⟩ e (fun z => nomatch z) h
 | @ins a C dx fs ea cl ha hn htk hm =>
  cases (show u = Value.ref a from rx)
  obtain ⟨mA, O, _⟩ := KR I.hok ea
  obtain ⟨od, J, _⟩ := O.look
  exact PySem.W.kia_one (PySem.W.kitx_own (cl.get _) cl.hd ha hn htk hm) I.kIn J e (fun z => nomatch z) h
end
structure EE (k : Nat) (A : Around) : Prop where
 hd : A.handled = none
 dp : A.depth + 3 * k + 5 < recursionLimit
 un : A.units + 16 * k + 200 < cLine
theorem EE.mono {j k : Nat} {A : Around} (r : EE k A) (h : j ≤ k) : EE j A := ⟨r.hd, by have := r.dp; omega, by have := r.un; omega⟩
theorem EE.deeper {k : Nat} {A : Around} (r : EE (k + 1) A) (env : Env) : EE k (A.deeper env) :=
 ⟨r.hd, by have := r.dp; show A.depth + 1 + 3 * k + 5 < _; omega, by have := r.un; show A.units + 3 + 16 * k + 200 < _; omega⟩
theorem US {A : Around} {C : Addr} {us : List Value} {kw : List (Str × Value)} : (A.under (.builtin "type.__call__" ⟨.ref C :: us, kw⟩)).depth = A.depth + 1 := by
 first | rfl | simp [Around.under, Code.weight, Code.isCreation, Code.isGuard, Code.isCaller, Code.frames, Code.isFrame, guardIds]
theorem VI {A : Around} {C : Addr} {us : List Value} {kw : List (Str × Value)} : (A.under (.builtin "type.__call__" ⟨.ref C :: us, kw⟩)).units = A.units + 1 := by
 first | rfl | simp [Around.under, Code.cUnits, Code.frames, Code.isFrame]
theorem EE.make {k : Nat} {A : Around} (r : EE (k + 1) A) (C : Addr) (us : List Value) (kw : List (Str × Value)) : EE k (A.under (.builtin "type.__call__" ⟨.ref C :: us, kw⟩)) :=
 ⟨r.hd, by have := r.dp; rw [US]; omega, by have := r.un; rw [VI]; omega⟩
theorem EE.depth {k : Nat} {A : Around} (r : EE k A) : A.depth < recursionLimit := by have := r.dp; omega
theorem EE.units {k : Nat} {A : Around} (r : EE k A) : A.units + 64 < cLine := by have := r.un; omega
def VA : TA := fun _ H Q => Q [] H
def OB (ta : TE) (tr : TA) : TA := fun σ H Q => ta σ H fun x H1 => tr σ H1 fun xs H2 => Q (x :: xs) H2
section
variable {X : Cx} {e : Expr} {es : List Expr} {te : TE} {t : TA} {pos : Pos}
theorem AC : PA X [] VA := fun _ _ _ _ H Q I h => Calls.spliced_nil ⟨[], H, I, .nil, h⟩
theorem AA (ha : PE X e te) (hr : PA X es t) (hs : starEach (e :: es) X.env = (false, eval e X.env) :: starEach es X.env := by rfl) : PA X (e :: es) (OB te t) := by
 intro pos pins s σ H Q I h
 rw [hs]
 show wpAny _ _ (spliced ((false, eval e X.env) :: backTo pos (starEach es X.env))) _ _ s
 refine Calls.spliced_cons (thn (ha pins s σ H _ I h) fun u s1 ⟨x, H1, I1, r1, q1⟩ => ?_)
 exact thn (hr pos pins s1 σ H1 _ I1 q1) fun us s2 ⟨xs, H2, I2, r2, q2⟩ => ⟨x :: xs, H2, I2, .cons r1 r2, q2⟩
def aX (t : TA) : TE := fun σ H Q => t σ H fun xs H1 => xs.length ≤ sizeLine ∧ ∀ p, H1 p = none → Q (.ref p) (upd H1 p (.tup xs))
def cP (t : TA) : TE := fun σ H Q => t σ H fun xs H1 => xs.length ≤ sizeLine ∧ ∀ p, H1 p = none → Q (.ref p) (upd H1 p (.lst xs))
theorem BA {x1} (h : PA X es t) : PE X (.Tuple es x1 pos) (aX t) := by
 intro pins s σ H Q I hq
 refine wpAny_Tuple_spliced (thn (h pos pins s σ H _ I hq) fun us s1 ⟨xs, H1, I1, r, z, q⟩ => ⟨by rw [← r.length]; exact z, ?_⟩)
 have hf : H1 s1.heap.objs.size = none := I1.hok.fresh (Nat.le_refl _)
 refine ⟨.ref s1.heap.objs.size, upd H1 s1.heap.objs.size (.tup xs), I1.laid (t' := s1.toks) (fun b u e => Heap.get?_push_of_some _ e) (Nat.le_refl _) ?_, rfl, q _ hf⟩
 exact ⟨z, us, r, ⟨_, Heap.get?_push_size _ rfl, rfl, _, rfl⟩⟩
theorem EL (h : PA X es t) : PE X (.List es pos) (cP t) := by
 intro pins s σ H Q I hq
 refine wpAny_List_spliced (thn (h pos pins s σ H _ I hq) fun us s1 ⟨xs, H1, I1, r, z, q⟩ => ⟨by rw [← r.length]; exact z, ?_⟩)
 have hf : H1 s1.heap.objs.size = none := I1.hok.fresh (Nat.le_refl _)
 refine ⟨.ref s1.heap.objs.size, upd H1 s1.heap.objs.size (.lst xs), I1.laid (t' := s1.toks) (fun b u e => Heap.get?_push_of_some _ e) (Nat.le_refl _) ?_, rfl, q _ hf⟩
 exact ⟨z, us, 0, r, Heap.get?_push_size _ rfl⟩
end
abbrev Sp := List V → Hp → VK → XK → Prop
abbrev CXT := List Env → Hp → Shared → XK → Value → Shared → Prop
structure UK (P : Program) (w : World) (K : PySem.W.Frag) (mg : Str → Option Value) (base : Heap) (A : Around) (outer : List Env) (s : Shared) (H : Hp) : Prop where
 frames : A.frames = some outer
 mod : Mod K mg base
 bs : ∀ b o, base.get? b = some o → s.heap.get? b = some o ∧ H b = none
 bsz : base.objs.size ≤ s.heap.objs.size
 funs : s.heap.FunFrames base outer
 frf : ∀ b ∈ frs outer, H b = none
 hok : HOk P w H s.heap
 bare : AllBare s.gens
def CE (outer : List Env) (P : Program) (w : World) (H : Hp) (s : Shared) (Q : VK) (u : Value) (s' : Shared) : Prop :=
 ∃ v H', s'.os = s.os ∧ AllBare s'.gens ∧ Un (frs outer) [] H H' s.heap s'.heap ∧ HOk P w H' s'.heap ∧ AX v u ∧ Q v H'
def CR (CX : CXT) (outer : List Env) (P : Program) (w : World) (H : Hp) (s : Shared) (Q : VK) (E : XK) (r : Result) (s' : Shared) : Prop :=
 match r with
 | .ok (.ret u) => CE outer P w H s Q u s'
 | .ok _ => False
 | .error e => CX outer H s E e s'
structure BJ (P : Program) (w : World) (K : PySem.W.Frag) (mg : Str → Option Value) (base : Heap) (CX : CXT) (k : Nat) (f : Addr) (fd : FuncData) (ps : List Str) (sp : Sp) : Prop where
 len : ∀ vs H Q E, sp vs H Q E → vs.length = ps.length
 run : ∀ (A : Around) (outer : List Env) (s : Shared) (H : Hp) (args : Args) (us : List Value) (vs : List V) (Q : VK) (E : XK), EE k A → UK P w K mg base A outer s H → BindsTo s fd args (ps.zip us) → AN vs us → sp vs H Q E →
  codeAny (model P w) A (.call (.ref f) args) (CR CX outer P w H s Q E) s
theorem UK.make {P : Program} {w : World} {K : PySem.W.Frag} {mg : Str → Option Value} {base : Heap} {A : Around} {outer : List Env} {s : Shared} {H : Hp} (e : UK P w K mg base A outer s H) (C : Addr) (us : List Value) (kw : List (Str × Value)) :
  UK P w K mg base (A.under (.builtin "type.__call__" ⟨.ref C :: us, kw⟩)) outer s H := ⟨by first | exact e.frames | (simpa [Around.under, Code.envs, Code.isFrame, pushEnvs] using e.frames), e.mod, e.bs, e.bsz, e.funs, e.frf, e.hok, e.bare⟩
section
variable {X : Cx} {pins : List (Addr × Obj)} {σ : St} {H : Hp} {s s' : Shared}
theorem Inv.env0 (I : Inv X pins σ H s) : UK X.prog X.w X.K X.mg X.base X.A X.stack s H :=
 ⟨I.ok.frames, I.ok.mod, I.bs, Nat.le_trans I.ok.bsz I.sz, I.stack, I.stkFree, I.hok, I.bare⟩
theorem Inv.after {Q : VK} {u : Value} (I : Inv X pins σ H s) (h : CE X.stack X.prog X.w H s Q u s') : EP X pins σ Q u s' := by
 obtain ⟨v, H', os, bare, un, hok, r, q⟩ := h
 obtain ⟨hh, g, d, t, os'⟩ := s'
 obtain rfl : os' = s.os := os
 exact ⟨v, H', I.call (h' := hh) (g' := g) (d' := d) (t' := t) (ch := []) un hok bare (fun b z => absurd z (by simp)), r, q⟩
end
def SB (sp : Sp) (dvs : List V) (E : XK) (t : TA) : TE := fun σ H Q => t σ H fun vs H1 => sp (vs ++ dvs) H1 Q E
def NU (C : Addr) (m : Str) (sp : Sp) (dvs : List V) (E : XK) (ta : TE) (t : TA) : TE := fun σ H Q => ta σ H fun x H1 => ∃ a dx fs, x = .ref a ∧ H1 a = some (.ins C dx fs) ∧ fs.lookup m = none ∧
 t σ H1 fun vs H2 => sp (x :: (vs ++ dvs)) H2 Q E
def NQ (C : Addr) (sp : Sp) (dvs : List V) (E : XK) (t : TA) : TE := fun σ H Q => t σ H fun vs H1 => ∀ x dx, H1 x = none → H1 dx = none → dx ≠ x →
 sp (.ref x :: (vs ++ dvs)) (upd (upd H1 dx (.own x)) x (.ins C dx [])) (fun v H2 => v = .non ∧ Q (.ref x) H2) E
def FF (K : PySem.W.Frag) (fd : FuncData) (ps : List Str) (ds : List Value) : Prop :=
 ∀ (s : Shared) (us : List Value), K.In s.heap → (us ++ ds).length = ps.length → BindsTo s fd ⟨us, []⟩ (ps.zip (us ++ ds))
theorem FF.all {K : PySem.W.Frag} {fd : FuncData} {ps : List Str} (h : ∀ us : List Value, us.length = ps.length → bindArgs fd ⟨us, []⟩ = pure (ps.zip us)) : FF K fd ps [] := fun s us _ hl => by
 rw [List.append_nil] at hl ⊢
 exact .of_eq (h us hl)
def FI (CX : CXT) (X : Cx) (E : XK) : Prop := ∀ (pins : List (Addr × Obj)) (σ : St) (H : Hp) (s : Shared) (e : Value) (s' : Shared), Inv X pins σ H s → CX X.stack H s E e s' → X.xe e s'
section
variable {X : Cx} {CX : CXT} {k : Nat} {f C : Addr} {fd : FuncData} {ps : List Str} {sp : Sp} {dvs : List V} {ds : List Value} {E : XK} {x m : Str} {p pos apos : Pos} {e o : Expr} {es : List Expr} {ta : TE} {t : TA}
theorem TQ {pins : List (Addr × Obj)} {σ : St} {H : Hp} {s : Shared} {Q : VK} {us : List Value} {vs : List V} (F : BJ X.prog X.w X.K X.mg X.base CX k f fd ps sp) (hr : EE k X.A) (hb : FF X.K fd ps ds) (hd : AN dvs ds) (hx : FI CX X E)
  (I : Inv X pins σ H s) (r : AN vs us) (h : sp (vs ++ dvs) H Q E) : wpAny (model X.prog X.w) X.A (call (.ref f) us) (EP X pins σ Q) X.xe s := by
 have r2 : AN (vs ++ dvs) (us ++ ds) := r.append hd
 have hl : (us ++ ds).length = ps.length := by rw [← r2.length]; exact F.len _ _ _ _ h
 refine wpAny_call (codeAny_mono (F.run X.A X.stack s H ⟨us, []⟩ (us ++ ds) (vs ++ dvs) Q E hr I.env0 (hb s us I.kIn hl) r2 h) fun r s' hq => ?_)
 cases r with
 | error e => exact hx pins σ H s e s' I hq
 | ok fl =>
  cases fl with
  | ret u => exact I.after hq
  | next => exact False.elim hq
  | brk => exact False.elim hq
  | cont => exact False.elim hq
theorem AT (F : BJ X.prog X.w X.K X.mg X.base CX k f fd ps sp) (hr : EE k X.A) (hg : Gl X x) (hm : X.mg x = some (.ref f)) (hk : PySem.W.keepIn X.K (.ref f) = true) (hb : FF X.K fd ps ds) (hd : AN dvs ds) (hx : FI CX X E)
  (ha : PA X (e :: es) t) (hdb : (x == ("__debug__" : Str)) = false := by decide) (he : starEach (e :: es) X.env = (false, eval e X.env) :: starEach es X.env := by rfl) (hpl : (backTo pos (starEach es X.env)).any (·.1) = false := by rfl) :
  PE X (.Call (.Name x p) (e :: es) [] pos) (SB sp dvs E t) := by
 intro pins s σ H Q I h
 refine wpAny_Call_Name_kw (FH I hg hm ?_ hdb)
 refine PySem.W.callWith_K (h₀ := X.base) I.ok.mod.kin hk (thn (ha pos pins s σ H _ I h) fun us s1 ⟨vs, H1, I1, r, q⟩ => ⟨I1.kIn, ?_⟩) he hpl
 exact TQ F hr hb hd hx I1 r q
theorem FA {pl : Sem Bool} (he : PE X o ta) (c : Cls X.K C) (hm : hX X.K C m f) (F : BJ X.prog X.w X.K X.mg X.base CX k f fd ps sp) (hr : EE k X.A) (hb : FF X.K fd ps ds) (hd : AN dvs ds) (hx : FI CX X E) (ha : PA X (e :: es) t)
  (hst : starEach (e :: es) X.env = (false, eval e X.env) :: starEach es X.env := by rfl) (hpl : (backTo pos (starEach es X.env)).any (·.1) = false := by rfl)
  (ht : eval (.Call (.Attribute o m apos) (e :: es) [] pos) X.env = (do
   let ov ← eval o X.env
   standAt apos.atName
   let (f, first) ← holding [ov] (getMethod ov m pl)
   callWith pos f first (backTo pos (starEach (e :: es) X.env)) (backToKw pos (keywordEach [] X.env))) := by rfl) :
  PE X (.Call (.Attribute o m apos) (e :: es) [] pos) (NU C m sp dvs E ta t) := by
 intro pins s σ H Q I h
 refine PySem.W.methodCall_KW (pl := pl) (thn (he pins s σ H _ I h) fun u s1 ⟨x, H1, I1, rx, a, dx, fs, ex, ea, l, q⟩ => ?_) ht
 subst ex
 obtain rfl : u = Value.ref a := rx
 refine LU I1 ea c hm l ?_
 refine PySem.W.callWith_K (first := [.ref a]) (h₀ := X.base) I.ok.mod.kin hm.kp (thn (ha pos pins s1 σ H1 _ I1 q) fun us s2 ⟨vs, H2, I2, r, q2⟩ => ⟨I2.kIn, ?_⟩) hst hpl
 exact TQ (us := .ref a :: us) (vs := .ref a :: vs) F hr hb hd hx I2 (.cons rfl r) q2
theorem ED {pl : Sem Bool} (he : PE X o ta) (c : Cls X.K C) (hm : hX X.K C m f) (F : BJ X.prog X.w X.K X.mg X.base CX k f fd ps sp) (hr : EE k X.A) (hb : FF X.K fd ps ds) (hd : AN dvs ds) (hx : FI CX X E)
  (ht : eval (.Call (.Attribute o m apos) [] [] pos) X.env = (do
   let ov ← eval o X.env
   standAt apos.atName
   let (f, first) ← holding [ov] (getMethod ov m pl)
   callWith pos f first (backTo pos (starEach [] X.env)) (backToKw pos (keywordEach [] X.env))) := by rfl) :
  PE X (.Call (.Attribute o m apos) [] [] pos) (NU C m sp dvs E ta VA) := by
 intro pins s σ H Q I h
 refine PySem.W.methodCall_KW (pl := pl) (thn (he pins s σ H _ I h) fun u s1 ⟨x, H1, I1, rx, a, dx, fs, ex, ea, l, q⟩ => ?_) ht
 subst ex
 obtain rfl : u = Value.ref a := rx
 refine LU I1 ea c hm l ?_
 exact PySem.W.callWith_K0 (first := [.ref a]) I1.kIn hm.kp (TQ (us := [.ref a]) (vs := [.ref a]) F hr hb hd hx I1 (.cons rfl .nil) q)
structure Mk (K : PySem.W.Frag) (C f : Addr) : Prop where
 makes : PySem.W.makesIn K C = true
 init : PySem.W.findIn K (.ref C) "__init__" = some (some (.ref f))
 fn : PySem.W.isFn K (.ref f) = true
 kp : PySem.W.keepIn K (.ref C) = true
theorem RS {pins : List (Addr × Obj)} {σ : St} {H : Hp} {s : Shared} {Q : VK} {us : List Value} {vs : List V} (M : Mk X.K C f) (F : BJ X.prog X.w X.K X.mg X.base CX k f fd ps sp) (hr : EE (k + 1) X.A) (hb : FF X.K fd ps ds) (hd : AN dvs ds)
  (hx : FI CX X E) (I : Inv X pins σ H s) (r : AN vs us)
  (h : ∀ x dx, H x = none → H dx = none → dx ≠ x → sp (.ref x :: (vs ++ dvs)) (upd (upd H dx (.own x)) x (.ins C dx [])) (fun v H2 => v = .non ∧ Q (.ref x) H2) E) :
  wpAny (model X.prog X.w) X.A (call (.ref C) us) (EP X pins σ Q) X.xe s := by
 have hq := h (s.heap.objs.size + 1) s.heap.objs.size (I.hok.fresh (Nat.le_succ _)) (I.hok.fresh (Nat.le_refl _)) (Nat.ne_of_lt (Nat.lt_succ_self _))
 have I2 := Inv.made (C := C) I
 have r2 : AN (V.ref (s.heap.objs.size + 1) :: (vs ++ dvs)) (Value.ref (s.heap.objs.size + 1) :: (us ++ ds)) := .cons rfl (r.append hd)
 have hl : (Value.ref (s.heap.objs.size + 1) :: us ++ ds).length = ps.length := by
  have e := r2.length
  rw [F.len _ _ _ _ hq] at e
  exact e.symm
 refine wpAny_call (bL (f := f) I.kIn M.makes M.init (beq_iff_eq.mp M.fn) (codeAny_mono (F.run _ X.stack _ _ ⟨Value.ref (s.heap.objs.size + 1) :: us, []⟩ (Value.ref (s.heap.objs.size + 1) :: (us ++ ds)) _ _ E (hr.make C us [])
  (I2.env0.make C us []) (hb _ (Value.ref (s.heap.objs.size + 1) :: us) I2.kIn hl) r2 hq) fun r s' hq' => ?_))
 cases r with
 | error e => exact hx pins σ _ _ e s' I2 hq'
 | ok fl =>
  cases fl with
  | ret u =>
   obtain ⟨v, H', I3, rv, ev, q3⟩ := I2.after hq'
   subst ev
   exact ⟨rv, ⟨V.ref (s.heap.objs.size + 1), H', I3, rfl, q3⟩⟩
  | next => exact False.elim hq'
  | brk => exact False.elim hq'
  | cont => exact False.elim hq'
theorem IV (M : Mk X.K C f) (F : BJ X.prog X.w X.K X.mg X.base CX k f fd ps sp) (hr : EE (k + 1) X.A) (hg : Gl X x) (hm : X.mg x = some (.ref C)) (hb : FF X.K fd ps ds) (hd : AN dvs ds) (hx : FI CX X E)
  (ha : PA X (e :: es) t) (hdb : (x == ("__debug__" : Str)) = false := by decide) (he : starEach (e :: es) X.env = (false, eval e X.env) :: starEach es X.env := by rfl) (hpl : (backTo pos (starEach es X.env)).any (·.1) = false := by rfl) :
  PE X (.Call (.Name x p) (e :: es) [] pos) (NQ C sp dvs E t) := by
 intro pins s σ H Q I h
 refine wpAny_Call_Name_kw (FH I hg hm ?_ hdb)
 refine PySem.W.callWith_K (h₀ := X.base) I.ok.mod.kin M.kp (thn (ha pos pins s σ H _ I h) fun us s1 ⟨vs, H1, I1, r, q⟩ => ⟨I1.kIn, ?_⟩) he hpl
 exact RS M F hr hb hd hx I1 r q
theorem dH (M : Mk X.K C f) (F : BJ X.prog X.w X.K X.mg X.base CX k f fd ps sp) (hr : EE (k + 1) X.A) (hg : Gl X x) (hm : X.mg x = some (.ref C)) (hb : FF X.K fd ps ds) (hd : AN dvs ds) (hx : FI CX X E)
  (hdb : (x == ("__debug__" : Str)) = false := by decide) : PE X (.Call (.Name x p) [] [] pos) (NQ C sp dvs E VA) := by
 intro pins s σ H Q I h
 refine wpAny_Call_Name_kw (FH I hg hm ?_ hdb)
 exact PySem.W.callWith_K0 I.kIn M.kp (RS (us := []) M F hr hb hd hx I .nil h)
end
section
variable {X : Cx} {CX : CXT} {k : Nat} {f C : Addr} {fd : FuncData} {ps ks : List Str} {sp : Sp} {E : XK} {x m : Str} {p pos apos kpos : Pos} {e o : Expr} {es : List Expr} {kws : List Keyword} {te ta : TE} {t tk : TA} {nm : Option Str}
structure KBinds (K : PySem.W.Frag) (fd : FuncData) (ps ks : List Str) (g : List Value → List Value → List Value) (gV : List V → List V → List V) : Prop where
 to : ∀ (s : Shared) (us ws : List Value), K.In s.heap → (g us ws).length = ps.length → BindsTo s fd ⟨us, ks.zip ws⟩ (ps.zip (g us ws))
 rel : ∀ {vs : List V} {us : List Value} {zs : List V} {ws : List Value}, AN vs us → AN zs ws → AN (gV vs zs) (g us ws)
variable {g : List Value → List Value → List Value} {gV : List V → List V → List V}
end
structure AR (N P : List Str) (sc : Scope) : Prop where
 kind : sc.kind = .function
 co : sc.isCoroutine = false
 gen : sc.isGenerator = false
 nd : N.Nodup
 pre : N.take P.length = P
 par : ∀ x ∈ P, sc.names.lookup x = some .local ∨ sc.names.lookup x = some .cell
 nofree : ∀ y ∈ sc.names, y.2 ≠ .free
theorem OL {kindOf : Str → Option NameKind} {x : Str} : ∀ {binds : List (Str × Value)} {m : Str → Option Value}, (∀ v, (x, v) ∉ binds) → bindL kindOf binds m x = m x
 | [], _, _ => rfl
 | (n, v) :: r, m, h => by
  unfold bindL
  rw [OL fun w hw => h w (List.mem_cons_of_mem _ hw)]
  split
  ·have : x ≠ n := by rintro rfl; exact h v List.mem_cons_self
   simp [this]
  ·rfl
theorem OJ {kindOf : Str → Option NameKind} {x : Str} : ∀ {binds : List (Str × Value)} {m : Str → Option Value}, (∀ v, (x, v) ∉ binds) → bindC kindOf binds m x = m x
 | [], _, _ => rfl
 | (n, v) :: r, m, h => by
  unfold bindC
  rw [OJ fun w hw => h w (List.mem_cons_of_mem _ hw)]
  split
  ·rfl
  ·have : x ≠ n := by rintro rfl; exact h v List.mem_cons_self
   simp [this]
theorem NS {kindOf : Str → Option NameKind} {x : Str} {v : Value} : ∀ {P : List Str} {vs : List Value} {i : Nat} {m : Str → Option Value}, P.Nodup → P[i]? = some x → vs[i]? = some v → kindOf x = some .local →
  bindL kindOf (P.zip vs) m x = some v
 | [], _, _, _, _, h, _, _ => by simp at h
 | _ :: _, [], _, _, _, _, h, _ => by simp at h
 | p :: P, w :: vs, 0, m, nd, h1, h2, hk => by
  simp at h1 h2; subst h1; subst h2
  show bindL kindOf ((p, w) :: P.zip vs) m p = _
  unfold bindL
  rw [OL fun v hv => (List.nodup_cons.mp nd).1 (List.of_mem_zip hv).1, if_pos hk]
  simp
 | p :: P, w :: vs, i + 1, m, nd, h1, h2, hk => by
  show bindL kindOf ((p, w) :: P.zip vs) m x = _
  unfold bindL
  exact NS (i := i) (List.nodup_cons.mp nd).2 (by simpa using h1) (by simpa using h2) hk
theorem OA {kindOf : Str → Option NameKind} {x : Str} {v : Value} : ∀ {P : List Str} {vs : List Value} {i : Nat} {m : Str → Option Value}, P.Nodup → P[i]? = some x → vs[i]? = some v → kindOf x ≠ some .local →
  bindC kindOf (P.zip vs) m x = some v
 | [], _, _, _, _, h, _, _ => by simp at h
 | _ :: _, [], _, _, _, _, h, _ => by simp at h
 | p :: P, w :: vs, 0, m, nd, h1, h2, hk => by
  simp at h1 h2; subst h1; subst h2
  show bindC kindOf ((p, w) :: P.zip vs) m p = _
  unfold bindC
  rw [OJ fun v hv => (List.nodup_cons.mp nd).1 (List.of_mem_zip hv).1, if_neg hk]
  simp
 | p :: P, w :: vs, i + 1, m, nd, h1, h2, hk => by
  show bindC kindOf ((p, w) :: P.zip vs) m x = _
  unfold bindC
  exact OA (i := i) (List.nodup_cons.mp nd).2 (by simpa using h1) (by simpa using h2) hk
def start (N : List Str) (vs : List V) : St := vs.map some ++ List.replicate (N.length - vs.length) none
def EI (CX : CXT) (P : Program) (w : World) (K : PySem.W.Frag) (mg : Str → Option Value) (base : Heap) (N : List Str) (qual : Str) (scope : Scope) (f : Addr) (cd : Value) (A : Around) (outer : List Env) (s : Shared) (H : Hp) (E : XK) : Cx where
 prog := P
 w := w
 K := K
 mg := mg
 base := base
 A := A.deeper (envOfC qual scope s.heap.objs.size f cd)
 N := N
 s₀ := s
 H₀ := H
 env := envOfC qual scope s.heap.objs.size f cd
 outer := outer
 stack := envOfC qual scope s.heap.objs.size f cd :: outer
 ex := []
 calm := true
 fn := fun _ => true
 pn := []
 xe := fun e s' => wpAny (model P w) (A.deeper (envOfC qual scope s.heap.objs.size f cd)) (leaving (envOfC qual scope s.heap.objs.size f cd) e) (fun _ s'' => CX outer H s E e s'') (fun e' s'' => CX outer H s E e' s'') s'
theorem TD {sc : Scope} {n : Nat} {x : Str} (h : sc.names.lookup x = some .cell) : ∃ c, (cellsFrom n sc.names []).lookup x = some c := by
 have q := PySem.W.cellsFrom_some sc.names n [] (.inl h)
 exact Option.isSome_iff_exists.mp q
theorem XV {CX : CXT} {P : Program} {w : World} {K : PySem.W.Frag} {mg : Str → Option Value} {base : Heap} {N ps : List Str} {qual : Str} {scope : Scope} {f : Addr} {cd : Value} {A : Around} {outer : List Env} {s s1 : Shared} {H : Hp} {E : XK} {us : List Value} {vs : List V}
  (S : AR N ps scope) (hd : A.handled = none) (e0 : UK P w K mg base A outer s H) (hl : vs.length = ps.length) (r : AN vs us)
  (x : InCallC s s.heap.objs.size (bindL (envOfC qual scope s.heap.objs.size f cd).kindOf (ps.zip us) fun _ => none) (cellsFrom (s.heap.objs.size + 1) scope.names []) (bindC (envOfC qual scope s.heap.objs.size f cd).kindOf (ps.zip us) fun _ => none) s1) :
  Inv (EI CX P w K mg base N qual scope f cd A outer s H E) [] (start N vs) H s1 := by
 have hpl : ps.length ≤ N.length := by have := congrArg List.length S.pre; rw [List.length_take] at this; omega
 obtain ⟨h1, tk, rfl, hk⟩ := x.done
 have noA : ∀ b : Addr, b ∉ (EI CX P w K mg base N qual scope f cd A outer s H E).ex := fun b z => absurd (show b ∈ ([] : List Addr) from z) (by simp)
 refine ⟨⟨e0.mod, S.kind, rfl, rfl, Nat.le_refl _, fun y z c h1 h2 => ?_, fun y hy => ?_, fun y c _ h => ?_, fun _ => hd, Around.frames_deeper e0.frames, .inr ⟨rfl, rfl⟩, fun b z => absurd z (noA b), e0.bs, e0.bsz, fun b _ _ => noA b, fun b z => absurd z (noA b), e0.funs, e0.frf⟩,
  rfl, e0.bare, Un.kept hk, ⟨_, x.toInCall.ns, fun i y v h1 h2 h3 => ?_⟩, fun y c h => ⟨_, x.cell y c h⟩, e0.hok.fresh (Nat.le_refl _), fun y c h => ?_, fun p hp => absurd (show p ∈ ([] : List (Addr × Obj)) from hp) (by simp), e0.hok.kept hk, ?_⟩
 ·exact name_of_addr x.apart (PySem.mem_of_lookup h1) (PySem.mem_of_lookup h2)
 ·have hy : scope.names.lookup y = some .cell ∨ scope.names.lookup y = some .free := hy
  rcases hy with hy | hy
  ·exact TD hy
  ·exact absurd rfl (S.nofree _ (PySem.mem_of_lookup hy))
 ·exact Nat.le_of_lt (x.above y c (PySem.mem_of_lookup h))
 ·have hi : i < vs.length := by
   unfold start at h2
   by_cases hi : i < vs.length
   ·exact hi
   ·rw [List.getElem?_append_right (by simpa using hi)] at h2
    rw [List.getElem?_replicate] at h2
    split at h2 <;> cases h2
  have ha : vs[i]? = some v := by
   unfold start at h2
   rw [List.getElem?_append_left (by simpa using hi), List.getElem?_map] at h2
   cases e : vs[i]? with
   | none => rw [e] at h2; cases h2
   | some a => rw [e] at h2; cases h2; rfl
  obtain ⟨u, hu, rv⟩ := r.get ha
  have hp : ps[i]? = some y := by
   rw [← S.pre, List.getElem?_take_of_lt (by omega)]; exact h1
  have ndP : ps.Nodup := by rw [← S.pre]; exact S.nd.sublist (List.take_sublist _ _)
  refine ⟨u, rv, ?_⟩
  rcases S.par y (List.mem_of_getElem? hp) with k | k
  ·exact .inl ⟨k, NS ndP hp hu k⟩
  ·obtain ⟨c, e⟩ := TD (n := s.heap.objs.size + 1) k
   refine .inr ⟨.inl k, c, e, ?_⟩
   have q := x.cell y c e
   rw [OA ndP hp hu (by show scope.names.lookup y ≠ _; rw [k]; decide)] at q
   exact q
 ·exact e0.hok.fresh (Nat.le_of_lt (x.above y c (PySem.mem_of_lookup h)))
 ·unfold start
  show _ = N.length
  rw [List.length_append, List.length_map, List.length_replicate]
  omega
theorem iH {CX : CXT} {P : Program} {w : World} {K : PySem.W.Frag} {mg : Str → Option Value} {base : Heap} {k : Nat} {f : Addr} {name qual : Str} {params : Arguments} {body : List Stmt} {scope : Scope} {dV kV doc pm cdv ct oc : Value} {an od : Option Addr}
  {osl : Array (Option Value)} {N ps : List Str} {sp : Sp} (lk : K.lookup f = some ⟨oc, od, .func (PySem.W.fnOf name qual params body scope dV kV doc pm an cdv ct), osl⟩) (hcd : PySem.W.codeIn K cdv qual = true) (S : AR N ps scope)
  (len : ∀ vs H Q E, sp vs H Q E → vs.length = ps.length)
  (hbody : ∀ (A : Around) (outer : List Env) (s : Shared) (H : Hp) (vs : List V) (Q : VK) (E : XK), EE k (A.deeper (envOfC qual scope s.heap.objs.size f cdv)) → sp vs H Q E →
   ∃ t, PSs (EI CX P w K mg base N qual scope f cdv A outer s H E) body t ∧ t { nx := fun _ H' => Q .non H', rt := Q } (start N vs) H) :
  BJ P w K mg base CX (k + 1) f (PySem.W.fnOf name qual params body scope dV kV doc pm an cdv ct) ps sp := by
 refine ⟨len, fun A outer s H args us vs Q E hr e0 hb r hsp => ?_⟩
 have hl := len _ _ _ _ hsp
 have KX : K.In s.heap := e0.mod.kin.keeps fun b o e => (e0.bs b o e).1
 have lim : s.heap.NoLimit := e0.mod.nolimit.keeps fun b o e => (e0.bs b o e).1
 have hkind : ∀ y ∈ ps.zip us, scope.names.lookup y.1 = some .local ∨ (scope.names.lookup y.1 = some .cell ∧ ((cellsFrom (s.heap.objs.size + 1) scope.names []).lookup y.1).isSome = true) := fun ⟨n, v⟩ hy => by
  rcases S.par n (List.of_mem_zip hy).1 with q | q
  ·exact .inl q
  ·exact .inr ⟨q, PySem.W.cellsFrom_some _ _ _ (.inl q)⟩
 refine codeAny_call_function hr.depth (KX _ _ lk) rfl S.co S.gen rfl (PySem.W.codeRec_of KX hcd) (hb _ _ _ _ ?_)
 refine wpAny_newFunctionEnv_cells S.kind hkind fun env he s1 x => ?_
 subst he
 refine ⟨lim.keeps x.toInCall.keep, codeAny_func ?_⟩
 obtain ⟨t, ht, hq⟩ := hbody A outer s H vs Q E (hr.deeper _) hsp
 have I : Inv (EI CX P w K mg base N qual scope f cdv A outer s H E) [] (start N vs) H s1 := XV S hr.hd e0 hl r x
 refine wpAny_mono (ht [] s1 (start N vs) H _ I hq) (fun fl s' hs => ?_) fun e s' hs => hs
 have fin : ∀ {σ' : St} {H' : Hp} {v : V} {u : Value}, Inv (EI CX P w K mg base N qual scope f cdv A outer s H E) [] σ' H' s' → AX v u → Q v H' → CE outer P w H s Q u s' :=
  fun {σ' H' v u} J rv q => ⟨v, H', J.os, J.bare, J.base, J.hok, rv, q⟩
 cases fl with
 | ret u =>
  obtain ⟨v, σ', H', J, rv, q⟩ := hs
  exact fin J rv q
 | next =>
  obtain ⟨σ', H', J, q⟩ := hs
  exact fin (v := V.non) (u := Value.none) J rfl q
 | brk =>
  obtain ⟨_, _, _, q⟩ := hs
  exact False.elim q
 | cont =>
  obtain ⟨_, _, _, q⟩ := hs
  exact False.elim q
section
variable {X : Cx} {x : Str} {p pos : Pos} {e : Expr} {es : List Expr} {t : TA} {id T : String} {r : List V → Hp → VK → Prop}
def tCB (r : List V → Hp → VK → Prop) (t : TA) : TE := fun σ H Q => t σ H fun vs H1 => r vs H1 Q
theorem BR (hc : DX X (.builtin id) r) (hg : Gl X x) (hm : X.mg x = none) (hv : bootBuiltins x = some (.builtin id)) (ha : PA X (e :: es) t) (hn : x ≠ "__name__" := by decide) (hdb : (x == ("__debug__" : Str)) = false := by decide)
  (he : starEach (e :: es) X.env = (false, eval e X.env) :: starEach es X.env := by rfl) (hpl : (backTo pos (starEach es X.env)).any (·.1) = false := by rfl) : PE X (.Call (.Name x p) (e :: es) [] pos) (tCB r t) := by
 intro pins s σ H Q I h
 refine wpAny_Call_Name_kw (IS I hg hm hv ?_ hn hdb)
 exact PyProof.Rows.callWith_builtin1 (thn (ha pos pins s σ H _ I h) fun us s1 ⟨vs, H1, I1, r1, q1⟩ => hc pins s1 σ H1 vs us Q I1 r1 q1) he hpl
theorem JX (hc : DX X (.type T) r) (hg : Gl X x) (hm : X.mg x = none) (hv : bootBuiltins x = some (.type T)) (ha : PA X (e :: es) t) (hn : x ≠ "__name__" := by decide) (hdb : (x == ("__debug__" : Str)) = false := by decide)
  (he : starEach (e :: es) X.env = (false, eval e X.env) :: starEach es X.env := by rfl) (hpl : (backTo pos (starEach es X.env)).any (·.1) = false := by rfl) : PE X (.Call (.Name x p) (e :: es) [] pos) (tCB r t) := by
 intro pins s σ H Q I h
 refine wpAny_Call_Name_kw (IS I hg hm hv ?_ hn hdb)
 exact PyProof.Rows.callWith_type1 (thn (ha pos pins s σ H _ I h) fun us s1 ⟨vs, H1, I1, r1, q1⟩ => hc pins s1 σ H1 vs us Q I1 r1 q1) he hpl
end
end L2
namespace HT
open PySem PyProof.Rows
section
open PySem.SeqAt
open PySem.AutoSeq1 (wpAny_loadPart')
open PySem.MeetsSeq PySem.MeetsSeq2 PySem.MeetsSeq3
end
section
variable {prog : Program} {w : World} {A : Around} {E : Value → Shared → Prop} {s : Shared}
theorem cat_tup {t b : Addr} {vs ws : List Value} {Q : Value → Shared → Prop} (ht : IsTup s.heap t vs.toArray) (hb : IsTup s.heap b ws.toArray) (hv : vs ≠ [])
  (h1 : ws = [] → Q (.ref t) s) (h2 : ws ≠ [] → Q (.ref s.heap.objs.size) { s with heap := s.heap.push { cls := .type "tuple", data := .seq (vs ++ ws).toArray } })
  (hsz : vs.length + ws.length ≤ sizeLine) : wpAny (model prog w) A (binaryOp .Add (.ref t) (.ref b)) Q E s := by
 obtain ⟨⟨cls, dd, data, sl⟩, ho, hc, n, hd⟩ := id ht
 obtain ⟨⟨cls2, dd2, data2, sl2⟩, ho2, hc2, n2, hd2⟩ := id hb
 simp only at hc hd hc2 hd2
 subst hc hd hc2 hd2
 have e : vs.toArray ++ ws.toArray = (vs ++ ws).toArray := by simp
 by_cases hw : ws = []
 ·exact concat_meets ⟨_, ho, rfl⟩ ⟨_, ho2, rfl⟩ noFill_tuple_add seq_tuple_add PySem.F.slot_tuple_add PySem.F.entry_tuple_add (PySem.F.args_tuple_add_2 _ _)
   (tuple_addW1 t b vs.toArray ws.toArray n n2 dd dd2 sl sl2 (by simpa using hv) (by simp [hw])) ⟨ho, ho2, h1 hw⟩
 ·refine concat_meets ⟨_, ho, rfl⟩ ⟨_, ho2, rfl⟩ noFill_tuple_add seq_tuple_add PySem.F.slot_tuple_add PySem.F.entry_tuple_add (PySem.F.args_tuple_add_2 _ _)
   (tuple_addW2 t b vs.toArray ws.toArray n n2 dd dd2 sl sl2 (by simpa using hv) (by simpa using hw) (by rw [List.size_toArray, List.size_toArray]; exact hsz)) ⟨ho, ho2, ?_⟩
  rw [e]
  exact h2 hw
def sIx (n d : Nat) : Option Int → Nat
 | none => d
 | some v => if v < 0 then (v + (n : Int)).toNat else min v.toNat n
theorem sIx_none (n d : Nat) : sIx n d none = d := rfl
theorem sIx_nat (n d k : Nat) : sIx n d (some (k : Int)) = min k n := by
 show (if (k : Int) < 0 then ((k : Int) + (n : Int)).toNat else min (k : Int).toNat n) = min k n
 rw [if_neg (by omega), Int.toNat_natCast]
end
end HT
namespace L2
open PySem PySem.Spec PyProof.Rows
abbrev TO := St → Hp → (Option Int → Hp → Prop) → Prop
def PO (X : Cx) (e : Option Expr) (t : TO) : Prop :=
 ∀ (pins : List (Addr × Obj)) (s : Shared) (σ : St) (H : Hp) (Q : Option Int → Hp → Prop), Inv X pins σ H s → t σ H Q →
  wpAny (model X.prog X.w) X.A (evalPart e X.env) (fun u s' => ∃ o H', Inv X pins σ H' s' ∧ IsPart u o ∧ Q o H') X.xe s
def JN : TO := fun _ H Q => Q none H
def SW (t : TE) : TO := fun σ H Q => t σ H fun x H1 => ∃ i, x = .int i ∧ Q (some i) H1
section
variable {X : Cx} {e : Expr} {te : TE} {lo hi : Option Expr} {tl th : TO} {pos p2 : Pos}
theorem eT : PO X none JN := by
 intro pins s σ H Q I h
 rw [evalPart_none]
 exact wpAny_pure ⟨none, H, I, .none, h⟩
theorem gW (h : PE X e te) : PO X (some e) (SW te) := by
 intro pins s σ H Q I hw
 rw [evalPart_some]
 refine thn (h pins s σ H _ I hw) fun u s1 ⟨x, H1, I1, r1, q1⟩ => ?_
 obtain ⟨i, rfl, q⟩ := q1
 obtain ⟨t, rfl⟩ := r1
 exact ⟨some i, H1, I1, .int i t, q⟩
def SlR (X : Cx) (r : V → Option Int → Option Int → Hp → VK → Prop) : Prop :=
 ∀ (pins : List (Addr × Obj)) (s : Shared) (σ : St) (H : Hp) (x : V) (v vl vu : Value) (lo hi : Option Int) (sl : Addr) (Q : VK), Inv X pins σ H s → AX x v → s.heap.IsSliceOf sl vl vu .none → IsPart vl lo → IsPart vu hi → r x lo hi H Q →
  ∃ T id, typeLookup (.type T) "__getitem__" = pure (some (.builtin id)) ∧ s.TypeIs v T ∧ wpAny (model X.prog X.w) X.A (getItem v (.ref sl)) (EP X pins σ Q) X.xe s
def tSl (r : V → Option Int → Option Int → Hp → VK → Prop) (te : TE) (tl th : TO) : TE := fun σ H Q => te σ H fun x H1 => tl σ H1 fun l H2 => th σ H2 fun u H3 => r x l u H3 Q
theorem dN {r : V → Option Int → Option Int → Hp → VK → Prop} (hr : SlR X r) (he : PE X e te) (hl : PO X lo tl) (hu : PO X hi th) : PE X (.Subscript e (.Slice lo hi none p2) pos) (tSl r te tl th) := by
 intro pins s σ H Q I h
 refine Subscript_ (thn (he pins s σ H _ I h) fun v s1 ⟨x, H1, I1, r1, q1⟩ => ?_)
 refine wpAny_Slice (thn (hl pins s1 σ H1 _ I1 q1) fun vl s2 ⟨l, H2, I2, pl, q2⟩ => thn (hu pins s2 σ H2 _ I2 q2) fun vu s3 ⟨u, H3, I3, pu, q3⟩ => ?_)
 rw [evalPart_none]
 refine wpAny_pure ?_
 have I4 : Inv X pins σ H3 { s3 with heap := s3.heap.push { cls := .type "slice", data := .fields #[vl, vu, .none] } } := I3.kept (t' := s3.toks) fun b ob q => Heap.get?_push_of_some _ q
 obtain ⟨T, id, hT, ht, hg⟩ := hr pins { s3 with heap := s3.heap.push { cls := .type "slice", data := .fields #[vl, vu, .none] } } σ H3 x v vl vu l u s3.heap.objs.size Q I4 r1 (Heap.IsSliceOf.new ..) pl pu q3
 show wpAny (model X.prog X.w) X.A (subscriptTail e (.Slice lo hi none p2) v (.ref s3.heap.objs.size)) (EP X pins σ Q) X.xe { s3 with heap := s3.heap.push { cls := .type "slice", data := .fields #[vl, vu, .none] } }
 exact tail_any (ops := [.ref s3.heap.objs.size, v]) ht hT hg (by with_unfolding_all rfl)
def TK (xs : List V) (lo hi : Option Int) : List V := (xs.drop (HT.sIx xs.length 0 lo)).take (HT.sIx xs.length xs.length hi - HT.sIx xs.length 0 lo)
theorem RN (xs : List V) (lo hi : Option Int) : (TK xs lo hi).length ≤ xs.length := by
 unfold TK
 rw [List.length_take, List.length_drop]
 omega
def QX (K : PySem.W.Frag) : R2 := fun x y H Q => ∃ a b xs ys, x = .ref a ∧ y = .ref b ∧ SqT K H a xs ∧ SqT K H b ys ∧ xs ≠ [] ∧ xs.length + ys.length ≤ sizeLine ∧
 (ys = [] → Q (.ref a) H) ∧ (ys ≠ [] → ∀ p, H p = none → Q (.ref p) (upd H p (.tup (xs ++ ys))))
theorem AN.nil_iff {xs : List V} {us : List Value} (r : AN xs us) : us = [] ↔ xs = [] := by
 cases r with
 | nil => simp
 | cons _ _ => simp
theorem fZ : OpR X (binaryOp .Add) (QX X.K) := by
 intro pins s σ H x y v u Q I rx ry h
 obtain ⟨a, b, xs, ys, rfl, rfl, ha, hb, hx, hz, q1, q2⟩ := h
 cases rx
 cases ry
 obtain ⟨its, r1, p1, _⟩ := I.tuple ha
 obtain ⟨its2, r2, p2, _⟩ := I.tuple hb
 refine HT.cat_tup p1 p2 (fun z => hx (r1.nil_iff.mp z)) (fun z => ⟨.ref a, H, I, rfl, q1 (r2.nil_iff.mp z)⟩) (fun z => ?_) (by rw [← r1.length, ← r2.length]; exact hz)
 refine ⟨.ref s.heap.objs.size, _, I.laid (t' := s.toks) (o := .tup (xs ++ ys)) (fun b ob q => Heap.get?_push_of_some _ q) (Nat.le_refl _) ?_, rfl, q2 (fun w => z (r2.nil_iff.mpr w)) _ (I.hok.fresh (Nat.le_refl _))⟩
 exact ⟨by rw [List.length_append]; exact hz, _, r1.append r2, IsTup.new _ _⟩
end
def ixN (n : Nat) (i : Int) : Option Nat := if 0 ≤ i then (if i < n then some i.toNat else none) else if -(n : Int) ≤ i then some (i + n).toNat else none
def atI {α : Type} (xs : List α) (i : Int) : Option α := (ixN xs.length i).bind fun j => xs[j]?
theorem hJ {n : Nat} {i : Int} {j : Nat} (h : ixN n i = some j) : seqIndex? i n = some j ∧ j < n ∧ -(n : Int) ≤ i ∧ i < n := by
 unfold ixN at h
 by_cases h0 : 0 ≤ i
 ·rw [if_pos h0] at h
  by_cases h1 : i < n
  ·rw [if_pos h1] at h
   have e : i.toNat = j := Option.some.inj h
   exact ⟨by rw [seqIndex_of h0 h1, e], by omega, by omega, h1⟩
  ·rw [if_neg h1] at h; cases h
 ·rw [if_neg h0] at h
  by_cases h1 : -(n : Int) ≤ i
  ·rw [if_pos h1] at h
   have e : (i + n).toNat = j := Option.some.inj h
   exact ⟨by rw [seqIndex_neg (by omega) h1, e], by omega, h1, by omega⟩
  ·rw [if_neg h1] at h; cases h
theorem WJ {α : Type} {xs : List α} {i : Int} {v : α} (h : atI xs i = some v) : ∃ j, seqIndex? i xs.length = some j ∧ xs[j]? = some v ∧ j < xs.length ∧ -(xs.length : Int) ≤ i ∧ i < xs.length := by
 unfold atI at h
 cases e : ixN xs.length i with
 | none => rw [e] at h; cases h
 | some j =>
  rw [e] at h
  obtain ⟨h1, h2, h3, h4⟩ := hJ e
  exact ⟨j, h1, h, h2, h3, h4⟩
theorem HY {α : Type} {xs : List α} {j : Nat} {v : α} (h : xs[j]? = some v) : atI xs (j : Int) = some v := by
 have hj : j < xs.length := (List.getElem?_eq_some_iff.mp h).1
 have e : ixN xs.length (j : Int) = some j := by
  unfold ixN
  rw [if_pos (by omega), if_pos (by omega)]; simp
 unfold atI; rw [e]; exact h
theorem TC {α : Type} (xs : List α) (v : α) : atI (xs ++ [v]) (-1) = some v := by
 have hl : (xs ++ [v]).length = xs.length + 1 := by simp
 have e : ixN (xs ++ [v]).length (-1) = some xs.length := by
  unfold ixN
  rw [hl, if_neg (by decide), if_pos (by omega)]
  congr 1
  omega
 unfold atI
 rw [e]
 show (xs ++ [v])[xs.length]? = some v
 simp
def fX (b : Expr) : Prop := ∀ o i, subscripted b false o i = operate [o, i] (getItem o i)
def IxR (X : Cx) (r : R2) : Prop :=
 ∀ (value slice : Expr) (pins : List (Addr × Obj)) (s : Shared) (σ : St) (H : Hp) (x y : V) (v u : Value) (Q : VK), Inv X pins σ H s → AX x v → AX y u → r x y H Q →
  subscripted slice false v u = operate [v, u] (getItem v u) → wpAny (model X.prog X.w) X.A (subscriptTail value slice v u) (EP X pins σ Q) X.xe s
def MtR (X : Cx) (id : String) (r : V → List V → Hp → VK → Prop) : Prop :=
 ∀ (pins : List (Addr × Obj)) (s : Shared) (σ : St) (H : Hp) (x : V) (xs : List V) (v : Value) (us : List Value) (Q : VK), Inv X pins σ H s → AX x v → AN xs us → r x xs H Q →
  wpAny (model X.prog X.w) X.A (call (.builtin id) (v :: us)) (EP X pins σ Q) X.xe s
section
variable {X : Cx} {a b : Expr} {ta tb : TE} {pos : Pos}
theorem CD {r : R2} (hr : IxR X r) (ha : PE X a ta) (hb : PE X b tb) (hs : fX b) : PE X (.Subscript a b pos) (tOp r ta tb) := by
 intro pins s σ H Q I h
 exact Subscript_ (kY ha hb I h fun v u s2 x y H2 I2 rx ry q => hr a b pins s2 σ H2 x y v u Q I2 rx ry q (hs _ _))
def ZJ (K : PySem.W.Frag) : R2 := fun x y H Q => ∃ p xs i v, x = .ref p ∧ y = .int i ∧ SqL K H p xs ∧ atI xs i = some v ∧ Q v H
def cR (K : PySem.W.Frag) : R2 := fun x y H Q => ∃ p xs i v, x = .ref p ∧ y = .int i ∧ SqT K H p xs ∧ atI xs i = some v ∧ Q v H
theorem gT : IxR X (ZJ X.K) := by
 intro value slice pins s σ H x y v u Q I rx ry h hs
 obtain ⟨p, xs, i, z, rfl, rfl, hq, he, q⟩ := h
 cases rx
 obtain ⟨t, rfl⟩ := ry
 obtain ⟨its, r, pl, hz⟩ := I.list hq
 obtain ⟨j, h1, h2, h3, h4, h5⟩ := WJ he
 obtain ⟨w, ew, rw'⟩ := r.get h2
 have hl := r.length
 have hn := PZ
 have fin : EP X pins σ Q w s := ⟨z, H, I, rw', q⟩
 by_cases h0 : 0 ≤ i
 ·have hj : i.toNat = j := by
   rw [seqIndex_of h0 h5] at h1
   exact Option.some.inj h1
  exact item_listR pl.isList h0 (by omega) (by rw [hj]; simpa using ew) fin hs
 ·have hj : (i + (its.toArray.size : Int)).toNat = j := by
   rw [seqIndex_neg (by omega) h4] at h1
   rw [List.size_toArray, ← hl]
   exact Option.some.inj h1
  exact subscriptTail_builtinR (x := w) pl.isList.typeIs slot_list_getitem.lookup
   (wpAny_getItem_list_neg (Q := fun r s' => r = w ∧ EP X pins σ Q r s') pl.isList (by omega) (by rw [List.size_toArray] <;> omega) (by omega) (by rw [hj]; simpa using ew) ⟨rfl, fin⟩) hs
theorem kK : IxR X (cR X.K) := by
 intro value slice pins s σ H x y v u Q I rx ry h hs
 obtain ⟨p, xs, i, z, rfl, rfl, hq, he, q⟩ := h
 cases rx
 obtain ⟨t, rfl⟩ := ry
 obtain ⟨its, r, pl, hz⟩ := I.tuple hq
 obtain ⟨j, h1, h2, h3, h4, h5⟩ := WJ he
 obtain ⟨w, ew, rw'⟩ := r.get h2
 have hl := r.length
 have hn := PZ
 have fin : EP X pins σ Q w s := ⟨z, H, I, rw', q⟩
 exact subscriptTail_builtinR (x := w) pl.typeIs slot_tuple_getitem.lookup
  (getItem_tuple (j := j) (Q := fun r s' => r = w ∧ EP X pins σ Q r s') pl (by omega) (by omega) (by rw [List.size_toArray, ← hl]; exact h1) (by simpa using ew) ⟨rfl, fin⟩) hs
theorem Inv.lst {pins : List (Addr × Obj)} {σ : St} {H : Hp} {s : Shared} {p : Addr} {xs : List V} (I : Inv X pins σ H s) (h : H p = some (.lst xs)) :
  ∃ (its : List Value) (n : Nat), AN xs its ∧ s.heap.get? p = some { cls := .type "list", data := .seq its.toArray n } ∧ xs.length ≤ sizeLine := by
 obtain ⟨z, its, n, r, e⟩ := I.hok p _ h
 exact ⟨its, n, r, e, z⟩
theorem PL (lo hi : Option Int) (n : Nat) : (sliceBounds lo hi none n).1 = ((HT.sIx n 0 lo : Nat) : Int) ∧ (sliceBounds lo hi none n).2.1 = ((HT.sIx n n hi : Nat) : Int) ∧ (sliceBounds lo hi none n).2.2 = 1 := by
 refine ⟨?_, ?_, rfl⟩
 ·cases lo with
  | none => simp [sliceBounds, HT.sIx]
  | some i =>
   simp only [sliceBounds, HT.sIx, Option.getD_none, show (1 : Int) > 0 by decide, if_true]
   by_cases h : i < 0
   ·simp only [h, if_true] <;> omega
   ·simp only [h, if_false] <;> omega
 ·cases hi with
  | none => simp [sliceBounds, HT.sIx]
  | some i =>
   simp only [sliceBounds, HT.sIx, Option.getD_none, show (1 : Int) > 0 by decide, if_true]
   by_cases h : i < 0
   ·simp only [h, if_true] <;> omega
   ·simp only [h, if_false] <;> omega
theorem NM (its : List Value) (lo hi : Option Int) : slicePick its.toArray lo hi none = ((its.drop (HT.sIx its.length 0 lo)).take (HT.sIx its.length its.length hi - HT.sIx its.length 0 lo)).toArray := by
 obtain ⟨h1, h2, h3⟩ := PL lo hi its.toArray.size
 unfold slicePick
 rw [h1, h2, h3]
 simp only [sliceRange_one, pick_run, List.size_toArray] <;> rfl
def bA (K : PySem.W.Frag) : V → Option Int → Option Int → Hp → VK → Prop := fun x lo hi H Q => ∃ a xs, x = .ref a ∧ SqL K H a xs ∧ ∀ p, H p = none → Q (.ref p) (upd H p (.lst (TK xs lo hi)))
theorem eO : SlR X (bA X.K) := by
 intro pins s σ H x v vl vu lo hi sl Q I rx hs pl pu h
 obtain ⟨a, xs, rfl, hx, q⟩ := h
 cases rx
 obtain ⟨its, r, ht, hz⟩ := I.list hx
 have hlen := r.length
 refine ⟨"list", _, slot_list_getitem.lookup, ht.isList.typeIs, ?_⟩
 refine wpAny_getItem_list_slice ht.isList hs pl pu .none (by simp) ?_ (by rw [List.size_toArray] <;> omega)
 rw [NM, ← hlen]
 refine ⟨.ref s.heap.objs.size, _, I.laid (t' := s.toks) (o := .lst (TK xs lo hi)) (fun b ob q => Heap.get?_push_of_some _ q) (Nat.le_refl _) ?_, rfl, q _ (I.hok.fresh (Nat.le_refl _))⟩
 exact ⟨Nat.le_trans (RN xs lo hi) hz, _, 0, (r.drop (HT.sIx xs.length 0 lo)).take (HT.sIx xs.length xs.length hi - HT.sIx xs.length 0 lo), Heap.get?_push_size _ rfl⟩
def KM : V → Bool
 | .non => true
 | .bl _ => true
 | .int _ => true
 | .str _ => true
 | _ => false
def eqV : V → V → Bool
 | .non, .non => true
 | .bl a, .bl b => a == b
 | .bl a, .int b => (if a then 1 else 0) == b
 | .int a, .bl b => a == (if b then 1 else 0)
 | .int a, .int b => a == b
 | .str a, .str b => a == b
 | _, _ => false
theorem kN {A : Around} {s : Shared} {y x : V} {u v : Value} (ry : AX y u) (rx : AX x v) (fy : KM y = true) (fx : KM x = true) : SeqAt.EqAt A s u v (eqV y x) := by
 cases y with
 | non =>
  cases ry
  cases x with
  | non => cases rx; exact SeqAt.EqAt.same _
  | bl b => cases rx; exact SeqAt.EqAt.none_bool b
  | int b => obtain ⟨t, rfl⟩ := rx; exact SeqAt.EqAt.none_int b t
  | str b => obtain ⟨t, rfl⟩ := rx; exact SeqAt.EqAt.none_str b t
  | _ => exact absurd (show false = true from fx) Bool.false_ne_true
 | bl a =>
  cases ry
  cases x with
  | non => cases rx; exact SeqAt.EqAt.bool_none a
  | bl b => cases rx; exact SeqAt.EqAt.bool_bool a b
  | int b => obtain ⟨t, rfl⟩ := rx; exact SeqAt.EqAt.bool_int a b t
  | str b => obtain ⟨t, rfl⟩ := rx; exact SeqAt.EqAt.bool_str a b t
  | _ => exact absurd (show false = true from fx) Bool.false_ne_true
 | int a =>
  obtain ⟨t', rfl⟩ := ry
  cases x with
  | non => cases rx; exact SeqAt.EqAt.int_none a t'
  | bl b => cases rx; exact SeqAt.EqAt.int_bool a t' b
  | int b => obtain ⟨t, rfl⟩ := rx; exact SeqAt.EqAt.int_int a t' b t
  | str b => obtain ⟨t, rfl⟩ := rx; exact SeqAt.EqAt.int_str a t' b t
  | _ => exact absurd (show false = true from fx) Bool.false_ne_true
 | str a =>
  obtain ⟨t', rfl⟩ := ry
  cases x with
  | non => cases rx; exact SeqAt.EqAt.str_none a t'
  | bl b => cases rx; exact SeqAt.EqAt.str_bool a t' b
  | int b => obtain ⟨t, rfl⟩ := rx; exact SeqAt.EqAt.str_int a t' b t
  | str b => obtain ⟨t, rfl⟩ := rx; exact SeqAt.EqAt.str_str a t' b t
  | _ => exact absurd (show false = true from fx) Bool.false_ne_true
 | _ => exact absurd (show false = true from fy) Bool.false_ne_true
def eqU (x : V) (u : Value) : Bool := match u with
 | .none => eqV .non x
 | .bool b => eqV (.bl b) x
 | .int i _ => eqV (.int i) x
 | .str z _ => eqV (.str z) x
 | _ => false
theorem cG {x y : V} {u : Value} (r : AX y u) (f : KM y = true) : eqU x u = eqV y x := by
 cases y with
 | non => cases r; rfl
 | bl b => cases r; rfl
 | int i => obtain ⟨t, rfl⟩ := r; rfl
 | str z => obtain ⟨t, rfl⟩ := r; rfl
 | _ => exact absurd (show false = true from f) Bool.false_ne_true
theorem QG {x : V} : ∀ {xs : List V} {us : List Value}, AN xs us → xs.all KM = true → us.any (eqU x) = xs.any fun y => eqV y x
 | _, _, .nil, _ => rfl
 | y :: xs, u :: us, .cons r t, f => by
  rw [List.all_cons, Bool.and_eq_true] at f
  rw [List.any_cons, List.any_cons, cG r f.1, QG t f.2]
theorem MJ {A : Around} {s : Shared} {x : V} {v : Value} (rx : AX x v) (fx : KM x = true) : ∀ {xs : List V} {us : List Value}, AN xs us → xs.all KM = true → ∀ u ∈ us, SeqAt.EqAt A s u v (eqU x u)
 | _, _, .nil, _ => fun u hu => by cases hu
 | y :: xs, u :: us, .cons r t, f => fun u' hu => by
  rw [List.all_cons, Bool.and_eq_true] at f
  rcases List.mem_cons.mp hu with rfl | hu
  ·rw [cG r f.1]; exact kN r rx f.1 fx
  ·exact MJ rx fx t f.2 u' hu
def inV (x : V) (xs : List V) : Bool := xs.any fun y => eqV y x
def rIn (K : PySem.W.Frag) (neg : Bool) : R2 := fun x y H Q => ∃ p xs, y = .ref p ∧ (SqL K H p xs ∨ SqT K H p xs) ∧ KM x = true ∧ xs.all KM = true ∧ Q (.bl (if neg then !inV x xs else inV x xs)) H
theorem YM : OpR X (compareOp .In) (rIn X.K false) := by
 intro pins s σ H x y v u Q I rx ry h
 obtain ⟨p, xs, rfl, hq, fx, fs, q⟩ := h
 cases ry
 rcases hq with hq | hq
 ·obtain ⟨its, r, pl, hz⟩ := I.list hq
  refine SeqAt.in_listAt (eqU x) pl.isList (fun w hw => MJ rx fx r fs w (by simpa using hw)) ⟨.bl _, H, I, rfl, ?_⟩
  rw [show its.toArray.any (eqU x) = its.any (eqU x) by simp, QG r fs]
  exact q
 ·obtain ⟨its, r, pl, hz⟩ := I.tuple hq
  refine SeqAt.in_tupleAt (eqU x) pl (fun w hw => MJ rx fx r fs w (by simpa using hw)) ⟨.bl _, H, I, rfl, ?_⟩
  rw [show its.toArray.any (eqU x) = its.any (eqU x) by simp, QG r fs]
  exact q
theorem QQ : DX X (.builtin "len") (fun xs H Q => ∃ p ys, xs = [.ref p] ∧ (SqL X.K H p ys ∨ SqT X.K H p ys) ∧ Q (.int ys.length) H) := by
 intro pins s σ H xs us Q I r h
 obtain ⟨p, ys, rfl, hq, q⟩ := h
 obtain ⟨u, rfl, rx⟩ := WL r
 cases rx
 have hn := PZ
 rcases hq with hq | hq
 ·obtain ⟨its, r', pl, hz⟩ := I.list hq
  have hlen := r'.length
  exact Calls.call_len_list pl.isList (by simp only [List.size_toArray] <;> omega) ⟨.int ys.length, H, I.tok _, ⟨s.toks + 1, by rw [List.size_toArray, hlen]⟩, q⟩
 ·obtain ⟨its, r', pl, hz⟩ := I.tuple hq
  have hlen := r'.length
  exact len_tuple pl (by simp only [List.size_toArray] <;> omega) ⟨.int ys.length, H, I.tok _, ⟨s.toks + 1, by rw [List.size_toArray, hlen]⟩, q⟩
theorem NG : DX X (.type "tuple") (fun xs H Q => ∃ p ys, xs = [.ref p] ∧ ((SqL X.K H p ys ∧ ∀ l, H l = none → Q (.ref l) (upd H l (.tup ys))) ∨ (SqT X.K H p ys ∧ Q (.ref p) H))) := by
 intro pins s σ H xs us Q I r h
 obtain ⟨p, ys, rfl, h⟩ := h
 obtain ⟨u, rfl, rx⟩ := WL r
 cases rx
 rcases h with ⟨hq, q⟩ | ⟨hq, q⟩
 ·obtain ⟨its, r', pl, hz⟩ := I.list hq
  have hlen := r'.length
  refine call_tuple_list pl.isList (fun h' kp => ?_) (by simp only [List.size_toArray] <;> omega)
  have I1 : Inv X pins σ H { s with heap := h' } := I.kept (t' := s.toks) kp
  have I2 : Inv X pins σ (upd H h'.objs.size (.tup ys)) { s with heap := h'.push { cls := .type "tuple", data := .seq its.toArray } } :=
   I1.laid (t' := s.toks) (fun b o e => Heap.get?_push_of_some _ e) (Nat.le_refl _) (show CS X.prog X.w _ _ _ (.tup ys) from ⟨hz, its, r', IsTup.new _ _⟩)
  exact ⟨.ref h'.objs.size, _, I2, rfl, q _ (I1.hok.fresh (Nat.le_refl _))⟩
 ·obtain ⟨its, r', pl, hz⟩ := I.tuple hq
  exact call_tuple_same pl ⟨.ref p, H, I, rfl, q⟩
def tyV (K : PySem.W.Frag) (T : String) (x : V) (H : Hp) : Prop := match x with
 | .str _ => T = "str"
 | .int _ => T = "int"
 | .ref p => (T = "list" ∧ ∃ xs, SqL K H p xs) ∨ (T = "tuple" ∧ ∃ o, K.lookup p = some o ∧ o.cls = .type "tuple" ∧ o.dict = none) ∨
   (T = "dict" ∧ ((∃ kvs, H p = some (.dK kvs)) ∨ ∃ kvs, H p = some (.dT kvs))) ∨ (T = "set" ∧ ∃ S n, H p = some (.set S n))
 | _ => False
theorem cB {pins : List (Addr × Obj)} {σ : St} {H : Hp} {s : Shared} {T : String} {x : V} {v : Value} (I : Inv X pins σ H s) (r : AX x v) (ty : tyV X.K T x H) :
  s.TypeIs v T ∧ ∀ a, v = .ref a → ∃ ob, s.heap.get? a = some ob ∧ ob.dict = none := by
 cases x with
 | str z =>
  obtain ⟨t, rfl⟩ := r
  cases (show T = "str" from ty)
  exact ⟨typeIs_str s z t, fun _ e => nomatch e⟩
 | int i =>
  obtain ⟨t, rfl⟩ := r
  cases (show T = "int" from ty)
  exact ⟨typeIs_int s i t, fun _ e => nomatch e⟩
 | ref p =>
  cases r
  rcases ty with ⟨rfl, xs, hq⟩ | ⟨rfl, o, hk, hc, hd⟩ | ⟨rfl, hk⟩ | ⟨rfl, S, n, hk⟩
  ·obtain ⟨its, _, pl, _⟩ := I.list hq
   refine ⟨pl.isList.typeIs, fun a e => ?_⟩
   cases e
   obtain ⟨o, n, e, c, hd, _⟩ := pl
   exact ⟨o, e, hd⟩
  ·refine ⟨⟨o, I.kIn p o hk, hc⟩, fun a e => ?_⟩
   cases e
   exact ⟨o, I.kIn _ o hk, hd⟩
  ·have z : ∃ o, s.heap.get? p = some o ∧ o.ExactDict := by
    rcases hk with ⟨kvs, hk⟩ | ⟨kvs, hk⟩
    ·obtain ⟨_, _, _, _, o, _, _, e, ex, _⟩ := I.hok p _ hk
     exact ⟨o, e, ex⟩
    ·obtain ⟨_, _, _, _, o, _, _, e, ex, _⟩ := I.hok p _ hk
     exact ⟨o, e, ex⟩
   obtain ⟨o, e, ex⟩ := z
   refine ⟨⟨o, e, ex.1⟩, fun a e2 => ?_⟩
   cases e2
   exact ⟨o, e, ex.2.1⟩
  ·obtain ⟨o, _, _, _, e, ex, _⟩ := I.hok p _ hk
   refine ⟨⟨o, e, ex.1⟩, fun a e2 => ?_⟩
   cases e2
   exact ⟨o, e, ex.2.1⟩
 | _ => exact False.elim ty
def bN (K : PySem.W.Frag) (T : String) (r : V → List V → Hp → VK → Prop) (to : TE) : TE := fun σ H Q => to σ H fun x H1 => tyV K T x H1 ∧ r x [] H1 Q
def tBM (K : PySem.W.Frag) (T : String) (r : V → List V → Hp → VK → Prop) (to : TE) (t : TA) : TE := fun σ H Q => to σ H fun x H1 => tyV K T x H1 ∧ t σ H1 fun xs H2 => r x xs H2 Q
variable {o e : Expr} {es : List Expr} {to : TE} {t : TA} {name : Str} {apos cpos : Pos} {T id : String} {r : V → List V → Hp → VK → Prop}
theorem jK (pa : PlainAttrs T) (slot : Slot T name id) (hty : typeOf (.builtin id) = pure (.type "method_descriptor")) (hm : MtR X id r) (ho : PE X o to)
  (hbase : attributeBase o name X.env (eval o X.env) = eval o X.env := by rfl) (hline : (apos.endLine == cpos.line) = true := by rfl) : PE X (.Call (.Attribute o name apos) [] [] cpos) (bN X.K T r to) := by
 intro pins s σ H Q I h
 refine wpAny_Call_method0_late hbase hline (thn (ho pins s σ H _ I h) fun v s1 ⟨x, H1, I1, r1, ty, q1⟩ => ?_)
 obtain ⟨h1, h2⟩ := cB I1 r1 ty
 exact ⟨T, id, pa, slot, hty, h1, h2, Calls.callWith_builtin rfl (PySem.evalArgs_none (hm pins s1 σ H1 x [] v [] Q I1 r1 .nil q1))⟩
theorem ME (pa : PlainAttrs T) (slot : Slot T name id) (hty : typeOf (.builtin id) = pure (.type "method_descriptor")) (hm : MtR X id r) (ho : PE X o to) (ha : PA X (e :: es) t)
  (hbase : attributeBase o name X.env (eval o X.env) = eval o X.env := by rfl)
  (hfew : ((backTo cpos (starEach (e :: es) X.env)).all (fun x => !x.1) && (backToKw cpos (keywordEach [] X.env)).all (fun x => x.1.isSome)
   && decide ((e :: es).length + ([] : List Keyword).length + (if ([] : List Keyword).isEmpty then 0 else 1) < 30)) = true := by rfl)
  (hline : (apos.endLine == cpos.line) = true := by rfl) (hs : starEach (e :: es) X.env = (false, eval e X.env) :: starEach es X.env := by rfl) (hplain : (backTo cpos (starEach es X.env)).any (·.1) = false := by rfl) :
  PE X (.Call (.Attribute o name apos) (e :: es) [] cpos) (tBM X.K T r to t) := by
 intro pins s σ H Q I h
 refine wpAny_Call_method_late hbase hfew hline rfl (thn (ho pins s σ H _ I h) fun v s1 ⟨x, H1, I1, r1, ty, q1⟩ => ?_)
 obtain ⟨h1, h2⟩ := cB I1 r1 ty
 refine ⟨T, id, pa, slot, hty, h1, h2, ?_⟩
 have hA := ha cpos pins s1 σ H1 _ I1 q1
 rw [hs] at hA ⊢
 refine Calls.callWith_builtin (by show (false || (backTo cpos (starEach es X.env)).any (·.1)) = false; rw [hplain] <;> rfl) (Calls.evalArgs_plain ?_)
 exact thn hA fun us s2 ⟨vs, H2, I2, r2, q2⟩ => hm pins s2 σ H2 x vs v us Q I2 r1 r2 q2
end
def MtM (X : Cx) (id : String) (r : V → List V → Hp → VK → Prop) : Prop :=
 ∀ (pins : List (Addr × Obj)) (s : Shared) (σ : St) (H : Hp) (x : V) (xs : List V) (v : Value) (us : List Value) (Q : VK), Inv X pins σ H s → AX x v → AN xs us → r x xs H Q →
  wpAny (model X.prog X.w) X.A (call (.builtin id) (v :: us)) (EP X pins σ Q) X.xe s
theorem AN.one : ∀ {x : V} {us : List Value}, AN [x] us → ∃ u, us = [u] ∧ AX x u
 | _, _, .cons r .nil => ⟨_, rfl, r⟩
theorem unP {α β : Type} {R : α → β → Prop} {x : α} {xs : List α} {us : List β} (h : Paired R (x :: xs) us) : ∃ u vs, us = u :: vs ∧ R x u ∧ Paired R xs vs := by
 cases h with
 | cons r h => exact ⟨_, _, rfl, r, h⟩
theorem unP0 {α β : Type} {R : α → β → Prop} {us : List β} (h : Paired R [] us) : us = [] := by
 cases h; rfl
theorem AN.two {x y : V} {us : List Value} (h : AN [x, y] us) : ∃ u v, us = [u, v] ∧ AX x u ∧ AX y v := by
 obtain ⟨u, vs, rfl, r, h⟩ := unP h
 obtain ⟨v, vs, rfl, q, h⟩ := unP h
 obtain rfl := unP0 h
 exact ⟨_, _, rfl, r, q⟩
theorem AN.zero : ∀ {us : List Value}, AN [] us → us = []
 | _, .nil => rfl
theorem AN.dropLast {xs : List V} {us : List Value} (h : AN xs us) : AN xs.dropLast us.dropLast := by
 induction h with
 | nil => exact .nil
 | cons r t ih =>
  cases t with
  | nil => exact .nil
  | cons q t' => exact .cons r ih
theorem AN.eraseIdx : ∀ {xs : List V} {us : List Value} (i : Nat), AN xs us → AN (xs.eraseIdx i) (us.eraseIdx i)
 | _, _, _, .nil => .nil
 | _, _, 0, .cons _ t => t
 | _, _, i + 1, .cons r t => .cons r (AN.eraseIdx i t)
theorem TY {α : Type} (l : List α) : l.eraseIdx (l.length - 1) = l.dropLast := by
 induction l with
 | nil => rfl
 | cons a r ih =>
  cases r with
  | nil => rfl
  | cons b r =>
   have e : (a :: b :: r).length - 1 = ((b :: r).length - 1) + 1 := by
    have h1 : (a :: b :: r).length = r.length + 2 := rfl
    have h2 : (b :: r).length = r.length + 1 := rfl
    omega
   rw [e, List.eraseIdx_cons_succ, ih]
   all_goals rfl
section
variable {X : Cx} {pins : List (Addr × Obj)} {σ : St} {H : Hp} {s : Shared} {l b : Addr} {xs ys zs : List V}
theorem Inv.lset {its its' : List Value} {n : Nat} {f : Array Value → Array Value} {t' : Nat} (I : Inv X pins σ H s) (hH : H l = some (.lst xs))
  (e : s.heap.get? l = some { cls := .type "list", data := .seq its.toArray n }) (hf : f its.toArray = its'.toArray) (hv : AN ys its') (hz : ys.length ≤ sizeLine) :
  Inv X pins σ (upd H l (.lst ys)) { s with heap := s.heap.update l (Obj.mapSeq f), toks := t' } := by
 have q := PySem.IsL.update e f
 rw [hf] at q
 refine I.write (x := l) (e := l) (by rw [hH]; exact trivial) (.inl rfl) (fun b' u hb hu => (Heap.get?_update_other s.heap (Obj.mapSeq f) (Ne.symm hb)).trans hu) ⟨_, q⟩ ?_
 exact ⟨hz, its', _, hv, q⟩
theorem Inv.lnew {its : List Value} {t' : Nat} (I : Inv X pins σ H s) (hv : AN ys its) (hz : ys.length ≤ sizeLine) :
  Inv X pins σ (upd H s.heap.objs.size (.lst ys)) { s with heap := s.heap.push { cls := .type "list", data := .seq its.toArray }, toks := t' } :=
 I.laid (fun _ _ q => Heap.get?_push_of_some _ q) (Nat.le_refl _) ⟨hz, its, 0, hv, Heap.get?_push_size _ rfl⟩
theorem Inv.fresh (I : Inv X pins σ H s) : H s.heap.objs.size = none := I.hok.fresh (Nat.le_refl _)
theorem Inv.lstM (I : Inv X pins σ H s) (hH : H l = some (.lst xs)) : xs.length ≤ sizeLine ∧ ∃ (its : List Value) (n : Nat), AN xs its ∧ xs.length = its.length ∧ s.heap.get? l = some { cls := .type "list", data := .seq its.toArray n } := by
 obtain ⟨z, its, n, r, e⟩ := I.hok l _ hH
 exact ⟨z, its, n, r, r.length, e⟩
end
section
variable {X : Cx}
def JA : V → List V → Hp → VK → Prop := fun x vs H Q => ∃ l xs y, x = .ref l ∧ vs = [y] ∧ H l = some (.lst xs) ∧ xs.length < sizeLine ∧ Q .non (upd H l (.lst (xs ++ [y])))
theorem JW : MtM X "list.append" JA := by
 intro pins s σ H x vs v us Q I rx rv h
 obtain ⟨l, xs, y, rfl, rfl, hH, hz, q⟩ := h
 cases rx
 obtain ⟨u, rfl, ru⟩ := rv.one
 obtain ⟨z, its, n, r, hl, e⟩ := I.lstM hH
 refine call_meets F.slot_list_append ⟨_, e, rfl⟩ F.entry_list_append (F.args_list_append_2 _ _) (PySem.list_append l its.toArray n u (by rw [List.size_toArray]; omega)) ⟨e, ?_⟩
 refine ⟨.non, _, I.lset (its' := its ++ [u]) hH e (by simp) (r.append (.cons ru .nil)) ?_, rfl, q⟩
 rw [List.length_append, List.length_singleton]
 omega
def bY : V → List V → Hp → VK → Prop := fun x vs H Q => ∃ l xs y, x = .ref l ∧ vs = [] ∧ H l = some (.lst xs) ∧ xs[xs.length - 1]? = some y ∧ Q y (upd H l (.lst xs.dropLast))
theorem jG : MtM X "list.pop" bY := by
 intro pins s σ H x vs v us Q I rx rv h
 obtain ⟨l, xs, y, rfl, rfl, hH, hy, q⟩ := h
 cases rx
 have hus := rv.zero
 subst hus
 obtain ⟨z, its, n, r, hl, e⟩ := I.lstM hH
 obtain ⟨u, hu, ru⟩ := r.get hy
 have hy' : its.toArray[its.toArray.size - 1]? = some u := by
  show its.toArray[its.length - 1]? = some u
  rw [← Array.getElem?_toList, ← hl]
  exact hu
 refine call_meets F.slot_list_pop ⟨_, e, rfl⟩ F.entry_list_pop (F.args_list_pop_1 _) (MeetsSeq.list_pop_last l its.toArray n u hy' (by rw [List.size_toArray]; omega)) ⟨e, ?_⟩
 refine ⟨y, _, I.lset (its' := its.dropLast) hH e ?_ r.dropLast ?_, ru, q⟩
 ·show its.toArray.eraseIdxIfInBounds (its.toArray.size - 1) = its.dropLast.toArray
  rw [List.size_toArray, List.eraseIdxIfInBounds_toArray, TY]
 ·rw [List.length_dropLast]
  omega
end
section
variable {prog : Program} {w : World} {A : Around} {E : Value → Shared → Prop} {s : Shared}
end
section
variable {X : Cx}
end
end L2
namespace Att
open PySem PySem.W PySem.Calls PyProof.Rows
theorem KN {P : Params} {h : Heap} : ∀ (ns : List Int) (vs : List Value), WellAll P h vs (ns.map WData.int) → IntsAre vs ns := by
 intro ns
 induction ns with
 | nil =>
  intro vs w
  rw [List.map_nil] at w
  cases w
  exact .nil
 | cons n ns ih =>
  intro vs w
  rw [List.map_cons] at w
  cases w with
  | cons a b =>
   cases a
   exact .cons _ _ (ih _ b)
theorem XN {l : OpenLaw} {n : Nat} (hn : l.most = some n) {P : Params} {h : Heap} {args : List WData} {vals : List Value}
  (hpre : l.row.toRowW.claim.pre args = true) (hwl : WellAll P h vals args) :
  ∃ a vs ns, vals = [Value.ref a] ∧ args = [WData.list (ns.map WData.int)] ∧ h.get? a = some { cls := .type "list", data := .seq vs.toArray } ∧ IntsAre vs ns ∧ ns.length ≤ n := by
 have hsh : WShape.hasAll [] args [.list .int] = true := (pre_splitW hpre).1
 have hc : l.pre.holds [] { args := args } = true := (pre_splitW hpre).2
 obtain ⟨d, r, rfl, h1, h2⟩ := hasAllW_cons hsh
 obtain rfl := hasAllW_nil h2
 obtain ⟨xs, rfl, h3⟩ := hasW_list h1
 obtain ⟨ns, rfl⟩ := items_int h3
 have hlen : ns.length ≤ n := by
  unfold OpenLaw.pre at hc
  have h4 : (WTm.not (.lt (.lit (.int (n : Int))) (.len (.arg 0)))).holds [] { args := [.list (ns.map .int)] } = true := by
   have h4 := (holds_andW hc).1
   rw [hn] at h4
   exact h4
  have h5 := condW_of h4 (w_not (w_lt w_lit (w_len_list (w_arg rfl))))
  rw [List.length_map] at h5
  refine Nat.le_of_not_lt fun q => ?_
  have q' : (n : Int) < ((ns.length : Nat) : Int) := by omega
  first
   | (rw [decide_eq_true q'] at h5; exact absurd h5 (by decide))
   | (simp at h5; omega)
 cases hwl with
 | cons w1 w2 =>
  cases w2
  cases w1 with
  | list ho hall => exact ⟨_, _, ns, rfl, rfl, ho, KN ns _ hall, hlen⟩
theorem XO (l : OpenLaw) (args : List WData) : l.row.toRowW.claim.post args (.bool true) args = true :=
 postW_of (r := l.row.toRowW) (X := (true == true))
  (show WShape.has [] (.bool true) .bool = true by first | rfl | decide | simp [WShape.has, WShape.arms, WShape.armsAll])
  (show (WTm.eq .res (.lit (.bool true))).value [] { args := args, res := some (.bool true), after := args } = some (.bool (true == true)) from w_eq_bool (w_res rfl) w_lit) rfl
theorem attach_call {l : OpenLaw} {n : Nat} {q : Program} {loose : List Str} {XP : (Str → Option Value) → Heap → Prop} {YP : World → Heap → Prop} {d : DefRec}
  (hn : l.most = some n) (hdf : d.params.defaults = [])
  (call : ∀ (w : World) (s₀ s₁ : Shared) (mg mb : Str → Option Value) (fa : Addr) (o : Obj) (pm cd doc : Value) (a : Addr) (vs : List Value) (ns : List Int),
   Ground q loose [] XP w s₀ mg mb s₁.heap → YP w s₁.heap →
   s₁.heap.get? fa = some o → o.data = .func (docDef d.name d.params d.body d.scope pm cd doc) → s₁.heap.CodeRec cd d.name → mg d.name = some (.ref fa) →
   s₁.heap.get? a = some { cls := .type "list", data := .seq vs.toArray } → IntsAre vs ns → ns.length ≤ n → s₁.gens = #[] →
   codeAny (model l.prog w) callerA (.call (.ref fa) ⟨[.ref a], []⟩) (fun r s' => r = .ok (.ret (.bool true)) ∧ OldK s₁.heap s'.heap ∧ s'.os = s₁.os ∧ AllBare s'.gens) s₁) :
  WalkO q loose XP YP l.row.toRowW d [] (fun f vs => PySem.call f vs) := by
 intro w s₀ s₁ mg mb G Y fa o pm cd doc dV kV ho hd hcd hD hmg hg args vals as hpre hlay hrd hwl hlo
 obtain rfl : dV = .none := Dflts.none hD hdf
 obtain rfl : kV = .none := Dflts.noKw hD
 obtain ⟨a, vs, ns, rfl, rfl, hobj, hints, hlen⟩ := XN hn hpre hwl
 refine enter_call (codeAny_mono (call w s₀ s₁ mg mb fa o pm cd doc a vs ns G Y ho (fd_plain hd) hcd hmg hobj hints hlen hg) fun r s' hq => ?_)
 obtain ⟨rfl, h2, h3, h4⟩ := hq
 exact ⟨.inl ⟨.bool true, .bool true, [], rfl, fun _ => rfl, .bool true, XO l _, fun _ => ⟨List.Pairwise.nil, fun _ hm => (nomatch hm)⟩⟩, h2, h3, h4⟩
section
variable {prog : Program} {w : World} {A : Around} {E : Value → Shared → Prop} {s : Shared} {K : Frag}
def ledger (h : Heap) (L d : Addr) : List (Addr × Obj) := (List.range h.objs.size).filterMap fun a => if a = L ∨ a = d then none else (h.get? a).map fun o => (a, o)
end
end Att
namespace L2
open PySem PySem.Spec PyProof.Rows
theorem OG : ∀ {vs : List Value} {ns : List Int}, IntsAre vs ns → AN (ns.map V.int) vs
 | _, _, .nil => .nil
 | _, _, .cons n t h => .cons ⟨t, rfl⟩ (OG h)
def jR (H : Hp) : Prop := ∀ b, H b = none ∨ ∃ o xs, H b = some (.frz o (.lst xs))
theorem ZX {P : Program} {w : World} {K : PySem.W.Frag} {mg mb : Str → Option Value} {CX : CXT} {k : Nat} {fa a : Addr} {fd : FuncData} {x : Str} {sp : Sp} {s₁ : Shared} {vs : List Value} {ns : List Int}
  (KX : K.In s₁.heap) (hns : s₁.heap.Ns mainGlobals mg) (hb : s₁.heap.Ns builtinsNs mb) (hbb : ∀ x : Str, x ≠ "__name__" → mb x = bootBuiltins x) (hlim : s₁.heap.NoLimit) (hg : s₁.gens = #[])
  (ha : s₁.heap.get? a = some { cls := .type "list", data := .seq vs.toArray }) (hi : IntsAre vs ns) (hl : ns.length ≤ sizeLine) (hr : EE k callerA)
  (F : ∀ base : Heap, K.In base → base.Ns mainGlobals mg → BJ P w K mg base CX k fa fd [x] sp) (hbind : ∀ (s : Shared) (u : Value), BindsTo s fd ⟨[u], []⟩ [(x, u)])
  (hsp : ∀ H : Hp, jR H → SqL K H a (ns.map V.int) → sp [.ref a] H (fun v _ => v = .bl true) fun _ _ _ => False)
  (hCX : ∀ H e s', CX [] H s₁ (fun _ _ _ => False) e s' → False) :
  codeAny (model P w) callerA (.call (.ref fa) ⟨[.ref a], []⟩) (fun r s' => r = .ok (.ret (.bool true)) ∧ OldK s₁.heap s'.heap ∧ s'.os = s₁.os ∧ AllBare s'.gens) s₁ := by
 have rv := OG hi
 have lenV := hi.length
 have core : ∀ H : Hp, jR H → SqL K H a (ns.map V.int) → HOk P w H s₁.heap → (∀ b, H b ≠ none → b = a) → (H a ≠ none → K.lookup a = none) →
   codeAny (model P w) callerA (.call (.ref fa) ⟨[.ref a], []⟩) (fun r s' => r = .ok (.ret (.bool true)) ∧ OldK s₁.heap s'.heap ∧ s'.os = s₁.os ∧ AllBare s'.gens) s₁ := by
  intro H hO hS hok hA hK
  have base_of : ∀ {b : Addr} {o : Obj}, s₁.heap.get? b = some o → H b = none → (QK s₁.heap H).get? b = some o := fun e n => bK e n
  have noA : ∀ {b : Addr} {o : Obj} {es : Array DictEntry} {ep : Nat}, s₁.heap.get? b = some o → o.data = .dict es ep → H b = none := fun {b o es ep} e d => by
   cases q : H b with
   | none => rfl
   | some u =>
    have e' : b = a := hA b (by rw [q]; simp)
    subst e'
    rw [ha] at e; cases e
    have d' : Data.seq vs.toArray _ = Data.dict es ep := d
    cases d'
  have nsK : ∀ {b : Addr} {m : Str → Option Value}, s₁.heap.Ns b m → (QK s₁.heap H).Ns b m := fun {b m} ⟨o, es, ep, e, d, r⟩ => ⟨o, es, ep, base_of e (noA e d), d, r⟩
  have hKb : K.In (QK s₁.heap H) := fun b o e => base_of (KX b o e) (by
   cases q : H b with
   | none => rfl
   | some u =>
    have e' : b = a := hA b (by rw [q]; simp)
    subst e'
    rw [hK (by rw [q]; simp)] at e; cases e)
  have hM : Mod K mg (QK s₁.heap H) := ⟨hKb, nsK hns, ⟨mb, nsK hb, hbb⟩, let ⟨mc, h1, h2⟩ := hlim; ⟨mc, nsK h1, h2⟩⟩
  have e0 : UK P w K mg (QK s₁.heap H) callerA [] s₁ H := ⟨rfl, hM, fun b o e => gJ e, Nat.le_of_eq (ZD _ _), trivial, fun b hb => absurd (show b ∈ ([] : List Addr) from hb) (by simp), hok, .of_eq hg⟩
  refine codeAny_mono ((F _ hKb (nsK hns)).run callerA [] s₁ H ⟨[.ref a], []⟩ [.ref a] [.ref a] _ _ hr e0 (hbind s₁ (.ref a)) (.cons rfl .nil) (hsp H hO hS)) fun r s' h => ?_
  cases r with
  | error e => exact (hCX H e s' h).elim
  | ok fl =>
   cases fl with
   | next => exact False.elim h
   | brk => exact False.elim h
   | cont => exact False.elim h
   | ret u =>
    obtain ⟨v, H', os, bare, un, hok', r', q⟩ := h
    have q' : v = .bl true := q
    subst q'
    obtain rfl : u = Value.bool true := r'
    refine ⟨rfl, OldK.of_keep fun b o e => ?_, os, bare⟩
    cases q : H b with
    | none => exact un.keep b o e q (by intro z; exact absurd (show b ∈ ([] : List Addr) from z) (by simp)) (by simp)
    | some u =>
     rcases hO b with z | ⟨ob, xs, z⟩
     ·rw [q] at z; cases z
     ·have z2 := un.frzs b ob _ z
      obtain ⟨e1, _⟩ := hok b _ z
      obtain ⟨e2, _⟩ := hok' b _ z2
      rw [e] at e1; cases e1
      exact e2
 cases hk : K.lookup a with
 | some o =>
  have e := KX a o hk
  rw [ha] at e
  cases e
  refine core (fun _ => none) (fun _ => .inl rfl) (.inr ⟨_, vs.toArray, _, hk, rfl, rfl, rfl, by rw [List.size_toArray, lenV]; exact hl, by simpa using rv⟩) (fun b u z => by have z' : (none : Option HO) = some u := z; cases z') (fun b z => absurd rfl z) fun z => absurd rfl z
 | none =>
  refine core (fun b => if b = a then some (.frz { cls := .type "list", data := .seq vs.toArray } (.lst (ns.map V.int))) else none) (fun b => ?_) (.inl (.inr ⟨{ cls := .type "list", data := .seq vs.toArray }, if_pos rfl⟩)) (fun b u z => ?_) (fun b z => ?_) fun _ => hk
  ·by_cases hb : b = a
   ·exact .inr ⟨_, _, if_pos hb⟩
   ·exact .inl (if_neg hb)
  ·by_cases hb : b = a
   ·have z' := (if_pos hb).symm.trans z
    cases z'
    subst hb
    exact ⟨ha, by rw [List.length_map]; exact hl, vs, _, rv, ha⟩
   ·have z' := (if_neg hb).symm.trans z
    cases z'
  ·by_cases hb : b = a
   ·exact hb
   ·exact absurd (if_neg hb) z
abbrev KOf {K : PySem.W.Frag} {h : Heap} (_ : K.In h) : PySem.W.Frag := K
theorem walk_of {l : PySem.W.OpenLaw} {n k : Nat} {q : Program} {loose : List Str} {XP : (Str → Option Value) → Heap → Prop} {YP : World → Heap → Prop} {d : DefRec} {K : Params → PySem.W.Frag} {CX : World → CXT} {sp : World → Sp} {x : Str}
  (hn : l.most = some n) (hn2 : n ≤ sizeLine) (hdf : d.params.defaults = []) (hr : EE k callerA)
  (hY : ∀ (w : World) (h : Heap), YP w h → (K w.params).In h)
  (F : ∀ (w : World) (mg : Str → Option Value) (fa : Addr) (h : Heap), (K w.params).In h → h.Ns mainGlobals mg → mg d.name = some (.ref fa) →
   ∃ fd : FuncData, (∀ (s : Shared) (u : Value), BindsTo s fd ⟨[u], []⟩ [(x, u)]) ∧
    ∀ base : Heap, (K w.params).In base → base.Ns mainGlobals mg → BJ l.prog w (K w.params) mg base (CX w) k fa fd [x] (sp w))
  (hsp : ∀ (w : World) (H : Hp) (a : Addr) (ns : List Int), ns.length ≤ n → jR H → SqL (K w.params) H a (ns.map V.int) → sp w [.ref a] H (fun v _ => v = .bl true) fun _ _ _ => False)
  (hCX : ∀ (w : World) (H : Hp) (s : Shared) (e : Value) (s' : Shared), CX w [] H s (fun _ _ _ => False) e s' → False) :
  PySem.W.WalkO q loose XP YP l.row.toRowW d [] (fun f vs => PySem.call f vs) := by
 refine Att.attach_call hn hdf fun w s₀ s₁ mg mb fa o pm cd doc a vs ns G Y ho hd hcd hmg hobj hints hlen hg => ?_
 have KX := hY w _ Y
 obtain ⟨fd, hb, hF⟩ := F w mg fa _ KX G.T.g hmg
 exact ZX KX G.T.g G.T.b G.T.builtins G.T.nolimit hg hobj hints (Nat.le_trans hlen hn2) hr hF hb (fun H hO hS => hsp w H a ns hlen hO hS) fun H e s' => hCX w H s₁ e s'
def CC (s : Stmt) (j : Nat) : Stmt := match s with
 | .ClassDef _ _ _ body _ _ _ _ _ _ _ => body.getD j (.Pass ⟨0, 0, 0, 0⟩)
 | _ => .Pass ⟨0, 0, 0, 0⟩
def AO (s : Stmt) : Arguments := match s with
 | .FunctionDef _ a _ _ _ _ _ _ _ _ => a
 | _ => { posonlyargs := [], args := [], vararg := none, kwonlyargs := [], kw_defaults := [], kwarg := none, defaults := [] }
def AM (s : Stmt) : List Stmt := match s with
 | .FunctionDef _ _ b _ _ _ _ _ _ _ => b
 | _ => []
def AD (s : Stmt) : Scope := match s with
 | .FunctionDef _ _ _ _ _ _ sc _ _ _ => sc
 | _ => { kind := .function, names := [], isGenerator := false, isCoroutine := false }
abbrev CX0 : CXT := fun _ _ _ _ _ _ => False
abbrev E0 : XK := fun _ _ _ => False
theorem BY {X : Cx} : FI CX0 X E0 := fun _ _ _ _ _ _ _ h => h.elim
structure Fun (K : PySem.W.Frag) (x qual : Str) (st : Stmt) (f : Addr) (fd : FuncData) : Prop where
 ex : ∃ (oc : Value) (od : Option Addr) (kV doc pm : Value) (an : Option Addr) (cdv ct : Value) (osl : Array (Option Value)),
  fd = PySem.W.fnOf x qual (AO st) (AM st) (AD st) .none kV doc pm an cdv ct ∧ K.lookup f = some ⟨oc, od, .func fd, osl⟩ ∧ PySem.W.codeIn K cdv qual = true
 kp : PySem.W.keepIn K (.ref f) = true
section
variable {P : Program} {w : World} {K : PySem.W.Frag} {mg : Str → Option Value} {base : Heap}
theorem Fun.ok {x qual : Str} {st : Stmt} {f : Addr} {fd : FuncData} {N ps : List Str} {k : Nat} {sp : Sp} (F : Fun K x qual st f fd) (S : AR N ps (AD st)) (len : ∀ vs H Q E, sp vs H Q E → vs.length = ps.length)
  (hbody : ∀ (cdv : Value) (A : Around) (outer : List Env) (s : Shared) (H : Hp) (vs : List V) (Q : VK) (E : XK), EE k (A.deeper (envOfC qual (AD st) s.heap.objs.size f cdv)) → sp vs H Q E →
   ∃ t, PSs (EI CX0 P w K mg base N qual (AD st) f cdv A outer s H E).nox (AM st) t ∧ t { nx := fun _ H' => Q .non H', rt := Q } (start N vs) H) : BJ P w K mg base CX0 (k + 1) f fd ps sp := by
 obtain ⟨oc, od, kV, doc, pm, an, cdv, ct, osl, rfl, lk, hcd⟩ := F.ex
 refine iH lk hcd S len fun A outer s H vs Q E hr hsp => ?_
 obtain ⟨t, h, q⟩ := hbody cdv A outer s H vs Q E hr hsp
 exact ⟨t, h.nox, q⟩
theorem Fun.binds {x qual : Str} {st : Stmt} {f : Addr} {fd : FuncData} {ps : List Str} (F : Fun K x qual st f fd)
  (h : ∀ (kV doc pm : Value) (an : Option Addr) (cdv ct : Value) (us : List Value), us.length = ps.length → bindArgs (PySem.W.fnOf x qual (AO st) (AM st) (AD st) .none kV doc pm an cdv ct) ⟨us, []⟩ = pure (ps.zip us)) : FF K fd ps [] := by
 obtain ⟨oc, od, kV, doc, pm, an, cdv, ct, osl, rfl, lk, hcd⟩ := F.ex
 exact .all (h kV doc pm an cdv ct)
theorem BI {x qual : Str} {st : Stmt} {f : Addr} {oc : Value} {od an : Option Addr} {osl : Array (Option Value)} {kV doc pm cdv ct : Value} (l : K.lookup f = some ⟨oc, od, .func (PySem.W.fnOf x qual (AO st) (AM st) (AD st) .none kV doc pm an cdv ct), osl⟩)
  (c : PySem.W.codeIn K cdv qual = true) (k : PySem.W.keepIn K (.ref f) = true) : Fun K x qual st f (PySem.W.fnOf x qual (AO st) (AM st) (AD st) .none kV doc pm an cdv ct) := ⟨⟨oc, od, kV, doc, pm, an, cdv, ct, osl, rfl, l, c⟩, k⟩
end
theorem OI {A : Around} {k : Nat} (hr : EE k A) : A.units + 1 < cLine := Nat.lt_of_le_of_lt (Nat.add_le_add_left (by decide : 1 ≤ 64) _) hr.units
theorem NY {n : Nat} (h : n ≤ 1000) : n < sizeLine := Nat.lt_of_le_of_lt h (by decide)
section
variable {X : Cx}
theorem pv (i : Nat) {x : Str} {pos : Pos} (hN : X.N[i]? = some x := by rfl) (hv : Vis X.env.scope x := by first | exact Or.inl rfl | exact Or.inr (Or.inl rfl) | exact Or.inr (Or.inr rfl)) (hd : (x == ("__debug__" : Str)) = false := by decide)
  (hcd : (x == ("__classdict__" : Str)) = false := by decide) : PE X (.Name x pos) (XL i) := kZ hN hv hd hcd
end
def AI (H H' : Hp) : Prop := ∀ b o, H b = some o → H' b = some o
theorem AI.refl (H : Hp) : AI H H := fun _ _ h => h
theorem AI.trans {H H1 H2 : Hp} (a : AI H H1) (b : AI H1 H2) : AI H H2 := fun c o h => b c o (a c o h)
theorem AI.free {H H' : Hp} (e : AI H H') {l : Addr} (h : H' l = Option.none) : H l = Option.none := by
 cases q : H l with
 | none => rfl
 | some o =>
  rw [e l o q] at h
  cases h
theorem AI.seq {K : PySem.W.Frag} {H H' : Hp} {a : Addr} {xs : List V} (e : AI H H') (h : SqL K H a xs) : SqL K H' a xs := by
 rcases h with (h | ⟨o, h⟩) | h
 ·exact .inl (.inl (e _ _ h))
 ·exact .inl (.inr ⟨o, e _ _ h⟩)
 ·exact .inr h
theorem YN {prog : Program} {w : World} {A : Around} {R : Result → Shared → Prop} {s : Shared} {elt target iter : Expr} {ifs : List Expr} {scope : Scope} {pos : Pos} {it acc : Value} {env : Env} (I : Nat → Shared → Prop)
  (turn : ∀ n s, I n s → wpAny (model prog w) A (pyNext it) (fun r s₁ => match r with
   | none => R (.ok .next) s₁
   | some v => wpAny (model prog w) A (letOwnedTupleGo target it v) (fun _ s₁' => wpAny (model prog w) A (assign target env v) (fun _ s₂ =>
     wpAny (model prog w) A (forIn ifs true fun c r => if r = true then do let ok ← isTrue c env (eval c env); pure (ForInStep.yield ok) else pure (ForInStep.yield r)) (fun ok s₃ =>
      if ok = true then wpAny (model prog w) A (eval elt env) (fun x s₄ =>
       wpAny (model prog w) A (call (.builtin "list.append") [acc, x]) (fun _ s₅ => ∃ m, m < n ∧ I m s₅) (fun _ _ => False) s₄) (fun _ _ => False) s₃
      else ∃ m, m < n ∧ I m s₃) (fun _ _ => False) s₂) (fun _ _ => False) s₁') (fun _ _ => False) s₁) (fun _ _ => False) s)
  (n : Nat) (h : I n s) :
  codeAny (model prog w) A (.compLoop (.ListComp elt [⟨target, iter, ifs, 0⟩] scope pos) 0 it acc env) R s := by
 refine codeAny_loop rfl I (fun n s hI => ?_) n h
 show wpAny _ A ((compTurn (.ListComp elt [⟨target, iter, ifs, 0⟩] scope pos) 0 it acc env).onRaise (fun x => do noteFrame x env; theTreesLotGoes x)) _ _ s
 refine wpAny_noted ?_
 rw [compTurn_list]
 refine wpAny_bind (wpAny_standAt (wpAny_bind (wpAny_mono (turn n s hI) (fun r s₁ h₁ => ?_) fun _ _ z => False.elim z)))
 cases r with
 | none => exact wpAny_pure h₁
 | some v =>
  refine wpAny_bind (wpAny_mono h₁ (fun _ s₁' h₁' => ?_) fun _ _ z => False.elim z)
  refine wpAny_bind (wpAny_mono h₁' (fun _ s₂ h₂ => wpAny_bind (wpAny_mono h₂ (fun ok s₃ h₃ => ?_) fun _ _ z => False.elim z)) fun _ _ z => False.elim z)
  cases ok with
  | false => exact wpAny_pure ⟨rfl, h₃⟩
  | true =>
   exact wpAny_bind (wpAny_bind (wpAny_mono h₃ (fun x s₄ h₄ => wpAny_bind (wpAny_mono h₄ (fun _ s₅ h₅ => wpAny_pure (wpAny_pure ⟨rfl, h₅⟩)) fun _ _ z => False.elim z)) fun _ _ z => False.elim z))
def EN (cells : List (Str × Addr)) : List (Str × NameKind) → List (Str × Addr) → List (Str × Addr)
 | [], acc => acc
 | (n, k) :: r, acc => if k == .free then EN cells r ((n, (cells.lookup n).getD 0) :: acc) else EN cells r acc
theorem OO {env : Env} : ∀ (names : List (Str × NameKind)) (acc : List (Str × Addr)), (∀ y ∈ names, y.2 = .free → ∃ c, env.cells.lookup y.1 = some c) →
  (forIn names acc fun x r => if (x.snd == NameKind.free) = true then do let a ← cellOf env x.fst; pure (ForInStep.yield ((x.fst, a) :: r)) else pure (ForInStep.yield r)) = (pure (EN env.cells names acc) : Sem _)
 | [], acc, _ => rfl
 | (n, k) :: r, acc, h => by
  rw [List.forIn_cons]
  have hr : ∀ y ∈ r, y.2 = .free → ∃ c, env.cells.lookup y.1 = some c := fun y hy => h y (List.mem_cons_of_mem _ hy)
  by_cases hk : k = .free
  ·subst hk
   obtain ⟨c, hc⟩ := h (n, .free) List.mem_cons_self rfl
   have ih := OO r ((n, c) :: acc) hr
   simp only [EN, beq_self_eq_true, if_true, cellOf, hc, Option.getD_some, pure_bind]
   exact ih
  ·have hb : (k == NameKind.free) = false := by simpa using hk
   have ih := OO r acc hr
   simp only [EN, hb, Bool.false_eq_true, if_false, pure_bind]
   exact ih
theorem OV {scope : Scope} {env : Env} (h : ∀ y ∈ scope.names, y.2 = .free → ∃ c, env.cells.lookup y.1 = some c) : closureFor scope env = pure (EN env.cells scope.names []) := by
 have e := OO (env := env) scope.names [] h
 simp only [closureFor]
 rw [e]
 rfl
theorem FV {cells : List (Str × Addr)} : ∀ (names : List (Str × NameKind)) (acc : List (Str × Addr)), (∀ y ∈ names, y.2 = .free → ∃ c, cells.lookup y.1 = some c) → (∀ y c, acc.lookup y = some c → cells.lookup y = some c) →
  ∀ y c, (EN cells names acc).lookup y = some c → cells.lookup y = some c
 | [], acc, _, ha, y, c, e => ha y c e
 | (n, k) :: r, acc, h, ha, y, c, e => by
  have hr : ∀ y ∈ r, y.2 = .free → ∃ c, cells.lookup y.1 = some c := fun y hy => h y (List.mem_cons_of_mem _ hy)
  by_cases hk : k = .free
  ·subst hk
   obtain ⟨d, hd⟩ := h (n, .free) List.mem_cons_self rfl
   simp only [EN, beq_self_eq_true, if_true] at e
   refine FV r _ hr (fun z b q => ?_) y c e
   rw [List.lookup_cons] at q
   cases hz : z == n with
   | true =>
    rw [hz] at q
    have : z = n := by simpa using hz
    subst this
    rw [hd] at q ⊢
    exact q
   | false => rw [hz] at q; exact ha z b q
  ·have hb : (k == NameKind.free) = false := by simpa using hk
   simp only [EN, hb, Bool.false_eq_true, if_false] at e
   exact FV r acc hr ha y c e
theorem LC {cells : List (Str × Addr)} : ∀ (names : List (Str × NameKind)) (acc : List (Str × Addr)) (y : Str), (∃ c, acc.lookup y = some c) → ∃ c, (EN cells names acc).lookup y = some c
 | [], acc, y, h => h
 | (n, k) :: r, acc, y, h => by
  by_cases hk : (k == NameKind.free) = true
  ·simp only [EN, hk, if_true]
   refine LC r _ y ?_
   rw [List.lookup_cons]
   cases hz : y == n with
   | true => exact ⟨_, rfl⟩
   | false => exact h
  ·simp only [EN, hk, if_false]
   exact LC r acc y h
theorem MB {cells : List (Str × Addr)} : ∀ (names : List (Str × NameKind)) (acc : List (Str × Addr)) (y : Str), (y, NameKind.free) ∈ names → ∃ c, (EN cells names acc).lookup y = some c
 | (n, k) :: r, acc, y, h => by
  rcases List.mem_cons.mp h with e | h
  ·cases e
   simp only [EN, beq_self_eq_true, if_true]
   refine LC r _ _ ?_
   rw [List.lookup_cons]
   simp
  ·by_cases hk : (k == NameKind.free) = true
   ·simp only [EN, hk, if_true]
    exact MB r _ y h
   ·simp only [EN, hk, if_false]
    exact MB r _ y h
theorem FG {β : Type} : ∀ {l : List (Str × β)} {y : Str} {b : β}, l.lookup y = some b → (y, b) ∈ l
 | [], _, _, e => by cases e
 | (n, k) :: r, y, b, e => by
  rw [List.lookup_cons] at e
  cases hz : y == n with
  | true =>
   rw [hz] at e
   have : y = n := by simpa using hz
   subst this
   cases e
   exact List.mem_cons_self
  | false => rw [hz] at e; exact List.mem_cons_of_mem _ (FG e)
theorem QI {scope : Scope} {env : Env} {y : Str} (hc : ∀ z ∈ scope.names, z.2 ≠ .cell) (h : (relabel scope env).names.lookup y = some .cell ∨ (relabel scope env).names.lookup y = some .free) : (y, NameKind.free) ∈ scope.names := by
 have key : ∀ k, (relabel scope env).names.lookup y = some k → (k = .cell ∨ k = .free) → (y, NameKind.free) ∈ scope.names := fun k e hk => by
  have m := FG e
  obtain ⟨⟨n, k0⟩, hm, e0⟩ := List.mem_map.mp m
  dsimp only at e0
  split at e0
  ·rename_i hh
   cases e0
   have : k0 = .free := by
    simp only [Bool.and_eq_true, beq_iff_eq] at hh
    exact hh.1.1
   subst this
   exact hm
  ·cases e0
   rcases hk with rfl | rfl
   ·exact absurd rfl (hc _ hm)
   ·exact hm
 rcases h with h | h
 ·exact key _ h (.inl rfl)
 ·exact key _ h (.inr rfl)
theorem KD {env : Env} : ∀ {names : List (Str × NameKind)} {y : Str}, names.lookup y = some .free →
  (names.map fun (n, k) => if (k == NameKind.free && env.scope.kind == .function && env.kindOf n == some .cell) then (n, NameKind.cell) else (n, k)).lookup y = some .cell ∨
  (names.map fun (n, k) => if (k == NameKind.free && env.scope.kind == .function && env.kindOf n == some .cell) then (n, NameKind.cell) else (n, k)).lookup y = some .free
 | [], _, h => by simp at h
 | (n, k) :: r, y, h => by
  have ih := @KD env r y
  simp only [List.map_cons]
  cases hx : y == n with
  | true =>
   simp only [List.lookup_cons, hx] at h
   cases h
   by_cases hc : (NameKind.free == NameKind.free && env.scope.kind == .function && env.kindOf n == some .cell) = true
   ·rw [if_pos hc]; left; simp only [List.lookup_cons, hx]
   ·rw [if_neg hc]; right; simp only [List.lookup_cons, hx]
  | false =>
   simp only [List.lookup_cons, hx] at h
   by_cases hc : (k == NameKind.free && env.scope.kind == .function && env.kindOf n == some .cell) = true
   ·rw [if_pos hc]; simp only [List.lookup_cons, hx]; exact ih h
   ·rw [if_neg hc]; simp only [List.lookup_cons, hx]; exact ih h
def cxC (X : Cx) (scope : Scope) (cl : List (Str × Addr)) (N : List Str) (s₃ : Shared) (H₃ : Hp) (fp : List Addr) : Cx where
 prog := X.prog
 w := X.w
 K := X.K
 mg := X.mg
 base := X.base
 A := X.A
 N := N
 s₀ := s₃
 H₀ := H₃
 env := compEnvC scope cl s₃.heap.objs.size X.env
 outer := X.stack
 stack := X.stack
 ex := fp
 fn := fun _ => false
 calm := true
 pn := []
 xe := fun _ _ => False
structure OZ (scope sc : Scope) (N0 : List Str) (js : List Nat) (os N : List Str) : Prop where
 kind : scope.kind = .function
 cell : ∀ y ∈ scope.names, y.2 ≠ .cell
 names : ∀ y ∈ scope.names, y.2 = .local → scope.names.lookup y.1 = some .local
 free : ∀ y ∈ scope.names, y.2 = .free → (sc.names.lookup y.1 = some .cell ∨ sc.names.lookup y.1 = some .free)
 slots : ∀ j ∈ js, ((N0[j]?).bind fun y => scope.names.lookup y) = some .free
 eq : N.map some = js.map (N0[·]?) ++ os.map some
def stC (js : List Nat) (os : List Str) (σ : St) : St := js.map (fun j => (σ[j]?).join) ++ List.replicate os.length none
def YV (X : Cx) (ifs : List Expr) (t : TT) : Prop :=
 ∀ (pins : List (Addr × Obj)) (s : Shared) (σ : St) (H : Hp) (Q : Bool → Hp → Prop), Inv X pins σ H s → t σ H Q →
  wpAny (model X.prog X.w) X.A (forIn ifs true fun c r => if r = true then do let ok ← isTrue c X.env (eval c X.env); pure (ForInStep.yield ok) else pure (ForInStep.yield r)) (TP X pins σ Q) X.xe s
def cS : TT := fun _ H Q => Q true H
theorem LR {X : Cx} : YV X [] cS := fun _ _ _ H _ I h => wpAny_pure ⟨H, I, h⟩
theorem aJ {X : Cx} {c : Expr} {t : TT} (h : PT X c t) : YV X [c] t := fun pins s σ H Q I q => by
 simp only [List.forIn_cons, List.forIn_nil, if_true]
 exact wpAny_bind (wpAny_bind (wpAny_mono (h pins s σ H Q I q) (fun b s' hb => wpAny_pure (wpAny_pure hb)) fun _ _ x => x))
def bM (js : List Nat) (os : List Str) (wi : TI) (g : TG) (tt : TT) (te : TE) : TE := fun σ H Q => wi σ H fun J H1 => ∀ p, H1 p = none →
 ∃ W : Nat → Nat → St → Hp → Prop, (∃ m, W 0 m (stC js os σ) (upd H1 p (.lst []))) ∧ ∀ i m σ H, W i m σ H →
  (J.stop i H ∧ Q (.ref p) H) ∨ (J.go i H ∧ ∀ x H', J.yld i H x H' → g x σ H' fun σ2 H2 => tt σ2 H2 fun b H3 =>
   if b = true then te σ2 H3 fun y H4 => ∃ ys, H4 p = some (.lst ys) ∧ ys.length < sizeLine ∧ ∃ m', m' < m ∧ W (i + 1) m' σ2 (upd H4 p (.lst (ys ++ [y])))
   else ∃ m', m' < m ∧ W (i + 1) m' σ2 H3)
section
variable {X : Cx}
theorem MC {scope sc : Scope} {N0 N os : List Str} {js fp : List Nat} {pins : List (Addr × Obj)} {σ : St} {H₃ : Hp} {s₃ : Shared} {h' : Heap} {t' : Nat} {m : Str → Option Value}
  (hc : X.calm = true) (hsc : X.env.scope = sc) (hN : X.N = N0) (ok : OZ scope sc N0 js os N) (I : Inv X pins σ H₃ s₃) (hf : ∀ b ∈ fp, JS X pins H₃ b) (hfs : ∀ b ∈ fp, b < s₃.heap.objs.size)
  (hns : h'.Ns s₃.heap.objs.size m) (hk : ∀ b o, s₃.heap.get? b = some o → h'.get? b = some o) :
  Inv (cxC X scope (EN X.env.cells scope.names []) N s₃ H₃ fp) [] (stC js os σ) H₃ { s₃ with heap := h', toks := t' } := by
 have hfree : ∀ y ∈ scope.names, y.2 = .free → ∃ c, X.env.cells.lookup y.1 = some c := fun y hy e => I.ok.has _ (by
  have := ok.free y hy e
  rw [← hsc] at this
  exact this)
 have sub := FV (cells := X.env.cells) scope.names [] hfree (fun _ _ e => by cases e)
 have has : ∀ y, (y, NameKind.free) ∈ scope.names → ∃ c, (EN X.env.cells scope.names []).lookup y = some c := fun y hy => MB scope.names [] y hy
 refine ⟨⟨I.ok.mod, ok.kind, I.ok.glob, I.ok.blt, Nat.le_refl _, fun x y c e1 e2 => I.ok.inj x y c (sub _ _ e1) (sub _ _ e2), fun x e => has x (QI ok.cell e), (fun _ _ e => by cases e), (fun _ => I.ok.hd hc), I.ok.frames, .inl rfl, ?_, ?_, ?_, ?_, ?_, I.stack, I.stkFree⟩,
  rfl, I.bare, Un.kept hk, ⟨m, hns, ?_⟩, ?_, I.hok.fresh (Nat.le_refl _), ?_, ?_, I.hok.kept hk, ?_⟩
 ·exact fun b hb => ⟨Nat.ne_of_lt (hfs b hb), fun x c e => (hf b hb).2.2.2.2.1 x c (sub _ _ e)⟩
 ·exact I.bs
 ·exact Nat.le_trans I.ok.bsz I.sz
 ·intro b o e hb
  rcases (hf b hb).2.2.2.1 with z | z
  ·exact I.ok.noex b o e z
  ·exact absurd (Nat.lt_of_lt_of_le (Heap.lt_size e) (Nat.le_trans I.ok.bsz z)) (Nat.lt_irrefl _)
 ·intro b hb z
  rcases List.mem_cons.mp (I.stkSub b z) with e | e
  ·exact (hf b hb).2.1 e
  ·exact (hf b hb).2.2.1 e
 ·intro i x v e1 e2 e3
  have hl : i < js.length := by
   apply Classical.byContradiction
   intro hh
   have e2' : (stC js os σ)[i]? = some (some v) := e2
   unfold stC at e2'
   rw [List.getElem?_append_right (by simpa using Nat.le_of_not_lt hh)] at e2'
   rw [List.getElem?_replicate] at e2'
   split at e2' <;> cases e2'
  have ej : js[i]? = some js[i] := List.getElem?_eq_getElem hl
  have e2' : (stC js os σ)[i]? = some (some v) := e2
  unfold stC at e2'
  rw [List.getElem?_append_left (by simpa using hl), List.getElem?_map, ej] at e2'
  have e2'' : (σ[js[i]]?).join = some v := Option.some.inj e2'
  have e1' : N[i]? = some x := e1
  have en : N0[js[i]]? = some x := by
   have q : (N.map some)[i]? = some (some x) := by rw [List.getElem?_map, e1']; rfl
   rw [ok.eq, List.getElem?_append_left (by simpa using hl), List.getElem?_map, ej] at q
   exact Option.some.inj q
  have hfr := ok.slots _ (List.getElem_mem hl)
  rw [en] at hfr
  replace hfr : scope.names.lookup x = some .free := hfr
  have eσ : σ[js[i]]? = some (some v) := by
   cases q : σ[js[i]]? with
   | none => rw [q] at e2''; cases e2''
   | some o => rw [q] at e2''; exact congrArg some e2''
  have kk := ok.free (x, .free) (FG hfr) rfl
  obtain ⟨m0, hn0, hl0⟩ := I.loc
  obtain ⟨u, r, l⟩ := hl0 js[i] x v (by rw [hN]; exact en) eσ (by rw [hsc]; exact .inr kk)
  refine ⟨u, r, .inr ⟨KD hfr, ?_⟩⟩
  rcases l with ⟨k, _⟩ | ⟨k, c, e, z⟩
  ·have k' : sc.names.lookup x = some .local := by rw [← hsc]; exact k
   rcases kk with q | q <;> (dsimp only at q; rw [q] at k'; cases k')
  ·obtain ⟨c', hc'⟩ := has x (FG hfr)
   have := sub _ _ hc'
   rw [e] at this; cases this
   exact ⟨c, hc', z.keeps hk⟩
 ·intro x c e
  obtain ⟨v, z⟩ := I.cell x c (sub _ _ e)
  exact ⟨v, z.keeps hk⟩
 ·exact fun x c e => I.freeC x c (sub _ _ e)
 ·intro p hp
  cases hp
 ·show (stC js os σ).length = N.length
  have := congrArg List.length ok.eq
  simp at this
  simp [stC, this]
theorem PK {elt iter tg : Expr} {ifs : List Expr} {scope sc : Scope} {pos : Pos} {wi : TI} {g : TG} {tt : TT} {te : TE} {N0 N os : List Str} {js : List Nat}
  (hc : X.calm = true) (hsc : X.env.scope = sc) (hN : X.N = N0) (ok : OZ scope sc N0 js os N) (hi : PI X tg iter wi)
  (hg : ∀ s₃ H₃ fp cl, PG (cxC X scope cl N s₃ H₃ fp) tg g) (ht : ∀ s₃ H₃ fp cl, YV (cxC X scope cl N s₃ H₃ fp) ifs tt) (he : ∀ s₃ H₃ fp cl, PE (cxC X scope cl N s₃ H₃ fp) elt te)
  (hs : ∀ x, foldedSetIterable iter X.env x = pure x := by intro _; rfl) :
  PE X (.ListComp elt [⟨tg, iter, ifs, 0⟩] scope pos) (bM js os wi g tt te) := by
 intro pins s σ H Q I h
 rw [eval_ListComp]
 have hfree : ∀ y ∈ scope.names, y.2 = .free → ∃ c, X.env.cells.lookup y.1 = some c := fun y hy e => I.ok.has _ (by
  have := ok.free y hy e
  rw [← hsc] at this
  exact this)
 refine wpAny_comprehension_free (use := none) rfl hs (OV hfree) ok.kind ok.names (thn (hi pins s σ H _ I h) fun v s1 h1 => thn h1 fun itv s2 h2 => ?_)
 obtain ⟨it, fp, tn, J, H1, e, I2, T, st2, f2, hW⟩ := h2
 subst e
 refine wpAny_newObj_type (wpAny_newFunctionEnv ok.cell (by intro y hy; simp at hy) (fun h₁ hns₁ hsb₁ => ?_) ok.kind)
 dsimp only at hns₁ hsb₁ ⊢
 have hfr : H1 s2.heap.objs.size = none := I2.fresh
 have I3 := I2.lnew (ys := []) (its := []) (t' := s2.toks) .nil (Nat.zero_le _)
 generalize hs3 : ({ s2 with heap := s2.heap.push { cls := .type "list", data := .seq ([] : List Value).toArray }, toks := s2.toks } : Shared) = s₃ at I3
 have eh : s2.heap.push { cls := .type "list", dict := none, data := .seq ([] : List Value).toArray } = s₃.heap := by rw [← hs3]
 rw [eh] at hns₁ hsb₁ ⊢
 have k23 : ∀ b o, s2.heap.get? b = some o → s₃.heap.get? b = some o := fun b o q => by rw [← eh]; exact Heap.get?_push_of_some _ q
 have lt2 : ∀ b ∈ fp, b < s2.heap.objs.size := fun b hb => by
  obtain ⟨o, q, _⟩ := T.obj _ _ st2 b hb
  exact Heap.lt_size q
 have sz3 : s2.heap.objs.size ≤ s₃.heap.objs.size := by rw [← eh, Heap.size_push]; exact Nat.le_succ _
 have f3 : ∀ b ∈ fp, JS X pins (upd H1 s2.heap.objs.size (.lst [])) b := fun b hb => ⟨by rw [AH (Nat.ne_of_lt (lt2 b hb))]; exact (f2 b hb).1, (f2 b hb).2⟩
 have k34 : ∀ b o, s₃.heap.get? b = some o → h₁.get? b = some o := fun b o q => hsb₁.extBut b o (Nat.ne_of_lt (Heap.lt_size q)) (Heap.get?_push_of_some _ q)
 have I4 := MC (t' := s₃.toks) hc hsc hN ok I3 f3 (fun b hb => Nat.lt_of_lt_of_le (lt2 b hb) sz3) hns₁ k34
 generalize hX' : cxC X scope (EN X.env.cells scope.names []) N s₃ (upd H1 s2.heap.objs.size (.lst [])) fp = X' at I4
 obtain ⟨W, ⟨m0, w0⟩, turn⟩ := hW _ hfr
 have st4 : tn 0 h₁ := T.keep _ _ _ st2 fun b hb o q => k34 b o (k23 b o q)
 have stat : ∀ {H' : Hp}, (∀ b ∈ fp, H' b = none) → ∀ b ∈ fp, JS X' [] H' b := fun {H'} hn b hb => by
  subst hX'
  refine ⟨hn b hb, Nat.ne_of_lt (Nat.lt_of_lt_of_le (lt2 b hb) sz3), fun z => ?_, .inl hb, fun x c e => ?_, fun p hp => by cases hp⟩
  ·rcases List.mem_cons.mp (I2.stkSub b z) with q | q
   ·exact (f2 b hb).2.1 q
   ·exact (f2 b hb).2.2.1 q
  ·exact (f2 b hb).2.2.2.2.1 x c (FV (cells := X.env.cells) scope.names [] hfree (fun _ _ e => by cases e) _ _ e)
 have ePr : X'.prog = X.prog := by subst hX'; rfl
 have eW : X'.w = X.w := by subst hX'; rfl
 have eK : X'.K = X.K := by subst hX'; rfl
 have eA : X'.A = X.A := by subst hX'; rfl
 have eE : X'.env = compEnvC scope (EN X.env.cells scope.names []) s₃.heap.objs.size X.env := by subst hX'; rfl
 have eC : X'.calm = true := by subst hX'; rfl
 have eX : X'.xe = fun _ _ => False := by subst hX'; rfl
 have hg' : PG X' tg g := by subst hX'; exact hg _ _ _ _
 have ht' : YV X' ifs tt := by subst hX'; exact ht _ _ _ _
 have he' : PE X' elt te := by subst hX'; exact he _ _ _ _
 have fin : ∀ {σ' : St} {H' : Hp} {s' : Shared}, Inv X' [] σ' H' s' → (∀ b ∈ fp, H' b = none) → Q (.ref s2.heap.objs.size) H' → compPost (model X.prog X.w) X.A X.xe none (EP X pins σ Q) (.ref s2.heap.objs.size) s₃.heap.objs.size (.ok .next) s' := by
  intro σ' H' s' I' hn q
  obtain ⟨m, hm, _⟩ := id I'.loc
  subst hX'
  refine ⟨m, hm, fun h'' sb => ⟨.ref s2.heap.objs.size, H', ?_, rfl, q⟩⟩
  have fC : H' s₃.heap.objs.size = none := I'.free
  have hok' : HOk X.prog X.w H' h'' := fun b ob e => by
   refine (I'.hok b ob e).stay (fun c w' hc' q' => (sb.2 c ?_).trans q') (fun _ q' => q') fun _ _ q' => q'
   rintro rfl
   rcases hc' with z | z
   ·have e' := e; rw [← z] at e'; rw [fC] at e'; cases e'
   ·rw [fC] at z; cases z
  have u1 : Un (frs X.stack) fp (upd H1 s2.heap.objs.size (.lst [])) H' s₃.heap h'' := by
   have b0 := I'.base
   have ne : ∀ b o, s₃.heap.get? b = some o → b ≠ s₃.heap.objs.size := fun b o e => Nat.ne_of_lt (Heap.lt_size e)
   exact ⟨fun b o e n hb hx => (sb.2 b (ne b o e)).trans (b0.keep b o e n hb hx), fun b o e n hb hx => by
     obtain ⟨sl, z⟩ := b0.slot b o e n hb hx
     exact ⟨sl, (sb.2 b (ne b o e)).trans z⟩, b0.free, fun b o e hx => by
     obtain ⟨o', z⟩ := b0.there b o e hx
     exact ⟨o', (sb.2 b (ne b o e)).trans z⟩, b0.tups, b0.frzs, b0.tbls⟩
  exact I3.call' (s' := { s' with heap := h'' }) (ch := fp) I'.os u1 hok' I'.bare fun b hb => ⟨(f2 b hb).2.2.2.1, (f2 b hb).2.1, (f2 b hb).2.2.2.2.1, (f2 b hb).2.2.2.2.2⟩
 have loop : codeAny (model X.prog X.w) X.A (.compLoop (.ListComp elt [⟨tg, iter, ifs, 0⟩] scope pos) 0 (.ref it) (.ref s2.heap.objs.size) (compEnvC scope (EN X.env.cells scope.names []) s₃.heap.objs.size X.env))
   (compPost (model X.prog X.w) X.A X.xe none (EP X pins σ Q) (.ref s2.heap.objs.size) s₃.heap.objs.size) { s₃ with heap := h₁, toks := s₃.toks } := by
  refine YN (fun n s' => ∃ i σ' H', Inv X' [] σ' H' s' ∧ tn i s'.heap ∧ (∀ b ∈ fp, H' b = none) ∧ W i n σ' H') ?_ m0 ⟨0, _, _, I4, st4, fun b hb => (f3 b hb).1, w0⟩
  rintro n s5 ⟨i, σ5, H5, I5, st5, fr5, w5⟩
  rw [← ePr, ← eW, ← eA, ← eE]
  rcases turn i n σ5 H5 w5 with ⟨stop, qn⟩ | ⟨go, step⟩
  ·have := T.done X' ePr eW eK eC i [] s5 σ5 H5 X'.xe I5 (stat fr5) st5 stop
   rw [eX] at this
   rw [← ePr, ← eW] at this
   refine thn this fun r s6 ⟨hr, I6⟩ => ?_
   subst hr
   dsimp only
   rw [ePr, eW, eA]
   exact fin I6 fr5 qn
  ·have := T.item X' ePr eW eK eC i [] s5 σ5 H5 X'.xe I5 (stat fr5) st5 go
   rw [eX] at this
   rw [← ePr, ← eW] at this
   refine thn this fun r s6 ⟨u, hr, h6⟩ => ?_
   subst hr
   dsimp only
   refine thn h6 fun _ s7 ⟨x, H7, I7, r7, y7, st7, fr7⟩ => ?_
   have I7' := I7.pinned (stat fr7) (T.obj _ _ st7)
   have g7 := hg' _ s7 σ5 H7 x u _ I7' r7 (step x H7 y7)
   rw [eX] at g7
   refine thn g7 fun _ s8 ⟨σ8, H8, I8, q8⟩ => ?_
   have t8 := ht' _ s8 σ8 H8 _ I8 q8
   rw [eX] at t8
   have again : ∀ {σ9 : St} {H9 : Hp} {s9 : Shared}, Inv X' ([] ++ IL fp s7.heap) σ9 H9 s9 → tn (i + 1) s9.heap ∧ ∀ b ∈ fp, H9 b = none := fun {σ9 H9 s9} I9 => by
    refine ⟨T.keep _ _ _ st7 fun b hb o e => (I9.pin (b, o) (List.mem_append_right _ (List.mem_append_right _ (DI hb e)))).1, fun b hb => ?_⟩
    obtain ⟨o, e, d⟩ := T.obj _ _ st7 b hb
    exact (I9.pin (b, o) (List.mem_append_right _ (List.mem_append_right _ (DI hb e)))).2.1
   refine thn t8 fun b s9 ⟨H9, I9, q9⟩ => ?_
   cases b with
   | false =>
    rw [if_neg Bool.false_ne_true] at q9 ⊢
    obtain ⟨m', hm, w9⟩ := q9
    exact ⟨m', hm, i + 1, σ8, H9, I9.unpinned, (again I9).1, (again I9).2, w9⟩
   | true =>
    rw [if_pos rfl] at q9 ⊢
    have e9 := he' _ s9 σ8 H9 _ I9 q9
    rw [eX] at e9
    refine thn e9 fun y s10 ⟨z, H10, I10, r10, ys, hy, hlen, m', hm, w10⟩ => ?_
    have a10 := JW (X := X') _ s10 σ8 H10 (.ref s2.heap.objs.size) [z] _ _ (fun _ H11 => H11 = upd H10 s2.heap.objs.size (.lst (ys ++ [z]))) I10 rfl (.cons r10 .nil) ⟨_, ys, z, rfl, rfl, hy, hlen, rfl⟩
    rw [eX] at a10
    refine thn a10 fun _ s11 ⟨_, H11, I11, _, e11⟩ => ?_
    subst e11
    exact ⟨m', hm, i + 1, σ8, _, I11.unpinned, (again I11).1, (again I11).2, w10⟩
 have es : ({ s2 with heap := h₁, toks := s2.toks + ([] : List (Str × Value)).length } : Shared) = { s₃ with heap := h₁, toks := s₃.toks } := by rw [← hs3]; rfl
 rw [show ({ s2 with heap := h₁, toks := s2.toks + ([] : List (Str × Value)).length } : Shared) = { s₃ with heap := h₁, toks := s₃.toks } from es]
 exact codeAny_compStart_list loop (T.self _ 0 _ _ _ st4 loop)
end
section
variable {prog : Program} {w : World} {A : Around} {E : Value → Shared → Prop} {s : Shared}
end
section
variable {X : Cx} {pos : Pos}
theorem fG : OpR X (binaryOp .Mult) (rI (fun i j => IntMulOk i j) fun i j => .int (i * j)) := opI fun _ _ _ _ _ _ _ hc q => mul_int q hc
theorem TL {i j : Int} (m n : Nat) (h1 : i.natAbs < 2 ^ m) (h2 : j.natAbs < 2 ^ n) (h : m + n ≤ 134217728) : IntMulOk i j := IntMulOk.of_le (intBits_le h1) (intBits_le h2) h
theorem EZ {i j : Int} (h1 : -(2 ^ 64) < i) (h2 : i < 2 ^ 64) : IntMulOk i j := .of_left (intBits_le_64 h1 h2)
theorem HN {i j : Int} (h1 : -(2 ^ 64) < j) (h2 : j < 2 ^ 64) : IntMulOk i j := .of_right (intBits_le_64 h1 h2)
theorem ZY : OpR X (binaryOp .FloorDiv) (rI (fun _ j => 0 < j ∧ j < 2 ^ 100) fun i j => .int (i / j)) := opI fun i j _ _ s Q E hc q => by
 refine floordiv_int (Int.ne_of_gt hc.1) (by rw [Int.fdiv_eq_ediv_of_nonneg _ (Int.le_of_lt hc.1)]; exact q) (.inl (PyProof.noPylong_of_log2 ?_))
 have h1 : j.natAbs < 2 ^ 100 := by omega
 have h0 : j.natAbs ≠ 0 := by omega
 have := (Nat.log2_lt h0).mpr h1
 omega
theorem aR {c : Value} : DX X (.builtin "isinstance") (fun xs H Q => ∃ x y ty b, xs = [x, y] ∧ AX y c ∧ (∃ n, c = .type n) ∧ IT X.K H x ty ∧ PySem.W.kitOne X.K ty c = some b ∧ Q (.bl b) H) := by
 intro pins s σ H xs us Q I rv h
 obtain ⟨x, y, ty, b, rfl, ry, ⟨n, rfl⟩, hty, hk, q⟩ := h
 obtain ⟨u, u', rfl, ru, ru'⟩ := rv.two
 have e : u' = .type n := by
  cases y with
  | ty m => have := (show Value.type n = Value.type m from ry); cases this; exact ru'
  | non => cases ry
  | bl _ => cases ry
  | int _ => obtain ⟨_, z⟩ := ry; cases z
  | str _ => obtain ⟨_, z⟩ := ry; cases z
  | byt _ => obtain ⟨_, z⟩ := ry; cases z
  | flt _ => obtain ⟨_, z⟩ := ry; cases z
  | ref _ => cases ry
 subst e
 exact XD I ru hty hk fun tk => ⟨.bl b, H, I.tok _, rfl, q⟩
theorem lK {K : PySem.W.Frag} {T U : String} {b : Bool} (h0 : (Value.type T == Value.type U) = false) (h1 : PySem.W.kitMeta U = true) (h2 : ((fastBuiltinMro T).map (·.contains (.type U))) = some b) : PySem.W.kitOne K (.type T) (.type U) = some b := by
 unfold PySem.W.kitOne
 rw [h0, if_neg Bool.false_ne_true]
 unfold PySem.W.kitCls
 dsimp only
 rw [h1, if_pos rfl]
 exact h2
theorem KP {K : PySem.W.Frag} : PySem.W.kitOne K (.type "tuple") (.type "tuple") = some true := rfl
end
def FW (J : It) (g : TG) (tb : TS) (D : GK) (σ : St) (H1 : Hp) : Prop := ∃ W : Nat → Nat → St → Hp → Prop, (∃ m, W 0 m σ H1) ∧ ∀ i m σ H, W i m σ H →
 (J.stop i H ∧ D.nx σ H) ∨ (J.go i H ∧ ∃ N : St → Hp → Prop, (∀ σ' H', N σ' H' → ∃ m', m' < m ∧ W (i + 1) m' σ' H') ∧ ∀ x H', J.yld i H x H' → g x σ H' fun σ2 H2 => tb { D with nx := N, ct := N, bk := D.nx } σ2 H2)
theorem KQ (wi : TI) (g : TG) (tb : TS) (D : GK) (σ : St) (H : Hp) : lU wi g tb D σ H = wi σ H fun J H1 => FW J g tb D σ H1 := rfl
theorem RG {lo : Int} {n : Nat} {g : TG} {tb : TS} {D : GK} {σ : St} {H : Hp} (Pv : Nat → St → Hp → Prop) (h0 : Pv 0 σ H)
  (hs : ∀ i σ H, i < n → Pv i σ H → g (.int (lo + i)) σ H fun σ2 H2 => tb { D with nx := Pv (i + 1), ct := Pv (i + 1), bk := D.nx } σ2 H2) (hd : ∀ σ H, Pv n σ H → D.nx σ H) : FW (Itr lo n) g tb D σ H := XS Pv h0 hs hd
theorem WN {K : PySem.W.Frag} {a : Addr} {xs : List V} {g : TG} {tb : TS} {D : GK} {σ : St} {H : Hp} (Pv : Nat → St → Hp → Prop) (h0 : Pv 0 σ H) (hl : ∀ i σ H, i ≤ xs.length → Pv i σ H → SqL K H a xs)
  (hs : ∀ i x σ H, xs[i]? = some x → Pv i σ H → g x σ H fun σ2 H2 => tb { D with nx := Pv (i + 1), ct := Pv (i + 1), bk := D.nx } σ2 H2) (hd : ∀ σ H, Pv xs.length σ H → D.nx σ H) : FW (Itl K a) g tb D σ H := cY Pv h0 hl hs hd
def CW (J : It) (g : TG) (tt : TT) (te : TE) (p : Addr) (Q : VK) (σ : St) (H1 : Hp) : Prop :=
 ∃ W : Nat → Nat → St → Hp → Prop, (∃ m, W 0 m σ H1) ∧ ∀ i m σ H, W i m σ H →
  (J.stop i H ∧ Q (.ref p) H) ∨ (J.go i H ∧ ∀ x H', J.yld i H x H' → g x σ H' fun σ2 H2 => tt σ2 H2 fun b H3 =>
   if b = true then te σ2 H3 fun y H4 => ∃ ys, H4 p = some (.lst ys) ∧ ys.length < sizeLine ∧ ∃ m', m' < m ∧ W (i + 1) m' σ2 (upd H4 p (.lst (ys ++ [y])))
   else ∃ m', m' < m ∧ W (i + 1) m' σ2 H3)
theorem JI (js : List Nat) (os : List Str) (wi : TI) (g : TG) (tt : TT) (te : TE) (σ : St) (H : Hp) (Q : VK) : bM js os wi g tt te σ H Q = wi σ H fun J H1 => ∀ p, H1 p = none → CW J g tt te p Q (stC js os σ) (upd H1 p (.lst [])) := rfl
def Nx (n i : Nat) (P : Prop) : Prop := ∃ m', m' < n - i ∧ m' = n - (i + 1) ∧ i + 1 ≤ n ∧ P
theorem nx {n i : Nat} {P : Prop} (h : i < n) (p : P) : Nx n i P := ⟨n - (i + 1), by omega, rfl, h, p⟩
theorem RV {lo : Int} {n : Nat} {g : TG} {tt : TT} {te : TE} {p : Addr} {Q : VK} {σ : St} {H : Hp} (Pv : Nat → St → Hp → Prop) (h0 : Pv 0 σ H)
  (hs : ∀ i σ H, i < n → Pv i σ H → g (.int (lo + i)) σ H fun σ2 H2 => tt σ2 H2 fun b H3 => if b = true then te σ2 H3 fun y H4 => ∃ ys, H4 p = some (.lst ys) ∧ ys.length < sizeLine ∧ Nx n i (Pv (i + 1) σ2 (upd H4 p (.lst (ys ++ [y])))) else Nx n i (Pv (i + 1) σ2 H3))
  (hd : ∀ σ H, Pv n σ H → Q (.ref p) H) : CW (Itr lo n) g tt te p Q σ H := by
 refine ⟨fun i m σ H => m = n - i ∧ i ≤ n ∧ Pv i σ H, ⟨n, by simp, Nat.zero_le _, h0⟩, ?_⟩
 rintro i m σ H ⟨rfl, hi, q⟩
 by_cases hlt : i < n
 ·refine .inr ⟨hlt, fun x H' y => ?_⟩
  obtain ⟨e, y⟩ := y
  subst e y
  exact hs i σ _ hlt q
 ·have e : i = n := by omega
  subst e
  exact .inl ⟨Nat.le_refl _, hd σ H q⟩
theorem hU {K : PySem.W.Frag} {a : Addr} {xs : List V} {g : TG} {tt : TT} {te : TE} {p : Addr} {Q : VK} {σ : St} {H : Hp} (Pv : Nat → St → Hp → Prop) (h0 : Pv 0 σ H) (hl : ∀ i σ H, i ≤ xs.length → Pv i σ H → SqL K H a xs)
  (hs : ∀ i x σ H, xs[i]? = some x → Pv i σ H → g x σ H fun σ2 H2 => tt σ2 H2 fun b H3 => if b = true then te σ2 H3 fun y H4 => ∃ ys, H4 p = some (.lst ys) ∧ ys.length < sizeLine ∧ Nx xs.length i (Pv (i + 1) σ2 (upd H4 p (.lst (ys ++ [y])))) else Nx xs.length i (Pv (i + 1) σ2 H3))
  (hd : ∀ σ H, Pv xs.length σ H → Q (.ref p) H) : CW (Itl K a) g tt te p Q σ H := by
 refine ⟨fun i m σ H => m = xs.length - i ∧ i ≤ xs.length ∧ Pv i σ H, ⟨xs.length, by simp, Nat.zero_le _, h0⟩, ?_⟩
 rintro i m σ H ⟨rfl, hi, q⟩
 have w := hl i σ H hi q
 by_cases hlt : i < xs.length
 ·refine .inr ⟨⟨xs, xs[i], w, by simp [hlt]⟩, fun x H' y => ?_⟩
  obtain ⟨e, y⟩ := y
  subst e
  exact hs i x σ _ (y xs w) q
 ·have e : i = xs.length := by omega
  subst e
  exact .inl ⟨⟨xs, w, Nat.le_refl _⟩, hd σ H q⟩
theorem jO {K : PySem.W.Frag} {a : Addr} {xs : List V} {g : TG} {tt : TT} {te : TE} {p : Addr} {Q : VK} {σ : St} {H : Hp} (Pv : Nat → St → Hp → Prop) (h0 : Pv 0 σ H) (hl : ∀ i σ H, i ≤ xs.length → Pv i σ H → SqT K H a xs)
  (hs : ∀ i x σ H, xs[i]? = some x → Pv i σ H → g x σ H fun σ2 H2 => tt σ2 H2 fun b H3 => if b = true then te σ2 H3 fun y H4 => ∃ ys, H4 p = some (.lst ys) ∧ ys.length < sizeLine ∧ Nx xs.length i (Pv (i + 1) σ2 (upd H4 p (.lst (ys ++ [y])))) else Nx xs.length i (Pv (i + 1) σ2 H3))
  (hd : ∀ σ H, Pv xs.length σ H → Q (.ref p) H) : CW (Itt K a) g tt te p Q σ H := by
 refine ⟨fun i m σ H => m = xs.length - i ∧ i ≤ xs.length ∧ Pv i σ H, ⟨xs.length, by simp, Nat.zero_le _, h0⟩, ?_⟩
 rintro i m σ H ⟨rfl, hi, q⟩
 have w := hl i σ H hi q
 by_cases hlt : i < xs.length
 ·refine .inr ⟨⟨xs, xs[i], w, by simp [hlt]⟩, fun x H' y => ?_⟩
  obtain ⟨e, y⟩ := y
  subst e
  exact hs i x σ _ (y xs w) q
 ·have e : i = xs.length := by omega
  subst e
  exact .inl ⟨⟨xs, w, Nat.le_refl _⟩, hd σ H q⟩
theorem VP {c : TT} {tb : TS} {D : GK} {σ : St} {H : Hp} (Pv : St → Hp → Prop) (μ : St → Hp → Nat) (h0 : Pv σ H)
  (hs : ∀ σ H, Pv σ H → c σ H fun b H1 => if b = true then ∃ N : St → Hp → Prop, (∀ σ' H', N σ' H' → ∃ m', m' < μ σ H ∧ (m' = μ σ' H' ∧ Pv σ' H')) ∧ tb { D with nx := N, ct := N, bk := D.nx } σ H1 else D.nx σ H1) : ZN c tb D σ H := by
 refine ⟨fun m σ H => m = μ σ H ∧ Pv σ H, ⟨_, rfl, h0⟩, ?_⟩
 rintro m σ H ⟨rfl, p⟩
 have z := hs σ H p
 exact z
theorem AI.upd {H : Hp} {p : Addr} {o : HO} (h : H p = none) : AI H (upd H p o) := fun b u e => by rw [AH (DT e h)]; exact e
theorem AI.upd2 {H H' : Hp} {p : Addr} {o : HO} (s : AI H H') (h : H p = none) : AI H (L2.upd H' p o) := fun b u e => by rw [AH (DT e h)]; exact s b u e
theorem AI.tup {K : PySem.W.Frag} {H H' : Hp} {a : Addr} {xs : List V} (e : AI H H') (h : SqT K H a xs) : SqT K H' a xs := by
 rcases h with (h | ⟨o, h⟩) | h
 ·exact .inl (.inl (e _ _ h))
 ·exact .inl (.inr ⟨o, e _ _ h⟩)
 ·exact .inr h
theorem RY {ns : List Int} {k : Int} (h0 : 0 ≤ k) (h1 : k < ns.length) : ∃ z ∈ ns, atI (ns.map V.int) k = some (.int z) := by
 have hk : k.toNat < ns.length := by omega
 refine ⟨ns[k.toNat], List.getElem_mem hk, ?_⟩
 have e : ((k.toNat : Nat) : Int) = k := by omega
 have := HY (xs := ns.map V.int) (j := k.toNat) (v := .int ns[k.toNat]) (by rw [List.getElem?_map, List.getElem?_eq_getElem hk]; rfl)
 rw [e] at this
 exact this
inductive D where
 | int (i : Int) | str (x : Str) | non | tup (ds : List D)
mutual
def Rp (K : PySem.W.Frag) (H : Hp) : D → V → Prop
 | .int i, v => v = .int i
 | .str x, v => v = .str x
 | .non, v => v = .non
 | .tup ds, v => ∃ p xs, v = .ref p ∧ SqT K H p xs ∧ RpL K H ds xs
def RpL (K : PySem.W.Frag) (H : Hp) : List D → List V → Prop
 | [], xs => xs = []
 | d :: ds, xs => ∃ v r, xs = v :: r ∧ Rp K H d v ∧ RpL K H ds r
end
mutual
def deq : D → D → Bool
 | .int i, .int j => i == j
 | .str x, .str y => x == y
 | .non, .non => true
 | .tup ds, .tup es => deqL ds es
 | _, _ => false
def deqL : List D → List D → Bool
 | [], [] => true
 | d :: ds, e :: es => deq d e && deqL ds es
 | _, _ => false
end
mutual
def dep : D → Nat
 | .tup ds => depL ds + 1
 | _ => 0
def depL : List D → Nat
 | [] => 0
 | d :: ds => max (dep d) (depL ds)
end
theorem RpL.length {K : PySem.W.Frag} {H : Hp} : ∀ {ds : List D} {xs : List V}, RpL K H ds xs → xs.length = ds.length
 | [], xs, h => by rw [RpL] at h; subst h; rfl
 | d :: ds, xs, h => by
  rw [RpL] at h
  obtain ⟨v, r, rfl, _, h⟩ := h
  rw [List.length_cons, List.length_cons, RpL.length h]
mutual
theorem Rp.same {K : PySem.W.Frag} {H H' : Hp} (s : AI H H') : ∀ {d : D} {v : V}, Rp K H d v → Rp K H' d v
 | .int i, v, h => by rw [Rp] at h ⊢; exact h
 | .str x, v, h => by rw [Rp] at h ⊢; exact h
 | .non, v, h => by rw [Rp] at h ⊢; exact h
 | .tup ds, v, h => by
  rw [Rp] at h ⊢
  obtain ⟨p, xs, e, hs, hl⟩ := h
  exact ⟨p, xs, e, s.tup hs, RpL.same s hl⟩
theorem RpL.same {K : PySem.W.Frag} {H H' : Hp} (s : AI H H') : ∀ {ds : List D} {xs : List V}, RpL K H ds xs → RpL K H' ds xs
 | [], xs, h => by rw [RpL] at h ⊢; exact h
 | d :: ds, xs, h => by
  rw [RpL] at h ⊢
  obtain ⟨v, r, e, h1, h2⟩ := h
  exact ⟨v, r, e, Rp.same s h1, RpL.same s h2⟩
end
section
variable {X : Cx} {pins : List (Addr × Obj)} {σ : L2.St} {H : Hp} {s : Shared}
end
mutual
def IR (K : PySem.W.Frag) : D → Value → Bool
 | .int i, .int j _ => i == j
 | .str x, .str y _ => x == y
 | .non, .none => true
 | .tup ds, .ref p => (match K.lookup p with
  | some o => (match o.cls, o.data with
   | .type n, .seq its _ => n == "tuple" && decide (its.size ≤ 1000) && kdInL K ds its.toList
   | _, _ => false)
  | none => false)
 | _, _ => false
def kdInL (K : PySem.W.Frag) : List D → List Value → Bool
 | [], [] => true
 | d :: ds, u :: us => IR K d u && kdInL K ds us
 | _, _ => false
end
mutual
theorem LM {K : PySem.W.Frag} : ∀ {d : D} {u : Value}, IR K d u = true → ∃ v, AX v u ∧ ∀ H, Rp K H d v
 | .int i, u, h => by
  cases u with
  | int j t =>
   rw [IR] at h
   have e : i = j := by simpa using h
   subst e
   exact ⟨.int i, ⟨t, rfl⟩, fun H => by rw [Rp]⟩
  | _ => simp [IR] at h
 | .str x, u, h => by
  cases u with
  | str y t =>
   rw [IR] at h
   have e : x = y := by simpa using h
   subst e
   exact ⟨.str x, ⟨t, rfl⟩, fun H => by rw [Rp]⟩
  | _ => simp [IR] at h
 | .non, u, h => by
  cases u with
  | none => exact ⟨.non, rfl, fun H => by rw [Rp]⟩
  | _ => simp [IR] at h
 | .tup ds, u, h => by
  cases u with
  | ref p =>
   rw [IR] at h
   cases e : K.lookup p with
   | none => rw [e] at h; cases h
   | some o =>
    rw [e] at h
    dsimp only at h
    split at h
    ·rename_i n its k ec ed
     simp only [Bool.and_eq_true, beq_iff_eq, decide_eq_true_eq] at h
     obtain ⟨⟨rfl, hz⟩, hl⟩ := h
     obtain ⟨vs, rv, hv⟩ := kd_rpL hl
     exact ⟨.ref p, rfl, fun H => by
      rw [Rp]
      exact ⟨p, vs, rfl, .inr ⟨o, its, k, e, ec, ed, Nat.le_trans hz (by decide), rv⟩, hv H⟩⟩
    ·cases h
  | _ => simp [IR] at h
theorem kd_rpL {K : PySem.W.Frag} : ∀ {ds : List D} {us : List Value}, kdInL K ds us = true → ∃ vs, AN vs us ∧ ∀ H, RpL K H ds vs
 | [], us, h => by
  cases us with
  | nil => exact ⟨[], .nil, fun H => by rw [RpL]⟩
  | cons _ _ => simp [kdInL] at h
 | d :: ds, us, h => by
  cases us with
  | nil => simp [kdInL] at h
  | cons u us =>
   rw [kdInL, Bool.and_eq_true] at h
   obtain ⟨v, r, hv⟩ := LM h.1
   obtain ⟨vs, rs, hvs⟩ := kd_rpL h.2
   exact ⟨v :: vs, .cons r rs, fun H => by rw [RpL]; exact ⟨v, vs, rfl, hv H, hvs H⟩⟩
end
theorem RpL.at {K : PySem.W.Frag} {H : Hp} : ∀ {ds : List D} {xs : List V} {j : Nat}, RpL K H ds xs → j < ds.length → ∃ v, xs[j]? = some v ∧ Rp K H (ds.getD j .non) v
 | [], xs, j, h, hj => absurd hj (Nat.not_lt_zero _)
 | d :: ds, xs, j, h, hj => by
  rw [RpL] at h
  obtain ⟨v, r, rfl, h1, h2⟩ := h
  cases j with
  | zero => exact ⟨v, rfl, h1⟩
  | succ j =>
   obtain ⟨u, e, q⟩ := RpL.at (ds := ds) (xs := r) (j := j) h2 (by simpa using hj)
   exact ⟨u, e, q⟩
theorem RpL.atI {K : PySem.W.Frag} {H : Hp} {ds : List D} {xs : List V} {i : Int} (h : RpL K H ds xs) (h0 : 0 ≤ i) (h1 : i < ds.length) : ∃ v, L2.atI xs i = some v ∧ Rp K H (ds.getD i.toNat .non) v := by
 obtain ⟨v, e, r⟩ := h.at (j := i.toNat) (by omega)
 have := HY e
 rw [show ((i.toNat : Nat) : Int) = i by omega] at this
 exact ⟨v, this, r⟩
abbrev num (a b : Int) : D := .tup [.int a, .int b]
abbrev plc (a b c d : Int) : D := .tup [num a b, num c d]
theorem IY {K : PySem.W.Frag} {H : Hp} {a b : Int} {v : V} : Rp K H (num a b) v ↔ ∃ p, v = .ref p ∧ SqT K H p [.int a, .int b] := by
 constructor
 ·intro h
  rw [Rp] at h
  obtain ⟨p, xs, rfl, hs, hl⟩ := h
  rw [RpL] at hl
  obtain ⟨v, r, rfl, h1, hl⟩ := hl
  rw [RpL] at hl
  obtain ⟨v', r', rfl, h2, hl⟩ := hl
  rw [RpL] at hl
  rw [Rp] at h1 h2
  subst h1 h2 hl
  exact ⟨p, rfl, hs⟩
 ·rintro ⟨p, rfl, hs⟩
  rw [Rp]
  refine ⟨p, _, rfl, hs, ?_⟩
  rw [RpL]
  refine ⟨_, _, rfl, by rw [Rp], ?_⟩
  rw [RpL]
  refine ⟨_, _, rfl, by rw [Rp], ?_⟩
  rw [RpL]
theorem DM {K : PySem.W.Frag} {H : Hp} {d e : D} {v : V} : Rp K H (.tup [d, e]) v ↔ ∃ p x y, v = .ref p ∧ SqT K H p [x, y] ∧ Rp K H d x ∧ Rp K H e y := by
 constructor
 ·intro h
  rw [Rp] at h
  obtain ⟨p, xs, rfl, hs, hl⟩ := h
  rw [RpL] at hl
  obtain ⟨v, r, rfl, h1, hl⟩ := hl
  rw [RpL] at hl
  obtain ⟨v', r', rfl, h2, hl⟩ := hl
  rw [RpL] at hl
  subst hl
  exact ⟨p, v, v', rfl, hs, h1, h2⟩
 ·rintro ⟨p, x, y, rfl, hs, h1, h2⟩
  rw [Rp]
  refine ⟨p, _, rfl, hs, ?_⟩
  rw [RpL]
  refine ⟨_, _, rfl, h1, ?_⟩
  rw [RpL]
  refine ⟨_, _, rfl, h2, ?_⟩
  rw [RpL]
section
variable {X : Cx}
theorem XX {c : Value} : DX X (.builtin "isinstance") (fun xs H Q => ∃ x y, xs = [x, y] ∧ AX y c ∧ (∃ n, c = .type n) ∧ ∃ ty, (IT X.K H x ty ∨ ∃ p ys, x = .ref p ∧ SqT X.K H p ys ∧ ty = .type "tuple") ∧ ∃ b, PySem.W.kitOne X.K ty c = some b ∧ Q (.bl b) H) := by
 intro pins s σ H xs us Q I rv h
 obtain ⟨x, y, rfl, ry, ⟨n, rfl⟩, ty, hty, b, hk, q⟩ := h
 rcases hty with hty | ⟨p, ys, rfl, hs, rfl⟩
 ·exact aR (c := .type n) pins s σ H [x, y] us Q I rv ⟨x, y, ty, b, rfl, ry, ⟨n, rfl⟩, hty, hk, q⟩
 ·obtain ⟨u, u', rfl, ru, ru'⟩ := rv.two
  have e : u' = .type n := by
   cases y with
   | ty m => have := (show Value.type n = Value.type m from ry); cases this; exact ru'
   | non => cases ry
   | bl _ => cases ry
   | int _ => obtain ⟨_, z⟩ := ry; cases z
   | str _ => obtain ⟨_, z⟩ := ry; cases z
   | byt _ => obtain ⟨_, z⟩ := ry; cases z
   | flt _ => obtain ⟨_, z⟩ := ry; cases z
   | ref _ => cases ry
  subst e
  cases ru
  obtain ⟨its, _, ⟨o, h1, h2, _⟩, _⟩ := I.tuple hs
  exact PySem.W.kia_one PySem.W.kitx_tuple I.kIn ⟨o, h1, h2⟩ hk (fun z => nomatch z) fun tk => ⟨.bl b, H, I.tok _, rfl, q⟩
end
def ND (K : PySem.W.Frag) (d : D) : TE := fun _ H Q => ∀ v H', AI H H' → Rp K H' d v → Q v H'
def GS (K : PySem.W.Frag) (ds : List D) : TA := fun _ H Q => ∀ vs H', AI H H' → RpL K H' ds vs → Q vs H'
section
variable {X : Cx} {e : Expr} {es : List Expr} {pos : Pos} {d : D} {ds : List D}
theorem PE.imp {t t' : TE} (h : PE X e t) (i : ∀ σ H Q, t' σ H Q → t σ H Q) : PE X e t' := fun pins s σ H Q I q => h pins s σ H Q I (i _ _ _ q)
theorem PA.imp {t t' : TA} (h : PA X es t) (i : ∀ σ H Q, t' σ H Q → t σ H Q) : PA X es t' := fun p pins s σ H Q I q => h p pins s σ H Q I (i _ _ _ q)
theorem jE {i : Int} {j pos} : PE X (.Constant (.int i) j pos) (ND X.K (.int i)) := AE.imp fun _ H Q q => q _ _ (AI.refl H) (by rw [Rp])
theorem lC {i : Int} {j pos pos'} : PE X (.UnaryOp .USub (.Constant (.int i) j pos) pos') (ND X.K (.int (-i))) := (NX bX AE).imp fun _ H Q q => ⟨_, rfl, q _ _ (AI.refl H) (by rw [Rp])⟩
theorem kJ {x : Str} {j pos} : PE X (.Constant (.str x) j pos) (ND X.K (.str x)) := AS.imp fun _ H Q q => q _ _ (AI.refl H) (by rw [Rp])
theorem BH : PA X [] (GS X.K []) := AC.imp fun _ H Q q => q _ _ (AI.refl H) (by rw [RpL])
theorem JF (h : PE X e (ND X.K d)) (hs : PA X es (GS X.K ds)) (he : starEach (e :: es) X.env = (false, eval e X.env) :: starEach es X.env := by rfl) : PA X (e :: es) (GS X.K (d :: ds)) :=
 (AA h hs he).imp fun _ H Q q => fun v H1 s1 r1 vs H2 s2 r2 => q _ _ (s1.trans s2) (by rw [RpL]; exact ⟨v, vs, rfl, r1.same s2, r2⟩)
theorem BT {x1} (h : PA X es (GS X.K ds)) (hz : ds.length ≤ 1000 := by decide) : PE X (.Tuple es x1 pos) (ND X.K (.tup ds)) :=
 (BA h).imp fun _ H Q q => fun vs H1 s1 r1 => ⟨by rw [r1.length]; exact Nat.le_trans hz (by decide), fun p hp => q _ _ (s1.upd2 (s1.free hp)) (by
  rw [Rp]; exact ⟨p, vs, rfl, SqT.of AB, r1.same (AI.upd hp)⟩)⟩
end
end L2
namespace L2
open PySem PySem.Spec PyProof.Rows L2
section
variable {X : Cx} {es es' : List Expr} {pos pos' p : Pos} {d : D} {ds : List D}
theorem AL {x1} {te : TE} {t : TA} (ha : PE X (.Tuple es' x1 p) te) (hr : PA X es t) : PA X (.Tuple es' x1 p :: es) (OB te t) := AA ha hr (by rfl)
theorem FS {x1} (ha : PE X (.Tuple es' x1 p) (ND X.K d)) (hr : PA X es (GS X.K ds)) : PA X (.Tuple es' x1 p :: es) (GS X.K (d :: ds)) := JF ha hr (by rfl)
theorem BG {i : Int} {j} (hr : PA X es (GS X.K ds)) : PA X (.Constant (.int i) j p :: es) (GS X.K (.int i :: ds)) := JF jE hr (by rfl)
theorem BC {i : Str} {j} (hr : PA X es (GS X.K ds)) : PA X (.Constant (.str i) j p :: es) (GS X.K (.str i :: ds)) := JF kJ hr (by rfl)
theorem GB {i : Int} {j} (hr : PA X es (GS X.K ds)) : PA X (.UnaryOp .USub (.Constant (.int i) j p) pos :: es) (GS X.K (.int (-i) :: ds)) := JF lC hr (by rfl)
end
theorem QF {CX P w K mg base N nm sc fa cdv A outer s H E} : (EI CX P w K mg base N nm sc fa cdv A outer s H E).K = K := rfl
section
variable {κ : Type} [DecidableEq κ]
def FQ (kvs : List (κ × V)) (k : κ) : Option V := (kvs.find? fun kv => decide (kv.1 = k)).map (·.2)
def EC (kvs : List (κ × V)) (k : κ) (v : V) : List (κ × V) :=
 if (kvs.any fun kv => decide (kv.1 = k)) = true then kvs.map (fun kv => if kv.1 = k then (kv.1, v) else kv) else kvs ++ [(k, v)]
theorem MX {p : κ × V} {r : List (κ × V)} {k : κ} (e : p.1 = k) : FQ (p :: r) k = some p.2 := by simp [FQ, List.find?_cons, e]
theorem MN {p : κ × V} {r : List (κ × V)} {k : κ} (e : ¬ p.1 = k) : FQ (p :: r) k = FQ r k := by simp [FQ, List.find?_cons, e]
theorem SE (k : κ) : ∀ kvs : List (κ × V), (kvs.any fun kv => decide (kv.1 = k)) = (FQ kvs k).isSome
 | [] => rfl
 | p :: r => by
  rw [List.any_cons]
  by_cases e : p.1 = k
  ·simp only [MX e, decide_eq_true e, Bool.true_or, Option.isSome_some]
  ·rw [MN e, decide_eq_false e, Bool.false_or]; exact SE k r
theorem KK (kvs : List (κ × V)) (k : κ) (v : V) : (EC kvs k v).length ≤ kvs.length + 1 := by
 unfold EC
 split
 ·rw [List.length_map]; omega
 ·rw [List.length_append, List.length_cons, List.length_nil]; omega
theorem IC.isSome_eq {o : Option V} {u : Option Value} (r : IC o u) : o.isSome = u.isSome := by
 cases o with
 | none => cases u with
  | none => rfl
  | some _ => exact (show False from r).elim
 | some _ => cases u with
  | none => exact (show False from r).elim
  | some _ => rfl
theorem KV.val {kvs : List (κ × V)} {vs : List (κ × Value)} (r : KV kvs vs) (k : κ) : IC (FQ kvs k) (valueAt vs k) := by
 unfold KV at r
 induction r with
 | nil => exact True.intro
 | @cons p q ps qs h t ih =>
  obtain ⟨h1, h2⟩ := h
  by_cases e : p.1 = k
  ·have e' : q.1 = k := h1.symm.trans e
   have b : valueAt (q :: qs) k = some q.2 := by simp [valueAt, List.find?_cons, e']
   rw [MX e, b]; exact h2
  ·have e' : ¬ q.1 = k := fun z => e (h1.trans z)
   have b : valueAt (q :: qs) k = valueAt qs k := by simp [valueAt, List.find?_cons, e']
   rw [MN e, b]; exact ih
theorem KV.any {kvs : List (κ × V)} {vs : List (κ × Value)} (r : KV kvs vs) (k : κ) : (kvs.any fun kv => decide (kv.1 = k)) = vs.any fun kv => decide (kv.1 = k) := by
 unfold KV at r
 induction r with
 | nil => rfl
 | cons h t ih => rw [List.any_cons, List.any_cons, ih, h.1]
theorem KV.repl {kvs : List (κ × V)} {vs : List (κ × Value)} (r : KV kvs vs) (k : κ) {y : V} {u : Value} (ry : AX y u) :
  KV (kvs.map fun kv => if kv.1 = k then (kv.1, y) else kv) (vs.map fun kv => if kv.1 = k then (kv.1, u) else kv) := by
 unfold KV at r ⊢
 induction r with
 | nil => exact .nil
 | @cons p q ps qs h t ih =>
  rw [List.map_cons, List.map_cons]
  refine .cons ?_ ih
  obtain ⟨h1, h2⟩ := h
  by_cases e : p.1 = k
  ·rw [if_pos e, if_pos (h1.symm.trans e)]; exact ⟨h1, ry⟩
  ·rw [if_neg e, if_neg (fun z => e (h1.trans z))]; exact ⟨h1, h2⟩
theorem KV.put {kvs : List (κ × V)} {vs : List (κ × Value)} (r : KV kvs vs) (k : κ) {y : V} {u : Value} (ry : AX y u) : KV (EC kvs k y) (stored vs k u) := by
 unfold EC stored
 rw [r.any k]
 by_cases e : (vs.any fun kv => decide (kv.1 = k)) = true
 ·rw [if_pos e, if_pos e]; exact r.repl k ry
 ·rw [if_neg e, if_neg e]; exact Paired.snoc r ⟨rfl, ry⟩
theorem KV.length {kvs : List (κ × V)} {vs : List (κ × Value)} (r : KV kvs vs) : kvs.length = vs.length := Paired.length r
end
theorem WQ {P : Program} {w : World} {k : Key} {u : Value} (r : AX (kV k) u) : (BQ P w).is k u = true := by
 cases k with
 | inl i => obtain ⟨t, e⟩ := (show ∃ t, u = Value.int i t from r); subst e; exact KH P w i t
 | inr x => obtain ⟨t, e⟩ := (show ∃ t, u = Value.str x t from r); subst e; exact KG P w x t
theorem OK {P : Program} {w : World} : ∀ {ks : List Key} {us : List Value}, AN (ks.map kV) us → ItemsAre (BQ P w) ks us
 | [], _, r => by rw [List.map_nil] at r; cases r; exact .nil
 | k :: ks, _, r => by
  rw [List.map_cons] at r
  cases r with
  | cons h t => exact .cons (WQ h) (OK t)
abbrev KT (H : Hp) : List (List Key × V) → List (List Key × Addr × Value) → Prop := Paired fun p q => p.1 = q.1 ∧ H q.2.1 = some (.tup (p.1.map kV)) ∧ AX p.2 q.2.2
theorem KT.val {H : Hp} {kvs : List (List Key × V)} {xs : List (List Key × Addr × Value)} (r : KT H kvs xs) (k : List Key) : IC (FQ kvs k) ((atKey xs k).map (·.2)) := by
 induction r with
 | nil => exact True.intro
 | @cons p q ps qs h t ih =>
  obtain ⟨h1, _, h2⟩ := h
  by_cases e : p.1 = k
  ·have e' : q.1 = k := h1.symm.trans e
   have b : atKey (q :: qs) k = some q.2 := by simp [atKey, List.find?_cons, e']
   rw [MX e, b]; exact h2
  ·have e' : ¬ q.1 = k := fun z => e (h1.trans z)
   have b : atKey (q :: qs) k = atKey qs k := by simp [atKey, List.find?_cons, e']
   rw [MN e, b]; exact ih
theorem KT.repl {H : Hp} {kvs : List (List Key × V)} {xs : List (List Key × Addr × Value)} (r : KT H kvs xs) (k : List Key) {y : V} {u : Value} (ry : AX y u) :
  KT H (kvs.map fun kv => if kv.1 = k then (kv.1, y) else kv) (xs.map (putAt k u)) := by
 induction r with
 | nil => exact .nil
 | @cons p q ps qs h t ih =>
  rw [List.map_cons, List.map_cons]
  refine .cons ?_ ih
  obtain ⟨h1, h2, h3⟩ := h
  unfold putAt
  by_cases e : p.1 = k
  ·rw [if_pos e, if_pos (h1.symm.trans e)]; exact ⟨h1, h2, ry⟩
  ·rw [if_neg e, if_neg (fun z => e (h1.trans z))]; exact ⟨h1, h2, h3⟩
theorem KT.put {H : Hp} {kvs : List (List Key × V)} {xs : List (List Key × Addr × Value)} (r : KT H kvs xs) (k : List Key) {b : Addr} {y : V} {u : Value} (hb : H b = some (.tup (k.map kV))) (ry : AX y u) :
  KT H (EC kvs k y) (storedH xs k b u) := by
 have e : (kvs.any fun kv => decide (kv.1 = k)) = (atKey xs k).isSome := by
  rw [SE, (r.val k).isSome_eq, Option.isSome_map]
 unfold EC storedH
 rw [e]
 by_cases q : (atKey xs k).isSome = true
 ·rw [if_pos q, if_pos q]; exact r.repl k ry
 ·rw [if_neg q, if_neg q]; exact Paired.snoc r ⟨rfl, hb, ry⟩
theorem KT.keeps {H H' : Hp} {kvs : List (List Key × V)} {xs : List (List Key × Addr × Value)} (r : KT H kvs xs) (ht : ∀ b ys, H b = some (.tup ys) → H' b = some (.tup ys)) : KT H' kvs xs :=
 Paired.mapP r fun _ _ z => ⟨z.1, ht _ _ z.2.1, z.2.2⟩
section
variable {P : Program} {w : World} {H : Hp} {h : Heap} {a : Addr}
theorem iU {u : HO} (ok : HOk P w H h) (e : Rd H a u) : CS P w H h a u := e.ok ok
theorem RQ {kvs : List (Key × V)} (ok : HOk P w H h) (e : Rd H a (.dK kvs)) : kvs.length ≤ sizeLine ∧ (a == sysModules) = false ∧ ∃ vs, KV kvs vs ∧ h.DictOf (BQ P w) a vs :=
 show CS P w H h a (.dK kvs) from iU ok e
theorem iQ {kvs : List (Key × V)} (ok : HOk P w H h) (e : H a = some (.dK kvs)) : kvs.length ≤ sizeLine ∧ (a == sysModules) = false ∧ ∃ vs, KV kvs vs ∧ h.DictOf (BQ P w) a vs := RQ ok (.inl e)
theorem QA {ks : List Key} (ok : HOk P w H h) (e : H a = some (.tup (ks.map kV))) : (tupleKind (BQ P w)).is h ks a := by
 obtain ⟨_, its, r, o, h1, h2, n, h3⟩ := (show CS P w H h a (.tup (ks.map kV)) from ok a _ e)
 exact ⟨o, its.toArray, n, h1, h2, h3, by simpa using OK r⟩
theorem WB {kvs : List (List Key × V)} (ok : HOk P w H h) (e : Rd H a (.dT kvs)) : kvs.length ≤ sizeLine ∧ (a == sysModules) = false ∧
  ∃ xs, KT H kvs xs ∧ h.DictOfH (tupleKind (BQ P w)) a xs := by
 obtain ⟨z, y, xs, r, o, es, ep, h1, h2, h3, h4, h5⟩ := (show CS P w H h a (.dT kvs) from iU ok e)
 refine ⟨z, y, xs, r, o, es, ep, h1, h2, h3, h4, fun x hx => ?_, h5⟩
 have all : ∀ {l : List (List Key × V)} {m : List (List Key × Addr × Value)}, KT H l m → ∀ x ∈ m, (tupleKind (BQ P w)).is h x.1 x.2.1 := by
  intro l m q
  induction q with
  | nil => intro x hx; exact nomatch hx
  | @cons p q ps qs hq t ih =>
   intro x hx
   rcases List.mem_cons.mp hx with e | hx
   ·subst e
    exact QA ok (by rw [← hq.1]; exact hq.2.1)
   ·exact ih x hx
 exact all r x hx
theorem mO {kvs : List (List Key × V)} (ok : HOk P w H h) (e : H a = some (.dT kvs)) : kvs.length ≤ sizeLine ∧ (a == sysModules) = false ∧
  ∃ xs, KT H kvs xs ∧ h.DictOfH (tupleKind (BQ P w)) a xs := WB ok (.inl e)
end
def fL (H : Hp) (a : Addr) (y : V) (r : Option V) : Prop :=
 (∃ kvs k, Rd H a (.dK kvs) ∧ y = kV k ∧ r = FQ kvs k) ∨ ∃ kvs k b, Rd H a (.dT kvs) ∧ y = .ref b ∧ H b = some (.tup (k.map kV)) ∧ r = FQ kvs k
def fS (H : Hp) (a : Addr) (y v : V) (H' : Hp) : Prop :=
 (∃ kvs k, H a = some (.dK kvs) ∧ y = kV k ∧ kvs.length < sizeLine ∧ H' = upd H a (.dK (EC kvs k v))) ∨
 ∃ kvs k b, H a = some (.dT kvs) ∧ y = .ref b ∧ H b = some (.tup (k.map kV)) ∧ kvs.length < sizeLine ∧ H' = upd H a (.dT (EC kvs k v))
theorem fS.k {H : Hp} {a : Addr} {kvs : List (Key × V)} {k : Key} {v : V} (e : H a = some (.dK kvs)) (hl : kvs.length < sizeLine) : fS H a (kV k) v (upd H a (.dK (EC kvs k v))) := .inl ⟨kvs, k, e, rfl, hl, rfl⟩
section
variable {X : Cx} {pins : List (Addr × Obj)} {σ : St} {H : Hp} {s : Shared} {a : Addr} {y v : V} {u r : Value} {o : Option V} {A : Around} {E : Value → Shared → Prop}
theorem Inv.big (I : Inv X pins σ H s) : sysModules < s.heap.objs.size := by
 have h : mainGlobals < s.heap.objs.size := (I.mod.glob.keeps I.bk).lt
 exact Nat.lt_trans (by decide) h
theorem YA {Q : Value → Shared → Prop} (hu : A.units + 1 < cLine) (I : Inv X pins σ H s) (g : fL H a y (some v)) (ry : AX y u) (h : ∀ w' s', Inv X pins σ H s' → AX v w' → Q w' s') :
  wpAny (model X.prog X.w) A (getItem (.ref a) u) Q E s := by
 rcases g with ⟨kvs, k, e, ey, l⟩ | ⟨kvs, k, b, e, ey, eb, l⟩
 ·subst ey
  obtain ⟨z, hd, vs, rel, dd⟩ := RQ I.hok e
  obtain ⟨w', hw, rw'⟩ := IC.some_of (v := v) (o := valueAt vs k) (by rw [l]; exact rel.val k)
  exact wpAny_getItem_of (WQ ry) dd.mapOf hw (h w' _ (I.tok _) rw')
 ·subst ey
  cases (show u = Value.ref b from ry)
  obtain ⟨z, hd, xs, rel, dd⟩ := WB I.hok e
  obtain ⟨w', hw, rw'⟩ := IC.some_of (v := v) (o := (atKey xs k).map (·.2)) (by rw [l]; exact rel.val k)
  obtain ⟨p, hp, hp2⟩ := Option.map_eq_some_iff.mp hw
  refine wpAny_getItem_heap (tupleKind_room_in1 hu) (QA I.hok eb) dd hp ?_
  rw [hp2]
  exact h w' _ (I.tok _) rw'
theorem iB {Q : Value → Shared → Prop} (hu : A.units + 1 < cLine) (I : Inv X pins σ H s) (g : fL H a y o) (ry : AX y u) (h : ∀ s', Inv X pins σ H s' → Q (.bool (!o.isSome)) s') :
  wpAny (model X.prog X.w) A (compareOp .NotIn u (.ref a)) Q E s := by
 rcases g with ⟨kvs, k, e, ey, l⟩ | ⟨kvs, k, b, e, ey, eb, l⟩
 ·subst ey
  obtain ⟨z, hd, vs, rel, dd⟩ := RQ I.hok e
  refine wpAny_notIn_of (WQ ry) hd dd.mapOf ?_
  rw [← (rel.val k).isSome_eq, ← l]
  exact h _ (I.tok _)
 ·subst ey
  cases (show u = Value.ref b from ry)
  obtain ⟨z, hd, xs, rel, dd⟩ := WB I.hok e
  refine wpAny_notIn_heap (tupleKind_room_in1 hu) (QA I.hok eb) hd dd ?_
  have q := (rel.val k).isSome_eq
  rw [Option.isSome_map] at q
  rw [← q, ← l]
  exact h _ (I.tok _)
theorem QJ {h' : Heap} {t' : Nat} {ob : HO} (I : Inv X pins σ H s) (mu : Mut (H a)) (hs : Heap.SameBut a s.heap h') (he : ∃ q, h'.get? a = some q) (new : CS X.prog X.w (upd H a ob) h' a ob) :
  Inv X pins σ (upd H a ob) { s with heap := h', toks := t' } :=
 I.write (x := a) (e := a) mu (.inl rfl) (fun b q hb z => (hs.2 b hb).trans z) he new
theorem lE {P : Program} {w : World} {H' : Hp} {h' : Heap} {kvs : List (Key × V)} {vs : List (Key × Value)} (z : kvs.length ≤ sizeLine) (hd : (a == sysModules) = false) (rel : KV kvs vs) (dd : h'.DictOf (BQ P w) a vs) :
  CS P w H' h' a (.dK kvs) := ⟨z, hd, vs, rel, dd⟩
theorem ZE {H' : Hp} {Q : Unit → Shared → Prop} (hu : A.units + 1 < cLine) (I : Inv X pins σ H s) (g : fS H a y v H') (ry : AX y u) (rv : AX v r) (h : ∀ s', Inv X pins σ H' s' → Q () s') :
  wpAny (model X.prog X.w) A (setItem (.ref a) u r) Q E s := by
 rcases g with ⟨kvs, k, e, ey, l, eH⟩ | ⟨kvs, k, b, e, ey, eb, l, eH⟩
 ·subst ey eH
  obtain ⟨z, hd, vs, rel, dd⟩ := iQ I.hok e
  have hz : vs.length ≤ sizeLine := by rw [← rel.length]; exact z
  have hl : (EC kvs k v).length ≤ sizeLine := by have := KK kvs k v; omega
  refine wpAny_setItem_pairs (hsz := hz) (WQ ry) dd fun h' dd' hs => h _ ?_
  have he : ∃ q, h'.get? a = some q := let ⟨q, _, _, hq, _⟩ := dd'; ⟨q, hq⟩
  exact QJ I (by rw [e]; exact True.intro) hs he (lE hl hd (rel.put k rv) dd')
 ·subst ey eH
  cases (show u = Value.ref b from ry)
  obtain ⟨z, hd, xs, rel, dd⟩ := mO I.hok e
  have hz : xs.length ≤ sizeLine := by rw [← Paired.length rel]; exact z
  have hl : (EC kvs k v).length ≤ sizeLine := by have := KK kvs k v; omega
  refine wpAny_setItem_heap (hsz := hz) (tupleKind_room_in1 hu) (QA I.hok eb) dd fun h' dd' hs => h _ ?_
  obtain ⟨q, es, ep, hq, h2, h3, h4, _, h5⟩ := dd'
  refine QJ I (by rw [e]; exact True.intro) hs ⟨q, hq⟩ ⟨hl, hd, _, (rel.put k eb rv).keeps fun c ys ec => ?_, q, es, ep, hq, h2, h3, h4, h5⟩
  rw [AH (BL ec e (fun z => nomatch z))]
  exact ec
end
section
variable {X : Cx} {pins : List (Addr × Obj)} {σ : St} {H : Hp} {s : Shared} {a : Addr} {kvs : List (Key × V)} {k : Key} {u : Value} {A : Around} {E : Value → Shared → Prop}
end
def mG (i : Expr) : Prop := ∀ ov iv, subscripted i false ov iv = operate [ov, iv] (getItem ov iv)
theorem hZ {prog : Program} {w : World} {A : Around} {E : Value → Shared → Prop} {s : Shared} {env : Env} {value slice : Expr} {pos : Pos} {T id : String} {Q : Value → Shared → Prop}
  (hl : typeLookup (.type T) "__getitem__" = pure (some (.builtin id))) (hs : mG slice)
  (h : wpAny (model prog w) A (eval value env) (fun o s₁ => wpAny (model prog w) A (eval slice env) (fun i s₂ => s₂.TypeIs o T ∧ wpAny (model prog w) A (getItem o i) Q E s₂) E s₁) E s) :
  wpAny (model prog w) A (eval (.Subscript value slice pos) env) Q E s := by
 refine Subscript_ (wpAny_mono h (fun o s₁ h₁ => wpAny_mono h₁ (fun i s₂ h₂ => ?_) fun _ _ x => x) fun _ _ x => x)
 obtain ⟨hT, h₂⟩ := h₂
 unfold subscriptTail
 refine wpAny_bind ?_
 rw [getitemInPython_of_ne hT.not_modules]
 refine wpAny_bind (wpAny_specialOf hT hl ?_)
 have fin : wpAny (model prog w) A (subscripted slice false o i) (fun r s₃ => wpAny (model prog w) A (letTemporaryGo value o r >>= fun _ => pure r) Q E s₃) E s₂ := by
  rw [hs o i]
  exact wpAny_operating (wpAny_mono h₂ (fun r s₃ h₃ => wpAny_bind (wpAny_letTemporaryGo (wpAny_pure h₃))) fun _ _ x => x)
 first
  | exact wpAny_pure (wpAny_bind fin)
  | exact wpAny_bind (wpAny_pure (wpAny_bind fin))
  | exact wpAny_bind fin
theorem SI {X : Cx} {pins : List (Addr × Obj)} {σ : St} {H : Hp} {s : Shared} {a : Addr} {y : V} {o : Option V} (I : Inv X pins σ H s) (g : fL H a y o) : s.TypeIs (.ref a) "dict" := by
 rcases g with ⟨kvs, k, e, _, _⟩ | ⟨kvs, k, b, e, _, _, _⟩
 ·obtain ⟨_, _, vs, _, dd⟩ := RQ I.hok e
  exact dd.typeIs
 ·obtain ⟨_, _, xs, _, dd⟩ := WB I.hok e
  exact dd.typeIs
section
variable {X : Cx} {o i e value : Expr} {pos pos' tpos : Pos} {td ty tv : TE}
end
theorem RE {P : Program} {w : World} {H : Hp} (h : Heap) (hb : sysModules < h.objs.size) : CS P w H (h.push { cls := .type "dict", data := .dict #[] }) h.objs.size (.dK []) :=
 ⟨Nat.zero_le _, beq_eq_false_iff_ne.mpr (Ne.symm (Nat.ne_of_lt hb)), [], .nil, Heap.DictOf.new h⟩
def LD : TE := fun _ H Q => ∀ p, H p = none → Q (.ref p) (upd H p (.dK []))
section
variable {X : Cx} {pos : Pos}
theorem SA : PE X (.Dict [] [] pos) LD := fun pins s σ H Q I h =>
 wpAny_Dict_empty ⟨.ref s.heap.objs.size, _, I.laid (a := s.heap.objs.size) (o := .dK []) (t' := s.toks) (fun _ _ q => Heap.get?_push_of_some _ q) (Nat.le_refl _) (RE s.heap I.big), rfl, h _ (I.hok.fresh (Nat.le_refl _))⟩
end
structure M1 (X : Cx) (o : Expr) (m : Str) (apos : Pos) (e : Expr) (cpos : Pos) : Prop where
 base : attributeBase o m X.env (eval o X.env) = eval o X.env
 few : ((backTo cpos (starEach [e] X.env)).all (fun x => !x.1) && (backToKw cpos (keywordEach [] X.env)).all (fun x => x.1.isSome)
  && decide (([e] : List Expr).length + ([] : List Keyword).length + (if ([] : List Keyword).isEmpty then 0 else 1) < 30)) = true
 line : (apos.endLine == cpos.line) = true
 trees : backTo cpos (starEach [e] X.env) = [(false, eval e X.env)]
structure M2 (X : Cx) (o : Expr) (m : Str) (apos : Pos) (e f : Expr) (cpos : Pos) : Prop where
 base : attributeBase o m X.env (eval o X.env) = eval o X.env
 few : ((backTo cpos (starEach [e, f] X.env)).all (fun x => !x.1) && (backToKw cpos (keywordEach [] X.env)).all (fun x => x.1.isSome)
  && decide (([e, f] : List Expr).length + ([] : List Keyword).length + (if ([] : List Keyword).isEmpty then 0 else 1) < 30)) = true
 line : (apos.endLine == cpos.line) = true
 trees : backTo cpos (starEach [e, f] X.env) = [(false, eval e X.env), (false, eval f X.env)]
section
variable {X : Cx} {pins : List (Addr × Obj)} {σ : St} {H : Hp} {s : Shared} {a : Addr} {y d : V} {u r : Value} {o : Option V} {A : Around} {E : Value → Shared → Prop}
end
section
variable {X : Cx} {o e f : Expr} {apos cpos : Pos} {td ty tx : TE}
end
section
variable {X : Cx} {pins : List (Addr × Obj)} {σ : St} {H : Hp} {s : Shared} {a : Addr} {kvs : List (Key × V)} {A : Around} {E : Value → Shared → Prop}
end
section
variable {X : Cx} {pins : List (Addr × Obj)} {σ : St} {H : Hp} {s : Shared} {a : Addr} {y : V} {u : Value} {A : Around} {E : Value → Shared → Prop}
end
section
variable {κ : Type} [DecidableEq κ]
end
section
variable {X : Cx}
end
def AU (H H' : Hp) : Prop := ∀ b o, H b = some o → ((∃ xs, o = .tup xs) ∨ ∃ o1 o2, o = .frz o1 o2) → H' b = some o
theorem AI.t {H H' : Hp} (s : AI H H') : AU H H' := fun b o e _ => s b o e
theorem AU.refl (H : Hp) : AU H H := fun b o e _ => e
theorem AU.trans {H H' H'' : Hp} (a : AU H H') (b : AU H' H'') : AU H H'' := fun x o e h => b x o (a x o e h) h
theorem AU.upd {H H' : Hp} {p : Addr} {o : HO} (s : AU H H') (h : ∀ u, H p = some u → ¬ ((∃ xs, u = .tup xs) ∨ ∃ o1 o2, u = .frz o1 o2)) : AU H (L2.upd H' p o) := fun b u e k => by
 by_cases hb : b = p
 ·subst hb; exact absurd k (h u e)
 ·rw [AH hb]; exact s b u e k
theorem AU.tup {K : PySem.W.Frag} {H H' : Hp} {a : Addr} {xs : List V} (e : AU H H') (h : SqT K H a xs) : SqT K H' a xs := by
 rcases h with (h | ⟨o, h⟩) | h
 ·exact .inl (.inl (e _ _ h (.inl ⟨_, rfl⟩)))
 ·exact .inl (.inr ⟨o, e _ _ h (.inr ⟨_, _, rfl⟩)⟩)
 ·exact .inr h
mutual
theorem Rp.t {K : PySem.W.Frag} {H H' : Hp} (s : AU H H') : ∀ {d : D} {v : V}, Rp K H d v → Rp K H' d v
 | .int i, v, h => by rw [Rp] at h ⊢; exact h
 | .str x, v, h => by rw [Rp] at h ⊢; exact h
 | .non, v, h => by rw [Rp] at h ⊢; exact h
 | .tup ds, v, h => by
  rw [Rp] at h ⊢
  obtain ⟨p, xs, e, hs, hl⟩ := h
  exact ⟨p, xs, e, s.tup hs, RpL.t s hl⟩
theorem RpL.t {K : PySem.W.Frag} {H H' : Hp} (s : AU H H') : ∀ {ds : List D} {xs : List V}, RpL K H ds xs → RpL K H' ds xs
 | [], xs, h => by rw [RpL] at h ⊢; exact h
 | d :: ds, xs, h => by
  rw [RpL] at h ⊢
  obtain ⟨v, r, e, h1, h2⟩ := h
  exact ⟨v, r, e, Rp.t s h1, RpL.t s h2⟩
end
theorem RpL.app {K : PySem.W.Frag} {H : Hp} : ∀ {ds es : List D} {xs ys : List V}, RpL K H ds xs → RpL K H es ys → RpL K H (ds ++ es) (xs ++ ys)
 | [], es, xs, ys, h, g => by rw [RpL] at h; subst h; exact g
 | d :: ds, es, xs, ys, h, g => by
  rw [RpL] at h
  obtain ⟨v, r, rfl, h1, h2⟩ := h
  rw [List.cons_append, List.cons_append, RpL]
  exact ⟨v, r ++ ys, rfl, h1, RpL.app h2 g⟩
theorem RpL.one {K : PySem.W.Frag} {H : Hp} {d : D} {v : V} (h : Rp K H d v) : RpL K H [d] [v] := by
 rw [RpL]; exact ⟨v, [], rfl, h, by rw [RpL]⟩
theorem RpL.nil {K : PySem.W.Frag} {H : Hp} : RpL K H [] [] := by rw [RpL]
def But (l : List Addr) (H H' : Hp) : Prop := ∀ b o, H b = some o → b ∉ l → H' b = some o
theorem AI.but {H H' : Hp} {l : List Addr} (s : AI H H') : But l H H' := fun b o e _ => s b o e
theorem But.trans {l : List Addr} {H H' H'' : Hp} (a : But l H H') (b : But l H' H'') : But l H H'' := fun x o e h => b x o (a x o e h) h
theorem But.upd {l : List Addr} {H H' : Hp} {p : Addr} {o : HO} (s : But l H H') (h : H p = none ∨ p ∈ l) : But l H (L2.upd H' p o) := fun b u e k => by
 have hb : b ≠ p := by
  rintro rfl
  rcases h with h | h
  ·rw [h] at e; cases e
  ·exact k h
 rw [AH hb]; exact s b u e k
theorem But.mono {l l' : List Addr} {H H' : Hp} (s : But l H H') (h : ∀ b ∈ l, b ∈ l') : But l' H H' := fun b o e k => s b o e fun z => k (h b z)
def RL (K : PySem.W.Frag) (ta : TE) : TE := fun σ H Q => ta σ H fun x H1 => ∃ k, iX K x H1 k ∧ Q (.bl (!k)) H1
section
variable {X : Cx} {a : Expr} {ta : TE} {pos : Pos}
theorem gA (ha : PE X a ta) : PE X (.UnaryOp .Not a pos) (RL X.K ta) := by
 intro pins s σ H Q I h
 refine UnaryOp_ (thn (ha pins s σ H _ I h) fun v s1 ⟨x, H1, I1, r1, q1⟩ => ?_)
 obtain ⟨k, hk, q1⟩ := q1
 refine not_of (thn (dD pins s1 σ H1 x v (fun b H2 => Q (.bl (!b)) H2) I1 r1 ⟨k, hk, q1⟩) fun b s2 ⟨H2, I2, q2⟩ => ⟨.bl (!b), H2, I2, rfl, q2⟩)
end
theorem FO {H : Hp} {p C dx : Addr} {fs : List (Str × V)} (h : H p = some (.ins C dx fs)) : ∀ u, H p = some u → ¬ ((∃ xs, u = .tup xs) ∨ ∃ o1 o2, u = .frz o1 o2) := fun u e => by
 rw [h] at e; cases e
 rintro (⟨xs, e⟩ | ⟨o1, o2, e⟩) <;> cases e
theorem FN {H : Hp} {p : Addr} {xs : List V} (h : H p = some (.lst xs)) : ∀ u, H p = some u → ¬ ((∃ xs, u = .tup xs) ∨ ∃ o1 o2, u = .frz o1 o2) := fun u e => by
 rw [h] at e; cases e
 rintro (⟨xs, e⟩ | ⟨o1, o2, e⟩) <;> cases e
theorem FP {H : Hp} {p ls C dx : Addr} {fs : List (Str × V)} {xs : List V} (h : H p = some (.ins C dx fs)) (g : H ls = some (.lst xs)) : p ≠ ls := by rintro rfl; rw [h] at g; cases g
theorem un {H : Hp} {p b : Addr} {o : HO} (h : upd H p o b = none) : b ≠ p ∧ H b = none := by
 have hb : b ≠ p := by rintro rfl; rw [AB] at h; cases h
 rw [AH hb] at h
 exact ⟨hb, h⟩
theorem But.free {l : List Addr} {H G : Hp} {b : Addr} (bt : But l H G) (hl : ∀ c ∈ l, ∃ o, G c = some o) (h : G b = none) : H b = none := by
 cases e : H b with
 | none => rfl
 | some o =>
  by_cases m : b ∈ l
  ·obtain ⟨o, z⟩ := hl b m; rw [h] at z; cases z
  ·have := bt b o e m; rw [h] at this; cases this
theorem But.refl (l : List Addr) (H : Hp) : But l H H := fun _ _ e _ => e
theorem AK {H : Hp} {p b : Addr} {o : HO} (h : H p = some o) (g : H b = none) : p ≠ b := by rintro rfl; rw [h] at g; cases g
theorem LG {X : Cx} : DX X (.type "tuple") (fun xs H Q => ∃ p ys, xs = [.ref p] ∧ SqL X.K H p ys ∧ ∀ l, H l = none → Q (.ref l) (upd H l (.tup ys))) := by
 intro pins s σ H xs us Q I r h
 obtain ⟨p, ys, e, hq, q⟩ := h
 exact NG pins s σ H xs us Q I r ⟨p, ys, e, .inl ⟨hq, q⟩⟩
section
variable {X : Cx}
end
section
variable {X : Cx} {st : Stmt} {EA : List Stmt} {t u : TS}
def mV {α : Sort u} (a : α) : α := a
def ZH (a b : TS) : TS := fun D σ H => a { D with nx := mV (b D) } σ H
theorem BS (h1 : PS X st t) (h2 : PSs X EA u) : PSs X (st :: EA) (ZH t u) := AF h1 h2
theorem fT {R : St → Hp → Prop} {σ : St} {H : Hp} (h : R σ H) : mV R σ H := h
end
def DO (x : V) (P : Addr → Prop) : Prop := match x with | .ref a => P a | _ => False
def GU (x : V) (P : Int → Prop) : Prop := match x with | .int a => P a | _ => False
def oBl (x : V) (P : Bool → Prop) : Prop := match x with | .bl a => P a | _ => False
def PC (σ : St) (i : Nat) (P : V → Prop) : Prop := match σ[i]? with | some (some v) => P v | _ => False
def o1 (vs : List V) (P : V → Prop) : Prop := match vs with | [x] => P x | _ => False
def o2 (vs : List V) (P : V → V → Prop) : Prop := match vs with | [x, y] => P x y | _ => False
def o0 (vs : List V) (P : Prop) : Prop := match vs with | [] => P | _ => False
def oC (vs : List V) (P : V → List V → Prop) : Prop := match vs with | x :: r => P x r | _ => False
theorem DO.ex {x : V} {P : Addr → Prop} (h : DO x P) : ∃ a, x = .ref a ∧ P a := by cases x <;> first | exact ⟨_, rfl, h⟩ | exact h.elim
theorem GU.ex {x : V} {P : Int → Prop} (h : GU x P) : ∃ a, x = .int a ∧ P a := by cases x <;> first | exact ⟨_, rfl, h⟩ | exact h.elim
theorem oBl.ex {x : V} {P : Bool → Prop} (h : oBl x P) : ∃ a, x = .bl a ∧ P a := by cases x <;> first | exact ⟨_, rfl, h⟩ | exact h.elim
theorem PC.ex {σ : St} {i : Nat} {P : V → Prop} (h : PC σ i P) : ∃ v, σ[i]? = some (some v) ∧ P v := by
 unfold PC at h
 split at h
 ·exact ⟨_, ‹_›, h⟩
 ·exact h.elim
theorem o1.ex {vs : List V} {P : V → Prop} (h : o1 vs P) : ∃ x, vs = [x] ∧ P x := match vs, h with | [x], h => ⟨x, rfl, h⟩
theorem o2.ex {vs : List V} {P : V → V → Prop} (h : o2 vs P) : ∃ x y, vs = [x, y] ∧ P x y := match vs, h with | [x, y], h => ⟨x, y, rfl, h⟩
theorem o0.ex {vs : List V} {P : Prop} (h : o0 vs P) : vs = [] ∧ P := match vs, h with | [], h => ⟨rfl, h⟩
theorem oC.ex {vs : List V} {P : V → List V → Prop} (h : oC vs P) : ∃ x r, vs = x :: r ∧ P x r := match vs, h with | x :: r, h => ⟨x, r, rfl, h⟩
def nD (t : TE) : TE := fun σ H Q => ∃ Q', t σ H Q' ∧ ∀ v H', Q' v H' → Q v H'
def nJ (r : R2) : R2 := fun x y H Q => ∃ Q', r x y H Q' ∧ ∀ v H', Q' v H' → Q v H'
section
variable {X : Cx} {a b c o e value tg : Expr} {es : List Expr} {ta tb tc tv te : TE} {pos pos' apos tpos p : Pos} {f x : Str}
theorem PE.mono {t : TE} (h : PE X e t) : PE X e (nD t) := fun pins s σ H Q I ⟨Q', q, m⟩ => thn (h pins s σ H Q' I q) fun _ _ ⟨v, H', I', r, z⟩ => ⟨v, H', I', r, m _ _ z⟩
theorem OpR.mono {f : Value → Value → Sem Value} {r : R2} (h : OpR X f r) : OpR X f (nJ r) := fun pins s σ H x y v u Q I r1 r2 ⟨Q', q, m⟩ => thn (h pins s σ H x y v u Q' I r1 r2 q) fun _ _ ⟨v, H', I', r, z⟩ => ⟨v, H', I', r, m _ _ z⟩
theorem OpR.imp {f : Value → Value → Sem Value} {r r' : R2} (h : OpR X f r) (i : ∀ x y H Q, r' x y H Q → r x y H Q) : OpR X f r' := fun pins s σ H x y v u Q I r1 r2 q => h pins s σ H x y v u Q I r1 r2 (i _ _ _ _ q)
theorem UnR.imp {f : Value → Sem Value} {r r' : V → Hp → VK → Prop} (h : UnR X f r) (i : ∀ x H Q, r' x H Q → r x H Q) : UnR X f r' := fun pins s σ H x v Q I r1 q => h pins s σ H x v Q I r1 (i _ _ _ q)
theorem IxR.imp {r r' : R2} (h : IxR X r) (i : ∀ x y H Q, r' x y H Q → r x y H Q) : IxR X r' := fun value slice pins s σ H x y v u Q I r1 r2 q => h value slice pins s σ H x y v u Q I r1 r2 (i _ _ _ _ q)
theorem PT.imp {t t' : TT} (h : PT X e t) (i : ∀ σ H Q, t' σ H Q → t σ H Q) : PT X e t' := fun pins s σ H Q I q => h pins s σ H Q I (i _ _ _ q)
theorem PG.imp {t t' : TG} (h : PG X e t) (i : ∀ v σ H Q, t' v σ H Q → t v σ H Q) : PG X e t' := fun pins s σ H v u Q I r q => h pins s σ H v u Q I r (i _ _ _ _ q)
theorem PGs.imp {t t' : TGs} (h : PGs X es t) (i : ∀ v σ H Q, t' v σ H Q → t v σ H Q) : PGs X es t' := fun pins s σ H v u Q I r q => h pins s σ H v u Q I r (i _ _ _ _ q)
theorem PS.imp {st : Stmt} {t t' : TS} (h : PS X st t) (i : ∀ D σ H, t' D σ H → t D σ H) : PS X st t' := fun pins s σ H D I q => h pins s σ H D I (i _ _ _ q)
theorem DX.imp {g : Value} {r r' : List V → Hp → VK → Prop} (h : DX X g r) (i : ∀ xs H Q, r' xs H Q → r xs H Q) : DX X g r' := fun pins s σ H xs us Q I r1 q => h pins s σ H xs us Q I r1 (i _ _ _ q)
theorem MtM.imp {id : String} {r r' : V → List V → Hp → VK → Prop} (h : MtM X id r) (i : ∀ x xs H Q, r' x xs H Q → r x xs H Q) : MtM X id r' := fun pins s σ H x xs v us Q I r1 r2 q => h pins s σ H x xs v us Q I r1 r2 (i _ _ _ _ q)
theorem PI.imp {iter : Expr} {t t' : TI} (h : PI X tg iter t) (i : ∀ σ H R, t' σ H R → t σ H R) : PI X tg iter t' := fun pins s σ H R I q => h pins s σ H R I (i _ _ _ q)
theorem jV.imp {t t' : mT} (h : jV X t) (i : ∀ o i v H Q, t' o i v H Q → t o i v H Q) : jV X t' := fun pins s σ H o i' v ov iv u Q I r1 r2 r3 q => h pins s σ H o i' v ov iv u Q I r1 r2 r3 (i _ _ _ _ _ q)
theorem SlR.imp {r r' : V → Option Int → Option Int → Hp → VK → Prop} (h : SlR X r) (i : ∀ x l u H Q, r' x l u H Q → r x l u H Q) : SlR X r' := fun pins s σ H x v vl vu lo hi sl Q I r1 r2 r3 r4 q => h pins s σ H x v vl vu lo hi sl Q I r1 r2 r3 r4 (i _ _ _ _ _ q)
def SU (i : Nat) : TE := fun σ H Q => PC σ i fun v => Q v H
theorem pvD (i : Nat) {x : Str} {pos : Pos} (hN : X.N[i]? = some x := by rfl) (hv : Vis X.env.scope x := by first | exact Or.inl rfl | exact Or.inr (Or.inl rfl) | exact Or.inr (Or.inr rfl)) (hd : (x == ("__debug__" : Str)) = false := by decide)
  (hcd : (x == ("__classdict__" : Str)) = false := by decide) : PE X (.Name x pos) (SU i) := (pv i hN hv hd hcd).imp fun _ _ _ h => PC.ex h
def tBD (t : TE) : TT := fun σ H Q => t σ H fun x H1 => oBl x fun c => Q c H1
theorem FC {e : Expr} {t : TE} (h : PE X e t) (he : ∀ whole, isTrue e X.env whole = (do let v ← whole; standAt e.pos; holding [v] (truthy v)) := by intro _; rfl) : PT X e (tBD t) :=
 (lH h.mono he).imp fun _ _ _ q => ⟨_, q, fun _ _ z => z.ex⟩
theorem AV {op : CmpOp} {r : R2} (ho : OpR X (compareOp op) r) (ha : PE X a ta) (hb : PE X b tb) (hm : behindInMarks op b = false) : PT X (.Compare a [op] [b] pos) (tBD (tOp r ta tb)) :=
 (fJ ho.mono ha.mono hb.mono hm).imp fun _ _ _ q => ⟨_, q, fun _ _ q => ⟨_, q, fun _ _ q => ⟨_, q, fun _ _ z => z.ex⟩⟩⟩
def LA (ta tb : TE) : TE := fun σ H Q => ta σ H fun x H1 => oBl x fun c => if c = true then tb σ H1 Q else Q (.bl false) H1
theorem OQ {EA : List Expr} (ha : PE X a ta) (hb : PE X (.BoolOp .And (b :: EA) pos) tb) : PE X (.BoolOp .And (a :: b :: EA) pos) (LA ta tb) :=
 (jA ha.mono hb).imp fun _ _ _ q => ⟨_, q, fun _ _ z => z.ex⟩
def RT (K : PySem.W.Frag) (ta : TE) (f : Str) : TE := fun σ H Q => ta σ H fun x H1 => DO x fun a => ∃ C dx fs, H1 a = some (.ins C dx fs) ∧ Cls K C ∧ BW K C f ∧ ∃ v, fs.lookup f = some v ∧ Q v H1
theorem AQ (he : PE X e ta) (hb : attributeBase e f X.env (eval e X.env) = eval e X.env) : PE X (.Attribute e f pos) (RT X.K ta f) :=
 (lG he.mono hb).imp fun _ _ _ q => ⟨_, q, fun _ _ z => by obtain ⟨a, rfl, C, dx, fs, h1, h2, h3, v, h4, h5⟩ := z.ex; exact ⟨a, C, dx, fs, v, rfl, h1, h2, h3, h4, h5⟩⟩
def QU (K : PySem.W.Frag) (ta tv : TE) (f : Str) : TS := fun D σ H => tv σ H fun y H1 => ta σ H1 fun x H2 => DO x fun a => ∃ C dx fs, H2 a = some (.ins C dx fs) ∧ Cls K C ∧ BW K C f ∧ fs.length < 1000 ∧
 D.nx σ (upd H2 a (.ins C dx (BB f y fs)))
theorem BO (ha : PE X o ta) (hv : PE X value tv) (hs : swapsWith value (some (.Attribute o f pos')) pos.line X.env = pure false) : PS X (.Assign [.Attribute o f pos'] value pos) (QU X.K ta tv f) :=
 (jZ ha.mono hv.mono hs).imp fun _ _ _ q => ⟨_, q, fun _ _ q => ⟨_, q, fun _ _ z => by obtain ⟨a, rfl, C, dx, fs, h⟩ := z.ex; exact ⟨a, C, dx, fs, rfl, h⟩⟩⟩
def GX (K : PySem.W.Frag) (ta tv : TE) (rd : V → V → Hp → VK → Prop) (f : Str) : TS := fun D σ H => ta σ H fun x H1 => DO x fun a => ∃ C dx fs, H1 a = some (.ins C dx fs) ∧ Cls K C ∧ BW K C f ∧ ∃ v, fs.lookup f = some v ∧
 tv σ H1 fun y H2 => rd v y H2 fun z H3 => ∃ dx' fs', H3 a = some (.ins C dx' fs') ∧ fs'.length < 1000 ∧ D.nx σ (upd H3 a (.ins C dx' (BB f z fs')))
theorem IP {op : Operator} {rd : V → V → Hp → VK → Prop} (ha : PE X o ta) (hv : PE X value tv) (hop : jC X op rd) : PS X (.AugAssign (.Attribute o f tpos) op value pos) (GX X.K ta tv rd f) :=
 (WY ha.mono hv hop).imp fun _ _ _ q => ⟨_, q, fun _ _ z => by obtain ⟨a, rfl, C, dx, fs, h1, h2, h3, v, h4, h5⟩ := z.ex; exact ⟨a, C, dx, fs, v, rfl, h1, h2, h3, h4, h5⟩⟩
def rID (C : Int → Int → Prop) (g : Int → Int → V) : R2 := fun x y H Q => GU x fun i => GU y fun j => C i j ∧ Q (g i j) H
def MI (g : Int → Int → V) : R2 := fun x y H Q => GU x fun i => GU y fun j => Q (g i j) H
def rUD (g : Int → V) : V → Hp → VK → Prop := fun x H Q => GU x fun i => Q (g i) H
theorem OpR.iD {f : Value → Value → Sem Value} {C g} (h : OpR X f (rI C g)) : OpR X f (rID C g) := h.imp fun _ _ _ _ z => by
 obtain ⟨i, rfl, z1⟩ := z.ex; obtain ⟨j, rfl, z2⟩ := z1.ex; exact ⟨i, j, rfl, rfl, z2⟩
theorem OpR.i0D {f : Value → Value → Sem Value} {g} (h : OpR X f (rI0 g)) : OpR X f (MI g) := h.imp fun _ _ _ _ z => by
 obtain ⟨i, rfl, z1⟩ := z.ex; obtain ⟨j, rfl, z2⟩ := z1.ex; exact ⟨i, j, rfl, rfl, z2⟩
theorem CO : OpR X (binaryOp .Add) (MI fun i j => .int (i + j)) := jM.i0D
theorem PF : OpR X (binaryOp .Sub) (MI fun i j => .int (i - j)) := lJ.i0D
theorem CK : OpR X (binaryOp .Mult) (rID (fun i j => IntMulOk i j) fun i j => .int (i * j)) := fG.iD
theorem DC : OpR X (binaryOp .FloorDiv) (rID (fun _ j => 0 < j ∧ j < 2 ^ 100) fun i j => .int (i / j)) := ZY.iD
theorem CL : OpR X (binaryOp .Mod) (rID (fun _ j => 0 < j) fun i j => .int (i % j)) := jX.iD
theorem GO : OpR X (binaryOp .Pow) (rID kU fun i j => .int (i ^ j.toNat)) := lI.iD
theorem TF : OpR X (compareOp .Lt) (MI fun i j => .bl (decide (i < j))) := lS.i0D
theorem dB : OpR X (compareOp .LtE) (MI fun i j => .bl (decide (i ≤ j))) := lY.i0D
theorem TM : OpR X (compareOp .Gt) (MI fun i j => .bl (decide (j < i))) := mC.i0D
theorem kF : OpR X (compareOp .GtE) (MI fun i j => .bl (decide (j ≤ i))) := mR.i0D
theorem IZ : UnR X (unaryOp .USub) (rUD fun i => .int (-i)) := bX.imp fun _ _ _ z => z.ex
def JG (x y : V) (P : Bool → Prop) : Prop := match x with
 | .int i => (match y with | .int j => P (decide (i = j)) | .str _ => P false | .non => P false | _ => False)
 | .str i => (match y with | .str j => P (decide (i = j)) | .int _ => P false | .non => P false | _ => False)
 | .bl i => (match y with | .bl j => P (decide (i = j)) | .str _ => P false | .non => P false | _ => False)
 | .non => (match y with | .non => P true | .int _ => P false | .bl _ => P false | .str _ => P false | _ => False)
 | _ => False
theorem JG.ex {x y : V} {P : Bool → Prop} (h : JG x y P) : lN x y = true ∧ P (decide (x = y)) := by
 cases x <;> cases y <;> first | exact h.elim | exact ⟨rfl, by simpa [JG] using h⟩
def cO : R2 := fun x y H Q => JG x y fun k => Q (.bl k) H
def dG : R2 := fun x y H Q => JG x y fun k => Q (.bl (!k)) H
theorem CT : OpR X (compareOp .Eq) cO := mW.imp fun _ _ _ _ z => z.ex
theorem HH : OpR X (compareOp .NotEq) dG := mX.imp fun _ _ _ _ z => z.ex
def NP (K : PySem.W.Frag) : R2 := fun x y H Q => DO x fun p => GU y fun i => ∃ xs, SqL K H p xs ∧ ∃ v, atI xs i = some v ∧ Q v H
def OE (K : PySem.W.Frag) : R2 := fun x y H Q => DO x fun p => GU y fun i => ∃ xs, SqT K H p xs ∧ ∃ v, atI xs i = some v ∧ Q v H
theorem DP : IxR X (NP X.K) := gT.imp fun _ _ _ _ z => by
 obtain ⟨p, rfl, z1⟩ := z.ex; obtain ⟨j, rfl, xs, h1, v, h2, h3⟩ := z1.ex; exact ⟨p, xs, j, v, rfl, rfl, h1, h2, h3⟩
theorem BP : IxR X (OE X.K) := kK.imp fun _ _ _ _ z => by
 obtain ⟨p, rfl, z1⟩ := z.ex; obtain ⟨j, rfl, xs, h1, v, h2, h3⟩ := z1.ex; exact ⟨p, xs, j, v, rfl, rfl, h1, h2, h3⟩
def QY : TGs := fun vs σ H Q => o0 vs (Q σ H)
def MO (t : TG) (u : TGs) : TGs := fun vs σ H Q => oC vs fun v r => t v σ H fun σ' H' => u r σ' H' Q
def NW (K : PySem.W.Frag) (n : Nat) (t : TGs) : TG := fun v σ H Q => DO v fun a => ∃ xs, SqT K H a xs ∧ xs.length = n ∧ t xs σ H Q
theorem FY : PGs X [] QY := fU.imp fun _ _ _ _ z => z.ex
theorem CA {e : Expr} {es : List Expr} {t : TG} {u : TGs} (h1 : PG X e t) (h2 : PGs X es u)
  (hs : (assignEach (e :: es) X.env).map (·.2) = assign e X.env :: (assignEach es X.env).map (·.2) := by rfl) : PGs X (e :: es) (MO t u) := (cE h1 h2 hs).imp fun _ _ _ _ z => z.ex
theorem HU {es : List Expr} {k : Nat} {t : TGs} {n : Nat} (hc : X.calm = true) (h : PGs X es t)
  (hn : (assignEach es X.env).length = n := by rfl) (hst : (assignEach es X.env).findIdx? (·.1) = none := by rfl) : PG X (.Tuple es k pos) (NW X.K n t) :=
 (jU hc h hn hst).imp fun _ _ _ _ z => by obtain ⟨a, rfl, xs, z⟩ := z.ex; exact ⟨a, xs, rfl, z⟩
def LV (K : PySem.W.Frag) (tl : TE) : TI := fun σ H R => tl σ H fun x H1 => DO x fun a => (∃ xs, SqL K H1 a xs) ∧ R (Itl K a) H1
def QV (K : PySem.W.Frag) (tl : TE) : TI := fun σ H R => tl σ H fun x H1 => DO x fun a => (∃ xs, SqT K H1 a xs) ∧ R (Itt K a) H1
theorem LX {l : Expr} {tl : TE} (hl : PE X l tl) : PI X tg l (LV X.K tl) := (fQ hl.mono).imp fun _ _ _ q => ⟨_, q, fun _ _ z => z.ex⟩
theorem VQ {l : Expr} {tl : TE} (hl : PE X l tl) : PI X tg l (QV X.K tl) := (kG hl.mono).imp fun _ _ _ q => ⟨_, q, fun _ _ z => z.ex⟩
def dP : List V → Hp → VK → Prop := fun xs H Q => o2 xs fun x y => GU x fun i => GU y fun j => Q (.int (if j > i then j else i)) H
def dR : List V → Hp → VK → Prop := fun xs H Q => o2 xs fun x y => GU x fun i => GU y fun j => Q (.int (if j < i then j else i)) H
def eD (K : PySem.W.Frag) : List V → Hp → VK → Prop := fun xs H Q => o1 xs fun x => DO x fun p => ∃ ys, (SqL K H p ys ∨ SqT K H p ys) ∧ Q (.int ys.length) H
def RW (K : PySem.W.Frag) : List V → Hp → VK → Prop := fun xs H Q => o1 xs fun x => DO x fun p => ∃ ys, SqL K H p ys ∧ ∀ l, H l = none → Q (.ref l) (upd H l (.tup ys))
theorem MA (hc : X.calm = true) : DX X (.builtin "max") dP := (YD hc).imp fun _ _ _ z => by
 obtain ⟨x, y, rfl, z1⟩ := z.ex; obtain ⟨i, rfl, z2⟩ := z1.ex; obtain ⟨j, rfl, z3⟩ := z2.ex; exact ⟨i, j, rfl, z3⟩
theorem UU (hc : X.calm = true) : DX X (.builtin "min") dR := (YU hc).imp fun _ _ _ z => by
 obtain ⟨x, y, rfl, z1⟩ := z.ex; obtain ⟨i, rfl, z2⟩ := z1.ex; obtain ⟨j, rfl, z3⟩ := z2.ex; exact ⟨i, j, rfl, z3⟩
theorem BN : DX X (.builtin "len") (eD X.K) := QQ.imp fun _ _ _ z => by
 obtain ⟨x, rfl, z1⟩ := z.ex; obtain ⟨p, rfl, ys, z2⟩ := z1.ex; exact ⟨p, ys, rfl, z2⟩
theorem GR : DX X (.type "tuple") (RW X.K) := LG.imp fun _ _ _ z => by
 obtain ⟨x, rfl, z1⟩ := z.ex; obtain ⟨p, rfl, ys, z2⟩ := z1.ex; exact ⟨p, ys, rfl, z2⟩
def ZQ (K : PySem.W.Frag) (c : Value) : List V → Hp → VK → Prop := fun xs H Q => o2 xs fun x y => AX y c ∧ (∃ n, c = .type n) ∧ ∃ ty, (IT K H x ty ∨ ∃ p, x = .ref p ∧ (∃ ys, SqT K H p ys) ∧ ty = .type "tuple") ∧ ∃ b, PySem.W.kitOne K ty c = some b ∧ Q (.bl b) H
theorem UE {c : Value} : DX X (.builtin "isinstance") (ZQ X.K c) := XX.imp fun _ _ _ z => by
 obtain ⟨x, y, rfl, h1, h2, ty, h3, h4⟩ := z.ex
 exact ⟨x, y, rfl, h1, h2, ty, h3.imp id fun ⟨p, e, ⟨ys, h⟩, h'⟩ => ⟨p, ys, e, h, h'⟩, h4⟩
def GZ : V → List V → Hp → VK → Prop := fun x vs H Q => DO x fun l => o1 vs fun y => ∃ xs, H l = some (.lst xs) ∧ xs.length < sizeLine ∧ Q .non (upd H l (.lst (xs ++ [y])))
theorem DR : MtM X "list.append" GZ := JW.imp fun _ _ _ _ z => by
 obtain ⟨l, rfl, z1⟩ := z.ex; obtain ⟨y, rfl, xs, z2⟩ := z1.ex; exact ⟨l, xs, y, rfl, rfl, z2⟩
end
section
variable {X : Cx} {pins : List (Addr × Obj)} {σ : St} {H : Hp} {s : Shared}
end
section
variable {prog : Program} {w : World} {A : Around} {s : Shared} {E : Value → Shared → Prop} {R : Result → Shared → Prop} {I l : Addr} {items : Array Value}
end
section
variable {X : Cx} {e : Expr} {te : TE} {p p' pos pos' : Pos}
end
section
variable {X : Cx} {K : PySem.W.Frag} {pos : Pos}
theorem iE {es : List Expr} {k : Nat} {t : TGs} {n : Nat} (hK : X.K = K) (hc : X.calm = true) (h : PGs X es t)
  (hn : (assignEach es X.env).length = n := by rfl) (hst : (assignEach es X.env).findIdx? (·.1) = none := by rfl) : PG X (.Tuple es k pos) (NW K n t) := hK ▸ HU hc h hn hst
theorem dC (hK : X.K = K) : IxR X (OE K) := hK ▸ BP
theorem WX (hK : X.K = K) : IxR X (NP K) := hK ▸ DP
end
def RX (K : PySem.W.Frag) : V → Option Int → Option Int → Hp → VK → Prop := fun x lo hi H Q => DO x fun a => ∃ xs, SqL K H a xs ∧ ∀ p, H p = none → Q (.ref p) (upd H p (.lst (TK xs lo hi)))
theorem aY {X : Cx} : SlR X (RX X.K) := eO.imp fun _ _ _ _ _ z => by obtain ⟨a, rfl, xs, z⟩ := z.ex; exact ⟨a, xs, rfl, z⟩
def MF (t : TE) : TO := fun σ H Q => t σ H fun x H1 => GU x fun i => Q (some i) H1
theorem PO.imp {X : Cx} {e : Option Expr} {t t' : TO} (h : PO X e t) (i : ∀ σ H Q, t' σ H Q → t σ H Q) : PO X e t' := fun pins s σ H Q I q => h pins s σ H Q I (i _ _ _ q)
theorem bT {X : Cx} {e : Expr} {te : TE} (h : PE X e te) : PO X (some e) (MF te) := (gW h.mono).imp fun _ _ _ q => ⟨_, q, fun _ _ z => z.ex⟩
section
variable {X : Cx}
end
section
variable {X : Cx} {pins : List (Addr × Obj)} {σ : St} {H : Hp} {s : Shared} {h' : Heap} {fp : List Addr} {t' : Nat}
end
theorem YK {n a b : Nat} (la : a < n) (lb : b < n) : ZipApart (n + 4) (n + 2) (n + 3) n (n + 1) a b := by
 constructor <;> (intro e; have e' : @Eq Nat _ _ := e; clear e; omega)
section
variable {X : Cx} {elts : List Expr} {tx : Nat} {tp p pos : Pos}
end
section
variable {X : Cx} {pins : List (Addr × Obj)} {σ : St} {H : Hp} {s : Shared}
theorem AN.get' : ∀ {vs : List V} {its : List Value} {j : Nat} {u : Value}, AN vs its → its[j]? = some u → ∃ v, vs[j]? = some v ∧ AX v u
 | _, _, j, u, .nil, h => by simp at h
 | _, _, 0, u, .cons r t, h => ⟨_, rfl, by simp at h; exact h ▸ r⟩
 | _, _, j + 1, u, .cons r t, h => by simpa using AN.get' t (by simpa using h)
def lR (x : V) (P : Prop) : Prop := match x with | .non => P | _ => False
theorem lR.ex {x : V} {P : Prop} (h : lR x P) : x = .non ∧ P := by cases x <;> first | exact ⟨rfl, h⟩ | exact h.elim
end
section
variable {X : Cx} {a b : Expr} {ta : TA} {p p' pos pos' : Pos}
end
section
variable {X : Cx}
end
theorem CH {K : PySem.W.Frag} {H : Hp} {ds : List D} {x : V} : Rp K H (.tup ds) x ↔ ∃ p xs, x = .ref p ∧ SqT K H p xs ∧ RpL K H ds xs := by rw [Rp]
section
variable {X : Cx}
theorem ZM {prog : Program} {w : World} {A : Around} {E : Value → Shared → Prop} {s : Shared} {t b : Addr} {ws : List Value} {Q : Value → Shared → Prop} (ht : IsTup s.heap t #[]) (hb : IsTup s.heap b ws.toArray) (h : Q (.ref b) s) :
  wpAny (model prog w) A (binaryOp .Add (.ref t) (.ref b)) Q E s := by
 obtain ⟨⟨cls, dd, data, sl⟩, ho, hc, n, hd⟩ := id ht
 obtain ⟨⟨cls2, dd2, data2, sl2⟩, ho2, hc2, n2, hd2⟩ := id hb
 simp only at hc hd hc2 hd2
 subst hc hd hc2 hd2
 exact concat_meets ⟨_, ho, rfl⟩ ⟨_, ho2, rfl⟩ noFill_tuple_add seq_tuple_add PySem.F.slot_tuple_add PySem.F.entry_tuple_add (PySem.F.args_tuple_add_2 _ _)
  (tuple_addW0 t b #[] ws.toArray n n2 dd dd2 sl sl2 (by simp)) ⟨ho, ho2, h⟩
def MV (K : PySem.W.Frag) : R2 := fun x y H Q => ∃ ds es, Rp K H (.tup ds) x ∧ Rp K H (.tup es) y ∧ ds.length + es.length ≤ sizeLine ∧ ∀ v H', AI H H' → Rp K H' (.tup (ds ++ es)) v → Q v H'
theorem FX : OpR X (binaryOp .Add) (MV X.K) := by
 intro pins s σ H x y v u Q I rx ry h
 obtain ⟨ds, es, hx, hy, hz, q⟩ := h
 obtain ⟨a, xs, rfl, ha, la⟩ := CH.mp hx
 obtain ⟨b, ys, rfl, hb, lb⟩ := CH.mp hy
 by_cases h0 : xs = []
 ·subst h0
  have e : ds = [] := by have := la.length; simp at this; exact List.length_eq_zero_iff.mp this.symm
  subst e
  cases rx
  cases ry
  obtain ⟨its, r1, p1, _⟩ := I.tuple ha
  obtain ⟨its2, r2, p2, _⟩ := I.tuple hb
  cases r1
  exact ZM p1 p2 ⟨.ref b, H, I, rfl, q _ _ (AI.refl _) hy⟩
 ·refine fZ pins s σ H _ _ v u Q I rx ry ⟨a, b, xs, ys, rfl, rfl, ha, hb, h0, by rw [la.length, lb.length]; exact hz, fun e => ?_, fun _ p hp => ?_⟩
  ·subst e
   have e : es = [] := by have := lb.length; simp at this; exact List.length_eq_zero_iff.mp this.symm
   subst e
   exact q _ _ (AI.refl _) (by rw [List.append_nil]; exact hx)
  ·exact q _ _ (AI.upd hp) (CH.mpr ⟨p, _, rfl, SqT.of AB, (la.app lb).same (AI.upd hp)⟩)
abbrev EnT := List (List Key × Addr × V)
section
variable {pins : List (Addr × Obj)} {σ : St} {H : Hp} {s : Shared} {a b : Addr} {es : EnT} {k : List Key}
end
section
variable {o i value : Expr} {pos pos' : Pos} {td ty tv : TE}
end
end
abbrev NK := Int × Int × Int × Int
def QE (h : Heap) (k : NK) (a : Addr) : Prop := ∃ (p q : Addr) (ti th ta tb : Tok), IsTup h a #[.int k.1 ti, .ref p] ∧ IsTup h p #[.int k.2.1 th, .ref q] ∧ IsTup h q #[.int k.2.2.1 ta, .int k.2.2.2 tb]
theorem EF {h : Heap} {a : Addr} {xs ys : Array Value} (p : IsTup h a xs) (q : IsTup h a ys) : xs = ys := by
 obtain ⟨o, e, _, n, d⟩ := p
 obtain ⟨o', e', _, n', d'⟩ := q
 rw [e] at e'
 cases e'
 rw [d] at d'
 injection d'
theorem QE.inj {h : Heap} {a : Addr} {x y : NK} (hx : QE h x a) (hy : QE h y a) : x = y := by
 obtain ⟨p, q, _, _, _, _, h1, h2, h3⟩ := hx
 obtain ⟨p', q', _, _, _, _, g1, g2, g3⟩ := hy
 have e1 := EF h1 g1
 simp at e1
 obtain ⟨⟨a1, _⟩, rfl⟩ := e1
 have e2 := EF h2 g2
 simp at e2
 obtain ⟨⟨a2, _⟩, rfl⟩ := e2
 have e3 := EF h3 g3
 simp at e3
 obtain ⟨⟨a3, _⟩, a4, _⟩ := e3
 obtain ⟨x1, x2, x3, x4⟩ := x
 obtain ⟨y1, y2, y3, y4⟩ := y
 simp_all
theorem JR {h h' : Heap} {a d : Addr} {xs : Array Value} {o : Obj} {es : Array DictEntry} {ep : Nat} (p : IsTup h a xs) (hd : h.get? d = some o) (e : o.data = .dict es ep) (s : Heap.SameBut d h h') : IsTup h' a xs := by
 obtain ⟨o', e', c, n, dd⟩ := p
 have hne : a ≠ d := by
  rintro rfl
  rw [hd] at e'
  cases e'
  rw [e] at dd
  cases dd
 exact ⟨o', by rw [s.2 a hne]; exact e', c, n, dd⟩
def OM (x y : Int) : Int := reduceHash (Builtin.Tuple.tupleHashOf [x, y])
section
variable {prog : Program} {w : World} {A : Around} {E : Value → Shared → Prop} {s : Shared}
theorem JT {a : Addr} {u v : Value} {Q : Int → Shared → Prop} (ht : IsTup s.heap a #[u, v]) (hA : A.units < cLine)
  (h : wpAny (model prog w) A.in1 (pyHash u) (fun x s1 => wpAny (model prog w) A.in1 (pyHash v) (fun y s2 => Q (OM x y) { s2 with toks := s2.toks + 1 }) E s1) E s) : wpAny (model prog w) A (pyHash (.ref a)) Q E s := by
 show wpAny (model prog w) A (pyHashByItsType (.ref a)) Q E s
 refine W.pyHash_slot (T := "tuple") ht.typeIs PySem.F.slot_tuple_hash PySem.F.entry_tuple_hash (PySem.F.args_tuple_hash_1 _) (by decide) (.inr hA) ?_
 unfold Builtin.«tuple.__hash__»
 refine wpAny_bind ?_
 rw [show slotArgs "__hash__" 0 { pos := [.ref a] } = pure (.ref a, []) from rfl]
 refine wpAny_pure ?_
 dsimp only
 refine wpAny_bind (tupleItemsOf_ ht ?_)
 refine wpAny_bind ?_
 rw [show (#[u, v] : Array Value) = [u, v].toArray from rfl, List.forIn_toArray, List.forIn_cons]
 refine wpAny_bind (wpAny_bind (wpAny_mono h (fun x s1 h1 => wpAny_pure ?_) fun _ _ z => z))
 dsimp only
 rw [List.forIn_cons]
 refine wpAny_bind (wpAny_bind (wpAny_mono h1 (fun y s2 h2 => wpAny_pure ?_) fun _ _ z => z))
 dsimp only
 rw [List.forIn_nil]
 refine wpAny_pure ?_
 exact wpAny_bind (wpAny_mkInt (wpAny_pure ⟨_, _, rfl, h2⟩))
def dA (k : NK) : Int := OM (hashInt k.1) (OM (hashInt k.2.1) (OM (hashInt k.2.2.1) (hashInt k.2.2.2)))
theorem gG {k : NK} {a : Addr} {Q : Int → Shared → Prop} (hA : A.units + 3 < cLine) (hk : QE s.heap k a) (q : Q (dA k) { s with toks := s.toks + 7 }) : wpAny (model prog w) A (pyHash (.ref a)) Q E s := by
 obtain ⟨p, r, ti, th, ta, tb, h1, h2, h3⟩ := hk
 refine JT h1 (by omega) (wpAny_pyHash_int ?_)
 refine JT (s := { s with toks := s.toks + 1 }) h2 (show A.units + 1 < cLine by omega) (wpAny_pyHash_int ?_)
 refine JT (s := { s with toks := s.toks + 1 + 1 }) h3 (show A.units + 1 + 1 < cLine by omega) (wpAny_pyHash_int (wpAny_pyHash_int ?_))
 exact q
theorem cI {k : NK} {a : Addr} {Q : Bool → Shared → Prop} (hk : QE s.heap k a) (q : Q true s) : wpAny (model prog w) A (eqIsQuiet 8 (.ref a)) Q E s := by
 obtain ⟨p, r, ti, th, ta, tb, h1, h2, h3⟩ := hk
 have step : ∀ (n : Nat) (a : Addr) (u v : Value) (Q : Bool → Shared → Prop), IsTup s.heap a #[u, v] → wpAny (model prog w) A (eqIsQuiet n u) (fun b s1 => b = true ∧ s1 = s) E s → wpAny (model prog w) A (eqIsQuiet n v) (fun b s1 => b = true ∧ s1 = s) E s → Q true s → wpAny (model prog w) A (eqIsQuiet (n + 1) (.ref a)) Q E s := by
  intro n a u v Q ht hu hv q
  rw [eqIsQuiet.eq_2]
  refine wpAny_bind (wpAny_specialOf ht.typeIs PySem.F.slot_tuple_eq.lookup ?_)
  show wpAny _ _ (PySem.isInstance (.ref a) (.type "tuple") >>= _) _ _ _
  refine wpAny_bind (wpAny_isInstance ht.typeIs isSubtype_tuple_tuple ?_)
  rw [if_neg (by decide)]
  obtain ⟨o, e, c, n', d⟩ := ht
  rw [seqItems?.eq_1]
  refine wpAny_bind (wpAny_bind (wpAny_load e ?_))
  rw [d]
  refine wpAny_pure ?_
  refine wpAny_bind ?_
  rw [show ((some (#[u, v] : Array Value)).getD #[]) = [u, v].toArray from rfl, List.forIn_toArray, List.forIn_cons]
  refine wpAny_bind (wpAny_bind (wpAny_mono hu (fun b s1 hb => ?_) fun _ _ z => z))
  obtain ⟨rfl, rfl⟩ := hb
  rw [if_neg (by decide)]
  refine wpAny_pure ?_
  dsimp only
  rw [List.forIn_cons]
  refine wpAny_bind (wpAny_bind (wpAny_mono hv (fun b s1 hb => ?_) fun _ _ z => z))
  obtain ⟨rfl, rfl⟩ := hb
  rw [if_neg (by decide)]
  refine wpAny_pure ?_
  dsimp only
  rw [List.forIn_nil]
  exact wpAny_pure (wpAny_pure q)
 have fl : ∀ (n : Nat) (i : Int) (t : Tok), wpAny (model prog w) A (eqIsQuiet n (.int i t)) (fun b s1 => b = true ∧ s1 = s) E s := fun n i t => by
  rw [eqIsQuiet_byValue n (by rfl)]
  exact wpAny_pure ⟨rfl, rfl⟩
 exact step 7 a _ _ _ h1 (fl _ _ _) (step 6 p _ _ _ h2 (fl _ _ _) (step 5 r _ _ _ h3 (fl _ _ _) (fl _ _ _) ⟨rfl, rfl⟩) ⟨rfl, rfl⟩) q
theorem PM {a b : Addr} {u v u' v' : Value} {k1 k2 : Bool} (h1 : IsTup s.heap a #[u, v]) (h2 : IsTup s.heap b #[u', v']) (hA : A.units < cLine) (e1 : SeqAt.EqAt A.in1 s u u' k1) (e2 : SeqAt.EqAt A.in1 s v v' k2) (hs : a = b → (k1 && k2) = true) : SeqAt.EqAt A s (.ref a) (.ref b) (k1 && k2) := by
 by_cases hab : a = b
 ·rw [hs hab]
  subst hab
  exact SeqAt.EqAt.same _
 ·have key := SeqAt.RcAt.tuples (e := fun j => if j = 0 then k1 else k2) h1 h2 hA (fun j g1 g2 => by
   have hj : j = 0 ∨ j = 1 := by simp at g1; omega
   rcases hj with rfl | rfl
   ·exact e1
   ·exact e2)
  refine SeqAt.EqAt.of_refs hab ?_
  have e : ((List.range (min (#[u, v] : Array Value).size (#[u', v'] : Array Value).size)).all (fun j => if j = 0 then k1 else k2) && (#[u, v] : Array Value).size == (#[u', v'] : Array Value).size) = (k1 && k2) := by
   cases k1 <;> cases k2 <;> rfl
  rw [e] at key
  exact key
theorem mD {x y : NK} {a b : Addr} {Q : Bool → Shared → Prop} (hA : A.units + 3 < cLine) (hx : QE s.heap x a) (hy : QE s.heap y b) (q : Q (decide (x = y)) s) : wpAny (model prog w) A (eqBool (.ref a) (.ref b)) Q E s := by
 obtain ⟨p, r, ti, th, ta, tb, h1, h2, h3⟩ := hx
 obtain ⟨p', r', ti', th', ta', tb', g1, g2, g3⟩ := hy
 have E3 : SeqAt.EqAt A.in1.in1 s (.ref r) (.ref r') ((x.2.2.1 == y.2.2.1) && (x.2.2.2 == y.2.2.2)) := PM h3 g3 (show A.units + 1 + 1 < cLine by omega) (SeqAt.EqAt.int_int _ _ _ _) (SeqAt.EqAt.int_int _ _ _ _) (by
  rintro rfl
  have := EF h3 g3
  simp at this
  simp [this.1.1, this.2.1])
 have E2 : SeqAt.EqAt A.in1 s (.ref p) (.ref p') ((x.2.1 == y.2.1) && ((x.2.2.1 == y.2.2.1) && (x.2.2.2 == y.2.2.2))) := PM h2 g2 (show A.units + 1 < cLine by omega) (SeqAt.EqAt.int_int _ _ _ _) E3 (by
  rintro rfl
  have := EF h2 g2
  simp at this
  obtain ⟨⟨a1, _⟩, rfl⟩ := this
  have := EF h3 g3
  simp at this
  simp [this.1.1, this.2.1, a1])
 have E1 : SeqAt.EqAt A s (.ref a) (.ref b) ((x.1 == y.1) && ((x.2.1 == y.2.1) && ((x.2.2.1 == y.2.2.1) && (x.2.2.2 == y.2.2.2)))) := PM h1 g1 (by omega) (SeqAt.EqAt.int_int _ _ _ _) E2 (by
  rintro rfl
  have := EF h1 g1
  simp at this
  obtain ⟨⟨a0, _⟩, rfl⟩ := this
  have := EF h2 g2
  simp at this
  obtain ⟨⟨a1, _⟩, rfl⟩ := this
  have := EF h3 g3
  simp at this
  simp [this.1.1, this.2.1, a1, a0])
 refine E1 prog w E Q ?_
 have e : ((x.1 == y.1) && ((x.2.1 == y.2.1) && ((x.2.2.1 == y.2.2.1) && (x.2.2.2 == y.2.2.2)))) = decide (x = y) := by
  obtain ⟨x1, x2, x3, x4⟩ := x
  obtain ⟨y1, y2, y3, y4⟩ := y
  rw [Bool.eq_iff_iff]
  simp [Prod.ext_iff]
 rw [e]
 exact q
def iZ (prog : Program) (w : World) : HeapKind prog w NK where
 is := QE
 hash := dA
 draws := fun _ => 7
 room := fun A => A.units + 3 < cLine
 inj := QE.inj
 keeps := fun ⟨p, q, ti, th, ta, tb, h1, h2, h3⟩ hd e sb => ⟨p, q, ti, th, ta, tb, JR h1 hd e sb, JR h2 hd e sb, JR h3 hd e sb⟩
 pyHash := fun hA hk q => gG hA hk q
 eqBool := fun hA hx hy q => mD hA hx hy q
 quiet := fun hk q => cI hk q
end
abbrev EnN := List (NK × Addr × V)
def EVN : EnN → List (NK × Addr × Value) → Prop := Paired fun p q => p.1 = q.1 ∧ p.2.1 = q.2.1 ∧ AX p.2.2 q.2.2
def DN (P : Program) (w : World) (a : Addr) (es : EnN) (ep : Nat) : HO := .ext fun h => (a == sysModules) = false ∧ ∃ xs, EVN es xs ∧ ∃ o en, h.get? a = some o ∧ o.ExactDict ∧ o.data = .dict en ep ∧ en.toList = xs.map (entryOfKey (iZ P w)) ∧ (xs.map (·.1)).Nodup
def nkD (k : NK) : D := .tup [.int k.1, .tup [.int k.2.1, .tup [.int k.2.2.1, .int k.2.2.2]]]
def iP (K : PySem.W.Frag) (H : Hp) (es : EnN) : Prop := ∀ x ∈ es, Rp K H (nkD x.1) (.ref x.2.1)
theorem EVN.mem : ∀ {es : EnN} {xs : List (NK × Addr × Value)}, EVN es xs → ∀ x ∈ xs, ∃ y ∈ es, y.1 = x.1 ∧ y.2.1 = x.2.1
 | _, _, .nil, x, hx => by cases hx
 | _, _, .cons h t, x, hx => by
  rcases List.mem_cons.mp hx with rfl | hx
  ·exact ⟨_, List.mem_cons_self, h.1, h.2.1⟩
  ·obtain ⟨y, hy, e⟩ := EVN.mem t x hx
   exact ⟨y, List.mem_cons_of_mem _ hy, e⟩
theorem EVN.app {es es' : EnN} {xs xs' : List (NK × Addr × Value)} (h : EVN es xs) (h' : EVN es' xs') : EVN (es ++ es') (xs ++ xs') := by
 unfold EVN at *
 induction h with
 | nil => exact h'
 | cons a _ ih => exact .cons a ih
def lkN (es : EnN) (k : NK) : Option V := (es.find? fun x => decide (x.1 = k)).map (·.2.2)
theorem EVN.look : ∀ {es : EnN} {xs : List (NK × Addr × Value)} {k : NK} {v : V}, EVN es xs → lkN es k = some v → ∃ p, atKey xs k = some p ∧ AX v p.2
 | _, _, k, v, .nil, h => by cases h
 | (k1, a1, v1) :: es, (k2, a2, v2) :: xs, k, v, .cons h t, e => by
  obtain ⟨rfl, rfl, r⟩ := h
  unfold lkN at e
  unfold atKey
  rw [List.find?_cons] at e ⊢
  by_cases hk : k1 = k
  ·simp only [hk, decide_true] at e ⊢
   cases e
   exact ⟨_, rfl, r⟩
  ·simp only [hk, decide_false] at e ⊢
   exact EVN.look t e
theorem EVN.none : ∀ {es : EnN} {xs : List (NK × Addr × Value)} {k : NK}, EVN es xs → lkN es k = none → atKey xs k = none
 | _, _, k, .nil, _ => rfl
 | (k1, a1, v1) :: es, (k2, a2, v2) :: xs, k, .cons h t, e => by
  obtain ⟨rfl, rfl, r⟩ := h
  unfold lkN at e
  unfold atKey
  rw [List.find?_cons] at e ⊢
  by_cases hk : k1 = k
  ·simp only [hk, decide_true] at e
   cases e
  ·simp only [hk, decide_false] at e ⊢
   exact EVN.none t e
section
variable {X : Cx} {pins : List (Addr × Obj)} {σ : St} {H : Hp} {s : Shared} {a b : Addr} {es : EnN} {ep : Nat} {k : NK}
end
section
variable {X : Cx} {o e f : Expr} {pos apos cpos : Pos} {td ty tx : TE}
end
def KI (h : Heap) (it d : Addr) (i n ep : Nat) : Prop := h.get? it = some { cls := .type "dict_keyiterator", data := .fields #[.ref d, .int i 0, .int n 0, .int ep 0] }
section
variable {prog : Program} {w : World} {A : Around} {E : Value → Shared → Prop} {s : Shared} {it d : Addr} {i n ep : Nat} {o : Obj} {en : Array DictEntry}
theorem KI.typeIs (k : KI s.heap it d i n ep) : s.TypeIs (.ref it) "dict_keyiterator" := ⟨_, k, rfl⟩
end
section
variable {X : Cx} {pins : List (Addr × Obj)} {σ : St} {H : Hp} {s : Shared} {d : Addr} {es : EnN} {ep : Nat}
end
section
variable {X : Cx} {tg l : Expr} {tl : TE}
end
theorem TR {prog : Program} {w : World} {A : Around} {R : Result → Shared → Prop} {s : Shared} {kx vx target iter : Expr} {scope : Scope} {pos : Pos} {it : Value} {D : Addr} {env : Env} (I : Nat → Shared → Prop)
  (turn : ∀ n s, I n s → wpAny (model prog w) A (pyNext it) (fun r s₁ => match r with
   | none => R (.ok .next) s₁
   | some v => wpAny (model prog w) A (letOwnedTupleGo target it v) (fun _ s₁' => wpAny (model prog w) A (assign target env v) (fun _ s₂ =>
     wpAny (model prog w) A (eval kx env) (fun y s₃ => wpAny (model prog w) A (eval vx env) (fun z s₄ =>
       wpAny (model prog w) A (dictSet D y z) (fun _ s₅ => ∃ m, m < n ∧ I m s₅) (fun _ _ => False) s₄) (fun _ _ => False) s₃) (fun _ _ => False) s₂) (fun _ _ => False) s₁') (fun _ _ => False) s₁) (fun _ _ => False) s)
  (n : Nat) (h : I n s) :
  codeAny (model prog w) A (.compLoop (.DictComp kx vx [⟨target, iter, [], 0⟩] scope pos) 0 it (.ref D) env) R s := by
 refine codeAny_loop rfl I (fun n s hI => ?_) n h
 show wpAny _ A ((compTurn (.DictComp kx vx [⟨target, iter, [], 0⟩] scope pos) 0 it (.ref D) env).onRaise (fun x => do noteFrame x env; theTreesLotGoes x)) _ _ s
 refine wpAny_noted ?_
 rw [compTurn_dict]
 refine wpAny_bind (wpAny_standAt (wpAny_bind (wpAny_mono (turn n s hI) (fun r s₁ h₁ => ?_) fun _ _ z => False.elim z)))
 cases r with
 | none => exact wpAny_pure h₁
 | some v =>
  refine wpAny_bind (wpAny_mono h₁ (fun _ s₁' h₁' => ?_) fun _ _ z => False.elim z)
  refine wpAny_bind (wpAny_mono h₁' (fun _ s₂ h₂ => ?_) fun _ _ z => False.elim z)
  simp only [List.forIn_nil, pure_bind, if_true]
  exact wpAny_bind (wpAny_bind (wpAny_mono h₂ (fun y s₃ h₃ => wpAny_bind (wpAny_holding (wpAny_mono h₃ (fun z s₄ h₄ => wpAny_bind (wpAny_standAt (wpAny_holding (wpAny_mono h₄ (fun _ s₅ h₅ => wpAny_pure ⟨rfl, h₅⟩) fun _ _ z => False.elim z)))) fun _ _ z => False.elim z))) fun _ _ z => False.elim z))
def fP (P : Program) (w : World) (K : PySem.W.Frag) (js : List Nat) (os : List Str) (wi : TI) (g : TG) (tk tv : TE) : TE := fun σ H Q => wi σ H fun J H1 => ∀ p ep, H1 p = none →
 ∃ W : Nat → Nat → St → Hp → Prop, (∃ m, W 0 m (stC js os σ) (upd H1 p (DN P w p [] ep))) ∧ ∀ i m σ H, W i m σ H →
  (J.stop i H ∧ Q (.ref p) H) ∨ (J.go i H ∧ ∀ x H', J.yld i H x H' → g x σ H' fun σ2 H2 => tk σ2 H2 fun y H3 => tv σ2 H3 fun z H4 => DO y fun b =>
   ∃ (es : EnN) (ep : Nat) (k : NK), H4 p = some (DN P w p es ep) ∧ iP K H4 es ∧ es.length ≤ 10000 ∧ Rp K H4 (nkD k) (.ref b) ∧ lkN es k = none ∧ ∀ ep', ∃ m', m' < m ∧ W (i + 1) m' σ2 (upd H4 p (DN P w p (es ++ [(k, b, z)]) ep')))
section
variable {X : Cx}
end
section
variable {prog : Program} {w : World} {A : Around} {R : Result → Shared → Prop} {s : Shared} {elt tg iter tg2 iter2 : Expr} {scope : Scope} {pos : Pos} {it acc : Value} {env : Env}
end
def kB (js : List Nat) (os : List Str) (wi : TI) (g : TG) (wj : TI) (g2 : TG) (te : TE) : TE := fun σ H Q => wi σ H fun J H1 => ∀ p, H1 p = none →
 ∃ W : Nat → Nat → St → Hp → Prop, (∃ m, W 0 m (stC js os σ) (upd H1 p (.lst []))) ∧ ∀ i m σ H, W i m σ H →
  (J.stop i H ∧ Q (.ref p) H) ∨ (J.go i H ∧ ∀ x H', J.yld i H x H' → g x σ H' fun σ2 H2 => wj σ2 H2 fun J2 H3 =>
   ∃ V : Nat → Nat → St → Hp → Prop, (∃ m2, V 0 m2 σ2 H3) ∧ ∀ j m2 σ H, V j m2 σ H →
    (J2.stop j H ∧ ∃ m', m' < m ∧ W (i + 1) m' σ H) ∨ (J2.go j H ∧ ∀ x2 H', J2.yld j H x2 H' → g2 x2 σ H' fun σ4 H4 => te σ4 H4 fun y H5 =>
     ∃ ys, H5 p = some (.lst ys) ∧ ys.length < sizeLine ∧ ∃ m', m' < m2 ∧ V (j + 1) m' σ4 (upd H5 p (.lst (ys ++ [y])))))
section
variable {X : Cx}
end
section
variable {X : Cx} {o i : Expr} {pos : Pos} {td ty : TE}
end
def LtAt (A : Around) (s : Shared) (x y : Value) (b : Bool) : Prop := ∀ (prog : Program) (w : World) (E : Value → Shared → Prop) (Q : Value → Shared → Prop), Q (.bool b) s → wpAny (model prog w) A (richCompare .Lt x y) Q E s
section
variable {A : Around} {s : Shared}
theorem lt_int (i j : Int) (t u : Tok) : LtAt A s (.int i t) (.int j u) (decide (i < j)) := fun prog w E Q q => by
 exact wpAny_lt_int (a := i) (b := j) (t := t) (u := u) q
end
open PySem.W in
def IM {α : Type} (n : Nat) (f : Nat → Nat → Bool) (P : α → Prop) : KasT α → Prop
 | .ret a => P a
 | .ask i j k => i < n ∧ j < n ∧ IM n f P (k (f i j))
section
open PySem.W
variable {n : Nat} {f : Nat → Nat → Bool}
theorem IM.bind {α β : Type} {P : α → Prop} {P' : β → Prop} {g : α → KasT β} (h : ∀ a, P a → IM n f P' (g a)) : ∀ {t : KasT α}, IM n f P t → IM n f P' (t.bind g)
 | .ret a, q => h a q
 | .ask i j k, q => ⟨q.1, q.2.1, IM.bind h q.2.2⟩
theorem IM.wp {α : Type} {P : α → Prop} {cmp : Nat → Nat → (Bool → Shared → Prop) → Shared → Prop} {Q : α → Shared → Prop} {s : Shared} (hc : ∀ i j C, i < n → j < n → C (f i j) s → cmp i j C s) (hq : ∀ a, P a → Q a s) : ∀ {t : KasT α}, IM n f P t → t.kasWp cmp Q s
 | .ret a, g => hq a g
 | .ask i j k, g => hc i j _ g.1 g.2.1 (IM.wp hc hq g.2.2)
def RU (n : Nat) (p : Array Nat) : Prop := 0 < n ∧ p.Perm (List.range n).toArray
theorem RU.lt {p : Array Nat} (h : RU n p) (i : Nat) : p.getD i 0 < n := by
 unfold Array.getD
 split
 ·rename_i hi
  have hm : p[i] ∈ p := Array.getElem_mem hi
  have := h.2.mem_iff.mp hm
  simpa using this
 ·exact h.1
end
abbrev Q4 := Int × Int × Int × Int
def q4D (p : Q4) : D := plc p.1 p.2.1 p.2.2.1 p.2.2.2
abbrev Sk := Int × Q4 × Q4
def skD (k : Sk) : D := .tup [.int k.1, q4D k.2.1, q4D k.2.2]
def nlt (a b c d : Int) : Bool := if (a == c) = true then (if (b == d) = true then false else decide (b < d)) else decide (a < c)
def plt (p q : Q4) : Bool := if deq (num p.1 p.2.1) (num q.1 q.2.1) = true then (if deq (num p.2.2.1 p.2.2.2) (num q.2.2.1 q.2.2.2) = true then false else nlt p.2.2.1 p.2.2.2 q.2.2.1 q.2.2.2) else nlt p.1 p.2.1 q.1 q.2.1
def sklt (k l : Sk) : Bool := if (k.1 == l.1) = true then (if deq (q4D k.2.1) (q4D l.2.1) = true then (if deq (q4D k.2.2) (q4D l.2.2) = true then false else plt k.2.2 l.2.2) else plt k.2.1 l.2.1) else decide (k.1 < l.1)
section
variable {X : Cx} {pins : List (Addr × Obj)} {σ : St} {H : Hp} {s : Shared} {A : Around}
end
section
open PySem.W
def fI {α : Type} (f : Nat → Nat → Bool) : KasT α → α
 | .ret a => a
 | .ask i j k => fI f (k (f i j))
theorem IM.run {α : Type} {n : Nat} {f : Nat → Nat → Bool} {P : α → Prop} : ∀ {t : KasT α}, IM n f P t → IM n f (fun a => a = fI f t ∧ P a) t
 | .ret a, g => ⟨rfl, g⟩
 | .ask i j k, g => ⟨g.1, g.2.1, IM.run g.2.2⟩
theorem IM.post {α : Type} {n : Nat} {f : Nat → Nat → Bool} {P : α → Prop} {t : KasT α} : IM n f P t → P (fI f t) := by
 induction t with
 | ret a => exact id
 | ask i j k ih => exact fun g => ih _ g.2.2
end
def lV (ks : List Sk) (i j : Nat) : Bool := sklt (ks.getD i (0, (0, 0, 0, 0), (0, 0, 0, 0))) (ks.getD j (0, (0, 0, 0, 0), (0, 0, 0, 0)))
def sres (ks : List Sk) : List Nat := if ks.length < 2 then List.range ks.length else (fI (lV ks) (PySem.W.kas_sort ks.length)).toList
section
variable {X : Cx}
end
def KxE (K : PySem.W.Frag) (k : Int × D) (e : DictEntry) : Prop := (∃ t, e.key = .int k.1 t) ∧ e.hash = hashInt k.1 ∧ ∃ v, AX v e.val ∧ ∀ H, Rp K H k.2 v
structure KX (K : PySem.W.Frag) (ks : List (Int × D)) (u : Value) : Prop where
 ex : ∃ p o en ep, u = .ref p ∧ K.lookup p = some o ∧ o.ExactDict ∧ o.data = .dict en ep ∧ Paired (KxE K) ks en.toList
section
variable {X : Cx} {o i : Expr} {pos : Pos} {td ty : TE}
end
section
variable {X : Cx} {tg : Expr}
end
def DCW (P : Program) (w : World) (K : PySem.W.Frag) (J : It) (g : TG) (tk tv : TE) (p : Addr) (Q : VK) (σ : St) (H1 : Hp) : Prop :=
 ∃ W : Nat → Nat → St → Hp → Prop, (∃ m, W 0 m σ H1) ∧ ∀ i m σ H, W i m σ H →
  (J.stop i H ∧ Q (.ref p) H) ∨ (J.go i H ∧ ∀ x H', J.yld i H x H' → g x σ H' fun σ2 H2 => tk σ2 H2 fun y H3 => tv σ2 H3 fun z H4 => DO y fun b =>
   ∃ (es : EnN) (ep : Nat) (k : NK), H4 p = some (DN P w p es ep) ∧ iP K H4 es ∧ es.length ≤ 10000 ∧ Rp K H4 (nkD k) (.ref b) ∧ lkN es k = none ∧ ∀ ep', ∃ m', m' < m ∧ W (i + 1) m' σ2 (upd H4 p (DN P w p (es ++ [(k, b, z)]) ep')))
theorem GD (P : Program) (w : World) (K : PySem.W.Frag) (js : List Nat) (os : List Str) (wi : TI) (g : TG) (tk tv : TE) (σ : St) (H : Hp) (Q : VK) : fP P w K js os wi g tk tv σ H Q = wi σ H fun J H1 => ∀ p ep, H1 p = none → DCW P w K J g tk tv p Q (stC js os σ) (upd H1 p (DN P w p [] ep)) := rfl
def IW (J2 : It) (g2 : TG) (te : TE) (p : Addr) (R : St → Hp → Prop) (σ : St) (H3 : Hp) : Prop :=
 ∃ V : Nat → Nat → St → Hp → Prop, (∃ m2, V 0 m2 σ H3) ∧ ∀ j m2 σ H, V j m2 σ H →
  (J2.stop j H ∧ R σ H) ∨ (J2.go j H ∧ ∀ x2 H', J2.yld j H x2 H' → g2 x2 σ H' fun σ4 H4 => te σ4 H4 fun y H5 =>
   ∃ ys, H5 p = some (.lst ys) ∧ ys.length < sizeLine ∧ ∃ m', m' < m2 ∧ V (j + 1) m' σ4 (upd H5 p (.lst (ys ++ [y]))))
def CW2 (J : It) (g : TG) (wj : TI) (g2 : TG) (te : TE) (p : Addr) (Q : VK) (σ : St) (H1 : Hp) : Prop :=
 ∃ W : Nat → Nat → St → Hp → Prop, (∃ m, W 0 m σ H1) ∧ ∀ i m σ H, W i m σ H →
  (J.stop i H ∧ Q (.ref p) H) ∨ (J.go i H ∧ ∀ x H', J.yld i H x H' → g x σ H' fun σ2 H2 => wj σ2 H2 fun J2 H3 => IW J2 g2 te p (fun σ H => ∃ m', m' < m ∧ W (i + 1) m' σ H) σ2 H3)
theorem HJ (js : List Nat) (os : List Str) (wi : TI) (g : TG) (wj : TI) (g2 : TG) (te : TE) (σ : St) (H : Hp) (Q : VK) : kB js os wi g wj g2 te σ H Q = wi σ H fun J H1 => ∀ p, H1 p = none → CW2 J g wj g2 te p Q (stC js os σ) (upd H1 p (.lst [])) := rfl
section
variable {X : Cx}
end
section
variable {X : Cx}
end
section
open PySem.W
structure mM (n : Nat) (f : Nat → Nat → Bool) : Prop where
 tr : ∀ i j k, i < n → j < n → k < n → f i j = true → f j k = true → f i k = true
 tot : ∀ i j, i < n → j < n → i ≠ j → f i j = true ∨ f j i = true
 as : ∀ i j, i < n → j < n → f i j = true → f j i = false
variable {n : Nat} {f : Nat → Nat → Bool}
theorem RU.size {p : Array Nat} (h : RU n p) : p.size = n := by have := h.2.size_eq; simpa using this
theorem RU.inj {p : Array Nat} (h : RU n p) {i j : Nat} (hi : i < n) (hj : j < n) (e : p.getD i 0 = p.getD j 0) : i = j := by
 have hs := h.size
 have nd : p.toList.Nodup := (Array.perm_iff_toList_perm.mp h.2).nodup_iff.mpr (by simpa using List.nodup_range)
 unfold Array.getD at e
 rw [dif_pos (by omega), dif_pos (by omega)] at e
 exact (List.getElem_inj nd (i := i) (j := j) (h₀ := by simpa using (by omega : i < p.size)) (h₁ := by simpa using (by omega : j < p.size))).mp (by simpa using e)
def Inc (f : Nat → Nat → Bool) (p : Array Nat) (m : Nat) : Prop := ∀ i, i + 1 < m → f (p.getD i 0) (p.getD (i + 1) 0) = true
theorem Inc.lt (o : mM n f) {p : Array Nat} (h : RU n p) {m : Nat} (g : Inc f p m) : ∀ d i, i + d + 1 < m → f (p.getD i 0) (p.getD (i + d + 1) 0) = true
 | 0, i, hi => g i hi
 | d + 1, i, hi => o.tr _ _ _ (h.lt _) (h.lt _) (h.lt _) (Inc.lt o h g d i (by omega)) (g (i + d + 1) (by omega))
theorem Inc.all (o : mM n f) {p : Array Nat} (h : RU n p) {m : Nat} (g : Inc f p m) {i j : Nat} (hij : i < j) (hj : j < m) : f (p.getD i 0) (p.getD j 0) = true := by
 have := Inc.lt o h g (j - i - 1) i (by omega)
 rwa [show i + (j - i - 1) + 1 = j by omega] at this
end
def sorts (ks : List Sk) : List Sk := (sres ks).map fun i => ks.getD i (0, (0, 0, 0, 0), (0, 0, 0, 0))
namespace Tab
open PySem.SetTable
def iJ (M i : Nat) : Nat := (i * 5 + 1) % M
def it5 (M : Nat) : Nat → Nat → Nat
 | 0, i => i
 | n + 1, i => it5 M n (iJ M i)
def Mk (m : Nat) : Prop := m = 7 ∨ m = 31 ∨ m = 127
theorem KW (M : Nat) : ∀ a b i, it5 M (a + b) i = it5 M b (it5 M a i)
 | 0, b, i => by rw [Nat.zero_add]; rfl
 | a + 1, b, i => by
  rw [show a + 1 + b = (a + b) + 1 by omega]
  exact KW M a b (iJ M i)
theorem iN {M : Nat} (c : ∀ r < M, ∃ n < M, it5 M n 0 = r) (p : it5 M M 0 = 0) (i r : Nat) (hi : i < M) (hr : r < M) : ∃ n < M, it5 M n i = r := by
 obtain ⟨a, ha, ea⟩ := c i hi
 obtain ⟨b, hb, eb⟩ := c r hr
 by_cases h : a ≤ b
 ·refine ⟨b - a, by omega, ?_⟩
  rw [← ea, ← KW, show a + (b - a) = b by omega, eb]
 ·refine ⟨M - a + b, by omega, ?_⟩
  rw [← ea, ← KW, show a + (M - a + b) = M + b by omega, KW, p, eb]
def lp (m : Nat) : Nat → Nat × Nat → Nat × Nat
 | 0, x => x
 | n + 1, x => lp m n (leap m x.1 x.2)
def st (m : Nat) (x : Nat × Nat) : Probe := { j := x.1, more := runEnd m x.1 - x.1, i := x.1, perturb := x.2, dummy := none }
structure POk (t : SetTable) (p : Probe) : Prop where
 i : p.i < t.mask + 1
 pt : p.perturb < 2 ^ 64
 more : p.more ≤ 9
 dm : p.dummy = none
 j : p.j ≤ t.mask
 run : p.more + p.j ≤ t.mask
theorem TU {l : List Nat} {f g : Nat → Bool} {j : Nat} (nd : l.Nodup) (hj : j ∈ l) (e0 : f j = false) (e1 : g j = true) (eq : ∀ i, i ≠ j → g i = f i) : l.countP g = l.countP f + 1 := by
 induction l with
 | nil => cases hj
 | cons a l ih =>
  rw [List.nodup_cons] at nd
  by_cases c : a = j
  ·subst c
   rw [List.countP_cons_of_pos e1, List.countP_cons_of_neg (by rw [e0]; decide)]
   congr 1
   refine List.countP_congr fun x hx => ?_
   rw [eq x (fun z => nd.1 (z ▸ hx))]
  ·have ij := ih nd.2 ((List.mem_cons.mp hj).resolve_left fun z => c z.symm)
   rw [List.countP_cons, List.countP_cons, eq a c, ij]
   omega
def cnt (m : Nat) (ow : Array (Option Nat)) : Nat := (List.range (m + 1)).countP fun j => (ow.getD j none).isSome
structure LO (m n : Nat) (ow : Array (Option Nat)) : Prop where
 size : ow.size = m + 1
 cnt : cnt m ow = n
 lt : ∀ (j k : Nat), ow.getD j none = some k → k < n
theorem LO.put {m n : Nat} {ow : Array (Option Nat)} (o : LO m n ow) {j : Nat} (hj : ow.getD j (some 0) = none) : LO m (n + 1) (ow.setIfInBounds j (some n)) := by
 have hs := o.size
 have jl : j < ow.size := by
  refine Classical.byContradiction fun z => ?_
  unfold Array.getD at hj
  rw [dif_neg z] at hj
  cases hj
 have at' : ∀ i, (ow.setIfInBounds j (some n)).getD i none = if i = j then some n else ow.getD i none := fun i => by
  rw [Array.getD_eq_getD_getElem?, Array.getD_eq_getD_getElem?, Array.getElem?_setIfInBounds]
  by_cases c : j = i
  ·subst c; rw [if_pos rfl, if_pos rfl, if_pos jl]; rfl
  ·rw [if_neg c, if_neg (fun z => c z.symm)]
 have e0 : ow.getD j none = none := by
  unfold Array.getD at hj ⊢
  rw [dif_pos jl] at hj ⊢
  exact hj
 refine ⟨by rw [Array.size_setIfInBounds]; exact hs, ?_, fun i k e => ?_⟩
 ·have := TU (l := List.range (m + 1)) (f := fun i => (ow.getD i none).isSome) (g := fun i => ((ow.setIfInBounds j (some n)).getD i none).isSome) (j := j) List.nodup_range (List.mem_range.mpr (by omega)) (by rw [e0]; rfl) (by rw [at' j, if_pos rfl]; rfl) (fun i hi => by rw [at' i, if_neg hi])
  unfold Tab.cnt
  rw [this]
  have := o.cnt
  unfold Tab.cnt at this
  omega
 ·rw [at' i] at e
  by_cases c : i = j
  ·rw [if_pos c] at e; cases e; omega
  ·rw [if_neg c] at e
   have := o.lt i k e
   omega
theorem LO.nil (m : Nat) : LO m 0 (Array.replicate (m + 1) none) := by
 have at' : ∀ i, (Array.replicate (m + 1) (none : Option Nat)).getD i none = none := fun i => by
  rw [Array.getD_eq_getD_getElem?, Array.getElem?_replicate]
  split <;> rfl
 refine ⟨Array.size_replicate, ?_, fun j k e => ?_⟩
 ·unfold Tab.cnt
  rw [List.countP_eq_zero]
  intro x _
  rw [at' x]
  decide
 ·rw [at' j] at e; cases e
end Tab
section
variable {prog : Program} {w : World} {A : Around} {E : Value → Shared → Prop} {s : Shared}
theorem cls2 {n : Nat} {a : Addr} {u0 u1 : Value} (ht : IsTup s.heap a #[u0, u1]) (h0 : wpAny (model prog w) A (ofAClassStatement n u0) (fun b s1 => b = false ∧ s1 = s) E s) (h1 : wpAny (model prog w) A (ofAClassStatement n u1) (fun b s1 => b = false ∧ s1 = s) E s) : wpAny (model prog w) A (ofAClassStatement (n + 1) (.ref a)) (fun b s1 => b = false ∧ s1 = s) E s := by
 unfold ofAClassStatement
 refine wpAny_bind (wpAny_typeOf ht.typeIs ?_)
 show wpAny _ _ (pure true >>= _) _ _ _
 refine wpAny_bind (wpAny_pure ?_)
 dsimp only
 rw [if_neg (by decide)]
 obtain ⟨o, e, c, n', d⟩ := ht
 rw [seqItems?.eq_1]
 refine wpAny_bind (wpAny_bind (wpAny_load e ?_))
 rw [d]
 refine wpAny_pure ?_
 refine wpAny_bind ?_
 rw [show (#[u0, u1] : Array Value) = [u0, u1].toArray from rfl, List.forIn_toArray]
 rw [List.forIn_cons]
 refine wpAny_bind (wpAny_bind (wpAny_mono h0 (fun b s1 hb => ?_) fun _ _ z => z))
 obtain ⟨rfl, rfl⟩ := hb
 rw [if_neg (by decide)]
 refine wpAny_pure ?_
 dsimp only
 rw [List.forIn_cons]
 refine wpAny_bind (wpAny_bind (wpAny_mono h1 (fun b s1 hb => ?_) fun _ _ z => z))
 obtain ⟨rfl, rfl⟩ := hb
 rw [if_neg (by decide)]
 refine wpAny_pure ?_
 dsimp only
 rw [List.forIn_nil]
 exact wpAny_pure (wpAny_pure ⟨rfl, rfl⟩)
def nH (a b : Int) : Int := OM (hashInt a) (hashInt b)
def q4H (x : Q4) : Int := OM (nH x.1 x.2.1) (nH x.2.2.1 x.2.2.2)
def skH (k : Sk) : Int := reduceHash (Builtin.Tuple.tupleHashOf [hashInt k.1, q4H k.2.1, q4H k.2.2])
end
end L2
namespace L2
open PySem PySem.Spec PyProof.Rows Tab
section
variable {prog : Program} {w : World} {A : Around} {E : Value → Shared → Prop} {s : Shared}
structure kQ (R : Sk → Addr → Prop) (h : Heap) (S : Addr) (es : Array (Int × Value)) (t : SetTable) (ks : List Sk) : Prop where
 ex : ∃ o ep, h.get? S = some o ∧ o.ExactSet ∧ o.data = .set es ep t
 mask : Tab.Mk t.mask
 dm : t.dummies = #[]
 sz : t.place.size = es.size
 sm : es.size * 5 < t.mask * 3
 el : ∀ e ∈ es.toList, ∃ l a, e = (skH l, Value.ref a) ∧ R l a ∧ l ∈ ks
 nn : es.size = ks.length
end
end L2
namespace L2
open PySem PySem.Spec PyProof.Rows Tab
section
variable {prog : Program} {w : World} {A : Around} {E : Value → Shared → Prop} {s : Shared}
theorem kQ.mv {R : Sk → Addr → Prop} {h h' : Heap} {S : Addr} {es : Array (Int × Value)} {t : SetTable} {ks : List Sk} (z : kQ R h S es t ks) (e : ∀ o, h.get? S = some o → h'.get? S = some o) : kQ R h' S es t ks := ⟨let ⟨o, ep, a, b, c⟩ := z.ex; ⟨o, ep, e _ a, b, c⟩, z.mask, z.dm, z.sz, z.sm, z.el, z.nn⟩
end
end L2
namespace L2
open PySem PySem.Spec PyProof.Rows Tab
section
variable {X : Cx} {pins : List (Addr × Obj)} {σ : St} {H : Hp} {s : Shared}
end
section
variable {prog : Program} {w : World} {A : Around} {E : Value → Shared → Prop} {s : Shared}
end
section
variable {X : Cx}
end
section
variable {X : Cx}
variable {tg : Expr}
end
section
variable {X : Cx}
end
section
variable {X : Cx}
end
section
variable {X : Cx} {e tg : Expr} {te : TE} {p' pos' : Pos}
end
section
variable {prog : Program} {w : World} {A : Around} {s : Shared} {E : Value → Shared → Prop} {R : Result → Shared → Prop} {I l : Addr} {items : Array Value}
end
section
variable {X : Cx} {e : Expr} {te : TE} {p p' pos pos' : Pos}
end
section
variable {X : Cx}
end
inductive EG (K : PySem.W.Frag) (H : Hp) : Nat → V → V → Prop
 | int (n : Nat) (i : Int) : EG K H n (.int i) (.int i)
 | bl (n : Nat) (b : Bool) : EG K H n (.bl b) (.bl b)
 | str (n : Nat) (x : Str) : EG K H n (.str x) (.str x)
 | non (n : Nat) : EG K H n .non .non
 | same (n : Nat) (p : Addr) : EG K H n (.ref p) (.ref p)
 | tup {n : Nat} {p q : Addr} {xs ys : List V} : SqT K H p xs → SqT K H q ys → xs.length = ys.length → (∀ (i : Nat) (x y : V), xs[i]? = some x → ys[i]? = some y → EG K H n x y) → EG K H (n + 1) (.ref p) (.ref q)
 | lst {n : Nat} {p q : Addr} {xs ys : List V} : SqL K H p xs → SqL K H q ys → xs.length = ys.length → (∀ (i : Nat) (x y : V), xs[i]? = some x → ys[i]? = some y → EG K H n x y) → EG K H (n + 1) (.ref p) (.ref q)
theorem EG.up {K : PySem.W.Frag} {H : Hp} {n : Nat} {v u : V} (h : EG K H n v u) : ∀ {m : Nat}, n ≤ m → EG K H m v u := by
 induction h with
 | int n i => intro m _; exact .int m i
 | bl n i => intro m _; exact .bl m i
 | str n i => intro m _; exact .str m i
 | non n => intro m _; exact .non m
 | same n p => intro m _; exact .same m p
 | @tup n p q xs ys a b c d ih =>
  intro m hm
  obtain ⟨m, rfl⟩ : ∃ k, m = k + 1 := ⟨m - 1, by omega⟩
  exact .tup a b c fun i x y hx hy => ih i x y hx hy (by omega)
 | @lst n p q xs ys a b c d ih =>
  intro m hm
  obtain ⟨m, rfl⟩ : ∃ k, m = k + 1 := ⟨m - 1, by omega⟩
  exact .lst a b c fun i x y hx hy => ih i x y hx hy (by omega)
mutual
theorem Rp.alike {K : PySem.W.Frag} {H : Hp} : ∀ {d : D} {v u : V}, Rp K H d v → Rp K H d u → EG K H (dep d) v u
 | .int i, v, u, h1, h2 => by rw [Rp] at h1 h2; subst h1 h2; exact .int _ _
 | .str x, v, u, h1, h2 => by rw [Rp] at h1 h2; subst h1 h2; exact .str _ _
 | .non, v, u, h1, h2 => by rw [Rp] at h1 h2; subst h1 h2; exact .non _
 | .tup ds, v, u, h1, h2 => by
  rw [Rp] at h1 h2
  obtain ⟨p, xs, rfl, hp, l1⟩ := h1
  obtain ⟨q, ys, rfl, hq, l2⟩ := h2
  rw [dep]
  exact .tup hp hq (by rw [l1.length, l2.length]) (RpL.alike l1 l2)
theorem RpL.alike {K : PySem.W.Frag} {H : Hp} : ∀ {ds : List D} {xs ys : List V}, RpL K H ds xs → RpL K H ds ys → ∀ (i : Nat) (x y : V), xs[i]? = some x → ys[i]? = some y → EG K H (depL ds) x y
 | [], xs, ys, h1, h2, i, x, y, hx, hy => by rw [RpL] at h1; subst h1; simp at hx
 | d :: ds, xs, ys, h1, h2, i, x, y, hx, hy => by
  rw [RpL] at h1 h2
  obtain ⟨v, r, rfl, a1, b1⟩ := h1
  obtain ⟨v', r', rfl, a2, b2⟩ := h2
  rw [depL]
  cases i with
  | zero =>
   simp at hx hy
   subst hx hy
   exact (Rp.alike a1 a2).up (by omega)
  | succ i =>
   simp at hx hy
   exact (RpL.alike b1 b2 i x y hx hy).up (by omega)
end
section
variable {X : Cx} {pins : List (Addr × Obj)} {σ : St} {H : Hp} {s : Shared}
theorem GA (n : Nat) : ((List.range n).all fun _ => true) = true := by simp
theorem EG.eqAt (I : Inv X pins σ H s) {n : Nat} {v u : V} (h : EG X.K H n v u) : ∀ {A : Around} {x y : Value}, AX v x → AX u y → A.units + n < cLine → SeqAt.EqAt A s x y true := by
 induction h with
 | int n i => rintro A x y ⟨t, rfl⟩ ⟨t', rfl⟩ hu; have := SeqAt.EqAt.int_int (A := A) (s := s) i t i t'; rwa [beq_self_eq_true] at this
 | bl n b => intro A x y h1 h2 hu; cases h1; cases h2; exact SeqAt.EqAt.same _
 | str n z => rintro A x y ⟨t, rfl⟩ ⟨t', rfl⟩ hu; have := SeqAt.EqAt.str_str (A := A) (s := s) z t z t'; rwa [beq_self_eq_true] at this
 | non n => intro A x y h1 h2 hu; cases h1; cases h2; exact SeqAt.EqAt.same _
 | same n p => intro A x y h1 h2 hu; cases h1; cases h2; exact SeqAt.EqAt.same _
 | @tup n p q xs ys a b c d ih =>
  intro A x y h1 h2 hu
  cases h1; cases h2
  by_cases hp : p = q
  ·subst hp; exact SeqAt.EqAt.same _
  ·refine SeqAt.EqAt.of_refs hp ?_
   obtain ⟨its, rv, ht, _⟩ := I.tuple a
   obtain ⟨its', rv', ht', _⟩ := I.tuple b
   have key := SeqAt.RcAt.tuples (e := fun _ => true) ht ht' (show A.units < cLine by omega) (fun j h1 h2 => by
    have j1 : j < its.length := by simpa using h1
    have j2 : j < its'.length := by simpa using h2
    obtain ⟨v1, e1, r1⟩ := AN.get' rv (List.getElem?_eq_getElem j1)
    obtain ⟨v2, e2, r2⟩ := AN.get' rv' (List.getElem?_eq_getElem j2)
    exact ih j v1 v2 e1 e2 r1 r2 (show A.units + 1 + n < cLine by omega))
   have e0 : ((List.range (min its.toArray.size its'.toArray.size)).all (fun j => true) && its.toArray.size == its'.toArray.size) = true := by
    rw [GA, Bool.true_and]
    simp only [List.size_toArray, ← rv.length, ← rv'.length, c, beq_self_eq_true]
   rw [e0] at key
   exact key
 | @lst n p q xs ys a b c d ih =>
  intro A x y h1 h2 hu
  cases h1; cases h2
  by_cases hp : p = q
  ·subst hp; exact SeqAt.EqAt.same _
  ·refine SeqAt.EqAt.of_refs hp ?_
   obtain ⟨its, rv, ht, _⟩ := I.list a
   obtain ⟨its', rv', ht', _⟩ := I.list b
   have key := SeqAt.RcAt.lists (e := fun _ => true) ht.isList ht'.isList (by simp only [List.size_toArray, ← rv.length, ← rv'.length, c]) (show A.units < cLine by omega) (fun j h1 h2 => by
    have j1 : j < its.length := by simpa using h1
    have j2 : j < its'.length := by simpa using h2
    obtain ⟨v1, e1, r1⟩ := AN.get' rv (List.getElem?_eq_getElem j1)
    obtain ⟨v2, e2, r2⟩ := AN.get' rv' (List.getElem?_eq_getElem j2)
    exact ih j v1 v2 e1 e2 r1 r2 (show A.units + 1 + n < cLine by omega))
   rw [GA] at key
   exact key
def rAl (K : PySem.W.Frag) (ne : Bool) : R2 := fun x y H Q => (∃ n p q xs ys, n ≤ 60 ∧ x = .ref p ∧ y = .ref q ∧ ((SqT K H p xs ∧ SqT K H q ys) ∨ (SqL K H p xs ∧ SqL K H q ys)) ∧ xs.length = ys.length ∧ (∀ (i : Nat) (x y : V), xs[i]? = some x → ys[i]? = some y → EG K H n x y)) ∧ Q (.bl (!ne)) H
theorem kS (hu : X.A.units + 64 < cLine) : OpR X (compareOp .Eq) (rAl X.K false) := by
 intro pins s σ H x y v u Q I rx ry h
 obtain ⟨⟨n, p, q, xs, ys, hn, rfl, rfl, h, hl, ha⟩, hq⟩ := h
 cases rx; cases ry
 rcases h with ⟨a, b⟩ | ⟨a, b⟩
 ·obtain ⟨its, rv, ht, _⟩ := I.tuple a
  obtain ⟨its', rv', ht', _⟩ := I.tuple b
  refine SeqAt.eq_tupleAt (e := fun _ => true) ht ht' (by omega) (fun j h1 h2 => ?_) ?_
  ·have j1 : j < its.length := by simpa using h1
   have j2 : j < its'.length := by simpa using h2
   obtain ⟨v1, e1, r1⟩ := AN.get' rv (List.getElem?_eq_getElem j1)
   obtain ⟨v2, e2, r2⟩ := AN.get' rv' (List.getElem?_eq_getElem j2)
   exact (ha j v1 v2 e1 e2).eqAt I r1 r2 (show X.A.units + 1 + n < cLine by omega)
  ·exact BK I hq (by rw [GA, Bool.true_and]; simp only [List.size_toArray, ← rv.length, ← rv'.length, hl, beq_self_eq_true, Bool.not_false])
 ·obtain ⟨its, rv, ht, _⟩ := I.list a
  obtain ⟨its', rv', ht', _⟩ := I.list b
  refine SeqAt.eq_listAt (e := fun _ => true) ht.isList ht'.isList (by simp only [List.size_toArray, ← rv.length, ← rv'.length, hl]) (by omega) (fun j h1 h2 => ?_) ?_
  ·have j1 : j < its.length := by simpa using h1
   have j2 : j < its'.length := by simpa using h2
   obtain ⟨v1, e1, r1⟩ := AN.get' rv (List.getElem?_eq_getElem j1)
   obtain ⟨v2, e2, r2⟩ := AN.get' rv' (List.getElem?_eq_getElem j2)
   exact (ha j v1 v2 e1 e2).eqAt I r1 r2 (show X.A.units + 1 + n < cLine by omega)
  ·exact BK I hq (by rw [GA]; rfl)
theorem jS (hu : X.A.units + 64 < cLine) : OpR X (compareOp .NotEq) (rAl X.K true) := by
 intro pins s σ H x y v u Q I rx ry h
 obtain ⟨⟨n, p, q, xs, ys, hn, rfl, rfl, h, hl, ha⟩, hq⟩ := h
 cases rx; cases ry
 rcases h with ⟨a, b⟩ | ⟨a, b⟩
 ·obtain ⟨its, rv, ht, _⟩ := I.tuple a
  obtain ⟨its', rv', ht', _⟩ := I.tuple b
  refine SeqAt.RcNeAt.tuples (e := fun _ => true) ht ht' (by omega) (fun j h1 h2 => ?_) X.prog X.w X.xe _ ?_
  ·have j1 : j < its.length := by simpa using h1
   have j2 : j < its'.length := by simpa using h2
   obtain ⟨v1, e1, r1⟩ := AN.get' rv (List.getElem?_eq_getElem j1)
   obtain ⟨v2, e2, r2⟩ := AN.get' rv' (List.getElem?_eq_getElem j2)
   exact (ha j v1 v2 e1 e2).eqAt I r1 r2 (show X.A.units + 1 + n < cLine by omega)
  ·exact BK I hq (by rw [GA, Bool.true_and]; simp only [List.size_toArray, ← rv.length, ← rv'.length, hl, beq_self_eq_true])
 ·obtain ⟨its, rv, ht, _⟩ := I.list a
  obtain ⟨its', rv', ht', _⟩ := I.list b
  refine SeqAt.RcNeAt.lists (e := fun _ => true) ht.isList ht'.isList (by simp only [List.size_toArray, ← rv.length, ← rv'.length, hl]) (by omega) (fun j h1 h2 => ?_) X.prog X.w X.xe _ ?_
  ·have j1 : j < its.length := by simpa using h1
   have j2 : j < its'.length := by simpa using h2
   obtain ⟨v1, e1, r1⟩ := AN.get' rv (List.getElem?_eq_getElem j1)
   obtain ⟨v2, e2, r2⟩ := AN.get' rv' (List.getElem?_eq_getElem j2)
   exact (ha j v1 v2 e1 e2).eqAt I r1 r2 (show X.A.units + 1 + n < cLine by omega)
  ·exact BK I hq (by rw [GA])
theorem jQ {K : PySem.W.Frag} {H : Hp} {d : List D} {x y : V} (h1 : Rp K H (.tup d) x) (h2 : Rp K H (.tup d) y) (hd : depL d ≤ 60) : ∃ n p q xs ys, n ≤ 60 ∧ x = .ref p ∧ y = .ref q ∧ ((SqT K H p xs ∧ SqT K H q ys) ∨ (SqL K H p xs ∧ SqL K H q ys)) ∧ xs.length = ys.length ∧ (∀ (i : Nat) (x y : V), xs[i]? = some x → ys[i]? = some y → EG K H n x y) := by
 rw [Rp] at h1 h2
 obtain ⟨p, xs, rfl, hp, l1⟩ := h1
 obtain ⟨q, ys, rfl, hq, l2⟩ := h2
 exact ⟨depL d, p, q, xs, ys, hd, rfl, rfl, .inl ⟨hp, hq⟩, by rw [l1.length, l2.length], RpL.alike l1 l2⟩
end
structure dU (P : Program) (w : World) (l : List Env) (H H' : Hp) (h B : Heap) : Prop where
 hok : HOk P w H' B
 keep : ∀ b o, h.get? b = some o → H b = none → b ∉ frs l → B.get? b = some o
 there : ∀ b o, h.get? b = some o → b ∉ frs l → ∃ o', B.get? b = some o'
def CXr (P : Program) (w : World) : CXT := fun outer H s E e s' => ∃ (a : Addr) (C : Value) (H' : Hp) (B : Heap) (a0 : Value), e = .ref a ∧ s'.os = s.os ∧ AllBare s'.gens ∧ Un (frs outer) [] H H' s.heap s'.heap ∧
 Heap.FlyingW B outer a C a0 s'.heap ∧ dU P w outer H H' s.heap B ∧ E C none H'
theorem Un.flown {fs : List Addr} {H H' : Hp} {h h1 h2 B : Heap} (u : Un fs [] H H' h h1) (hf : ∀ b ∈ fs, ∃ o, h1.get? b = some o ∧ ∀ vs, o.data ≠ .fields vs)
  (k1 : ∀ b o, h.get? b = some o → H b = none → b ∉ fs → B.get? b = some o) (k2 : ∀ b o, h.get? b = some o → b ∉ fs → ∃ o', B.get? b = some o') (st : B.StaysIn h2) (up : h1.UpToSlots h2) : Un fs [] H H' h h2 where
 keep := fun b o q n hb _ => st _ _ (k1 b o q n hb)
 slot := fun b o q n hb hx => by
  obtain ⟨sl, e⟩ := u.slot b o q n hb hx
  obtain ⟨o', e', hd⟩ := hf b hb
  rw [e] at e'; cases e'
  obtain ⟨sl', e2⟩ := up b _ e hd
  exact ⟨sl', e2⟩
 free := u.free
 there := fun b o q hx => by
  by_cases hb : b ∈ fs
  ·obtain ⟨o', e, hd⟩ := hf b hb
   obtain ⟨sl, e2⟩ := up b _ e hd
   exact ⟨_, e2⟩
  ·obtain ⟨o', e⟩ := k2 b o q hb
   exact ⟨o', st _ _ e⟩
 tups := u.tups
 frzs := u.frzs
 tbls := u.tbls
theorem FB {h B : Heap} {l : List Env} (hl : h.FunFrames B l) : ∀ b ∈ frs l, ∃ o, h.get? b = some o ∧ ∀ vs, o.data ≠ .fields vs := fun b hb => (hl.mem hb).2
section
variable {X : Cx} {pins : List (Addr × Obj)} {σ : St} {H H' : Hp} {s s' : Shared}
theorem Inv.flown {a : Addr} {C a0 : Value} {B h2 : Heap} (I : Inv X pins σ H s) (os : s'.os = s.os) (bare : AllBare s'.gens) (un : Un (frs X.stack) [] H H' s.heap s'.heap) (fl : Heap.FlyingW B X.stack a C a0 s'.heap)
  (bl : dU X.prog X.w X.stack H H' s.heap B) (st : B.StaysIn h2) (up : s'.heap.UpToSlots h2) : Inv X pins σ H' { s' with heap := h2 } :=
 Inv.call' (s' := { s' with heap := h2 }) (ch := []) I os (un.flown (FB fl.2.2.1) bl.keep bl.there st up) (bl.hok.kept st) bare (fun b z => absurd z (by simp))
end
section
variable {P : Program} {w : World} {K : PySem.W.Frag} {mg : Str → Option Value} {base : Heap} {N : List Str} {qual : Str} {scope : Scope} {f : Addr} {cd : Value} {A : Around} {outer : List Env} {s : Shared} {H : Hp} {E : XK}
theorem IB (b : Addr) (o : Obj) (q : s.heap.get? b = some o) (hb : b ∉ frs outer) : b ∉ frs (envOfC qual scope s.heap.objs.size f cd :: outer) := fun m => by
 unfold frs at m
 rw [List.filterMap_cons] at m
 have e : (envOfC qual scope s.heap.objs.size f cd).frame = some s.heap.objs.size := rfl
 rw [e] at m
 rcases List.mem_cons.mp m with z | z
 ·rw [z] at q
  exact absurd (Heap.lt_size q) (Nat.lt_irrefl _)
 ·exact hb z
theorem DF : FI (CXr P w) (EI (CXr P w) P w K mg base N qual scope f cd A outer s H E) E := by
 intro pins σ H1 s1 e s' I h
 obtain ⟨a, C, H', B, a0, rfl, os, bare, un, fl, bl, q⟩ := h
 show wpAny (model P w) _ (leaving _ (.ref a)) _ _ s'
 refine wpAny_leaves_onW I.ok.frames rfl fl fun h' fl' up => ?_
 have J := I.flown os bare un fl bl fl'.1 up
 refine ⟨a, C, H', B, a0, rfl, J.os, J.bare, J.base, fl', ⟨bl.hok, fun b o q n hb => ?_, fun b o q hb => ?_⟩, q⟩
 ·exact bl.keep b o (I.base.keep b o q n hb (by simp [EI])) (I.base.free b o q n (by simp [EI])) (IB b o q hb)
 ·obtain ⟨o1, e1⟩ := I.base.there b o q (by simp [EI])
  exact bl.there b o1 e1 (IB b o q hb)
def lW (X : Cx) (E : XK) : Prop := ∀ (pins : List (Addr × Obj)) (σ : St) (H : Hp) (s : Shared) (h' : Heap) (a C : Addr) (vs : List Value), Inv X pins σ H s → Heap.MadeExcOf s.heap h' a (.ref C) vs → E (.ref C) none H → X.xe (.ref a) { s with heap := h' }
theorem iO : lW (EI (CXr P w) P w K mg base N qual scope f cd A outer s H E) E := by
 intro pins σ H1 s1 h1 a C vs I hx q
 show wpAny (model P w) _ (leaving _ (.ref a)) _ _ _
 have hin : ∀ env ∈ (EI (CXr P w) P w K mg base N qual scope f cd A outer s H E).stack, ∀ b, env.frame = some b → b ∈ frs (EI (CXr P w) P w K mg base N qual scope f cd A outer s H E).stack := fun env he b hb => List.mem_filterMap.mpr ⟨env, he, hb⟩
 have hokB : HOk P w H1 (PySem.W.hideAll s1.heap (frs (EI (CXr P w) P w K mg base N qual scope f cd A outer s H E).stack)) := fun b o e => (I.hok b o e).stay (fun c u hc q => PySem.W.hideAll_get _ q fun m => by
  have n := I.stkFree c m
  rcases hc with rfl | hc
  ·rw [e] at n; cases n
  ·rw [hc] at n; cases n) (fun _ q => q) fun _ _ q => q
 refine wpAny_leaves_madeW (base := PySem.W.hideAll s1.heap (frs (EI (CXr P w) P w K mg base N qual scope f cd A outer s H E).stack)) I.ok.frames rfl (fun b o q => PySem.W.of_hideAll _ q) (PySem.W.funFrames_hide I.stack hin) hx fun h' t fl' tup new up => ?_
 have bl : dU P w (EI (CXr P w) P w K mg base N qual scope f cd A outer s H E).stack H1 H1 s1.heap (PySem.W.hideAll s1.heap (frs (EI (CXr P w) P w K mg base N qual scope f cd A outer s H E).stack)) :=
  ⟨hokB, fun b o q _ hb => PySem.W.hideAll_get _ q hb, fun b o q hb => ⟨o, PySem.W.hideAll_get _ q hb⟩⟩
 have un : Un (frs (EI (CXr P w) P w K mg base N qual scope f cd A outer s H E).stack) [] H1 H1 s1.heap h' :=
  (Un.kept (h' := h1) hx.keeps).flown (fun b hb => by obtain ⟨o, e, hd⟩ := (I.stack.mem hb).2; exact ⟨o, hx.keeps _ _ e, hd⟩) bl.keep bl.there fl'.1 up
 have J : Inv (EI (CXr P w) P w K mg base N qual scope f cd A outer s H E) pins σ H1 { s1 with heap := h' } := Inv.call' (s' := { s1 with heap := h' }) (ch := []) I rfl un (hokB.kept fl'.1) I.bare (fun b z => absurd z (by simp))
 refine ⟨a, .ref C, H1, _, .ref t, rfl, J.os, J.bare, J.base, fl', ⟨hokB, fun b o q n hb => ?_, fun b o q hb => ?_⟩, q⟩
 ·exact bl.keep b o (I.base.keep b o q n hb (by simp [EI])) (I.base.free b o q n (by simp [EI])) (IB b o q hb)
 ·obtain ⟨o1, e1⟩ := I.base.there b o q (by simp [EI])
  exact bl.there b o1 e1 (IB b o q hb)
theorem Fun.okR {x : Str} {st : Stmt} {fd : FuncData} {ps : List Str} {k : Nat} {sp : Sp} (F : Fun K x qual st f fd) (S : AR N ps (AD st)) (len : ∀ vs H Q E, sp vs H Q E → vs.length = ps.length)
  (hbody : ∀ (cdv : Value) (A : Around) (outer : List Env) (s : Shared) (H : Hp) (vs : List V) (Q : VK) (E : XK), EE k (A.deeper (envOfC qual (AD st) s.heap.objs.size f cdv)) → sp vs H Q E →
   ∃ t, PSs (EI (CXr P w) P w K mg base N qual (AD st) f cdv A outer s H E) (AM st) t ∧ t { nx := fun _ H' => Q .non H', rt := Q } (start N vs) H) : BJ P w K mg base (CXr P w) (k + 1) f fd ps sp := by
 obtain ⟨oc, od, kV, doc, pm, an, cdv, ct, osl, rfl, lk, hcd⟩ := F.ex
 exact iH lk hcd S len fun A outer s H vs Q E hr hsp => hbody cdv A outer s H vs Q E hr hsp
theorem BJ.upR {k : Nat} {fd : FuncData} {ps : List Str} {sp : Sp} (F : BJ P w K mg base CX0 k f fd ps sp) : BJ P w K mg base (CXr P w) k f fd ps sp :=
 ⟨F.len, fun A outer s H args us vs Q E hr e0 hb r h => codeAny_mono (F.run A outer s H args us vs Q E hr e0 hb r h) fun r s' q => by
  cases r with
  | error e => exact False.elim q
  | ok fl => cases fl <;> exact q⟩
end
abbrev veB : List Value := [.type "ValueError", .type "Exception", .type "BaseException", .type "object"]
def CI (K : PySem.W.Frag) (HE C : Addr) : Bool := !(C == HE) && PySem.W.ktsIn K C "BaseException" && PySem.W.tailIn K veB (.ref HE :: veB) && match K.lookup C with
 | some ⟨_, _, .cls cd, sl⟩ => cd.mro == (.ref C :: .ref HE :: veB) && PySem.W.nsOkIn K cd.ns && PySem.W.nsIn K cd.ns "__init__" == some none && sl.toList[4]? == some (some (.builtin "ValueError.__new__"))
 | _ => false
theorem CI.ne {K : PySem.W.Frag} {HE C : Addr} (q : CI K HE C = true) : C ≠ HE := by
 unfold CI at q
 simp only [Bool.and_eq_true, Bool.not_eq_true', beq_eq_false_iff_ne] at q
 exact q.1.1.1
theorem CI.obj {K : PySem.W.Frag} {HE C : Addr} {h : Heap} (q : CI K HE C = true) (k : K.In h) : ∃ nm qn N bs hdct sn sub ab col dd k0 k1 k2 k3 k5 mN,
  h.get? C = some (excClassObj nm qn C N bs (.ref HE :: veB) hdct sn sub ab col dd k0 k1 k2 k3 k5 "ValueError.__new__") ∧ h.Ns N mN ∧ mN "__init__" = none ∧ OwnTail h veB (.ref HE :: veB) := by
 unfold CI at q
 simp only [Bool.and_eq_true] at q
 obtain ⟨⟨⟨_, q1⟩, q2⟩, q3⟩ := q
 obtain ⟨nm, qn, N, bs, bm, hdct, sn, sub, ab, col, dd, k0, k1, k2, k3, k5, nid, e, _, _⟩ := PySem.W.kts_cls k q1
 split at q3
 ·rename_i c0 d0 cd sl lk
  have e2 := k _ _ lk
  rw [e] at e2
  simp only [Option.some.injEq, Obj.mk.injEq, Data.cls.injEq] at e2
  obtain ⟨_, _, rfl, rfl⟩ := e2
  simp only [Bool.and_eq_true, beq_iff_eq] at q3
  obtain ⟨⟨⟨m1, m2⟩, m3⟩, m4⟩ := q3
  have m1 : Value.ref C :: bm = .ref C :: .ref HE :: veB := m1
  injection m1 with _ m1
  subst m1
  have m4 : some (some (Value.builtin nid)) = some (some (.builtin "ValueError.__new__")) := m4
  have m4 : nid = "ValueError.__new__" := by injection m4 with m4; injection m4 with m4; injection m4
  subst m4
  exact ⟨nm, qn, N, bs, hdct, sn, sub, ab, col, dd, k0, k1, k2, k3, k5, _, e, .of_isNs (PySem.W.isNs_of_in k m2), PySem.W.nsMap_none_of_in k m2 m3, PySem.W.tail_of_in k q2⟩
 ·cases q3
section
variable {X : Cx} {E : XK} {C HE : Addr} {x : Str} {np cpos pos : Pos} {e : Expr} {es : List Expr} {t : TA}
def LN (C : Addr) (E : XK) (t : TA) : TS := fun _ σ H => t σ H fun vs H1 => vs.length ≤ sizeLine ∧ E (.ref C) none H1
theorem RO (hM : lW X E) (hc : X.calm = true) (hx : CI X.K HE C = true) (hg : Gl X x) (hm : X.mg x = some (.ref C)) (ha : PA X (e :: es) t) (hdb : (x == ("__debug__" : Str)) = false := by decide)
  (he : starEach (e :: es) X.env = (false, eval e X.env) :: starEach es X.env := by rfl) (hpl : (backTo cpos (starEach es X.env)).any (·.1) = false := by rfl) :
  PS X (.Raise (some (.Call (.Name x np) (e :: es) [] cpos)) none pos) (LN C E t) := by
 intro pins s σ H D I h
 obtain ⟨nm, q, N, bs, hdct, sn, sub, ab, col, dd, k0, k1, k2, k3, k5, mN, hC, hN, hni, T⟩ := CI.obj hx I.mod.kin
 refine wpAny_Raise_call_subU (C := C) (nm := nm) (q := q) (N := N) (bs := bs) (bm := .ref HE :: veB) (hdct := hdct) (sn := sn) (sub := sub) (ab := ab) (col := col) (dd := dd) (k0 := k0) (k1 := k1) (k2 := k2) (k3 := k3) (k5 := k5)
  PySem.F.excBase_ValueError (by decide) PySem.F.excBase_ValueError (mN := mN) (by rw [List.contains_cons]; rfl) (I.ok.hd hc) (by rw [he]; show (false || (backTo cpos (starEach es X.env)).any (·.1)) = false; rw [hpl]; rfl) hni (FH I hg hm ⟨rfl, ?_⟩ hdb)
 have h0 := ha cpos pins s σ H _ I h
 rw [he] at h0 ⊢
 exact Calls.evalArgs_plain (wpAny_mono h0 (fun us s2 ⟨vs, H2, I2, r, l, q⟩ => ⟨rfl, by rw [← r.length]; exact l, I2.bk _ _ hC, hN.keeps I2.bk, T.keeps I2.bk, fun h' a hm => hM pins σ H2 s2 h' a C us I2 hm q⟩) fun _ _ y => y)
end
theorem YZ {M : Model} {A : Around} {E : Value → Shared → Prop} {K : PySem.W.Frag} {HE C D e : Addr} {s : Shared} {oe : Obj} {Q : Bool → Shared → Prop} (qC : CI K HE C = true) (qD : CI K HE D = true) (k : K.In s.heap)
  (he : s.heap.get? e = some oe) (hcls : oe.cls = .ref C) (hq : Q (decide (C = D)) s) : wpAny M A (excMatches (.ref e) (.ref D)) Q E s := by
 obtain ⟨nm, q, N, bs, hdct, sn, sub, ab, col, dd, k0, k1, k2, k3, k5, _, hC, _, _, _⟩ := CI.obj qC k
 obtain ⟨nm', q', N', bs', hdct', sn', sub', ab', col', dd', l0, l1, l2, l3, l5, _, hD, _, _, _⟩ := CI.obj qD k
 obtain ⟨h, g, d, t, os⟩ := s
 by_cases cd : C = D
 ·subst cd
  rw [decide_eq_true rfl] at hq
  exact wpAny_excMatches_sub_self hC he hcls (by rw [List.contains_cons]; rfl) hq
 ·rw [decide_eq_false cd] at hq
  have hcB : (Value.ref D :: .ref HE :: veB).contains (.type "BaseException") = true := by rw [List.contains_cons, List.contains_cons]; rfl
  have hcC : (Value.ref C :: .ref HE :: veB).contains (.ref D) = false := by
   rw [List.contains_cons, List.contains_cons]
   have n1 : (Value.ref D == Value.ref C) = false := by simpa using fun z => cd z.symm
   have n2 : (Value.ref D == Value.ref HE) = false := by simpa using CI.ne qD
   rw [n1, n2]
   rfl
  have f := tc_notTuple
  unfold excMatches
  repeat (first | (with_reducible refine wpAny_loadPart_at he ?_; rw [hcls]) | with_reducible refine wpAny_loadPart_at hD ?_ | (with_reducible refine wpAny_isSubtype_exc hD ?_; rw [hcB]) | (with_reducible refine wpAny_isSubtype_exc hC ?_; rw [hcC]) | wp_step)
  exact hq
abbrev Cx.sub (X : Cx) (a : Addr) : Cx := { X with A := X.A.mark (some (.ref a)), calm := false, xe := fun _ _ => False }
section
variable {X : Cx} {pins : List (Addr × Obj)} {σ : St} {H : Hp} {s : Shared} {a : Addr}
theorem Inv.sub (I : Inv X pins σ H s) (a : Addr) : Inv (X.sub a) pins σ H s :=
 ⟨⟨I.ok.mod, I.ok.kind, I.ok.glob, I.ok.blt, I.ok.above, I.ok.inj, I.ok.has, I.ok.cab, (fun z => by cases z), I.ok.frames, I.ok.stk, I.ok.exf, I.ok.bs, I.ok.bsz, I.ok.noex, I.ok.exfs, I.ok.funs, I.ok.frf⟩, I.os, I.bare, I.base, I.loc, I.cell, I.free, I.freeC, I.pin, I.hok, I.len⟩
theorem Inv.unsub (ok : X.Ok) (I : Inv (X.sub a) pins σ H s) : Inv X pins σ H s := ⟨ok, I.os, I.bare, I.base, I.loc, I.cell, I.free, I.freeC, I.pin, I.hok, I.len⟩
theorem SP.unsub (ok : X.Ok) {D : GK} {f : Flow} {s' : Shared} (h : SP (X.sub a) pins D f s') : SP X pins D f s' := by
 cases f with
 | next => obtain ⟨σ', H', I, q⟩ := h; exact ⟨σ', H', I.unsub ok, q⟩
 | brk => obtain ⟨σ', H', I, q⟩ := h; exact ⟨σ', H', I.unsub ok, q⟩
 | cont => obtain ⟨σ', H', I, q⟩ := h; exact ⟨σ', H', I.unsub ok, q⟩
 | ret u => obtain ⟨v, σ', H', I, r, q⟩ := h; exact ⟨v, σ', H', I.unsub ok, r, q⟩
end
def FL (X : Cx) (pins : List (Addr × Obj)) (σ : St) (E : XK) (ev : Value) (s' : Shared) : Prop := ∃ (a : Addr) (C a0 : Value) (B : Heap) (H' : Hp), ev = .ref a ∧ Heap.FlyingW B X.stack a C a0 s'.heap ∧
 (∀ h2, B.StaysIn h2 → s'.heap.UpToSlots h2 → Inv X pins σ H' { s' with heap := h2 }) ∧ E C none H'
abbrev TX := St → Hp → VK → XK → Prop
def PX (X : Cx) (e : Expr) (t : TX) : Prop :=
 ∀ (pins : List (Addr × Obj)) (s : Shared) (σ : St) (H : Hp) (Q : VK) (E : XK), Inv X pins σ H s → t σ H Q E → wpAny (model X.prog X.w) X.A (eval e X.env) (EP X pins σ Q) (FL X pins σ E) s
abbrev HX := Value → GK → St → Hp → Prop
def PH (X : Cx) (hs : List ExceptHandler) (th : HX) : Prop :=
 ∀ (pins : List (Addr × Obj)) (s : Shared) (σ : St) (H : Hp) (D : GK) (a : Addr) (C a0 : Value) (B : Heap), X.Ok → Heap.FlyingW B X.stack a C a0 s.heap → (∀ h2, B.StaysIn h2 → s.heap.UpToSlots h2 → Inv X pins σ H { s with heap := h2 }) → th C D σ H →
  wpAny (model X.prog X.w) X.A (handleBy (.ref a) X.env hs) (SP X pins D) X.xe s
section
variable {X : Cx}
theorem jI : PH X [] fun _ _ _ _ => False := fun _ _ _ _ _ _ _ _ _ _ _ _ h => h.elim
def tHc (K : PySem.W.Frag) (HE d : Addr) (ts : TS) (tr : HX) : HX := fun C D σ H => ∃ c, C = .ref c ∧ CI K HE c = true ∧ if c = d then ts D σ H else tr C D σ H
theorem MZ (h : Heap) : h.UpToSlots h := fun b o q _ => ⟨o.slots, q⟩
theorem VZ {HE d : Addr} {y : Str} {np pos : Pos} {b₀ : Stmt} {suite : List Stmt} {EA : List ExceptHandler} {ts : TS} {tr : HX} (hg : Gl X y) (hm : X.mg y = some (.ref d)) (hd : CI X.K HE d = true)
  (hs : ∀ a, PSs (X.sub a) (b₀ :: suite) ts) (hr : PH X EA tr) (hdb : (y == ("__debug__" : Str)) = false := by decide) :
  PH X (.ExceptHandler (some (.Name y np)) none (b₀ :: suite) pos :: EA) (tHc X.K HE d ts tr) := by
 intro pins s σ H D a C a0 B ok fl st h
 obtain ⟨c, rfl, hc, h⟩ := h
 have I0 := st s.heap fl.1 (MZ _)
 obtain ⟨oe, he, hcls⟩ := fl.there
 refine wpAny_handleBy_cons (codeAny_handlers_test (FH (X := X.sub a) (I0.sub a) hg hm ?_ hdb)) (by intro q; cases q)
 refine YZ (K := X.K) hc hd I0.kIn he hcls ?_
 by_cases e : c = d
 ·rw [decide_eq_true e]
  rw [if_pos e] at h
  refine codeAny_handlers_suite (lands_againW fl fun h2 fl2 up2 => ?_)
  refine wpAny_mono (hs a pins _ σ H D ((st h2 fl2.1 up2).sub a) h) (fun f s2 q => SP.unsub ok q) fun _ _ z => z.elim
 ·rw [decide_eq_false e]
  rw [if_neg e] at h
  exact hr pins s σ H D a (.ref c) a0 B ok fl st h
end
section
variable {X : Cx} {k : Nat} {f C : Addr} {fd : FuncData} {ps : List Str} {sp : Sp} {dvs : List V} {ds : List Value} {x : Str} {p pos : Pos} {e : Expr} {es : List Expr} {t : TA}
theorem FL.of {pins : List (Addr × Obj)} {σ : St} {H : Hp} {s s' : Shared} {E : XK} {ev : Value} (I : Inv X pins σ H s) (h : CXr X.prog X.w X.stack H s E ev s') : FL X pins σ E ev s' := by
 obtain ⟨a, C, H', B, a0, rfl, os, bare, un, fl, bl, q⟩ := h
 exact ⟨a, C, a0, B, H', rfl, fl, fun h2 st up => I.flown os bare un fl bl st up, q⟩
theorem hG {pins : List (Addr × Obj)} {σ : St} {H : Hp} {s : Shared} {Q : VK} {E : XK} {us : List Value} {vs : List V} (F : BJ X.prog X.w X.K X.mg X.base (CXr X.prog X.w) k f fd ps sp) (hr : EE k X.A) (hb : FF X.K fd ps ds) (hd : AN dvs ds)
  (I : Inv X pins σ H s) (r : AN vs us) (h : sp (vs ++ dvs) H Q E) : wpAny (model X.prog X.w) X.A (call (.ref f) us) (EP X pins σ Q) (FL X pins σ E) s := by
 have r2 : AN (vs ++ dvs) (us ++ ds) := r.append hd
 have hl : (us ++ ds).length = ps.length := by rw [← r2.length]; exact F.len _ _ _ _ h
 refine wpAny_call (codeAny_mono (F.run X.A X.stack s H ⟨us, []⟩ (us ++ ds) (vs ++ dvs) Q E hr I.env0 (hb s us I.kIn hl) r2 h) fun r s' hq => ?_)
 cases r with
 | error e => exact FL.of I hq
 | ok fl =>
  cases fl with
  | ret u => exact I.after hq
  | next => exact False.elim hq
  | brk => exact False.elim hq
  | cont => exact False.elim hq
def LL (sp : Sp) (dvs : List V) (t : TA) : TX := fun σ H Q E => t σ H fun vs H1 => sp (vs ++ dvs) H1 Q E
theorem WR (F : BJ X.prog X.w X.K X.mg X.base (CXr X.prog X.w) k f fd ps sp) (hr : EE k X.A) (hg : Gl X x) (hm : X.mg x = some (.ref f)) (hk : PySem.W.keepIn X.K (.ref f) = true) (hb : FF X.K fd ps ds) (hd : AN dvs ds)
  (ha : PA X.nox (e :: es) t) (hdb : (x == ("__debug__" : Str)) = false := by decide) (he : starEach (e :: es) X.env = (false, eval e X.env) :: starEach es X.env := by rfl) (hpl : (backTo pos (starEach es X.env)).any (·.1) = false := by rfl) :
  PX X (.Call (.Name x p) (e :: es) [] pos) (LL sp dvs t) := by
 intro pins s σ H Q E I h
 refine wpAny_Call_Name_kw (FH I hg hm ?_ hdb)
 refine PySem.W.callWith_K (h₀ := X.base) I.ok.mod.kin hk (wpAny_mono (ha pos pins s σ H _ (I.wish _) h) (fun us s1 ⟨vs, H1, I1, r, q⟩ => ⟨I1.unwish.kIn, ?_⟩) fun _ _ z => z.elim) he hpl
 exact hG F hr hb hd I1.unwish r q
end
section
variable {X : Cx} {e : Expr} {te : TX} {h₀ : ExceptHandler} {hs : List ExceptHandler} {th : HX} {pos pos' pos'' : Pos} {x : Str} {i : Nat} {L : Addr}
theorem handled (hst : X.stack = X.env :: X.outer) (hf : X.env.frame = some L) (ph : PH X (h₀ :: hs) th) {pins : List (Addr × Obj)} {σ : St} {D : GK} {ev : Value} {s : Shared} (ok : X.Ok) (h : FL X pins σ (fun C _ H' => th C D σ H') ev s) :
  wpAny (model X.prog X.w) X.A (noteFrame ev X.env) (fun _ s₂ => wpAny (model X.prog X.w) X.A (setFlight ev none) (fun _ s₃ => wpAny (model X.prog X.w) X.A (handleBy ev X.env (h₀ :: hs)) (SP X pins D) X.xe s₃) X.xe s₂) X.xe s := by
 obtain ⟨a, C, a0, B, H', rfl, fl, st, q⟩ := h
 have fl := fl
 rw [hst] at fl
 refine wpAny_looks_onW (by rw [ok.frames, hst]) hf fl fun h4 held up4 => ?_
 refine wpAny_landsW held fun h5 fl5 up5 => ?_
 rw [← hst] at fl5
 exact ph pins _ σ H' D a C a0 B ok fl5 (fun h2 s2 u2 => st h2 s2 ((up4.trans up5).trans u2)) q
def HA (te : TX) (th : HX) : TS := fun D σ H => te σ H (fun _ H' => D.nx σ H') fun C _ H' => th C D σ H'
theorem NA (hst : X.stack = X.env :: X.outer) (hf : X.env.frame = some L) (he : PX X e te) (ph : PH X (h₀ :: hs) th) (hs' : swapsWith e none pos'.line X.env = pure false := by rfl) :
  PS X (.Try [.Expr e pos'] (h₀ :: hs) [] [] pos) (HA te th) := by
 intro pins s σ H D I h
 refine wpAny_Try_except (wpAny_execs_cons ?_)
 refine wpAny_Expr_any (wpAny_mono (he pins s σ H _ _ I h) (fun v s1 ⟨y, H1, I1, r1, q1⟩ => ?_) fun ev s1 q => handled hst hf ph I.ok q) I.quiet hs'
 exact wpAny_execs_nil (wpAny_execs_nil ⟨_, H1, I1, q1⟩)
end
def Fly (B : Heap) (l : List Env) (a : Addr) (C a0 : Value) (h : Heap) : Prop := B.StaysIn h ∧ B.get? a = none ∧ h.FunFrames B l ∧ ∃ fl, h.TracedAtW B a C a0 fl
theorem Fly.of {B h : Heap} {l : List Env} {a : Addr} {C a0 : Value} (x : Heap.FlyingW B l a C a0 h) : Fly B l a C a0 h := ⟨x.1, x.2.1, x.2.2.1, _, x.2.2.2⟩
theorem Fly.of_held {B h : Heap} {l : List Env} {a L : Addr} {C a0 : Value} (x : Heap.HeldW B l a C a0 L h) : Fly B l a C a0 h := ⟨x.1, x.2.1, x.2.2.1, _, x.2.2.2⟩
theorem WO {B h : Heap} {l : List Env} {T : Addr} {oT : Obj} {ts : Array Value} {v : Value} (st : B.StaysIn h) (ff : h.FunFrames B l) (hT : h.get? T = some oT) (hd : oT.data = .fields ts) (hn : B.get? T = none) :
  B.StaysIn (h.update T (Obj.mapFields fun z => z.setIfInBounds 3 v)) ∧ (h.update T (Obj.mapFields fun z => z.setIfInBounds 3 v)).FunFrames B l ∧ h.UpToSlots (h.update T (Obj.mapFields fun z => z.setIfInBounds 3 v)) ∧
   (∀ b, b ≠ T → (h.update T (Obj.mapFields fun z => z.setIfInBounds 3 v)).get? b = h.get? b) ∧ (h.update T (Obj.mapFields fun z => z.setIfInBounds 3 v)).get? T = some (Obj.mapFields (fun z => z.setIfInBounds 3 v) oT) := by
 have away : ∀ b, b ≠ T → (h.update T (Obj.mapFields fun z => z.setIfInBounds 3 v)).get? b = h.get? b := fun b nb => Heap.get?_update_other _ _ fun z => nb z.symm
 have nrec : ∀ b o, h.get? b = some o → (∀ vs, o.data ≠ .fields vs) → b ≠ T := by
  rintro b o e nf rfl
  rw [hT] at e; cases e
  exact nf ts hd
 refine ⟨fun b o e => ?_, ff.of_keeps fun b o e nf => ⟨o, by rw [away b (nrec b o e nf)]; exact e, rfl⟩, fun b o e nf => ⟨o.slots, by rw [away b (nrec b o e nf)]; exact e⟩, away, Heap.get?_update_self _ hT (Obj.isFreed_of_fields (Obj.data_mapFields hd _))⟩
 rw [away b (by rintro rfl; rw [hn] at e; cases e)]
 exact st b o e
section
variable {M : Model} {A : Around} {E : Value → Shared → Prop} {s : Shared} {B : Heap} {l : List Env} {a : Addr} {C a0 : Value}
theorem VV {fr : Option Addr} {Q : Unit → Shared → Prop} (x : Fly B l a C a0 s.heap) (h : ∀ h', Fly B l a C a0 h' → s.heap.UpToSlots h' → Q () { s with heap := h' }) : wpAny M A (setFlight (.ref a) fr) Q E s := by
 obtain ⟨x1, x2, x3, fl, oe, ws, T, oT, ts, y1, y2, y3, y4, y5, y6, y7, y8, y9⟩ := x
 have sz : 3 < ts.size := (Array.getElem?_eq_some_iff.mp y9).1
 unfold setFlight
 refine wpAny_bind (wpAny_field y1 y3 y4 ?_)
 rw [if_pos (by simp)]
 obtain ⟨z1, z2, z3, z4, z5⟩ := WO (l := l) (v := fr.elim Value.none fun f => rawInt f) x1 x3 y7 y8 y5
 refine wpAny_setField y7 y8 sz (h _ ⟨z1, x2, z2, fr.elim Value.none fun f => rawInt f, oe, ws, T, _, _, (z4 a (Ne.symm y6)).trans y1, y2, y3, y4, y5, y6, z5, Obj.data_mapFields y8 _, ?_⟩ z3)
 ·simp [sz]
theorem VE {env : Env} {outer : List Env} {L : Addr} {Q : Unit → Shared → Prop} (hfr : A.frames = some (env :: outer)) (hf : env.frame = some L) (x : Fly B (env :: outer) a C a0 s.heap)
  (h : ∀ h', Heap.FlyingW B outer a C a0 h' → s.heap.UpToSlots h' → Q () { s with heap := h' }) : wpAny M A (leaving env (.ref a)) Q E s := by
 have land : ∀ h1, Heap.HeldW B (env :: outer) a C a0 L h1 → s.heap.UpToSlots h1 → wpAny M A (setFlight (.ref a) none) Q E { s with heap := h1 } := fun h1 hh up =>
  wpAny_landsW (s := { s with heap := h1 }) hh fun h2 fl up2 => h h2 ⟨fl.1, fl.2.1, fl.2.2.1.2.2, fl.2.2.2⟩ (up.trans up2)
 obtain ⟨x1, x2, x3, fl, tr⟩ := x
 unfold leaving
 refine wpAny_bind ?_
 by_cases e : fl = rawInt L
 ·subst e
  exact wpAny_noteFrame_againW hf tr (land s.heap ⟨x1, x2, x3, tr⟩ (Heap.UpToSlots.refl _))
 ·obtain ⟨oe, ws, T, oT, ts, y1, ⟨y2, y2'⟩, y3, y4, y5, y6, y7, y8, y9⟩ := tr
  subst y2
  have sz : 3 < ts.size := (Array.getElem?_eq_some_iff.mp y9).1
  unfold noteFrame
  simp only [hf]
  refine wpAny_bind (wpAny_field y1 y3 y4 ?_)
  rw [if_pos (by simp)]
  refine wpAny_bind (wpAny_field y7 y8 y9 ?_)
  rw [if_neg (by simpa using e)]
  obtain ⟨z1, z2, z3, z4, z5⟩ := WO (l := env :: outer) (v := Value.none) x1 x3 y7 y8 y5
  refine wpAny_bind (wpAny_setField y7 y8 sz ?_)
  exact wpAny_entryW hfr z2 hf ((z4 a (Ne.symm y6)).trans y1) z1 x2 y3 (Array.getElem?_eq_some_iff.mp y4).1 y2' fun h' nt => land h' ⟨nt.1, x2, nt.2.1, nt.2.2.1⟩ (z3.trans nt.2.2.2)
end
structure VH (P : Program) (w : World) (l : List Env) (ch : List Addr) (H H' : Hp) (h B : Heap) : Prop where
 hok : HOk P w H' B
 keep : ∀ b o, h.get? b = some o → H b = none → b ∉ frs l → b ∉ ch → B.get? b = some o
 there : ∀ b o, h.get? b = some o → b ∉ frs l → b ∉ ch → ∃ o', B.get? b = some o'
def kA (X : Cx) (E : XK) : Prop := ∀ (pins : List (Addr × Obj)) (σ : St) (H H' : Hp) (s s' : Shared) (ch : List Addr) (B : Heap) (a : Addr) (C a0 : Value), Inv X pins σ H s → s'.os = s.os → AllBare s'.gens → Un (frs X.stack) ch H H' s.heap s'.heap →
 (∀ b ∈ ch, (b ∈ X.ex ∨ X.s₀.heap.objs.size ≤ b) ∧ b ≠ X.env.locals ∧ (∀ x c, X.env.cells.lookup x = some c → c ≠ b) ∧ ∀ p ∈ X.pn ++ pins, p.1 ≠ b) → Fly B X.stack a C a0 s'.heap → VH X.prog X.w X.stack ch H H' s.heap B → E C none H' → X.xe (.ref a) s'
theorem Un.flown2 {fs ch : List Addr} {H H' : Hp} {h h1 h2 B : Heap} (u : Un fs ch H H' h h1) (hf : ∀ b ∈ fs, ∃ o, h1.get? b = some o ∧ ∀ vs, o.data ≠ .fields vs)
  (k1 : ∀ b o, h.get? b = some o → H b = none → b ∉ fs → b ∉ ch → B.get? b = some o) (k2 : ∀ b o, h.get? b = some o → b ∉ fs → b ∉ ch → ∃ o', B.get? b = some o') (st : B.StaysIn h2) (up : ∀ b ∈ fs, ∀ o, h1.get? b = some o → (∀ vs, o.data ≠ .fields vs) → ∃ sl, h2.get? b = some { o with slots := sl }) : Un fs ch H H' h h2 where
 keep := fun b o q n hb hx => st _ _ (k1 b o q n hb hx)
 slot := fun b o q n hb hx => by
  obtain ⟨sl, e⟩ := u.slot b o q n hb hx
  obtain ⟨o', e', hd⟩ := hf b hb
  rw [e] at e'; cases e'
  obtain ⟨sl', e2⟩ := up b hb _ e hd
  exact ⟨sl', e2⟩
 free := u.free
 there := fun b o q hx => by
  by_cases hb : b ∈ fs
  ·obtain ⟨o', e, hd⟩ := hf b hb
   obtain ⟨sl, e2⟩ := up b hb _ e hd
   exact ⟨_, e2⟩
  ·obtain ⟨o', e⟩ := k2 b o q hb hx
   exact ⟨o', st _ _ e⟩
 tups := u.tups
 frzs := u.frzs
 tbls := u.tbls
section
variable {P : Program} {w : World} {K : PySem.W.Frag} {mg : Str → Option Value} {base : Heap} {N : List Str} {qual : Str} {scope : Scope} {f : Addr} {cd : Value} {A : Around} {outer : List Env} {s : Shared} {H : Hp} {E : XK}
theorem mI : kA (EI (CXr P w) P w K mg base N qual scope f cd A outer s H E) E := by
 intro pins σ H1 H' s1 s' ch B a C a0 I os bare un hch fl bl q
 show wpAny (model P w) _ (leaving _ (.ref a)) _ _ s'
 refine VE I.ok.frames rfl fl fun h' fl' up => ?_
 have J : Inv (EI (CXr P w) P w K mg base N qual scope f cd A outer s H E) pins σ H' { s' with heap := h' } :=
  Inv.call' (s' := { s' with heap := h' }) I os (un.flown2 (FB fl.2.2.1) bl.keep bl.there fl'.1 fun b _ => up b) (bl.hok.kept fl'.1) bare hch
 have nch : ∀ b o, s.heap.get? b = some o → b ∉ ch := fun b o q m => by
  rcases (hch b m).1 with z | z
  ·exact absurd (show b ∈ ([] : List Addr) from z) (by simp)
  ·exact absurd (Nat.lt_of_lt_of_le (Heap.lt_size q) z) (Nat.lt_irrefl _)
 refine ⟨a, C, H', B, a0, rfl, J.os, J.bare, J.base, fl', ⟨bl.hok, fun b o q n hb => ?_, fun b o q hb => ?_⟩, q⟩
 ·exact bl.keep b o (I.base.keep b o q n hb (by simp [EI])) (I.base.free b o q n (by simp [EI])) (IB b o q hb) (nch b o q)
 ·obtain ⟨o1, e1⟩ := I.base.there b o q (by simp [EI])
  exact bl.there b o1 e1 (IB b o q hb) (nch b o q)
end
def XB (X : Cx) (E : XK) (s₃ : Shared) (H₃ : Hp) (fp : List Addr) (ev : Value) (s' : Shared) : Prop := ∃ (a : Addr) (C a0 : Value) (B : Heap) (H' : Hp), ev = .ref a ∧ s'.os = s₃.os ∧ AllBare s'.gens ∧ Un (frs X.stack) fp H₃ H' s₃.heap s'.heap ∧
 Heap.FlyingW B X.stack a C a0 s'.heap ∧ VH X.prog X.w X.stack fp H₃ H' s₃.heap B ∧ (∃ m, s'.heap.Ns s₃.heap.objs.size m) ∧ H' s₃.heap.objs.size = none ∧ E C none H'
section
variable {X : Cx} {E : XK} {pins : List (Addr × Obj)} {σ : St} {H₃ : Hp} {s₃ : Shared} {fp : List Addr} {L : Addr}
theorem aG (hL : kA X E) (I : Inv X pins σ H₃ s₃) (hst : X.stack = X.env :: X.outer) (hf : X.env.frame = some L)
  (hch : ∀ b ∈ fp, (b ∈ X.ex ∨ X.s₀.heap.objs.size ≤ b) ∧ b ≠ X.env.locals ∧ (∀ x c, X.env.cells.lookup x = some c → c ≠ b) ∧ ∀ p ∈ X.pn ++ pins, p.1 ≠ b) {scope : Scope} {cl : List (Str × Addr)} {use : Option (Value → Sem Unit)} {Q : Value → Shared → Prop} {acc ev : Value} {s' : Shared}
  (h : XB X E s₃ H₃ fp ev s') : notedBy (model X.prog X.w) X.A (compEnvC scope cl s₃.heap.objs.size X.env) (fun x s2 => compPost (model X.prog X.w) X.A X.xe use Q acc s₃.heap.objs.size (.error x) s2) ev s' := by
 obtain ⟨a, C, a0, B, H', rfl, os, bare, un, fl, bl, ⟨m, hm⟩, hn, q⟩ := h
 show wpAny _ X.A (noteFrame (.ref a) X.env) _ _ s'
 have fl0 := fl
 rw [hst] at fl0
 refine wpAny_looks_onW (by rw [I.ok.frames, hst]) hf fl0 fun h4 held up4 => ?_
 rw [← hst] at held
 have hm4 := up4.ns hm
 have frl : ∀ b ∈ frs X.stack, b ≠ s₃.heap.objs.size := fun b hb => by
  obtain ⟨o, e, _⟩ := (I.stack.mem hb).2
  exact Nat.ne_of_lt (Heap.lt_size e)
 have main : ∃ m, h4.Ns s₃.heap.objs.size m ∧ ∀ h', Heap.SameBut s₃.heap.objs.size h4 h' → ∀ cenv : Env, cenv.locals = s₃.heap.objs.size → wpAny (model X.prog X.w) X.A (PySem.passOn "comprehension.variables-let-go" (.ref a) cenv : Sem Value) (fun _ _ => False) X.xe { s' with heap := h' } := by
  refine ⟨m, hm4, fun h5 sb cenv _ => ?_⟩
  obtain ⟨oc, es, ep, hc, hcd, _⟩ := hm4
  have keep : ∀ b, b ≠ s₃.heap.objs.size → h5.get? b = h4.get? b := fun b nb => sb.2 b nb
  obtain ⟨w1, w2, w3, fl4⟩ := Fly.of_held held
  obtain ⟨fv, oe, ws, T, oT, ts, y1, y2, y3, y4, y5, y6, y7, y8, y9⟩ := fl4
  have na : a ≠ s₃.heap.objs.size := by
   rintro rfl
   rw [hc] at y1; cases y1
   rw [hcd] at y3; cases y3
  have nT : T ≠ s₃.heap.objs.size := by
   rintro rfl
   rw [hc] at y7; cases y7
   rw [hcd] at y8; cases y8
  have sub : ∀ b o, (PySem.W.hideAll B [s₃.heap.objs.size]).get? b = some o → B.get? b = some o ∧ b ≠ s₃.heap.objs.size := fun b o e => ⟨PySem.W.of_hideAll _ e, by
   rintro rfl
   rw [PySem.W.hideAll_none [s₃.heap.objs.size] (h := B) List.mem_cons_self] at e
   cases e⟩
  have none' : ∀ b, B.get? b = none → (PySem.W.hideAll B [s₃.heap.objs.size]).get? b = none := fun b e => by
   cases e2 : (PySem.W.hideAll B [s₃.heap.objs.size]).get? b with
   | none => rfl
   | some o => rw [(sub b o e2).1] at e; cases e
  have put : ∀ b o, B.get? b = some o → b ≠ s₃.heap.objs.size → (PySem.W.hideAll B [s₃.heap.objs.size]).get? b = some o := fun b o e nb => PySem.W.hideAll_get _ e (by simpa using nb)
  have st5 : (PySem.W.hideAll B [s₃.heap.objs.size]).StaysIn h5 := fun b o e => by rw [keep b (sub b o e).2]; exact w1 b o (sub b o e).1
  have ff : ∀ (l : List Env), (∀ b ∈ frs l, b ≠ s₃.heap.objs.size) → h4.FunFrames B l → h5.FunFrames (PySem.W.hideAll B [s₃.heap.objs.size]) l := by
   intro l
   induction l with
   | nil => intro _ _; trivial
   | cons env r ih =>
    intro hs hl
    obtain ⟨hk, ⟨L', o, hf', hn', ho, hd'⟩, hr⟩ := hl
    have mL : L' ∈ frs (env :: r) := by unfold frs; rw [List.filterMap_cons, hf']; exact List.mem_cons_self
    refine ⟨hk, ⟨L', o, hf', none' _ hn', by rw [keep _ (hs _ mL)]; exact ho, hd'⟩, ih (fun b hb => hs b ?_) hr⟩
    unfold frs
    rw [List.filterMap_cons, hf']
    exact List.mem_cons_of_mem _ hb
  have fly5 : Fly (PySem.W.hideAll B [s₃.heap.objs.size]) X.stack a C a0 h5 := ⟨st5, none' _ w2, ff _ frl w3, fv, oe, ws, T, oT, ts, by rw [keep a na]; exact y1, y2, y3, y4, none' _ y5, y6, by rw [keep T nT]; exact y7, y8, y9⟩
  have bl5 : VH X.prog X.w X.stack fp H₃ H' s₃.heap (PySem.W.hideAll B [s₃.heap.objs.size]) := by
   refine ⟨fun b o e => (bl.hok b o e).stay (fun c u hc2 e2 => put c u e2 ?_) (fun _ z => z) fun _ _ z => z, fun b o e n hb hx => put b o (bl.keep b o e n hb hx) (Nat.ne_of_lt (Heap.lt_size e)), fun b o e hb hx => ?_⟩
   ·rintro rfl
    rcases hc2 with z | z
    ·rw [← z, hn] at e; cases e
    ·rw [hn] at z; cases z
   ·obtain ⟨o', e'⟩ := bl.there b o e hb hx
    exact ⟨o', put b o' e' (Nat.ne_of_lt (Heap.lt_size e))⟩
  have y1' : h5.get? a = some oe := by rw [keep a na]; exact y1
  unfold PySem.passOn
  refine wpAny_bind (wpAny_field y1' y3 y4 ?_)
  rw [if_neg (by simp)]
  have EA : ∀ h6, Fly (PySem.W.hideAll B [s₃.heap.objs.size]) X.stack a C a0 h6 → h5.UpToSlots h6 → X.xe (.ref a) { s' with heap := h6 } := fun h6 fl6 up6 => by
   refine hL pins σ H₃ H' s₃ { s' with heap := h6 } fp _ a C a0 I os bare ?_ hch fl6 bl5 q
   refine un.flown2 (FB fl.2.2.1) bl5.keep bl5.there fl6.1 fun b hb o e hd => ?_
   obtain ⟨sl, e4⟩ := up4 b o e hd
   rw [← keep b (frl b hb)] at e4
   obtain ⟨sl', e6⟩ := up6 b _ e4 hd
   exact ⟨sl', e6⟩
  first
   | exact wpAny_bind (wpAny_pure (wpAny_bind (VV (s := { s' with heap := h5 }) fly5 fun h6 fl6 up6 => wpAny_throw (EA h6 fl6 up6))))
   | exact wpAny_bind (VV (s := { s' with heap := h5 }) fly5 fun h6 fl6 up6 => wpAny_throw (EA h6 fl6 up6))
 cases use with
 | none => exact main
 | some u => exact main
end
abbrev fO (X : Cx) (E : XK) (scope : Scope) (cl : List (Str × Addr)) (N : List Str) (s₃ : Shared) (H₃ : Hp) (fp : List Addr) : Cx := (cxC X scope cl N s₃ H₃ fp).wish (XB X E s₃ H₃ fp)
theorem UC {prog : Program} {w : World} {A : Around} {R : Result → Shared → Prop} {s : Shared} {elt target iter : Expr} {ifs : List Expr} {scope : Scope} {pos : Pos} {it acc : Value} {env : Env} {EB : Value → Shared → Prop} (I : Nat → Shared → Prop)
  (turn : ∀ n s, I n s → wpAny (model prog w) A (pyNext it) (fun r s₁ => match r with
   | none => R (.ok .next) s₁
   | some v => wpAny (model prog w) A (letOwnedTupleGo target it v) (fun _ s₁' => wpAny (model prog w) A (assign target env v) (fun _ s₂ =>
     wpAny (model prog w) A (forIn ifs true fun c r => if r = true then do let ok ← isTrue c env (eval c env); pure (ForInStep.yield ok) else pure (ForInStep.yield r)) (fun ok s₃ =>
      if ok = true then wpAny (model prog w) A (eval elt env) (fun x s₄ =>
       wpAny (model prog w) A (call (.builtin "list.append") [acc, x]) (fun _ s₅ => ∃ m, m < n ∧ I m s₅) EB s₄) EB s₃
      else ∃ m, m < n ∧ I m s₃) EB s₂) EB s₁') EB s₁) EB s)
  (hEB : ∀ x s, EB x s → notedBy (model prog w) A env (fun x s2 => R (.error x) s2) x s) (n : Nat) (h : I n s) :
  codeAny (model prog w) A (.compLoop (.ListComp elt [⟨target, iter, ifs, 0⟩] scope pos) 0 it acc env) R s := by
 refine codeAny_loop rfl I (fun n s hI => ?_) n h
 show wpAny _ A ((compTurn (.ListComp elt [⟨target, iter, ifs, 0⟩] scope pos) 0 it acc env).onRaise (fun x => do noteFrame x env; theTreesLotGoes x)) _ _ s
 refine wpAny_noted ?_
 rw [compTurn_list]
 refine wpAny_bind (wpAny_standAt (wpAny_bind (wpAny_mono (turn n s hI) (fun r s₁ h₁ => ?_) fun x s z => hEB x s z)))
 cases r with
 | none => exact wpAny_pure h₁
 | some v =>
  refine wpAny_bind (wpAny_mono h₁ (fun _ s₁' h₁' => ?_) fun x s z => hEB x s z)
  refine wpAny_bind (wpAny_mono h₁' (fun _ s₂ h₂ => wpAny_bind (wpAny_mono h₂ (fun ok s₃ h₃ => ?_) fun x s z => hEB x s z)) fun x s z => hEB x s z)
  cases ok with
  | false => exact wpAny_pure ⟨rfl, h₃⟩
  | true =>
   exact wpAny_bind (wpAny_bind (wpAny_mono h₃ (fun x s₄ h₄ => wpAny_bind (wpAny_mono h₄ (fun _ s₅ h₅ => wpAny_pure (wpAny_pure ⟨rfl, h₅⟩)) fun x s z => hEB x s z)) fun x s z => hEB x s z))
section
variable {X : Cx} {E : XK} {scope : Scope} {cl : List (Str × Addr)} {N : List Str} {s₃ : Shared} {H₃ : Hp} {fp : List Addr}
theorem nI : FI (CXr X.prog X.w) (fO X E scope cl N s₃ H₃ fp) E := by
 intro pins σ H1 s1 e s' I h
 obtain ⟨a, C, H', B, a0, rfl, os, bare, un, fl, bl, q⟩ := h
 have frl : ∀ b ∈ frs X.stack, b ≠ s₃.heap.objs.size := fun b hb => by
  obtain ⟨o, e, _⟩ := (I.ok.funs.mem hb).2
  exact Nat.ne_of_lt (Heap.lt_size e)
 have nfr : s₃.heap.objs.size ∉ frs X.stack := fun m => frl _ m rfl
 obtain ⟨m, ⟨oc, es, ep, ho, r⟩, _⟩ := id I.loc
 refine ⟨a, C, a0, B, H', rfl, os.trans I.os, bare, Un.trans I.base (un.mono (fun _ z => z) (fun b z => by cases z)), fl, ⟨bl.hok, fun b o e n hb hx => bl.keep b o (I.base.keep b o e n hb hx) (I.base.free b o e n hx) hb, fun b o e hb hx => ?_⟩, ⟨m, oc, es, ep, un.keep _ _ ho I.free nfr (by simp), r⟩, un.free _ _ ho I.free (by simp), q⟩
 obtain ⟨o1, e1⟩ := I.base.there b o e hx
 exact bl.there b o1 e1 hb
end
section
variable {X : Cx}
theorem dX {elt iter tg : Expr} {ifs : List Expr} {scope sc : Scope} {pos spos py : Pos} {y : Str} {i : Nat} {wi : TI} {g : TG} {tt : TT} {te : TE} {N0 N os : List Str} {js : List Nat} {E : XK} {L : Addr} (hL : kA X E) (hst : X.stack = X.env :: X.outer) (hfL : X.env.frame = some L)
  (hNd : X.N.Nodup) (hiN : X.N[i]? = some y) (hx : Loc X.env.scope y) (hc : X.calm = true) (hsc : X.env.scope = sc) (hN : X.N = N0) (ok : OZ scope sc N0 js os N) (hi : PI X tg iter wi)
  (hg : ∀ s₃ H₃ fp cl, PG (fO X E scope cl N s₃ H₃ fp) tg g) (ht : ∀ s₃ H₃ fp cl, YV (fO X E scope cl N s₃ H₃ fp) ifs tt) (he : ∀ s₃ H₃ fp cl, PE (fO X E scope cl N s₃ H₃ fp) elt te)
  (hs : ∀ x, foldedSetIterable iter X.env x = pure x := by intro _; rfl) (hsw : swapsWith (.ListComp elt [⟨tg, iter, ifs, 0⟩] scope pos) (some (.Name y py)) spos.line X.env = pure true := by rfl)
  (hf : X.fn y = true ∨ X.env.scope.names.lookup y = some .local := by first | exact .inl rfl | exact .inr rfl | assumption) :
  PS X (.Assign [.Name y py] (.ListComp elt [⟨tg, iter, ifs, 0⟩] scope pos) spos) (UN (bM js os wi g tt te) (MU i)) := by
 intro pins s σ H D I h
 rw [exec_Assign_Name_used _ _ _ _ hsw]
 refine wpAny_bind (wpAny_standAt (wpAny_bind ?_))
 show wpAny _ X.A (do let _ ← comprehension (.ListComp elt [⟨tg, iter, ifs, 0⟩] scope pos) scope X.env _ (newList []) false (eval iter X.env) (some (assign (.Name y py) X.env))) _ _ s
 have hfree : ∀ y ∈ scope.names, y.2 = .free → ∃ c, X.env.cells.lookup y.1 = some c := fun y hy e => I.ok.has _ (by
  have := ok.free y hy e
  rw [← hsc] at this
  exact this)
 refine wpAny_bind (wpAny_mono (wpAny_comprehension_free (use := some (assign (.Name y py) X.env)) (Q := fun _ s' => SP X pins D .next s') rfl hs (OV hfree) ok.kind ok.names (thn (hi pins s σ H _ I h) fun v s1 h1 => thn h1 fun itv s2 h2 => ?_)) (fun _ s' hq => wpAny_pure (wpAny_pure hq)) fun _ _ e => e)
 obtain ⟨it, fp, tn, J, H1, e, I2, T, st2, f2, hW⟩ := h2
 subst e
 refine wpAny_newObj_type (wpAny_newFunctionEnv ok.cell (by intro y hy; simp at hy) (fun h₁ hns₁ hsb₁ => ?_) ok.kind)
 dsimp only at hns₁ hsb₁ ⊢
 have hfr : H1 s2.heap.objs.size = none := I2.fresh
 have I3 := I2.lnew (ys := []) (its := []) (t' := s2.toks) .nil (Nat.zero_le _)
 generalize hs3 : ({ s2 with heap := s2.heap.push { cls := .type "list", data := .seq ([] : List Value).toArray }, toks := s2.toks } : Shared) = s₃ at I3
 have eh : s2.heap.push { cls := .type "list", dict := none, data := .seq ([] : List Value).toArray } = s₃.heap := by rw [← hs3]
 rw [eh] at hns₁ hsb₁ ⊢
 have k23 : ∀ b o, s2.heap.get? b = some o → s₃.heap.get? b = some o := fun b o q => by rw [← eh]; exact Heap.get?_push_of_some _ q
 have lt2 : ∀ b ∈ fp, b < s2.heap.objs.size := fun b hb => by
  obtain ⟨o, q, _⟩ := T.obj _ _ st2 b hb
  exact Heap.lt_size q
 have sz3 : s2.heap.objs.size ≤ s₃.heap.objs.size := by rw [← eh, Heap.size_push]; exact Nat.le_succ _
 have f3 : ∀ b ∈ fp, JS X pins (upd H1 s2.heap.objs.size (.lst [])) b := fun b hb => ⟨by rw [AH (Nat.ne_of_lt (lt2 b hb))]; exact (f2 b hb).1, (f2 b hb).2⟩
 have k34 : ∀ b o, s₃.heap.get? b = some o → h₁.get? b = some o := fun b o q => hsb₁.extBut b o (Nat.ne_of_lt (Heap.lt_size q)) (Heap.get?_push_of_some _ q)
 have I4 := (MC (t' := s₃.toks) hc hsc hN ok I3 f3 (fun b hb => Nat.lt_of_lt_of_le (lt2 b hb) sz3) hns₁ k34).wish (XB X E s₃ (upd H1 s2.heap.objs.size (.lst [])) fp)
 generalize hX' : (cxC X scope (EN X.env.cells scope.names []) N s₃ (upd H1 s2.heap.objs.size (.lst [])) fp).wish (XB X E s₃ (upd H1 s2.heap.objs.size (.lst [])) fp) = X' at I4
 obtain ⟨W, ⟨m0, w0⟩, turn⟩ := hW _ hfr
 have st4 : tn 0 h₁ := T.keep _ _ _ st2 fun b hb o q => k34 b o (k23 b o q)
 have stat : ∀ {H' : Hp}, (∀ b ∈ fp, H' b = none) → ∀ b ∈ fp, JS X' [] H' b := fun {H'} hn b hb => by
  subst hX'
  refine ⟨hn b hb, Nat.ne_of_lt (Nat.lt_of_lt_of_le (lt2 b hb) sz3), fun z => ?_, .inl hb, fun x c e => ?_, fun p hp => by cases hp⟩
  ·rcases List.mem_cons.mp (I2.stkSub b z) with q | q
   ·exact (f2 b hb).2.1 q
   ·exact (f2 b hb).2.2.1 q
  ·exact (f2 b hb).2.2.2.2.1 x c (FV (cells := X.env.cells) scope.names [] hfree (fun _ _ e => by cases e) _ _ e)
 have ePr : X'.prog = X.prog := by subst hX'; rfl
 have eW : X'.w = X.w := by subst hX'; rfl
 have eK : X'.K = X.K := by subst hX'; rfl
 have eA : X'.A = X.A := by subst hX'; rfl
 have eE : X'.env = compEnvC scope (EN X.env.cells scope.names []) s₃.heap.objs.size X.env := by subst hX'; rfl
 have eC : X'.calm = true := by subst hX'; rfl
 have eX : X'.xe = XB X E s₃ (upd H1 s2.heap.objs.size (.lst [])) fp := by subst hX'; rfl
 have hg' : PG X' tg g := by subst hX'; exact hg _ _ _ _
 have ht' : YV X' ifs tt := by subst hX'; exact ht _ _ _ _
 have he' : PE X' elt te := by subst hX'; exact he _ _ _ _
 have fin : ∀ {σ' : St} {H' : Hp} {s' : Shared}, Inv X' [] σ' H' s' → (∀ b ∈ fp, H' b = none) → D.nx (σ.set i (some (.ref s2.heap.objs.size))) H' → compPost (model X.prog X.w) X.A X.xe (some (assign (.Name y py) X.env)) (fun _ s' => SP X pins D .next s') (.ref s2.heap.objs.size) s₃.heap.objs.size (.ok .next) s' := by
  intro σ' H' s' I' hn q
  obtain ⟨m, hm, _⟩ := id I'.loc
  subst hX'
  have fC : H' s₃.heap.objs.size = none := I'.free
  have u1 : Un (frs X.stack) fp (upd H1 s2.heap.objs.size (.lst [])) H' s₃.heap s'.heap := by
   have b0 := I'.base
   exact ⟨fun b o e n hb hx => b0.keep b o e n hb hx, fun b o e n hb hx => b0.slot b o e n hb hx, b0.free, fun b o e hx => b0.there b o e hx, b0.tups, b0.frzs, b0.tbls⟩
  have Ip := I3.call' (s' := s') (ch := fp) I'.os u1 I'.hok I'.bare fun b hb => ⟨(f2 b hb).2.2.2.1, (f2 b hb).2.1, (f2 b hb).2.2.2.2.1, (f2 b hb).2.2.2.2.2⟩
  have cl : X.env.locals ≠ s₃.heap.objs.size := Nat.ne_of_lt I3.lt
  have cc : ∀ x c, X.env.cells.lookup x = some c → c ≠ s₃.heap.objs.size := fun x c e => by
   obtain ⟨v, o, ho, _⟩ := I3.cell x c e
   exact Nat.ne_of_lt (Heap.lt_size ho)
  show wpAny (model X.prog X.w) X.A (assign (.Name y py) X.env (.ref s2.heap.objs.size)) _ _ s'
  refine wpAny_assign_Name (OD Ip hNd hiN hx (v := .ref s2.heap.objs.size) rfl (fun s'' I'' ⟨a, sa, ha⟩ => ?_) hf)
  have na : s₃.heap.objs.size ≠ a := by
   rcases ha with ha | ha
   ·rw [ha]; exact Ne.symm cl
   ·exact Ne.symm (cc _ _ ha)
  refine ⟨m, hm.sameBut sa na, fun h3 sb => ⟨_, H', ?_, q⟩⟩
  have hok' : HOk X.prog X.w H' h3 := fun b ob e => by
   refine (I''.hok b ob e).stay (fun c w' hc' q' => (sb.2 c ?_).trans q') (fun _ q' => q') fun _ _ q' => q'
   rintro rfl
   rcases hc' with z | z
   ·have e' := e; rw [← z] at e'; rw [fC] at e'; cases e'
   ·rw [fC] at z; cases z
  have u2 : Un (frs X.stack) [s₃.heap.objs.size] H' H' s''.heap h3 :=
   have ne : ∀ b, b ∉ [s₃.heap.objs.size] → b ≠ s₃.heap.objs.size := fun b hb e => hb (by rw [e]; exact List.mem_singleton_self _)
   ⟨fun b o e n hb hx => (sb.2 b (ne b hx)).trans e, fun b o e n hb hx => ⟨o.slots, (sb.2 b (ne b hx)).trans e⟩, fun b o e n hx => n, fun b o e hx => ⟨o, (sb.2 b (ne b hx)).trans e⟩, fun b xs e => e, fun b o u e => e, fun b ps e => ⟨#[], by rw [e]; simp⟩⟩
  exact I''.call' (s' := { s'' with heap := h3 }) (ch := [s₃.heap.objs.size]) rfl u2 hok' I''.bare fun b hb => by
   rw [List.mem_singleton.mp hb]
   exact ⟨.inr I3.sz, Ne.symm cl, cc, fun p hp e => absurd (Heap.lt_size (I3.pin p hp).1) (by rw [e]; exact Nat.lt_irrefl _)⟩
 have loop : codeAny (model X.prog X.w) X.A (.compLoop (.ListComp elt [⟨tg, iter, ifs, 0⟩] scope pos) 0 (.ref it) (.ref s2.heap.objs.size) (compEnvC scope (EN X.env.cells scope.names []) s₃.heap.objs.size X.env))
   (compPost (model X.prog X.w) X.A X.xe (some (assign (.Name y py) X.env)) (fun _ s' => SP X pins D .next s') (.ref s2.heap.objs.size) s₃.heap.objs.size) { s₃ with heap := h₁, toks := s₃.toks } := by
  refine UC (EB := XB X E s₃ (upd H1 s2.heap.objs.size (.lst [])) fp) (fun n s' => ∃ i σ' H', Inv X' [] σ' H' s' ∧ tn i s'.heap ∧ (∀ b ∈ fp, H' b = none) ∧ W i n σ' H') ?_ (fun x s z => aG hL I3 hst hfL (fun b hb => ⟨(f2 b hb).2.2.2.1, (f2 b hb).2.1, (f2 b hb).2.2.2.2.1, (f2 b hb).2.2.2.2.2⟩) z) m0 ⟨0, _, _, I4, st4, fun b hb => (f3 b hb).1, w0⟩
  rintro n s5 ⟨i, σ5, H5, I5, st5, fr5, w5⟩
  rw [← ePr, ← eW, ← eA, ← eE]
  rcases turn i n σ5 H5 w5 with ⟨stop, qn⟩ | ⟨go, step⟩
  ·have := T.done X' ePr eW eK eC i [] s5 σ5 H5 X'.xe I5 (stat fr5) st5 stop
   rw [eX] at this
   rw [← ePr, ← eW] at this
   refine thn this fun r s6 ⟨hr, I6⟩ => ?_
   subst hr
   dsimp only
   rw [ePr, eW, eA]
   exact fin I6 fr5 qn
  ·have := T.item X' ePr eW eK eC i [] s5 σ5 H5 X'.xe I5 (stat fr5) st5 go
   rw [eX] at this
   rw [← ePr, ← eW] at this
   refine thn this fun r s6 ⟨u, hr, h6⟩ => ?_
   subst hr
   dsimp only
   refine thn h6 fun _ s7 ⟨x, H7, I7, r7, y7, st7, fr7⟩ => ?_
   have I7' := I7.pinned (stat fr7) (T.obj _ _ st7)
   have g7 := hg' _ s7 σ5 H7 x u _ I7' r7 (step x H7 y7)
   rw [eX] at g7
   refine thn g7 fun _ s8 ⟨σ8, H8, I8, q8⟩ => ?_
   have t8 := ht' _ s8 σ8 H8 _ I8 q8
   rw [eX] at t8
   have again : ∀ {σ9 : St} {H9 : Hp} {s9 : Shared}, Inv X' ([] ++ IL fp s7.heap) σ9 H9 s9 → tn (i + 1) s9.heap ∧ ∀ b ∈ fp, H9 b = none := fun {σ9 H9 s9} I9 => by
    refine ⟨T.keep _ _ _ st7 fun b hb o e => (I9.pin (b, o) (List.mem_append_right _ (List.mem_append_right _ (DI hb e)))).1, fun b hb => ?_⟩
    obtain ⟨o, e, d⟩ := T.obj _ _ st7 b hb
    exact (I9.pin (b, o) (List.mem_append_right _ (List.mem_append_right _ (DI hb e)))).2.1
   refine thn t8 fun b s9 ⟨H9, I9, q9⟩ => ?_
   cases b with
   | false =>
    rw [if_neg Bool.false_ne_true] at q9 ⊢
    obtain ⟨m', hm, w9⟩ := q9
    exact ⟨m', hm, i + 1, σ8, H9, I9.unpinned, (again I9).1, (again I9).2, w9⟩
   | true =>
    rw [if_pos rfl] at q9 ⊢
    have e9 := he' _ s9 σ8 H9 _ I9 q9
    rw [eX] at e9
    refine thn e9 fun y s10 ⟨z, H10, I10, r10, ys, hy, hlen, m', hm, w10⟩ => ?_
    have a10 := JW (X := X') _ s10 σ8 H10 (.ref s2.heap.objs.size) [z] _ _ (fun _ H11 => H11 = upd H10 s2.heap.objs.size (.lst (ys ++ [z]))) I10 rfl (.cons r10 .nil) ⟨_, ys, z, rfl, rfl, hy, hlen, rfl⟩
    rw [eX] at a10
    refine thn a10 fun _ s11 ⟨_, H11, I11, _, e11⟩ => ?_
    subst e11
    exact ⟨m', hm, i + 1, σ8, _, I11.unpinned, (again I11).1, (again I11).2, w10⟩
 have es : ({ s2 with heap := h₁, toks := s2.toks + ([] : List (Str × Value)).length } : Shared) = { s₃ with heap := h₁, toks := s₃.toks } := by rw [← hs3]; rfl
 rw [show ({ s2 with heap := h₁, toks := s2.toks + ([] : List (Str × Value)).length } : Shared) = { s₃ with heap := h₁, toks := s₃.toks } from es]
 exact codeAny_compStart_list loop (T.self _ 0 _ _ _ st4 loop)
end
structure Wk (P : Program) (w : World) (i l : Addr) (xs : Array Value) (St : Nat → Heap → Prop) : Prop where
 item : ∀ {A : Around} {E : Value → Shared → Prop} {s : Shared} {k : Nat} {x : Value} {Q : Value → Shared → Prop}, St k s.heap → xs[k]? = some x → (∀ g, St (k + 1) g → Heap.SameBut i s.heap g → Q x { s with heap := g }) → wpAny (model P w) A (Builtin.SmallTypes.nextOf (.ref i)) Q E s
 done : ∀ {A : Around} {E : Value → Shared → Prop} {s : Shared} {k : Nat} {Q : Value → Shared → Prop}, A.handled = none → St k s.heap → xs[k]? = none → (∀ g e, Heap.ExtBut i s.heap g → (∃ o, g.get? e = some o ∧ o.cls = .type "StopIteration") → E (.ref e) { s with heap := g }) → wpAny (model P w) A (Builtin.SmallTypes.nextOf (.ref i)) Q E s
 keep : ∀ k h g, St k h → (∀ o, h.get? i = some o → g.get? i = some o) → (∀ o, h.get? l = some o → g.get? l = some o) → St k g
 rc : ∀ k h, St k h → ∃ o vs, h.get? i = some o ∧ o.data = .fields vs
theorem gO {P : Program} {w : World} {i l : Addr} {xs : Array Value} (ne : l ≠ i) : Wk P w i l xs fun k h => h.IsListIter i l k ∧ h.IsList l xs where
 item := fun st hx hq => wpAny_nextOf_list_item st.1 st.2 hx fun g g1 g2 => hq g ⟨g1, st.2.extBut g2.extBut ne⟩ g2
 done := fun hh st hx hq => wpAny_nextOf_list_end hh st.1 st.2 hx hq
 keep := fun k h g st k1 k2 => ⟨st.1.at k1, let ⟨o, e, r⟩ := st.2; ⟨o, k2 o e, r⟩⟩
 rc := fun k h st => let ⟨o, e, _, d⟩ := st.1; ⟨o, _, e, d⟩
section
variable {P : Program} {w : World} {A : Around} {E : Value → Shared → Prop} {s : Shared}
theorem gP {i t : Addr} {k : Nat} {xs : Array Value} {x : Value} {Q : Value → Shared → Prop} (hi : IsTupIter s.heap i t k) (ht : IsTup s.heap t xs) (hx : xs[k]? = some x) (hq : ∀ g, IsTupIter g i t (k + 1) → Heap.SameBut i s.heap g → Q x { s with heap := g }) :
  wpAny (model P w) A (Builtin.SmallTypes.nextOf (.ref i)) Q E s := by
 obtain ⟨p, p1, p2, p3⟩ := id hi
 obtain ⟨q, q1, _, n, q2⟩ := ht
 unfold Builtin.SmallTypes.nextOf
 refine wpAny_bind (wpAny_callSpecial?_slot (name := Str.ofString "__next__") hi.typeIs slot_tupleiter_next (wpAny_call_entry slot_tupleiter_next hi.typeIs entry_tupleiter_next ?_ (args_tupleiter_next _)))
 show wpAny _ _ (field (.ref i) 0 >>= _) _ _ _
 refine wpAny_bind (wpAny_field p1 p3 (x := .ref t) rfl ?_)
 show wpAny _ _ (if (Value.ref t == Value.none) = true then _ else _) _ _ _
 rw [if_neg (show ¬ (Value.ref t == Value.none) = true by simp)]
 show wpAny _ _ (field (.ref i) 1 >>= _) _ _ _
 refine wpAny_bind (wpAny_field p1 p3 (x := .int k 0) rfl ?_)
 show wpAny _ _ (seqItems? (.ref t) >>= _) _ _ _
 refine wpAny_bind (wpAny_seqItems q1 q2 ?_)
 simp only [Int.toNat_natCast, hx]
 refine wpAny_bind (wpAny_setField p1 p3 (by simp) (wpAny_pure ⟨x, rfl, wpAny_pure (hq _ ⟨_, Heap.get?_update_self _ p1 (Obj.isFreed_of_fields (Obj.data_mapFields p3 _)), (Obj.cls_mapFields ..).trans p2, ?_⟩ (Heap.SameBut.update ..))⟩))
 rw [Obj.data_mapFields p3]
 simp [rawInt]
theorem fR {i t : Addr} {k : Nat} {xs : Array Value} {Q : Value → Shared → Prop} (hh : A.handled = none) (hi : IsTupIter s.heap i t k) (ht : IsTup s.heap t xs) (hx : xs[k]? = none)
  (hq : ∀ g e, Heap.ExtBut i s.heap g → (∃ o, g.get? e = some o ∧ o.cls = .type "StopIteration") → E (.ref e) { s with heap := g }) : wpAny (model P w) A (Builtin.SmallTypes.nextOf (.ref i)) Q E s := by
 obtain ⟨p, p1, p2, p3⟩ := id hi
 obtain ⟨q, q1, _, n, q2⟩ := ht
 unfold Builtin.SmallTypes.nextOf
 refine wpAny_bind (wpAny_callSpecial?_slot (name := Str.ofString "__next__") hi.typeIs slot_tupleiter_next (wpAny_call_entry slot_tupleiter_next hi.typeIs entry_tupleiter_next ?_ (args_tupleiter_next _)))
 show wpAny _ _ (field (.ref i) 0 >>= _) _ _ _
 refine wpAny_bind (wpAny_field p1 p3 (x := .ref t) rfl ?_)
 show wpAny _ _ (if (Value.ref t == Value.none) = true then _ else _) _ _ _
 rw [if_neg (show ¬ (Value.ref t == Value.none) = true by simp)]
 show wpAny _ _ (field (.ref i) 1 >>= _) _ _ _
 refine wpAny_bind (wpAny_field p1 p3 (x := .int k 0) rfl ?_)
 show wpAny _ _ (seqItems? (.ref t) >>= _) _ _ _
 refine wpAny_bind (wpAny_seqItems q1 q2 ?_)
 simp only [Int.toNat_natCast, hx]
 refine wpAny_bind (wpAny_rule (wpAny_bind (wpAny_setField p1 p3 (by simp) ?_)))
 show wpAny _ _ (newExc (.type "StopIteration") [] >>= _) _ _ _
 refine wpAny_bind ?_
 simp only [newExc, newTuple]
 refine wpAny_bind (wpAny_newObj_type (wpAny_bind (m := firstArgMember _ _) (wpAny_of_eq (a := Value.none) (by first | rfl | (simp only [firstArgMember]; rfl)) (wpAny_newObj_type ?_ (by size_fits)))) (by size_fits))
 simp only [raiseNew]
 refine wpAny_bind (wpAny_handled ?_)
 first | rw [show A.in1.handled = none from hh] | rw [hh]
 exact wpAny_bind (wpAny_pure (wpAny_throw (hq _ _ (((Heap.SameBut.update ..).extBut.push _).push _) ⟨_, Heap.get?_push_size _ rfl, rfl⟩)))
end
theorem jD {P : Program} {w : World} {i t : Addr} {xs : Array Value} (ne : t ≠ i) : Wk P w i t xs fun k h => IsTupIter h i t k ∧ IsTup h t xs where
 item := fun st hx hq => gP st.1 st.2 hx fun g g1 g2 => hq g ⟨g1, let ⟨o, e, r⟩ := st.2; ⟨o, g2.extBut _ _ ne e, r⟩⟩ g2
 done := fun hh st hx hq => fR hh st.1 st.2 hx hq
 keep := fun k h g st k1 k2 => ⟨let ⟨o, e, r⟩ := st.1; ⟨o, k1 o e, r⟩, let ⟨o, e, r⟩ := st.2; ⟨o, k2 o e, r⟩⟩
 rc := fun k h st => let ⟨o, e, _, d⟩ := st.1; ⟨o, _, e, d⟩
abbrev EH (h : Heap) (z TI TO : Addr) (f0 f1 : Value) : Prop := h.get? z = some { cls := .type "zip", dict := none, data := .fields #[f0, f1, .bool false, .ref TI, .ref TO], slots := #[] }
section
variable {P : Program} {w : World} {A : Around} {E : Value → Shared → Prop} {s : Shared} {z TI TO i1 i2 l1 l2 : Addr} {xs ys : Array Value} {S1 S2 : Nat → Heap → Prop} {k1 k2 : Nat} {x y a b f1 : Value}
theorem Wk.but {i l c : Addr} {St : Nat → Heap → Prop} (W : Wk P w i l xs St) {k : Nat} {h g : Heap} (st : St k h) (sb : Heap.ExtBut c h g) (n1 : i ≠ c) (n2 : l ≠ c) : St k g := W.keep k h g st (fun o e => sb _ o n1 e) fun o e => sb _ o n2 e
theorem NZ {M : Model} {c : Addr} {Q : Option Obj → Shared → Prop} (h : Q (s.heap.get? c) s) : wpAny M A (loadIfAlive c) Q E s := fun Γ p _ => by
 show Sem.wp M Γ (.loadIfAlive c .pure) _ _ p s
 rw [Sem.wp_loadIfAlive, Sem.wp_pure]
 exact h
theorem mH {Q : Value → Shared → Prop} (D : ZipApart z TI TO i1 i2 l1 l2) (W1 : Wk P w i1 l1 xs S1) (W2 : Wk P w i2 l2 ys S2) (hz : EH s.heap z TI TO .none (.bool false)) (ti : IsPair s.heap TI (.ref i1) (.ref i2)) (tt : IsPair s.heap TO a b)
  (t1 : S1 k1 s.heap) (t2 : S2 k2 s.heap) (hx : xs[k1]? = some x) (hy : ys[k2]? = some y)
  (hQ : ∀ g, EH g z TI TO (rawInt s.heap.objs.size) (.bool false) → IsPair g TO x y → S1 (k1 + 1) g → S2 (k2 + 1) g → IsPair g s.heap.objs.size x y → g.objs.size = s.heap.objs.size + 1 →
   (∀ c o, c ≠ z → c ≠ TO → c ≠ i1 → c ≠ i2 → s.heap.get? c = some o → g.get? c = some o) → Q (.ref s.heap.objs.size) { s with heap := g }) :
  wpAny (model P w) A (Builtin.«zip.__next__» ⟨[.ref z], []⟩) (fun fin s' => ∃ v, fin = .done (.ret v) ∧ Q v s') E s := by
 show wpAny _ _ (field (.ref z) 2 >>= _) _ _ _
 refine wpAny_bind (wpAny_field hz rfl (x := .bool false) rfl ?_)
 show wpAny _ _ (field (.ref z) 3 >>= _) _ _ _
 refine wpAny_bind (wpAny_field hz rfl (x := .ref TI) rfl (wpAny_bind (wpAny_seqItems ti rfl ?_)))
 show wpAny _ _ (Builtin.SmallTypes.ownedTupleIsFree (.ref z) >>= _) _ _ _
 refine wpAny_bind ?_
 unfold Builtin.SmallTypes.ownedTupleIsFree
 refine wpAny_bind (wpAny_field hz rfl (x := .none) rfl (wpAny_pure ?_))
 simp only [if_true]
 refine wpAny_bind (wpAny_rule (wpAny_bind (wpAny_field hz rfl (x := .ref TO) rfl (wpAny_bind (wpAny_setField_rec hz (by simp) fun g1 z1 e1 => ?_)))))
 replace z1 : EH g1 z TI TO .ellipsis (.bool false) := z1
 have e1 := e1.extBut
 refine wpAny_bind ?_
 simp only [List.zipIdx_cons, List.zipIdx_nil, List.forIn_cons, List.forIn_nil]
 refine wpAny_bind (wpAny_bind (wpAny_onRaise ?_))
 show wpAny _ _ (Builtin.SmallTypes.nextOf (.ref i1) >>= _) _ _ _
 refine wpAny_bind (W1.item (W1.but t1 e1 D.i1z D.l1z) hx fun g2 u2 e2 => wpAny_pure ?_)
 have sz2 := e2.1
 have e2 := e2.extBut
 have o2 : IsPair g2 TO a b := e2 _ _ D.TOi1 (e1 _ _ D.TOz tt)
 refine wpAny_bind (wpAny_seqItems o2 rfl (wpAny_bind (wpAny_updateSeq_pair o2 fun g3 o3 e3 => ?_)))
 replace o3 : IsPair g3 TO x b := o3
 have sz3 := e3.1
 have e3 := e3.extBut
 refine wpAny_bind (wpAny_letGo (wpAny_pure (wpAny_bind (wpAny_bind (wpAny_onRaise ?_)))))
 show wpAny _ _ (Builtin.SmallTypes.nextOf (.ref i2) >>= _) _ _ _
 refine wpAny_bind (W2.item (W2.but (W2.but (W2.but t2 e1 D.i2z D.l2z) e2 D.i12.symm D.l2i1) e3 D.TOi2.symm D.l2TO) hy fun g4 u4 e4 => wpAny_pure ?_)
 have sz4 := e4.1
 have e4 := e4.extBut
 have o4 : IsPair g4 TO x b := e4 _ _ D.TOi2 o3
 refine wpAny_bind (wpAny_seqItems o4 rfl (wpAny_bind (wpAny_updateSeq_pair o4 fun g5 o5 e5 => ?_)))
 replace o5 : IsPair g5 TO x y := o5
 have sz5 := e5.1
 have e5 := e5.extBut
 refine wpAny_bind (wpAny_letGo (wpAny_pure (wpAny_pure (wpAny_bind (wpAny_seqItems o5 rfl (wpAny_bind (wpAny_newTuple ?_)))))))
 have zz : EH g5 z TI TO .ellipsis (.bool false) := e5 _ _ D.TOz.symm (e4 _ _ D.i2z.symm (e3 _ _ D.TOz.symm (e2 _ _ D.i1z.symm z1)))
 have kk : ∀ c o, c ≠ z → c ≠ TO → c ≠ i1 → c ≠ i2 → s.heap.get? c = some o → g5.get? c = some o := fun c o c1 c2 c3 c4 e => e5 _ _ c2 (e4 _ _ c4 (e3 _ _ c2 (e2 _ _ c3 (e1 _ _ c1 e))))
 have v1 : S1 (k1 + 1) g5 := W1.but (W1.but (W1.but u2 e3 D.TOi1.symm D.l1TO) e4 D.i12 D.l1i2) e5 D.TOi1.symm D.l1TO
 have v2 : S2 (k2 + 1) g5 := W2.but u4 e5 D.TOi2.symm D.l2TO
 show wpAny _ _ (Builtin.SmallTypes.ownedTupleHandOut (.ref z) (.ref g5.objs.size) >>= _) _ _ _
 refine wpAny_bind ?_
 unfold Builtin.SmallTypes.ownedTupleHandOut
 have zp : EH (g5.push { cls := .type "tuple", data := .seq #[x, y] }) z TI TO .ellipsis (.bool false) := Heap.get?_push_of_some _ zz
 refine wpAny_bind (wpAny_setField_rec zp (by simp) fun g7 z7 e7 => ?_)
 replace z7 : EH g7 z TI TO (rawInt g5.objs.size) (.bool false) := z7
 refine wpAny_setField_rec z7 (by simp) fun g8 z8 e8 => ?_
 replace z8 : EH g8 z TI TO (rawInt g5.objs.size) (.bool false) := z8
 have sz : g5.objs.size = s.heap.objs.size := by
  rw [sz5, sz4, sz3, sz2]
  exact (by assumption : Heap.SameBut z s.heap g1).1
 have zlt : z < g5.objs.size := Heap.lt_size zz
 have up : ∀ c o, c ≠ z → g5.get? c = some o → g8.get? c = some o := fun c o c1 e => e8.extBut _ _ c1 (e7.extBut _ _ c1 (Heap.get?_push_of_some _ e))
 have new : IsPair g8 g5.objs.size x y := e8.extBut _ _ (Nat.ne_of_gt zlt) (e7.extBut _ _ (Nat.ne_of_gt zlt) (Heap.get?_push_size _ rfl))
 have s8 : g8.objs.size = g5.objs.size + 1 := by rw [e8.1, e7.1, Heap.size_push]
 rw [sz] at z8 new s8
 refine wpAny_pure ⟨_, rfl, ?_⟩
 show Q (.ref g5.objs.size) _
 rw [sz]
 exact hQ g8 z8 (up _ _ D.TOz o5) (W1.keep _ _ _ v1 (fun o e => up _ o D.i1z e) fun o e => up _ o D.l1z e) (W2.keep _ _ _ v2 (fun o e => up _ o D.i2z e) fun o e => up _ o D.l2z e) new s8 fun c o c1 c2 c3 c4 e => up c o c1 (kk c o c1 c2 c3 c4 e)
theorem kI {Q : Fin → Shared → Prop} (hh : A.handled = none) (D : ZipApart z TI TO i1 i2 l1 l2) (W1 : Wk P w i1 l1 xs S1) (W2 : Wk P w i2 l2 ys S2) (hz : EH s.heap z TI TO .none (.bool false)) (ti : IsPair s.heap TI (.ref i1) (.ref i2)) (tt : IsPair s.heap TO a b)
  (t1 : S1 k1 s.heap) (t2 : S2 k2 s.heap) (hx : xs[k1]? = none ∨ ys[k2]? = none)
  (hE : ∀ g e, (∀ c o, c ≠ z → c ≠ TO → c ≠ i1 → c ≠ i2 → s.heap.get? c = some o → g.get? c = some o) → (∃ o, g.get? e = some o ∧ o.cls = .type "StopIteration") → E (.ref e) { s with heap := g }) :
  wpAny (model P w) A (Builtin.«zip.__next__» ⟨[.ref z], []⟩) Q E s := by
 show wpAny _ _ (field (.ref z) 2 >>= _) _ _ _
 refine wpAny_bind (wpAny_field hz rfl (x := .bool false) rfl ?_)
 show wpAny _ _ (field (.ref z) 3 >>= _) _ _ _
 refine wpAny_bind (wpAny_field hz rfl (x := .ref TI) rfl (wpAny_bind (wpAny_seqItems ti rfl ?_)))
 show wpAny _ _ (Builtin.SmallTypes.ownedTupleIsFree (.ref z) >>= _) _ _ _
 refine wpAny_bind ?_
 unfold Builtin.SmallTypes.ownedTupleIsFree
 refine wpAny_bind (wpAny_field hz rfl (x := .none) rfl (wpAny_pure ?_))
 simp only [if_true]
 refine wpAny_bind (wpAny_rule (wpAny_bind (wpAny_field hz rfl (x := .ref TO) rfl (wpAny_bind (wpAny_setField_rec hz (by simp) fun g1 z1 e1 => ?_)))))
 replace z1 : EH g1 z TI TO .ellipsis (.bool false) := z1
 have e1 := e1.extBut
 refine wpAny_bind ?_
 simp only [List.zipIdx_cons, List.zipIdx_nil, List.forIn_cons, List.forIn_nil]
 refine wpAny_bind (wpAny_bind (wpAny_onRaise ?_))
 show wpAny _ _ (Builtin.SmallTypes.nextOf (.ref i1) >>= _) _ _ _
 have fin : ∀ {g : Heap} {e : Addr}, EH g z TI TO .ellipsis (.bool false) → (∀ c o, c ≠ z → c ≠ TO → c ≠ i1 → c ≠ i2 → s.heap.get? c = some o → g.get? c = some o) → (∃ o, g.get? e = some o ∧ o.cls = .type "StopIteration") →
   wpAny (model P w) A (setField (.ref z) 0 .none) (fun _ s' => E (.ref e) s') E { s with heap := g } := fun {g e} zg kg ⟨oe, he, hc⟩ => by
  have nez : e ≠ z := by
   rintro rfl
   rw [zg] at he; cases he
   simp at hc
  exact wpAny_setField_rec zg (by simp) fun g' _ e' => hE g' e (fun c o c1 c2 c3 c4 q => e'.extBut _ _ c1 (kg c o c1 c2 c3 c4 q)) ⟨oe, e'.extBut _ _ nez he, hc⟩
 cases hx1 : xs[k1]? with
 | none => exact wpAny_bind (W1.done hh (W1.but t1 e1 D.i1z D.l1z) hx1 fun g2 e e2 he => fin (e2 _ _ D.i1z.symm z1) (fun c o c1 _ c3 _ q => e2 _ _ c3 (e1 _ _ c1 q)) he)
 | some x =>
  have hy : ys[k2]? = none := by
   rcases hx with h | h
   ·rw [hx1] at h; cases h
   ·exact h
  refine wpAny_bind (W1.item (W1.but t1 e1 D.i1z D.l1z) hx1 fun g2 u2 e2 => wpAny_pure ?_)
  have e2 := e2.extBut
  have o2 : IsPair g2 TO a b := e2 _ _ D.TOi1 (e1 _ _ D.TOz tt)
  refine wpAny_bind (wpAny_seqItems o2 rfl (wpAny_bind (wpAny_updateSeq_pair o2 fun g3 o3 e3 => ?_)))
  have e3 := e3.extBut
  refine wpAny_bind (wpAny_letGo (wpAny_pure (wpAny_bind (wpAny_bind (wpAny_onRaise ?_)))))
  show wpAny _ _ (Builtin.SmallTypes.nextOf (.ref i2) >>= _) _ _ _
  exact wpAny_bind (W2.done hh (W2.but (W2.but (W2.but t2 e1 D.i2z D.l2z) e2 D.i12.symm D.l2i1) e3 D.TOi2.symm D.l2TO) hy fun g4 e e4 he =>
   fin (e4 _ _ D.i2z.symm (e3 _ _ D.TOz.symm (e2 _ _ D.i1z.symm z1))) (fun c o c1 c2 c3 c4 q => e4 _ _ c4 (e3 _ _ c2 (e2 _ _ c3 (e1 _ _ c1 q)))) he)
theorem mK {T : Addr} {oT : Obj} {b1 : Bool} {Q : Value → Shared → Prop} (D : ZipApart z TI TO i1 i2 l1 l2) (W1 : Wk P w i1 l1 xs S1) (W2 : Wk P w i2 l2 ys S2) (hz : EH s.heap z TI TO (rawInt T) (.bool b1)) (hT : s.heap.get? T = some oT) (ti : IsPair s.heap TI (.ref i1) (.ref i2))
  (t1 : S1 k1 s.heap) (t2 : S2 k2 s.heap) (hx : xs[k1]? = some x) (hy : ys[k2]? = some y)
  (hQ : ∀ g, EH g z TI TO (rawInt T) (.bool true) → S1 (k1 + 1) g → S2 (k2 + 1) g → IsPair g s.heap.objs.size x y → g.objs.size = s.heap.objs.size + 1 →
   (∀ c o, c ≠ z → c ≠ i1 → c ≠ i2 → s.heap.get? c = some o → g.get? c = some o) → Q (.ref s.heap.objs.size) { s with heap := g }) :
  wpAny (model P w) A (Builtin.«zip.__next__» ⟨[.ref z], []⟩) (fun fin s' => ∃ v, fin = .done (.ret v) ∧ Q v s') E s := by
 show wpAny _ _ (field (.ref z) 2 >>= _) _ _ _
 refine wpAny_bind (wpAny_field hz rfl (x := .bool false) rfl ?_)
 show wpAny _ _ (field (.ref z) 3 >>= _) _ _ _
 refine wpAny_bind (wpAny_field hz rfl (x := .ref TI) rfl (wpAny_bind (wpAny_seqItems ti rfl ?_)))
 show wpAny _ _ (Builtin.SmallTypes.ownedTupleIsFree (.ref z) >>= _) _ _ _
 have fin : ∀ {g1 g2 g3 : Heap}, EH g1 z TI TO (rawInt T) (.bool true) → Heap.SameBut z s.heap g1 → S1 (k1 + 1) g2 → Heap.SameBut i1 g1 g2 → S2 (k2 + 1) g3 → Heap.SameBut i2 g2 g3 → Q (.ref g3.objs.size) { s with heap := g3.push { cls := .type "tuple", data := .seq #[x, y] } } := fun {g1 g2 g3} z1 e1 u2 e2 u3 e3 => by
  have sz : g3.objs.size = s.heap.objs.size := by rw [e3.1, e2.1, e1.1]
  have z3 : EH g3 z TI TO (rawInt T) (.bool true) := e3.extBut _ _ D.i2z.symm (e2.extBut _ _ D.i1z.symm z1)
  have v1 : S1 (k1 + 1) g3 := W1.but u2 e3.extBut D.i12 D.l1i2
  have r := hQ (g3.push { cls := .type "tuple", data := .seq #[x, y] }) (Heap.get?_push_of_some _ z3) (W1.keep _ _ _ v1 (fun o e => Heap.get?_push_of_some _ e) fun o e => Heap.get?_push_of_some _ e)
   (W2.keep _ _ _ u3 (fun o e => Heap.get?_push_of_some _ e) fun o e => Heap.get?_push_of_some _ e) (by rw [← sz]; exact Heap.get?_push_size _ rfl) (by rw [Heap.size_push, sz]) fun c o c1 c3 c4 e => Heap.get?_push_of_some _ (e3.extBut _ _ c4 (e2.extBut _ _ c3 (e1.extBut _ _ c1 e)))
  rw [← sz] at r
  exact r
 refine wpAny_bind ?_
 unfold Builtin.SmallTypes.ownedTupleIsFree
 refine wpAny_bind (wpAny_field hz rfl (x := rawInt T) rfl ?_)
 show wpAny _ _ (loadIfAlive T >>= _) _ _ _
 refine wpAny_bind (NZ ?_)
 rw [hT]
 simp only [Option.isNone_some, Bool.false_eq_true, if_false]
 refine wpAny_bind (wpAny_field hz rfl (x := .bool b1) rfl ?_)
 have refl : Heap.SameBut z s.heap s.heap := ⟨rfl, fun _ _ => rfl⟩
 cases b1 with
 | true =>
  simp only [bne_self_eq_false, Bool.false_eq_true, if_false]
  refine wpAny_pure ?_
  simp only [Bool.false_eq_true, if_false]
  simp only [List.forIn_toArray, List.forIn_cons, List.forIn_nil]
  refine wpAny_bind (wpAny_bind (wpAny_bind (wpAny_holding ?_)))
  show wpAny _ _ (Builtin.SmallTypes.nextOf (.ref i1) >>= _) _ _ _
  refine wpAny_bind (W1.item (W1.but t1 refl.extBut D.i1z D.l1z) hx fun g2 u2 e2 => wpAny_pure ?_)
  refine wpAny_pure (wpAny_bind (wpAny_bind (wpAny_holding ?_)))
  show wpAny _ _ (Builtin.SmallTypes.nextOf (.ref i2) >>= _) _ _ _
  refine wpAny_bind (W2.item (W2.but (W2.but t2 refl.extBut D.i2z D.l2z) e2.extBut D.i12.symm D.l2i1) hy fun g3 u3 e3 => wpAny_pure ?_)
  refine wpAny_pure (wpAny_pure ?_)
  refine wpAny_bind (wpAny_newTuple (hsz := show 2 ≤ sizeLine by decide) (wpAny_pure ⟨_, rfl, ?_⟩))
  exact fin hz refl u2 e2 u3 e3
 | false =>
  rw [if_pos (by decide)]
  refine wpAny_bind (wpAny_setField_rec hz (by simp) fun g1 z1 e1 => wpAny_pure ?_)
  replace z1 : EH g1 z TI TO (rawInt T) (.bool true) := z1
  simp only [Bool.false_eq_true, if_false]
  simp only [List.forIn_toArray, List.forIn_cons, List.forIn_nil]
  refine wpAny_bind (wpAny_bind (wpAny_bind (wpAny_holding ?_)))
  show wpAny _ _ (Builtin.SmallTypes.nextOf (.ref i1) >>= _) _ _ _
  refine wpAny_bind (W1.item (W1.but t1 e1.extBut D.i1z D.l1z) hx fun g2 u2 e2 => wpAny_pure ?_)
  refine wpAny_pure (wpAny_bind (wpAny_bind (wpAny_holding ?_)))
  show wpAny _ _ (Builtin.SmallTypes.nextOf (.ref i2) >>= _) _ _ _
  refine wpAny_bind (W2.item (W2.but (W2.but t2 e1.extBut D.i2z D.l2z) e2.extBut D.i12.symm D.l2i1) hy fun g3 u3 e3 => wpAny_pure ?_)
  refine wpAny_pure (wpAny_pure ?_)
  refine wpAny_bind (wpAny_newTuple (hsz := show 2 ≤ sizeLine by decide) (wpAny_pure ⟨_, rfl, ?_⟩))
  exact fin z1 e1 u2 e2 u3 e3
theorem kP {T : Addr} {oT : Obj} {b1 : Bool} {Q : Fin → Shared → Prop} (hh : A.handled = none) (D : ZipApart z TI TO i1 i2 l1 l2) (W1 : Wk P w i1 l1 xs S1) (W2 : Wk P w i2 l2 ys S2) (hz : EH s.heap z TI TO (rawInt T) (.bool b1)) (hT : s.heap.get? T = some oT) (ti : IsPair s.heap TI (.ref i1) (.ref i2))
  (t1 : S1 k1 s.heap) (t2 : S2 k2 s.heap) (hx : xs[k1]? = none ∨ ys[k2]? = none)
  (hE : ∀ g e, (∀ c o, c ≠ z → c ≠ i1 → c ≠ i2 → s.heap.get? c = some o → g.get? c = some o) → (∃ o, g.get? e = some o ∧ o.cls = .type "StopIteration") → E (.ref e) { s with heap := g }) :
  wpAny (model P w) A (Builtin.«zip.__next__» ⟨[.ref z], []⟩) Q E s := by
 show wpAny _ _ (field (.ref z) 2 >>= _) _ _ _
 refine wpAny_bind (wpAny_field hz rfl (x := .bool false) rfl ?_)
 show wpAny _ _ (field (.ref z) 3 >>= _) _ _ _
 refine wpAny_bind (wpAny_field hz rfl (x := .ref TI) rfl (wpAny_bind (wpAny_seqItems ti rfl ?_)))
 show wpAny _ _ (Builtin.SmallTypes.ownedTupleIsFree (.ref z) >>= _) _ _ _
 refine wpAny_bind ?_
 unfold Builtin.SmallTypes.ownedTupleIsFree
 refine wpAny_bind (wpAny_field hz rfl (x := rawInt T) rfl ?_)
 show wpAny _ _ (loadIfAlive T >>= _) _ _ _
 refine wpAny_bind (NZ ?_)
 rw [hT]
 simp only [Option.isNone_some, Bool.false_eq_true, if_false]
 refine wpAny_bind (wpAny_field hz rfl (x := .bool b1) rfl ?_)
 have refl : Heap.SameBut z s.heap s.heap := ⟨rfl, fun _ _ => rfl⟩
 cases b1 with
 | true =>
  simp only [bne_self_eq_false, Bool.false_eq_true, if_false]
  refine wpAny_pure ?_
  simp only [Bool.false_eq_true, if_false]
  simp only [List.forIn_toArray, List.forIn_cons, List.forIn_nil]
  refine wpAny_bind (wpAny_bind (wpAny_bind (wpAny_holding ?_)))
  show wpAny _ _ (Builtin.SmallTypes.nextOf (.ref i1) >>= _) _ _ _
  cases hx1 : xs[k1]? with
  | none => exact wpAny_bind (W1.done hh (W1.but t1 refl.extBut D.i1z D.l1z) hx1 fun g2 e e2 he => hE g2 e (fun c o c1 c3 c4 q => e2 _ _ c3 (refl.extBut _ _ c1 q)) he)
  | some x =>
   have hy : ys[k2]? = none := by
    rcases hx with h | h
    ·rw [hx1] at h; cases h
    ·exact h
   refine wpAny_bind (W1.item (W1.but t1 refl.extBut D.i1z D.l1z) hx1 fun g2 u2 e2 => wpAny_pure ?_)
   refine wpAny_pure (wpAny_bind (wpAny_bind (wpAny_holding ?_)))
   show wpAny _ _ (Builtin.SmallTypes.nextOf (.ref i2) >>= _) _ _ _
   exact wpAny_bind (W2.done hh (W2.but (W2.but t2 refl.extBut D.i2z D.l2z) e2.extBut D.i12.symm D.l2i1) hy fun g3 e e3 he => hE g3 e (fun c o c1 c3 c4 q => e3 _ _ c4 (e2.extBut _ _ c3 (refl.extBut _ _ c1 q))) he)
 | false =>
  rw [if_pos (by decide)]
  refine wpAny_bind (wpAny_setField_rec hz (by simp) fun g1 z1 e1 => wpAny_pure ?_)
  simp only [Bool.false_eq_true, if_false]
  simp only [List.forIn_toArray, List.forIn_cons, List.forIn_nil]
  refine wpAny_bind (wpAny_bind (wpAny_bind (wpAny_holding ?_)))
  show wpAny _ _ (Builtin.SmallTypes.nextOf (.ref i1) >>= _) _ _ _
  cases hx1 : xs[k1]? with
  | none => exact wpAny_bind (W1.done hh (W1.but t1 e1.extBut D.i1z D.l1z) hx1 fun g2 e e2 he => hE g2 e (fun c o c1 c3 c4 q => e2 _ _ c3 (e1.extBut _ _ c1 q)) he)
  | some x =>
   have hy : ys[k2]? = none := by
    rcases hx with h | h
    ·rw [hx1] at h; cases h
    ·exact h
   refine wpAny_bind (W1.item (W1.but t1 e1.extBut D.i1z D.l1z) hx1 fun g2 u2 e2 => wpAny_pure ?_)
   refine wpAny_pure (wpAny_bind (wpAny_bind (wpAny_holding ?_)))
   show wpAny _ _ (Builtin.SmallTypes.nextOf (.ref i2) >>= _) _ _ _
   exact wpAny_bind (W2.done hh (W2.but (W2.but t2 e1.extBut D.i2z D.l2z) e2.extBut D.i12.symm D.l2i1) hy fun g3 e e3 he => hE g3 e (fun c o c1 c3 c4 q => e3 _ _ c4 (e2.extBut _ _ c3 (e1.extBut _ _ c1 q))) he)
end
abbrev itL (l : Addr) : Obj := { cls := .type "list_iterator", data := .fields #[.ref l, .int 0 0] }
abbrev itT (t : Addr) : Obj := { cls := .type "tuple_iterator", data := .fields #[.ref t, .int 0 0] }
abbrev zp2 (h : Heap) (o1 o2 : Obj) : Heap := (h.push o1).push o2
abbrev zp3 (h : Heap) (o1 o2 : Obj) : Heap := (zp2 h o1 o2).push { cls := .type "tuple", data := .seq #[.ref h.objs.size, .ref (h.push o1).objs.size] }
abbrev zp4 (h : Heap) (o1 o2 : Obj) : Heap := (zp3 h o1 o2).push { cls := .type "tuple", data := .seq #[.none, .none] }
abbrev zp5 (h : Heap) (o1 o2 : Obj) : Heap := (zp4 h o1 o2).push { cls := .type "zip", data := .fields #[.none, .bool false, .bool false, .ref (zp2 h o1 o2).objs.size, .ref (zp3 h o1 o2).objs.size] }
theorem UJ (t l : Addr) (xs ys : Array Value) : Meets (Builtin.«zip.__new__» ⟨[.type "zip", .ref t, .ref l], []⟩) (fun _ R s => IsTup s.heap t xs ∧ s.heap.IsList l ys ∧
   R (.ok (.ret (.ref (zp4 s.heap (itT t) (itL l)).objs.size))) { s with heap := zp5 s.heap (itT t) (itL l) }) :=
 .of_wp fun prog w A R s h => by
  obtain ⟨hp, g, d, tk, os⟩ := s
  obtain ⟨h1, h2, h⟩ := h
  have hsub := PySem.sub_zip
  have k1 : IsTup (Shared.heap ⟨hp, g, d, tk, os⟩) t xs := h1
  have k2 : Heap.IsList (Shared.heap ⟨hp.push (itT t), g, d, tk, os⟩) l ys := Heap.IsList.push h2 _
  wp_walk using iter_tuple k1, wpAny_pyIter_list k2
  exact ⟨_, rfl, h⟩
section
variable {P : Program} {w : World} {A : Around} {E : Value → Shared → Prop} {s : Shared}
theorem iM (h : Heap) (o1 o2 : Obj) (f1 : o1.isFreed = false) (f2 : o2.isFreed = false) : EH (zp5 h o1 o2) (h.objs.size + 4) (h.objs.size + 2) (h.objs.size + 3) .none (.bool false) ∧ IsPair (zp5 h o1 o2) (h.objs.size + 2) (.ref h.objs.size) (.ref (h.objs.size + 1)) ∧
  IsPair (zp5 h o1 o2) (h.objs.size + 3) .none .none ∧ (zp5 h o1 o2).get? h.objs.size = some o1 ∧ (zp5 h o1 o2).get? (h.objs.size + 1) = some o2 ∧ (zp5 h o1 o2).objs.size = h.objs.size + 5 ∧ (∀ c o, h.get? c = some o → (zp5 h o1 o2).get? c = some o) ∧ (zp4 h o1 o2).objs.size = h.objs.size + 4 := by
 have z1 : (h.push o1).objs.size = h.objs.size + 1 := Heap.size_push ..
 have z2 : (zp2 h o1 o2).objs.size = h.objs.size + 2 := by rw [Heap.size_push, z1]
 have z3 : (zp3 h o1 o2).objs.size = h.objs.size + 3 := by rw [Heap.size_push, z2]
 have z4 : (zp4 h o1 o2).objs.size = h.objs.size + 4 := by rw [Heap.size_push, z3]
 refine ⟨?_, ?_, ?_, ?_, ?_, by rw [Heap.size_push, z4], fun c o e => ?_, z4⟩
 ·have q : (zp5 h o1 o2).get? (zp4 h o1 o2).objs.size = some _ := Heap.get?_push_size _ rfl
  rw [z2, z3, z4] at q
  exact q
 ·have q : (zp5 h o1 o2).get? (zp2 h o1 o2).objs.size = some _ := Heap.get?_push_of_some _ (Heap.get?_push_of_some _ (Heap.get?_push_size _ rfl))
  rw [z1, z2] at q
  exact q
 ·have q : (zp5 h o1 o2).get? (zp3 h o1 o2).objs.size = some _ := Heap.get?_push_of_some _ (Heap.get?_push_size _ rfl)
  rw [z3] at q
  exact q
 ·exact Heap.get?_push_of_some _ (Heap.get?_push_of_some _ (Heap.get?_push_of_some _ (Heap.get?_push_of_some _ (Heap.get?_push_size _ f1))))
 ·have q : (zp5 h o1 o2).get? (h.push o1).objs.size = some o2 := Heap.get?_push_of_some _ (Heap.get?_push_of_some _ (Heap.get?_push_of_some _ (Heap.get?_push_size _ f2)))
  rw [z1] at q
  exact q
 ·exact Heap.get?_push_of_some _ (Heap.get?_push_of_some _ (Heap.get?_push_of_some _ (Heap.get?_push_of_some _ (Heap.get?_push_of_some _ e))))
theorem QW {t l : Addr} {xs ys : Array Value} {Q : Value → Shared → Prop} (h1 : IsTup s.heap t xs) (h2 : s.heap.IsList l ys) (h : Q (.ref (s.heap.objs.size + 4)) { s with heap := zp5 s.heap (itT t) (itL l) }) :
  wpAny (model P w) A (call (.type "zip") [.ref t, .ref l]) Q E s := by
 refine callType_new F.called_zip (by decide) (F.typeCall_zip_2 _ _) (F.newCall_zip_2 _ _) (fun obj => F.args_object_init_3 obj _ _) F.entry_zip_new (UJ t l xs ys) ⟨h1, h2, ?_⟩
 obtain ⟨a1, a2, a3, a4, a5, a6, a7, a8⟩ := iM s.heap (itT t) (itL l) rfl rfl
 rw [a8]
 exact ⟨⟨_, a1, rfl⟩, h⟩
end
theorem TN : typeLookup (.type "zip") "keys" = pure none := by rw [typeLookup_type, builtinLookup_eq_fast]; kernel_rfl
theorem NE : typeLookup (.type "zip") "__getattr__" = pure none := by rw [typeLookup_type, builtinLookup_eq_fast]; kernel_rfl
theorem jL : entryFor table "zip.__getattribute__" = some Builtin.«object.__getattribute__» := entryFor_alias (id' := "object.__getattribute__") (by kernel_rfl) (by decide +kernel) (by decide +kernel) (by kernel_rfl)
theorem dE (z : Addr) (vs : Array Value) (u : Tok) : Meets (Builtin.«object.__getattribute__» ⟨[.ref z, .str "keys" u], []⟩) (fun A R s => s.heap.get? z = some { cls := .type "zip", dict := none, data := .fields vs, slots := #[] } ∧ raisesAttr (.ref z) "keys" A R s) :=
 Meets.of_wp fun prog w A R s h0 => by
  obtain ⟨hp, g, d, tk, os⟩ := s
  obtain ⟨hx, h1⟩ := h0
  have hT : (⟨hp, g, d, tk, os⟩ : Shared).TypeIs (.ref z) "zip" := ⟨_, hx, rfl⟩
  have k0 := TN
  unfold Builtin.«object.__getattribute__»
  repeat (any_goals (first | assumption | wp_step))
  try simp only [show (["__module__", "__name__", "__qualname__", "__doc__", "__annotations__"] : List Str).contains "keys" = false by decide, Bool.false_eq_true, if_false]
  repeat (any_goals (first | assumption | wp_step))
  exact wpAny_raiseAttrError h1.1 h1.2 (attrMsg_fits (by decide +kernel) (by size_fits))
theorem bE {P : Program} {w : World} {A : Around} {E : Value → Shared → Prop} {s : Shared} {z : Addr} {vs : Array Value} {Q : Option Value → Shared → Prop} (hx : s.heap.get? z = some { cls := .type "zip", dict := none, data := .fields vs, slots := #[] }) (hA : A.handled = none)
  (h : ∀ g tk, (∀ b o, s.heap.get? b = some o → g.get? b = some o) → Q none { s with heap := g, toks := tk }) : wpAny (model P w) A (getAttr? (.ref z) "keys") Q E s := by
 obtain ⟨hp, g, d, tk, os⟩ := s
 have hT : ∀ tk', (⟨hp, g, d, tk', os⟩ : Shared).TypeIs (.ref z) "zip" := fun _ => ⟨_, hx, rfl⟩
 have k1 := sub_AttributeError
 have k3 := F.slot_zip_getattribute.lookup
 have k4 := F.slot_zip_getattribute.bind (.ref z)
 have k5 := NE
 unfold getAttr? getAttrBy? getAttrBy
 repeat (any_goals (first | assumption | exact hT _ | ((with_reducible show wpAny _ _ (call (Value.builtin "zip.__getattribute__") _ _) _ _ _); refine call_meets F.slot_zip_getattribute (hT _) jL (F.args_zip_getattribute_2 _ _) (dE z vs _) ⟨hx, hA, fun h' tk' e hx' => ?_⟩) | wp_step))
 obtain ⟨t', u', he⟩ := hx'.there
 show wpAny _ _ (getattributeRaised _ _ _ _ _ _ _) _ _ _
 unfold getattributeRaised
 repeat (any_goals (first | assumption | wp_step))
 exact h _ _ hx'.keeps
def ZS (h : Heap) (z TI TO i1 i2 : Addr) : Prop := IsPair h TI (.ref i1) (.ref i2) ∧ ((EH h z TI TO .none (.bool false) ∧ ∃ a b, IsPair h TO a b) ∨ ∃ (T : Addr) (oT : Obj) (b1 : Bool), EH h z TI TO (rawInt T) (.bool b1) ∧ h.get? T = some oT ∧ T ≠ z ∧ T ≠ i1 ∧ T ≠ i2)
section
variable {P : Program} {w : World} {A : Around} {E : Value → Shared → Prop} {s : Shared} {z TI TO i1 i2 l1 l2 : Addr} {xs ys : Array Value} {S1 S2 : Nat → Heap → Prop} {k1 k2 : Nat} {x y : Value}
theorem ZS.ty {h : Heap} (hz : ZS h z TI TO i1 i2) : ∃ vs, h.get? z = some { cls := .type "zip", dict := none, data := .fields vs, slots := #[] } := by
 rcases hz with ⟨_, ⟨hz, _⟩ | ⟨T, oT, b1, hz, _⟩⟩
 ·exact ⟨_, hz⟩
 ·exact ⟨_, hz⟩
theorem fW {Q : Option Value → Shared → Prop} (D : ZipApart z TI TO i1 i2 l1 l2) (W1 : Wk P w i1 l1 xs S1) (W2 : Wk P w i2 l2 ys S2) (hz : ZS s.heap z TI TO i1 i2) (t1 : S1 k1 s.heap) (t2 : S2 k2 s.heap) (hx : xs[k1]? = some x) (hy : ys[k2]? = some y)
  (hQ : ∀ g, ZS g z TI TO i1 i2 → S1 (k1 + 1) g → S2 (k2 + 1) g → IsPair g s.heap.objs.size x y → (∀ c o, c ≠ z → c ≠ TO → c ≠ i1 → c ≠ i2 → s.heap.get? c = some o → g.get? c = some o) → Q (some (.ref s.heap.objs.size)) { s with heap := g }) :
  wpAny (model P w) A (pyNext (.ref z)) Q E s := by
 have ty : s.TypeIs (.ref z) "zip" := by obtain ⟨vs, e⟩ := hz.ty; exact ⟨_, e, rfl⟩
 obtain ⟨ti, hz⟩ := hz
 obtain ⟨oz, ez⟩ : ∃ o, s.heap.get? z = some o := by obtain ⟨o, e, _⟩ := ty; exact ⟨o, e⟩
 obtain ⟨oa, _, ea, _⟩ := W1.rc _ _ t1
 obtain ⟨ob, _, eb, _⟩ := W2.rc _ _ t2
 have nz : s.heap.objs.size ≠ z := Nat.ne_of_gt (Heap.lt_size ez)
 have na : s.heap.objs.size ≠ i1 := Nat.ne_of_gt (Heap.lt_size ea)
 have nb : s.heap.objs.size ≠ i2 := Nat.ne_of_gt (Heap.lt_size eb)
 unfold pyNext
 refine wpAny_bind (wpAny_attempt (wpAny_callSpecial?_slot (name := Str.ofString "__next__") ty F.slot_zip_next (wpAny_call_entry F.slot_zip_next ty F.entry_zip_next ?_ (F.args_zip_next_1 _))))
 rcases hz with ⟨hz, a, b, tt⟩ | ⟨T, oT, b1, hz, hT, n1, n2, n3⟩
 ·exact mH D W1 W2 hz ti tt t1 t2 hx hy fun g a1 a2 a3 a4 a5 a6 a7 => wpAny_pure (hQ g ⟨a7 _ _ D.TIz D.TITO D.TIi1 D.TIi2 ti, .inr ⟨_, _, _, a1, a5, nz, na, nb⟩⟩ a3 a4 a5 a7)
 ·exact mK D W1 W2 hz hT ti t1 t2 hx hy fun g a1 a3 a4 a5 a6 a7 => wpAny_pure (hQ g ⟨a7 _ _ D.TIz D.TIi1 D.TIi2 ti, .inr ⟨T, oT, true, a1, a7 _ _ n1 n2 n3 hT, n1, n2, n3⟩⟩ a3 a4 a5 fun c o c1 _ c3 c4 e => a7 c o c1 c3 c4 e)
theorem kW {Q : Option Value → Shared → Prop} (hh : A.handled = none) (D : ZipApart z TI TO i1 i2 l1 l2) (W1 : Wk P w i1 l1 xs S1) (W2 : Wk P w i2 l2 ys S2) (hz : ZS s.heap z TI TO i1 i2) (t1 : S1 k1 s.heap) (t2 : S2 k2 s.heap) (hx : xs[k1]? = none ∨ ys[k2]? = none)
  (hQ : ∀ g, (∀ c o, c ≠ z → c ≠ TO → c ≠ i1 → c ≠ i2 → s.heap.get? c = some o → g.get? c = some o) → Q none { s with heap := g }) : wpAny (model P w) A (pyNext (.ref z)) Q E s := by
 have ty : s.TypeIs (.ref z) "zip" := by obtain ⟨vs, e⟩ := hz.ty; exact ⟨_, e, rfl⟩
 obtain ⟨ti, hz⟩ := hz
 unfold pyNext
 refine wpAny_bind (wpAny_attempt (wpAny_callSpecial?_slot (name := Str.ofString "__next__") ty F.slot_zip_next (wpAny_call_entry F.slot_zip_next ty F.entry_zip_next ?_ (F.args_zip_next_1 _))))
 rcases hz with ⟨hz, a, b, tt⟩ | ⟨T, oT, b1, hz, hT, n1, n2, n3⟩
 ·exact kI hh D W1 W2 hz ti tt t1 t2 hx fun g e kg ⟨o, he, hc⟩ => wpAny_bind (wpAny_isInstance (T := "StopIteration") (b := true) ⟨o, he, hc⟩ isSubtype_stop (wpAny_pure (hQ g kg)))
 ·exact kP hh D W1 W2 hz hT ti t1 t2 hx fun g e kg ⟨o, he, hc⟩ => wpAny_bind (wpAny_isInstance (T := "StopIteration") (b := true) ⟨o, he, hc⟩ isSubtype_stop (wpAny_pure (hQ g fun c o c1 _ c3 c4 q => kg c o c1 c3 c4 q)))
end
theorem SK : entryFor table "dict.update.loop" = some Builtin.«dict.update.loop» := entryFor_of_tree (by kernel_rfl)
theorem JB : plainId "dict.update.loop" = true := by decide +kernel
section
variable {P : Program} {w : World} {z TI TO i1 i2 l1 l2 d : Addr} {xs ys : Array Value} {S1 S2 : Nat → Heap → Prop}
def DS (ks : List Key) (vs : List Value) : Nat → List (Key × Value)
 | 0 => []
 | k + 1 => match ks[k]?, vs[k]? with
  | some a, some b => stored (DS ks vs k) a b
  | _, _ => DS ks vs k
theorem LB (ks : List Key) (vs : List Value) : ∀ k, (DS ks vs k).length ≤ k
 | 0 => by simp [DS]
 | k + 1 => by
  have := LB ks vs k
  rw [DS]
  split
  ·have := stored_length_le (DS ks vs k) ‹_› ‹_›
   omega
  ·omega
theorem fN (D : ZipApart z TI TO i1 i2 l1 l2) (W1 : Wk P w i1 l1 xs S1) (W2 : Wk P w i2 l2 ys S2) (dz : d ≠ z) (dT : d ≠ TO) (d1 : d ≠ i1) (d2 : d ≠ i2) (dl1 : l1 ≠ d) (dl2 : l2 ≠ d) (dTI : TI ≠ d) {ks : List Key} (hks : ∀ (i : Nat) (v : Value), xs[i]? = some v → ∃ k, ks[i]? = some k ∧ (BQ P w).is k v = true) (small : xs.size ≤ 1000) {A : Around} (hh : A.handled = none) {R : Result → Shared → Prop} :
  ∀ (m k : Nat) (i : Int) (s : Shared), min xs.size ys.size - k = m → k ≤ min xs.size ys.size → ZS s.heap z TI TO i1 i2 → S1 k s.heap → S2 k s.heap → s.heap.DictOf (BQ P w) d (DS ks ys.toList k) →
   (∀ g tk, g.DictOf (BQ P w) d (DS ks ys.toList (min xs.size ys.size)) → (∀ c o, c ≠ z → c ≠ TO → c ≠ i1 → c ≠ i2 → c ≠ d → s.heap.get? c = some o → g.get? c = some o) → R (.ok (.ret .none)) { s with heap := g, toks := tk }) →
   codeAny (model P w) A (.builtin "dict.update.loop" ⟨[.ref d, .ref z, rawInt i, .none], []⟩) R s := by
 intro m
 induction m with
 | zero =>
  intro k i s hm hk zs t1 t2 hd hR
  have e : k = min xs.size ys.size := by omega
  refine codeAny_builtin SK ?_
  rw [Around.under_plainId JB _]
  show wpAny _ A.in1 (pyNext (.ref z) >>= _) _ _ s
  refine wpAny_bind (kW hh D W1 W2 zs t1 t2 ?_ fun g kg => ?_)
  ·rcases Nat.le_total xs.size ys.size with h | h
   ·exact .inl (by rw [Array.getElem?_eq_none_iff]; omega)
   ·exact .inr (by rw [Array.getElem?_eq_none_iff]; omega)
  ·subst e
   show wpAny _ A.in1 (Builtin.Dict.addKeywords d [] >>= _) _ _ _
   obtain ⟨o, es, ep, ho, r⟩ := hd
   exact wpAny_bind (wpAny_pure (wpAny_pure (hR g s.toks ⟨o, es, ep, kg _ _ dz dT d1 d2 ho, r⟩ fun c o c1 c2 c3 c4 _ e => kg c o c1 c2 c3 c4 e)))
 | succ m ih =>
  intro k i s hm hk zs t1 t2 hd hR
  have k1 : k < xs.size := by omega
  have k2 : k < ys.size := by omega
  have hx : xs[k]? = some xs[k] := Array.getElem?_eq_getElem k1
  have hy : ys[k]? = some ys[k] := Array.getElem?_eq_getElem k2
  obtain ⟨key, hkey, hki⟩ := hks k _ hx
  refine codeAny_builtin SK ?_
  rw [Around.under_plainId JB _]
  show wpAny _ A.in1 (pyNext (.ref z) >>= _) _ _ s
  refine wpAny_bind (fW D W1 W2 zs t1 t2 hx hy fun g zg u1 u2 pg kg => ?_)
  have hdg : g.DictOf (BQ P w) d (DS ks ys.toList k) := by
   obtain ⟨o, es, ep, ho, r⟩ := hd
   exact ⟨o, es, ep, kg _ _ dz dT d1 d2 ho, r⟩
  have st : stored (DS ks ys.toList k) key ys[k] = DS ks ys.toList (k + 1) := by
   rw [DS, hkey, Array.getElem?_toList, hy]
  show wpAny _ A.in1 (holding [Value.ref s.heap.objs.size] _ >>= _) _ _ _
  refine wpAny_bind (wpAny_holding ?_)
  refine wpAny_bind (wpAny_tryCatch ?_)
  unfold Builtin.Dict.pairItems
  refine wpAny_bind (wpAny_typeOf (show ({ s with heap := g } : Shared).TypeIs (.ref s.heap.objs.size) "tuple" from ⟨_, pg, rfl⟩) ?_)
  rw [if_pos (by decide)]
  refine wpAny_bind (wpAny_seqItems pg rfl (wpAny_pure ?_))
  show wpAny _ _ (holding [xs[k], ys[k]] (dictSet d xs[k] ys[k])) _ _ _
  have lz := LB ks ys.toList k
  refine wpAny_holding (wpAny_dictSet_pairs (s := { s with heap := g }) hki hdg (fun g2 hd2 sb => ?_) (Nat.le_trans (by omega : _ ≤ 1000) (by decide)))
  rw [st] at hd2
  have sb2 := sb.extBut
  refine wpAny_pure ⟨plainId_quiet JB _, ih (k + 1) (i + 1) _ (by omega) (by omega) ?_ ?_ ?_ hd2 fun g3 tk hd3 k3 => ?_⟩
  ·obtain ⟨a1, a2⟩ := zg
   refine ⟨sb2 _ _ dTI a1, ?_⟩
   rcases a2 with ⟨a2, p, q, a3⟩ | ⟨T, oT, b1, a2, a3, a4, a5, a6⟩
   ·exact .inl ⟨sb2 _ _ dz.symm a2, p, q, sb2 _ _ dT.symm a3⟩
   ·by_cases nd : T = d
    ·subst nd
     obtain ⟨o, es, ep, ho, _⟩ := hd2
     exact .inr ⟨T, o, b1, sb2 _ _ dz.symm a2, ho, a4, a5, a6⟩
    ·exact .inr ⟨T, oT, b1, sb2 _ _ dz.symm a2, sb2 _ _ nd a3, a4, a5, a6⟩
  ·exact W1.but u1 sb2 d1.symm dl1
  ·exact W2.but u2 sb2 d2.symm dl2
  ·exact hR g3 tk hd3 fun c o c1 c2 c3 c4 c5 e => k3 c o c1 c2 c3 c4 c5 (sb2 _ _ c5 (kg c o c1 c2 c3 c4 e))
end
theorem UQ {ks : List (Key × Value)} {k : Key} {v : Value} (h : ∀ p ∈ ks, p.1 ≠ k) : stored ks k v = ks ++ [(k, v)] := by
 unfold stored
 rw [if_neg]
 intro z
 rw [List.any_eq_true] at z
 obtain ⟨p, hp, e⟩ := z
 exact h p hp (by simpa using e)
theorem aD {α : Type} : ∀ {l : List α} (h : l.Nodup) {i j : Nat} (hi : i < l.length) (hj : j < l.length), l[i] = l[j] → i = j
 | [], _, i, j, hi, _, _ => absurd hi (Nat.not_lt_zero _)
 | a :: l, h, 0, 0, _, _, _ => rfl
 | a :: l, h, 0, j + 1, _, hj, e => absurd (show a ∈ l by rw [show a = l[j]'(by simpa using hj) from e]; exact List.getElem_mem _) (List.nodup_cons.mp h).1
 | a :: l, h, i + 1, 0, hi, _, e => absurd (show a ∈ l by rw [show a = l[i]'(by simpa using hi) from e.symm]; exact List.getElem_mem _) (List.nodup_cons.mp h).1
 | a :: l, h, i + 1, j + 1, hi, hj, e => congrArg (· + 1) (aD (List.nodup_cons.mp h).2 (by simpa using hi) (by simpa using hj) e)
theorem OC {ks : List Key} {vs : List Value} (nd : ks.Nodup) : ∀ k, k ≤ min ks.length vs.length → DS ks vs k = (ks.zip vs).take k
 | 0, _ => by simp [DS]
 | k + 1, h => by
  have k1 : k < ks.length := by omega
  have k2 : k < vs.length := by omega
  rw [DS, List.getElem?_eq_getElem k1, List.getElem?_eq_getElem k2]
  dsimp only
  rw [OC nd k (by omega), UQ, List.take_add_one, List.getElem?_eq_getElem (by rw [List.length_zip]; omega)]
  ·simp
  ·intro p hp e
   rw [List.mem_take_iff_getElem] at hp
   obtain ⟨j, hj, rfl⟩ := hp
   rw [List.getElem_zip] at e
   have e : ks[j] = ks[k] := e
   have := aD nd _ _ e
   omega
theorem bP : ∀ {ks : List Key} {ys : List V} {vs : List Value}, AN ys vs → KV (ks.zip ys) (ks.zip vs)
 | [], ys, vs, r => by simp only [List.zip_nil_left]; exact .nil
 | k :: ks, _, _, .nil => by simp only [List.zip_nil_right]; exact .nil
 | k :: ks, _, _, .cons r t => by
  rw [List.zip_cons_cons, List.zip_cons_cons]
  exact .cons ⟨rfl, r⟩ (bP t)
theorem MG {n a k : Nat} (h : a < n) : a ≠ n + k := by omega
theorem fE {n : Nat} (j k : Nat) (h : j ≠ k) : n + j ≠ n + k := by omega
theorem ne_0 {n : Nat} (k : Nat) (h : k ≠ 0) : n + k ≠ n := by omega
section
variable {P : Program} {w : World} {A : Around} {E : Value → Shared → Prop} {s : Shared}
theorem NO {t l : Addr} {xs ys : Array Value} {ks : List Key} {Q : Value → Shared → Prop} (hh : A.handled = none) (h1 : IsTup s.heap t xs) (h2 : s.heap.IsList l ys) (hl : ks.length = xs.size) (nd : ks.Nodup) (small : xs.size ≤ 1000)
  (hks : ∀ (i : Nat) (v : Value), xs[i]? = some v → ∃ k, ks[i]? = some k ∧ (BQ P w).is k v = true)
  (h : ∀ g tk, g.DictOf (BQ P w) (s.heap.objs.size + 5) (ks.zip ys.toList) → (∀ c o, s.heap.get? c = some o → g.get? c = some o) → Q (.ref (s.heap.objs.size + 5)) { s with heap := g, toks := tk }) :
  wpAny (model P w) A (call (.type "dict") [.ref (s.heap.objs.size + 4)]) Q E { s with heap := zp5 s.heap (itT t) (itL l) } := by
 obtain ⟨a1, a2, a3, a4, a5, a6, a7, a8⟩ := iM s.heap (itT t) (itL l) rfl rfl
 generalize zp5 s.heap (itT t) (itL l) = g0 at *
 have lt : t < s.heap.objs.size := by obtain ⟨o, e, _⟩ := h1; exact Heap.lt_size e
 have ll : l < s.heap.objs.size := by obtain ⟨o, e, _⟩ := h2; exact Heap.lt_size e
 have D : ZipApart (s.heap.objs.size + 4) (s.heap.objs.size + 2) (s.heap.objs.size + 3) s.heap.objs.size (s.heap.objs.size + 1) t l := YK lt ll
 have W1 : Wk P w s.heap.objs.size t xs _ := jD (Nat.ne_of_lt lt)
 have W2 : Wk P w (s.heap.objs.size + 1) l ys _ := gO (MG ll)
 refine callType_codes (Q₁ := fun obj s₁ => obj = .ref (s.heap.objs.size + 5) ∧ s₁ = { s with heap := g0.push { cls := .type "dict", data := .dict #[] } }) F.kt_called_dict (F.kt_typeCall_dict_1 _) F.entry_dict_init (kt_code_dict_new _ ⟨by rw [a6], rfl⟩) ?_
 rintro obj s1 ⟨rfl, rfl⟩
 have hnew : (g0.push { cls := .type "dict", data := .dict #[] }).DictOf (BQ P w) (s.heap.objs.size + 5) [] := by
  have q := Heap.DictOf.new (knd := BQ P w) g0
  rw [a6] at q
  exact q
 have up : ∀ {c : Addr} {o : Obj}, g0.get? c = some o → (g0.push { cls := .type "dict", data := .dict #[] }).get? c = some o := fun e => Heap.get?_push_of_some _ e
 refine ⟨hnew.typeIs, F.args_dict_init_2 _ _, ?_⟩
 unfold Builtin.«dict.__init__»
 refine wpAny_bind ?_
 unfold Builtin.Dict.selfAndRest
 refine wpAny_bind (wpAny_notOrdered_dict hnew.typeIs ?_)
 show wpAny _ _ (pure (s.heap.objs.size + 5, [Value.ref (s.heap.objs.size + 4)])) _ _ _
 refine wpAny_pure ?_
 show wpAny _ _ (Builtin.Dict.updateFrom "dict.__init__" (s.heap.objs.size + 5) (.ref (s.heap.objs.size + 4)) [] .none) _ _ _
 unfold Builtin.Dict.updateFrom
 refine wpAny_bind (wpAny_typeOf (show ({ s with heap := g0.push { cls := .type "dict", data := .dict #[] } } : Shared).TypeIs (.ref (s.heap.objs.size + 4)) "zip" from ⟨_, up a1, rfl⟩) ?_)
 rw [if_pos (by decide)]
 refine wpAny_bind (bE (s := { s with heap := g0.push { cls := .type "dict", data := .dict #[] } }) (up a1) hh fun g1 tk1 k1 => ?_)
 simp only [Option.isNone_none, if_true]
 refine wpAny_bind (wpAny_rule (wpAny_bind (wpAny_pyIter_zip (k1 _ _ (up a1)) ?_)))
 refine wpAny_pure ⟨plainId_quiet JB _, ?_⟩
 have st1 : IsTupIter g1 s.heap.objs.size t 0 ∧ IsTup g1 t xs := ⟨⟨_, k1 _ _ (up a4), rfl, rfl⟩, let ⟨o, e, r⟩ := h1; ⟨o, k1 _ _ (up (a7 _ _ e)), r⟩⟩
 have st2 : g1.IsListIter (s.heap.objs.size + 1) l 0 ∧ g1.IsList l ys := ⟨⟨_, k1 _ _ (up a5), rfl, rfl⟩, let ⟨o, e, r⟩ := h2; ⟨o, k1 _ _ (up (a7 _ _ e)), r⟩⟩
 have hd1 : g1.DictOf (BQ P w) (s.heap.objs.size + 5) [] := let ⟨o, es, ep, e, r⟩ := hnew; ⟨o, es, ep, k1 _ _ e, r⟩
 refine fN D W1 W2 (fE 5 4 (by decide)) (fE 5 3 (by decide)) (ne_0 5 (by decide)) (fE 5 1 (by decide)) (MG lt) (MG ll) (fE 2 5 (by decide)) hks small (A := A.in1) hh (min xs.size ys.size) 0 0 { s with heap := g1, toks := tk1 } rfl (Nat.zero_le _) ⟨k1 _ _ (up a2), .inl ⟨k1 _ _ (up a1), _, _, k1 _ _ (up a3)⟩⟩ st1 st2 hd1 fun g tk hd kg => ⟨rfl, h g tk ?_ fun c o e => ?_⟩
 ·have lv : ys.toList.length = ys.size := by simp
  rw [OC nd _ (by rw [hl, lv]; omega), List.take_of_length_le (by rw [List.length_zip, hl, lv]; omega)] at hd
  exact hd
 ·have lc := Heap.lt_size e
  exact kg c o (MG lc) (MG lc) (Nat.ne_of_lt lc) (MG lc) (MG lc) (k1 _ _ (up (a7 _ _ e)))
end
section
variable {X : Cx} {e f : Expr} {ta : TA} {p p' pos pos' : Pos}
def tDZ (K : PySem.W.Frag) (ta : TA) : TE := fun σ H Q => ta σ H fun vs H1 => o2 vs fun x y => DO x fun a => DO y fun b => ∃ (ks : List Key) (ys : List V), SqT K H1 a (ks.map kV) ∧ SqL K H1 b ys ∧ ks.Nodup ∧ ks.length ≤ 1000 ∧ ∀ q, H1 q = none → Q (.ref q) (upd H1 q (.dK (ks.zip ys)))
theorem bG {P : Program} {w : World} : ∀ (k : Key) (v : Value), AX (kV k) v → (BQ P w).is k v = true
 | .inl i, v, h => by obtain ⟨t, rfl⟩ := h; exact KH P w i t
 | .inr x, v, h => by obtain ⟨t, rfl⟩ := h; exact KG P w x t
theorem TV (hc : X.calm = true) (hgl : Gl X "dict") (hml : X.mg "dict" = none) (hgz : Gl X "zip") (hmz : X.mg "zip" = none) (ha : PA X [e, f] ta)
  (he : starEach [.Call (.Name "zip" p') [e, f] [] pos'] X.env = [(false, eval (.Call (.Name "zip" p') [e, f] [] pos') X.env)] := by rfl)
  (hs : starEach [e, f] X.env = [(false, eval e X.env), (false, eval f X.env)] := by rfl) (hs2 : starEach [f] X.env = [(false, eval f X.env)] := by rfl) :
  PE X (.Call (.Name "dict" p) [.Call (.Name "zip" p') [e, f] [] pos'] [] pos) (tDZ X.K ta) := by
 intro pins s σ H Q I h
 refine wpAny_Call_Name_kw (IS I hgl hml rfl ?_ (by decide) (by decide))
 refine PyProof.Rows.callWith_type1 ?_ he rfl
 rw [he]
 refine Calls.spliced_cons ?_
 refine Call_ (IS I hgz hmz rfl (PyProof.Rows.callWith_type1 (thn (ha pos' pins s σ H _ I h) fun us s1 ⟨vs, H1, I1, r1, q1⟩ => ?_) (by rw [hs, hs2]) (by rw [hs2]; rfl)))
 obtain ⟨x, y, rfl, q1⟩ := o2.ex q1
 obtain ⟨a, rfl, q1⟩ := DO.ex q1
 obtain ⟨b, rfl, ks, ys, hx, hy, nd, sm, q⟩ := DO.ex q1
 cases r1 with
 | cons r rr =>
  cases rr with
  | cons r' rr =>
   cases rr
   cases r
   cases r'
   obtain ⟨its, rv, ph, _⟩ := I1.tuple hx
   obtain ⟨its', rv', ph', hz'⟩ := I1.list hy
   have hl : ks.length = its.toArray.size := by rw [List.size_toArray, ← rv.length, List.length_map]
   refine QW ph ph'.isList (Calls.spliced_nil ?_)
   refine NO (ks := ks) (I1.ok.hd hc) ph ph'.isList hl nd (by omega) (fun i v e => ?_) fun g tk hd kg => ?_
   ·have e : its[i]? = some v := by simpa using e
    obtain ⟨u, e2, r⟩ := AN.get' rv e
    rw [List.getElem?_map] at e2
    cases e3 : ks[i]? with
    | none => rw [e3] at e2; cases e2
    | some k =>
     rw [e3] at e2
     cases e2
     exact ⟨k, rfl, bG k v r⟩
   ·have hp : s1.heap.objs.size ≤ s1.heap.objs.size + 5 := Nat.le_add_right _ _
    refine ⟨.ref _, _, I1.laid (t' := tk) (o := .dK (ks.zip ys)) kg hp ⟨?_, beq_eq_false_iff_ne.mpr (Ne.symm (Nat.ne_of_lt (Nat.lt_of_lt_of_le I1.big hp))), _, bP rv', ?_⟩, rfl, q _ (I1.hok.fresh hp)⟩
    ·rw [List.length_zip]; exact Nat.le_trans (Nat.min_le_left _ _) (Nat.le_trans sm (by decide))
    ·simpa using hd
end
section
variable {X : Cx} {e : Expr} {te : TE} {p pos : Pos}
def LY (te : TE) : TE := fun σ H Q => te σ H fun x H1 => DO x fun a => ∃ kvs, Rd H1 a (.dK kvs) ∧ ∀ q, H1 q = none → Q (.ref q) (upd H1 q (.dK kvs))
theorem SF (hgl : Gl X "dict") (hml : X.mg "dict" = none) (ha : PE X e te) (he : starEach [e] X.env = [(false, eval e X.env)] := by rfl) : PE X (.Call (.Name "dict" p) [e] [] pos) (LY te) := by
 intro pins s σ H Q I h
 refine wpAny_Call_Name_kw (IS I hgl hml rfl ?_ (by decide) (by decide))
 refine PyProof.Rows.callWith_type1 ?_ he rfl
 rw [he]
 refine Calls.spliced_cons (thn (ha pins s σ H _ I h) fun u s1 ⟨x, H1, I1, r1, q1⟩ => Calls.spliced_nil ?_)
 obtain ⟨a, rfl, kvs, hq, q⟩ := DO.ex q1
 cases r1
 obtain ⟨z, sm, vs, rel, dd⟩ := RQ I1.hok hq
 refine kt_call_dict sm dd (by rw [← Paired.length rel]; exact z) fun h' hd' sb => ?_
 refine ⟨.ref _, _, I1.laid (t' := s1.toks) (o := .dK kvs) (fun b o e => by rw [sb.2 b (Nat.ne_of_lt (Heap.lt_size e))]; exact Heap.get?_push_of_some _ e) (Nat.le_refl _) ⟨z, beq_eq_false_iff_ne.mpr (Ne.symm (Nat.ne_of_lt I1.big)), vs, rel, hd'⟩, rfl, q _ (I1.hok.fresh (Nat.le_refl _))⟩
end
theorem bJ {kvs : List (Key × V)} {k : Key} {v : V} (h : kvs.length < sizeLine) : (EC kvs k v).length ≤ sizeLine := by
 unfold EC
 split
 ·rw [List.length_map]; exact Nat.le_of_lt h
 ·rw [List.length_append]; exact h
def WI (js : List Nat) (os : List Str) (wi : TI) (g : TG) (tk tv : TE) : TE := fun σ H Q => wi σ H fun J H1 => ∀ p, H1 p = none →
 ∃ W : Nat → Nat → St → Hp → Prop, (∃ m, W 0 m (stC js os σ) (upd H1 p (.dK []))) ∧ ∀ i m σ H, W i m σ H →
  (J.stop i H ∧ Q (.ref p) H) ∨ (J.go i H ∧ ∀ x H', J.yld i H x H' → g x σ H' fun σ2 H2 => tk σ2 H2 fun y H3 => tv σ2 H3 fun z H4 =>
   ∃ (kvs : List (Key × V)) (k : Key), y = kV k ∧ H4 p = some (.dK kvs) ∧ kvs.length < sizeLine ∧ ∃ m', m' < m ∧ W (i + 1) m' σ2 (upd H4 p (.dK (EC kvs k z))))
section
variable {X : Cx}
theorem XF {kx vx iter tg : Expr} {scope sc : Scope} {pos : Pos} {wi : TI} {g : TG} {tk tv : TE} {N0 N os : List Str} {js : List Nat}
  (hc : X.calm = true) (hsc : X.env.scope = sc) (hN : X.N = N0) (ok : OZ scope sc N0 js os N) (hi : PI X tg iter wi)
  (hg : ∀ s₃ H₃ fp cl, PG (cxC X scope cl N s₃ H₃ fp) tg g) (hk : ∀ s₃ H₃ fp cl, PE (cxC X scope cl N s₃ H₃ fp) kx tk) (hv : ∀ s₃ H₃ fp cl, PE (cxC X scope cl N s₃ H₃ fp) vx tv)
  (hs : ∀ x, foldedSetIterable iter X.env x = pure x := by intro _; rfl) :
  PE X (.DictComp kx vx [⟨tg, iter, [], 0⟩] scope pos) (WI js os wi g tk tv) := by
 intro pins s σ H Q I h
 rw [arm_eval_DictComp]
 have hfree : ∀ y ∈ scope.names, y.2 = .free → ∃ c, X.env.cells.lookup y.1 = some c := fun y hy e => I.ok.has _ (by
  have := ok.free y hy e
  rw [← hsc] at this
  exact this)
 refine wpAny_comprehension_free (use := none) rfl hs (OV hfree) ok.kind ok.names (thn (hi pins s σ H _ I h) fun v s1 h1 => thn h1 fun itv s2 h2 => ?_)
 obtain ⟨it, fp, tn, J, H1, e, I2, T, st2, f2, hW⟩ := h2
 subst e
 refine wpAny_newObj_type (wpAny_newFunctionEnv ok.cell (by intro y hy; simp at hy) (fun h₁ hns₁ hsb₁ => ?_) ok.kind)
 dsimp only at hns₁ hsb₁ ⊢
 have hfr : H1 s2.heap.objs.size = none := I2.fresh
 have I3 := I2.laid (a := s2.heap.objs.size) (o := .dK []) (t' := s2.toks) (fun _ _ q => Heap.get?_push_of_some _ q) (Nat.le_refl _) (RE s2.heap I2.big)
 generalize hs3 : ({ s2 with heap := s2.heap.push { cls := .type "dict", data := .dict #[] }, toks := s2.toks } : Shared) = s₃ at I3
 have eh : s2.heap.push { cls := .type "dict", dict := none, data := .dict #[] } = s₃.heap := by rw [← hs3]
 rw [eh] at hns₁ hsb₁ ⊢
 have k23 : ∀ b o, s2.heap.get? b = some o → s₃.heap.get? b = some o := fun b o q => by rw [← eh]; exact Heap.get?_push_of_some _ q
 have lt2 : ∀ b ∈ fp, b < s2.heap.objs.size := fun b hb => by
  obtain ⟨o, q, _⟩ := T.obj _ _ st2 b hb
  exact Heap.lt_size q
 have sz3 : s2.heap.objs.size ≤ s₃.heap.objs.size := by rw [← eh, Heap.size_push]; exact Nat.le_succ _
 have f3 : ∀ b ∈ fp, JS X pins (upd H1 s2.heap.objs.size (.dK [])) b := fun b hb => ⟨by rw [AH (Nat.ne_of_lt (lt2 b hb))]; exact (f2 b hb).1, (f2 b hb).2⟩
 have k34 : ∀ b o, s₃.heap.get? b = some o → h₁.get? b = some o := fun b o q => hsb₁.extBut b o (Nat.ne_of_lt (Heap.lt_size q)) (Heap.get?_push_of_some _ q)
 have I4 := MC (t' := s₃.toks) hc hsc hN ok I3 f3 (fun b hb => Nat.lt_of_lt_of_le (lt2 b hb) sz3) hns₁ k34
 generalize hX' : cxC X scope (EN X.env.cells scope.names []) N s₃ (upd H1 s2.heap.objs.size (.dK [])) fp = X' at I4
 obtain ⟨W, ⟨m0, w0⟩, turn⟩ := hW _ hfr
 have st4 : tn 0 h₁ := T.keep _ _ _ st2 fun b hb o q => k34 b o (k23 b o q)
 have stat : ∀ {H' : Hp}, (∀ b ∈ fp, H' b = none) → ∀ b ∈ fp, JS X' [] H' b := fun {H'} hn b hb => by
  subst hX'
  refine ⟨hn b hb, Nat.ne_of_lt (Nat.lt_of_lt_of_le (lt2 b hb) sz3), fun z => ?_, .inl hb, fun x c e => ?_, fun p hp => by cases hp⟩
  ·rcases List.mem_cons.mp (I2.stkSub b z) with q | q
   ·exact (f2 b hb).2.1 q
   ·exact (f2 b hb).2.2.1 q
  ·exact (f2 b hb).2.2.2.2.1 x c (FV (cells := X.env.cells) scope.names [] hfree (fun _ _ e => by cases e) _ _ e)
 have ePr : X'.prog = X.prog := by subst hX'; rfl
 have eW : X'.w = X.w := by subst hX'; rfl
 have eK : X'.K = X.K := by subst hX'; rfl
 have eA : X'.A = X.A := by subst hX'; rfl
 have eE : X'.env = compEnvC scope (EN X.env.cells scope.names []) s₃.heap.objs.size X.env := by subst hX'; rfl
 have eC : X'.calm = true := by subst hX'; rfl
 have eX : X'.xe = fun _ _ => False := by subst hX'; rfl
 have hg' : PG X' tg g := by subst hX'; exact hg _ _ _ _
 have hk' : PE X' kx tk := by subst hX'; exact hk _ _ _ _
 have hv' : PE X' vx tv := by subst hX'; exact hv _ _ _ _
 have fin : ∀ {σ' : St} {H' : Hp} {s' : Shared}, Inv X' [] σ' H' s' → (∀ b ∈ fp, H' b = none) → Q (.ref s2.heap.objs.size) H' → compPost (model X.prog X.w) X.A X.xe none (EP X pins σ Q) (.ref s2.heap.objs.size) s₃.heap.objs.size (.ok .next) s' := by
  intro σ' H' s' I' hn q
  obtain ⟨m, hm, _⟩ := id I'.loc
  subst hX'
  refine ⟨m, hm, fun h'' sb => ⟨.ref s2.heap.objs.size, H', ?_, rfl, q⟩⟩
  have fC : H' s₃.heap.objs.size = none := I'.free
  have hok' : HOk X.prog X.w H' h'' := fun b ob e => by
   refine (I'.hok b ob e).stay (fun c w' hc' q' => (sb.2 c ?_).trans q') (fun _ q' => q') fun _ _ q' => q'
   rintro rfl
   rcases hc' with z | z
   ·have e' := e; rw [← z] at e'; rw [fC] at e'; cases e'
   ·rw [fC] at z; cases z
  have u1 : Un (frs X.stack) fp (upd H1 s2.heap.objs.size (.dK [])) H' s₃.heap h'' := by
   have b0 := I'.base
   have ne : ∀ b o, s₃.heap.get? b = some o → b ≠ s₃.heap.objs.size := fun b o e => Nat.ne_of_lt (Heap.lt_size e)
   exact ⟨fun b o e n hb hx => (sb.2 b (ne b o e)).trans (b0.keep b o e n hb hx), fun b o e n hb hx => by
     obtain ⟨sl, z⟩ := b0.slot b o e n hb hx
     exact ⟨sl, (sb.2 b (ne b o e)).trans z⟩, b0.free, fun b o e hx => by
     obtain ⟨o', z⟩ := b0.there b o e hx
     exact ⟨o', (sb.2 b (ne b o e)).trans z⟩, b0.tups, b0.frzs, b0.tbls⟩
  exact I3.call' (s' := { s' with heap := h'' }) (ch := fp) I'.os u1 hok' I'.bare fun b hb => ⟨(f2 b hb).2.2.2.1, (f2 b hb).2.1, (f2 b hb).2.2.2.2.1, (f2 b hb).2.2.2.2.2⟩
 have loop : codeAny (model X.prog X.w) X.A (.compLoop (.DictComp kx vx [⟨tg, iter, [], 0⟩] scope pos) 0 (.ref it) (.ref s2.heap.objs.size) (compEnvC scope (EN X.env.cells scope.names []) s₃.heap.objs.size X.env))
   (compPost (model X.prog X.w) X.A X.xe none (EP X pins σ Q) (.ref s2.heap.objs.size) s₃.heap.objs.size) { s₃ with heap := h₁, toks := s₃.toks } := by
  refine TR (fun n s' => ∃ i σ' H', Inv X' [] σ' H' s' ∧ tn i s'.heap ∧ (∀ b ∈ fp, H' b = none) ∧ W i n σ' H') ?_ m0 ⟨0, _, _, I4, st4, fun b hb => (f3 b hb).1, w0⟩
  rintro n s5 ⟨i, σ5, H5, I5, st5, fr5, w5⟩
  rw [← ePr, ← eW, ← eA, ← eE]
  rcases turn i n σ5 H5 w5 with ⟨stop, qn⟩ | ⟨go, step⟩
  ·have := T.done X' ePr eW eK eC i [] s5 σ5 H5 X'.xe I5 (stat fr5) st5 stop
   rw [eX] at this
   rw [← ePr, ← eW] at this
   refine thn this fun r s6 ⟨hr, I6⟩ => ?_
   subst hr
   dsimp only
   rw [ePr, eW, eA]
   exact fin I6 fr5 qn
  ·have := T.item X' ePr eW eK eC i [] s5 σ5 H5 X'.xe I5 (stat fr5) st5 go
   rw [eX] at this
   rw [← ePr, ← eW] at this
   refine thn this fun r s6 ⟨u, hr, h6⟩ => ?_
   subst hr
   dsimp only
   refine thn h6 fun _ s7 ⟨x, H7, I7, r7, y7, st7, fr7⟩ => ?_
   have I7' := I7.pinned (stat fr7) (T.obj _ _ st7)
   have g7 := hg' _ s7 σ5 H7 x u _ I7' r7 (step x H7 y7)
   rw [eX] at g7
   refine thn g7 fun _ s8 ⟨σ8, H8, I8, q8⟩ => ?_
   have again : ∀ {σ9 : St} {H9 : Hp} {s9 : Shared}, Inv X' ([] ++ IL fp s7.heap) σ9 H9 s9 → tn (i + 1) s9.heap ∧ ∀ b ∈ fp, H9 b = none := fun {σ9 H9 s9} I9 => by
    refine ⟨T.keep _ _ _ st7 fun b hb o e => (I9.pin (b, o) (List.mem_append_right _ (List.mem_append_right _ (DI hb e)))).1, fun b hb => ?_⟩
    obtain ⟨o, e, d⟩ := T.obj _ _ st7 b hb
    exact (I9.pin (b, o) (List.mem_append_right _ (List.mem_append_right _ (DI hb e)))).2.1
   have k8 := hk' _ s8 σ8 H8 _ I8 q8
   rw [eX] at k8
   refine thn k8 fun y s9 ⟨y9, H9, I9, r9, q9⟩ => ?_
   have v9 := hv' _ s9 σ8 H9 _ I9 q9
   rw [eX] at v9
   refine thn v9 fun z s10 ⟨z10, H10, I10, r10, q10⟩ => ?_
   obtain ⟨kvs, k, ey, hp, hlen, m', hm, w11⟩ := q10
   subst ey
   obtain ⟨hl, hsm', vs, rel, dd⟩ := iQ I10.hok hp
   refine wpAny_dictSet_pairs (hsz := by rw [← Paired.length rel]; exact hl) (bG k y r9) dd fun h' dd' hss => ?_
   have he : ∃ q, h'.get? s2.heap.objs.size = some q := let ⟨q, _, _, hq, _⟩ := dd'; ⟨q, hq⟩
   have I11 := QJ (ob := .dK (EC kvs k z10)) (t' := s10.toks + 1) I10 (by rw [hp]; exact True.intro) hss he ⟨bJ hlen, hsm', _, rel.put k r10, dd'⟩
   exact ⟨m', hm, i + 1, σ8, _, I11.unpinned, (again I11).1, (again I11).2, w11⟩
 have es : ({ s2 with heap := h₁, toks := s2.toks + ([] : List (Str × Value)).length } : Shared) = { s₃ with heap := h₁, toks := s₃.toks } := by rw [← hs3]; rfl
 rw [show ({ s2 with heap := h₁, toks := s2.toks + ([] : List (Str × Value)).length } : Shared) = { s₃ with heap := h₁, toks := s₃.toks } from es]
 exact codeAny_compStart_dict loop (T.self _ 0 _ _ _ st4 loop)
end
def DKW (J : It) (g : TG) (tk tv : TE) (p : Addr) (Q : VK) (σ : St) (H1 : Hp) : Prop := ∃ W : Nat → Nat → St → Hp → Prop, (∃ m, W 0 m σ H1) ∧ ∀ i m σ H, W i m σ H →
  (J.stop i H ∧ Q (.ref p) H) ∨ (J.go i H ∧ ∀ x H', J.yld i H x H' → g x σ H' fun σ2 H2 => tk σ2 H2 fun y H3 => tv σ2 H3 fun z H4 =>
   ∃ (kvs : List (Key × V)) (k : Key), y = kV k ∧ H4 p = some (.dK kvs) ∧ kvs.length < sizeLine ∧ ∃ m', m' < m ∧ W (i + 1) m' σ2 (upd H4 p (.dK (EC kvs k z))))
theorem GP (js : List Nat) (os : List Str) (wi : TI) (g : TG) (tk tv : TE) (σ : St) (H : Hp) (Q : VK) : WI js os wi g tk tv σ H Q = wi σ H fun J H1 => ∀ p, H1 p = none → DKW J g tk tv p Q (stC js os σ) (upd H1 p (.dK [])) := rfl
theorem fK {K : PySem.W.Frag} {a : Addr} {xs : List V} {g : TG} {tk tv : TE} {p : Addr} {Q : VK} {σ : St} {H : Hp} (Pv : Nat → St → Hp → Prop) (h0 : Pv 0 σ H) (hl : ∀ i σ H, i ≤ xs.length → Pv i σ H → SqT K H a xs)
  (hs : ∀ i x σ H, xs[i]? = some x → Pv i σ H → g x σ H fun σ2 H2 => tk σ2 H2 fun y H3 => tv σ2 H3 fun z H4 => ∃ (kvs : List (Key × V)) (k : Key), y = kV k ∧ H4 p = some (.dK kvs) ∧ kvs.length < sizeLine ∧ Nx xs.length i (Pv (i + 1) σ2 (upd H4 p (.dK (EC kvs k z)))))
  (hd : ∀ σ H, Pv xs.length σ H → Q (.ref p) H) : DKW (Itt K a) g tk tv p Q σ H := by
 refine ⟨fun i m σ H => m = xs.length - i ∧ i ≤ xs.length ∧ Pv i σ H, ⟨xs.length, by simp, Nat.zero_le _, h0⟩, ?_⟩
 rintro i m σ H ⟨rfl, hi, q⟩
 have w := hl i σ H hi q
 by_cases hlt : i < xs.length
 ·refine .inr ⟨⟨xs, xs[i], w, by simp [hlt]⟩, fun x H' y => ?_⟩
  obtain ⟨e, y⟩ := y
  subst e
  exact hs i x σ _ (y xs w) q
 ·have e : i = xs.length := by omega
  subst e
  exact .inl ⟨⟨xs, w, Nat.le_refl _⟩, hd σ H q⟩
def RK (td ty : TE) : TE := fun σ H Q => td σ H fun x H1 => ty σ H1 fun y H2 => DO x fun a => ∃ kvs k v, Rd H2 a (.dK kvs) ∧ y = kV k ∧ FQ kvs k = some v ∧ Q v H2
def TB (td ty tv : TE) : TS := fun D σ H => tv σ H fun v H1 => td σ H1 fun x H2 => ty σ H2 fun y H3 => DO x fun a => ∃ kvs k, H3 a = some (.dK kvs) ∧ y = kV k ∧ kvs.length < sizeLine ∧ D.nx σ (upd H3 a (.dK (EC kvs k v)))
def cX (neg : Bool) : R2 := fun y x H Q => DO x fun a => ∃ kvs k, Rd H a (.dK kvs) ∧ y = kV k ∧ Q (.bl (if neg then !(FQ kvs k).isSome else (FQ kvs k).isSome)) H
section
variable {X : Cx} {o i e value : Expr} {pos pos' : Pos} {td ty tv : TE}
theorem PU (hu : X.A.units + 1 < cLine) (ho : PE X o td) (hi : PE X i ty) (hs : mG i) : PE X (.Subscript o i pos) (RK td ty) := by
 intro pins s σ H Q I h
 refine hZ PySem.F.slot_dict_getitem.lookup hs (thn (ho pins s σ H _ I h) fun u s1 ⟨x, H1, I1, rx, q1⟩ => thn (hi pins s1 σ H1 _ I1 q1) fun iv s2 ⟨y, H2, I2, ry, q2⟩ => ?_)
 obtain ⟨a, rfl, kvs, k, v, hr, rfl, hv, q2⟩ := DO.ex q2
 obtain rfl : u = Value.ref a := rx
 have g : fL H2 a (kV k) (some v) := .inl ⟨kvs, k, hr, rfl, hv.symm⟩
 exact ⟨SI I2 g, YA hu I2 g ry fun w' s3 I3 rw' => ⟨v, H2, I3, rw', q2⟩⟩
theorem VS (hu : X.A.units + 1 < cLine) (ho : PE X o td) (hi : PE X i ty) (hv : PE X value tv) (hs : swapsWith value (some (.Subscript o i pos')) pos.line X.env = pure false := by rfl) : PS X (.Assign [.Subscript o i pos'] value pos) (TB td ty tv) := by
 intro pins s σ H D I h
 refine wpAny_Assign_Subscript (thn (hv pins s σ H _ I h) fun r s1 ⟨v, H1, I1, rv, q1⟩ => thn (ho pins s1 σ H1 _ I1 q1) fun u s2 ⟨x, H2, I2, rx, q2⟩ => thn (hi pins s2 σ H2 _ I2 q2) fun iv s3 ⟨y, H3, I3, ry, q3⟩ => ?_) hs
 obtain ⟨a, rfl, kvs, k, hr, rfl, hl, q3⟩ := DO.ex q3
 obtain rfl : u = Value.ref a := rx
 exact ZE hu I3 (fS.k hr hl) ry rv fun s4 I4 => ⟨σ, _, I4, q3⟩
theorem XR (hu : X.A.units + 1 < cLine) : OpR X (compareOp .NotIn) (cX true) := by
 intro pins s σ H y x iv u Q I ry rx h
 obtain ⟨a, rfl, kvs, k, hr, rfl, q⟩ := DO.ex h
 obtain rfl : u = Value.ref a := rx
 exact iB hu I (.inl ⟨kvs, k, hr, rfl, rfl⟩) ry fun s3 I3 => ⟨.bl (!(FQ kvs k).isSome), H, I3, rfl, q⟩
end
theorem fM : entryFor table "BaseException.__getattribute__" = some Builtin.«object.__getattribute__» := entryFor_alias (id' := "object.__getattribute__") (by kernel_rfl) (by decide +kernel) (by decide +kernel) (by kernel_rfl)
theorem UL : plainId "BaseException.__getattribute__" = true := by decide +kernel
theorem XU : builtinKind "BaseException.__getattribute__" = some .slot := by kernel_rfl
theorem UD : splitId "BaseException.__getattribute__" = some ("BaseException", "__getattribute__") := by kernel_rfl
theorem YB (v u : Value) : argsOk "BaseException.__getattribute__" ⟨[v, u], []⟩ := by kernel_rfl
theorem XH (v : Value) : bindSpecial (.builtin "BaseException.__getattribute__") v = pure (.builtin "BaseException.__getattribute__", [v]) := by
 have e : typeOf (.builtin "BaseException.__getattribute__") = pure (.type "wrapper_descriptor") := by kernel_rfl
 unfold bindSpecial
 rw [e, pure_bind]
 rfl
theorem gM : builtinKind "getset_descriptor.__get__" = some .slot := by kernel_rfl
theorem eJ : splitId "getset_descriptor.__get__" = some ("getset_descriptor", "__get__") := by kernel_rfl
theorem iA (v u z : Value) : argsOk "getset_descriptor.__get__" ⟨[v, u, z], []⟩ := by kernel_rfl
theorem aA : plainId "getset_descriptor.__get__" = true := by decide +kernel
theorem RR : plainId "object.__class__" = true := by decide +kernel
theorem dM : entryFor table "object.__class__" = some Builtin.«object.__class__» := entryFor_of_tree (by kernel_rfl)
theorem gB : typeOf (.builtin "object.__class__") = pure (.type "getset_descriptor") := by kernel_rfl
theorem kO : isSubtype (.type "getset_descriptor") (.type "getset_descriptor") = pure true := by kernel_rfl
theorem YO {prog : Program} {w : World} {A : Around} {E : Value → Shared → Prop} {Q : Option Value → Shared → Prop} {s : Shared} {K : PySem.W.Frag} {HE C x : Addr} {ox : Obj} (qC : CI K HE C = true) (k : K.In s.heap) (hx : s.heap.get? x = some ox) (hcls : ox.cls = .ref C)
  (f1 : PySem.W.findIn K (.ref C) "__getattribute__" = some (some (.builtin "BaseException.__getattribute__"))) (f2 : PySem.W.findIn K (.ref C) "__getattr__" = some none) (f3 : PySem.W.findIn K (.ref C) "__class__" = some (some (.builtin "object.__class__")))
  (f4 : PySem.W.specialIn K (.builtin "object.__class__") "__get__" = some (some (.builtin "getset_descriptor.__get__"))) (f5 : PySem.W.takesIn K (.builtin "object.__class__") = some true) (f6 : PySem.W.mroIn K C (.type "object") = some true)
  (h : Q (some (.ref C)) { s with toks := s.toks + 1 }) : wpAny (model prog w) A (getAttr? (.ref x) "__class__") Q E s := by
 obtain ⟨hp, g, d, t, os⟩ := s
 obtain ⟨nm, q, N, bs, hdct, sn, sub, ab, col, dd, k0, k1, k2, k3, k5, _, hC, _, _, _⟩ := CI.obj qC k
 unfold getAttr? getAttrBy? getAttrBy
 repeat (any_goals (first | assumption | (with_reducible refine wpAny_loadPart_at hx ?_; rw [hcls]) | (with_reducible refine (PySem.W.looks_findIn k f1) _ _ _ _ (fun _ _ e => e) ?_) | wp_step))
 refine PySem.W.looks_findIn (h := hp) k f1 _ _ _ _ (fun _ _ e => e) ?_
 show wpAny _ _ (if (onTheHeap (Value.ref C) && Value.builtin "BaseException.__getattribute__" == Value.builtin "object.__getattribute__") = true then _ else getAttrByItsOwn _ _ _ _ _ _) _ _ _
 rw [if_neg (by simp)]
 unfold getAttrByItsOwn hookBefore
 rw [if_pos (by rfl)]
 refine wpAny_bind (PySem.W.looks_findIn (h := hp) k f2 _ _ _ _ (fun _ _ e => e) ?_)
 unfold callGetattribute
 repeat (any_goals (first | assumption | wp_step))
 rw [XH]
 refine wpAny_pure ?_
 show wpAny _ _ (call (Value.builtin "BaseException.__getattribute__") [Value.ref x, Value.str (Str.ofString "__class__") t]) _ _ _
 refine wpAny_call (codeAny_call_builtin UL fM ?_)
 unfold checkBuiltinCall
 rw [XU, UD]
 dsimp only
 unfold isInstance
 have hB : (Value.ref C :: .ref HE :: veB).contains (.type "BaseException") = true := by rw [List.contains_cons, List.contains_cons]; rfl
 refine wpAny_bind (wpAny_bind ?_)
 repeat (any_goals (first | (with_reducible refine wpAny_loadPart_at hx ?_; rw [hcls]) | wp_step))
 refine wpAny_isSubtype_exc hC ?_
 rw [hB]
 simp only [Bool.not_true, Bool.false_eq_true, if_false]
 refine wpAny_of_eq (a := ()) (YB _ _) ?_
 unfold Builtin.«object.__getattribute__»
 repeat (any_goals (first | (with_reducible refine wpAny_loadPart_at hx ?_; rw [hcls]) | wp_step))
 refine PySem.W.looks_findIn (h := hp) k f3 _ _ _ _ (fun _ _ e => e) ?_
 show wpAny _ _ (Builtin.ObjectAttr.getOf (some (Value.builtin "object.__class__")) >>= _) _ _ _
 unfold Builtin.ObjectAttr.getOf
 refine wpAny_bind (PySem.W.looks_specialIn (h := hp) k f4 _ _ _ _ (fun _ _ e => e) ?_)
 show wpAny _ _ (Builtin.ObjectAttr.dataDescriptor? (some (Value.builtin "object.__class__")) (some (Value.builtin "getset_descriptor.__get__")) >>= _) _ _ _
 unfold Builtin.ObjectAttr.dataDescriptor?
 refine wpAny_bind (wpAny_bind (PySem.W.looks_takesIn (h := hp) k f5 _ _ _ _ (fun _ _ e => e) ?_))
 rw [if_pos rfl]
 refine wpAny_pure (wpAny_bind (wpAny_rule (wpAny_pure ?_)))
 show wpAny _ _ (Builtin.ObjectAttr.bindTo (Value.builtin "getset_descriptor.__get__") (Value.builtin "object.__class__") (Value.ref x) (Value.ref C)) _ _ _
 show wpAny _ _ (holding [Value.builtin "object.__class__"] (call (Value.builtin "getset_descriptor.__get__") [Value.builtin "object.__class__", Value.ref x, Value.ref C]) >>= _) _ _ _
 refine wpAny_bind (wpAny_holding (wpAny_call (codeAny_call_builtin aA PySem.F.entry_gs_get ?_)))
 unfold checkBuiltinCall
 rw [gM, eJ]
 dsimp only
 unfold isInstance
 rw [gB, pure_bind, kO, pure_bind]
 simp only [Bool.not_true, Bool.false_eq_true, if_false]
 refine wpAny_of_eq (a := ()) (iA _ _ _) ?_
 unfold Builtin.«getset_descriptor.__get__» Builtin.Getset_descriptor.descrGet Builtin.Getset_descriptor.descrGetArgs Builtin.Getset_descriptor.descrGetter
 repeat (any_goals (first | (with_reducible refine wpAny_loadPart_at hx ?_; rw [hcls]) | wp_step))
 have eo : (".".intercalate ("object.__class__".cutAt '.').dropLast) = "object" := by kernel_rfl
 rw [eo]
 refine PySem.W.looks_mroIn (h := hp) k f6 _ _ _ _ (fun _ _ e => e) ?_
 simp only [Bool.not_true, Bool.false_eq_true, if_false]
 refine wpAny_pure ?_
 show wpAny _ _ (again (Code.builtin "object.__class__" { pos := [Value.ref x] })) _ _ _
 refine wpAny_pure ⟨plainId_quiet RR _, codeAny_builtin dM ?_⟩
 rw [Around.under_plainId RR _]
 unfold Builtin.«object.__class__»
 repeat (any_goals (first | (with_reducible refine wpAny_loadPart_at hx ?_; rw [hcls]) | wp_step))
 exact h
def aU (K : PySem.W.Frag) (HE C : Addr) : Bool := CI K HE C && (PySem.W.findIn K (.ref C) "__getattribute__" == some (some (.builtin "BaseException.__getattribute__"))) && (PySem.W.findIn K (.ref C) "__getattr__" == some none) && (PySem.W.findIn K (.ref C) "__class__" == some (some (.builtin "object.__class__")))
 && (PySem.W.specialIn K (.builtin "object.__class__") "__get__" == some (some (.builtin "getset_descriptor.__get__"))) && (PySem.W.takesIn K (.builtin "object.__class__") == some true) && (PySem.W.mroIn K C (.type "object") == some true)
theorem LQ {K : PySem.W.Frag} {HE C x : Addr} (q : aU K HE C = true) : PySem.W.KitX K (.ref x) (.ref C) fun h => ∃ ox, h.get? x = some ox ∧ ox.cls = .ref C := by
 unfold aU at q
 simp only [Bool.and_eq_true, beq_iff_eq] at q
 obtain ⟨⟨⟨⟨⟨⟨q0, q1⟩, q2⟩, q3⟩, q4⟩, q5⟩, q6⟩ := q
 refine ⟨fun M h k hx => ?_, fun M h k hx => ?_, fun h tp dd its n sl k e => ?_, fun {prog w A E Q s} k hx hq => ?_⟩
 ·obtain ⟨ox, hx, hc⟩ := hx
  intro A Q E s keep hq
  unfold typeOf
  obtain ⟨hp, g, d, t, os⟩ := s
  have hx' : hp.get? x = some ox := keep _ _ hx
  repeat (any_goals (first | (with_reducible refine wpAny_loadPart_at hx' ?_; rw [hc]) | wp_step))
  exact hq
 ·obtain ⟨nm, q, N, bs, hdct, sn, sub, ab, col, dd, k0, k1, k2, k3, k5, _, hC, _, _, _⟩ := CI.obj q0 k
  intro A Q E s keep hq
  obtain ⟨hp, g, d, t, os⟩ := s
  have hC' := keep _ _ hC
  unfold isType
  repeat (any_goals (first | (with_reducible refine wpAny_loadPart_at hC' ?_) | wp_step))
  exact hq
 ·obtain ⟨nm, q, N, bs, hdct, sn, sub, ab, col, dd, k0, k1, k2, k3, k5, _, hC, _, _, _⟩ := CI.obj q0 k
  have ne : C ≠ tp := by
   rintro rfl
   rw [e] at hC
   have z : Value.type "tuple" = Value.type "type" := congrArg Obj.cls (Option.some.inj hC)
   exact absurd z (by decide)
  simpa using ne
 ·obtain ⟨ox, hx, hc⟩ := hx
  exact YO q0 k hx hc q1 q2 q3 q4 q5 q6 hq
def NC (K : PySem.W.Frag) (HE : Addr) : Bool := PySem.W.ktsIn K HE "BaseException" && match K.lookup HE with
 | some ⟨_, _, .cls cd, _⟩ => cd.mro == (.ref HE :: veB)
 | _ => false
theorem NC.obj {K : PySem.W.Frag} {HE : Addr} {h : Heap} (q : NC K HE = true) (k : K.In h) : ∃ nm qn N bs hdct sn sub ab col dd k0 k1 k2 k3 k5 nid, h.get? HE = some (excClassObj nm qn HE N bs veB hdct sn sub ab col dd k0 k1 k2 k3 k5 nid) := by
 unfold NC at q
 simp only [Bool.and_eq_true] at q
 obtain ⟨q1, q3⟩ := q
 obtain ⟨nm, qn, N, bs, bm, hdct, sn, sub, ab, col, dd, k0, k1, k2, k3, k5, nid, e, _, _⟩ := PySem.W.kts_cls k q1
 split at q3
 ·rename_i c0 d0 cd sl lk
  have e2 := k _ _ lk
  rw [e] at e2
  simp only [Option.some.injEq, Obj.mk.injEq, Data.cls.injEq] at e2
  obtain ⟨_, _, rfl, _⟩ := e2
  have q3 : Value.ref HE :: bm = .ref HE :: veB := beq_iff_eq.mp q3
  injection q3 with _ q3
  subst q3
  exact ⟨nm, qn, N, bs, hdct, sn, sub, ab, col, dd, k0, k1, k2, k3, k5, nid, e⟩
 ·cases q3
theorem TZ {M : Model} {A : Around} {E : Value → Shared → Prop} {K : PySem.W.Frag} {HE C e : Addr} {s : Shared} {oe : Obj} {Q : Bool → Shared → Prop} (qC : CI K HE C = true) (qH : NC K HE = true) (k : K.In s.heap)
  (he : s.heap.get? e = some oe) (hcls : oe.cls = .ref C) (hq : Q true s) : wpAny M A (excMatches (.ref e) (.ref HE)) Q E s := by
 obtain ⟨nm, q, N, bs, hdct, sn, sub, ab, col, dd, k0, k1, k2, k3, k5, _, hC, _, _, _⟩ := CI.obj qC k
 obtain ⟨nm', q', N', bs', hdct', sn', sub', ab', col', dd', l0, l1, l2, l3, l5, nid, hD⟩ := NC.obj qH k
 obtain ⟨h, g, d, t, os⟩ := s
 have hcB : (Value.ref HE :: veB).contains (.type "BaseException") = true := by rw [List.contains_cons]; rfl
 have hcC : (Value.ref C :: .ref HE :: veB).contains (.ref HE) = true := by
  rw [List.contains_cons, List.contains_cons]; simp
 have f := tc_notTuple
 unfold excMatches
 repeat (first | (with_reducible refine wpAny_loadPart_at he ?_; rw [hcls]) | with_reducible refine wpAny_loadPart_at hD ?_ | (with_reducible refine wpAny_isSubtype_exc hD ?_; rw [hcB]) | (with_reducible refine wpAny_isSubtype_exc hC ?_; rw [hcC]) | wp_step)
 exact hq
abbrev Cx.subP (X : Cx) (a : Addr) (oe : Obj) : Cx := { X.sub a with pn := X.pn ++ [(a, oe)] }
section
variable {X : Cx} {pins : List (Addr × Obj)} {σ : St} {H : Hp} {s : Shared} {a : Addr} {oe : Obj}
theorem Inv.subP (I : Inv X pins σ H s) (he : s.heap.get? a = some oe) (hn : H a = none) (hl : a ≠ X.env.locals) (hf : a ∉ X.fs) (hc : ∀ v, oe.data ≠ .cell v) : Inv (X.subP a oe) pins σ H s :=
 ⟨⟨I.ok.mod, I.ok.kind, I.ok.glob, I.ok.blt, I.ok.above, I.ok.inj, I.ok.has, I.ok.cab, (fun z => by cases z), I.ok.frames, I.ok.stk, I.ok.exf, I.ok.bs, I.ok.bsz, I.ok.noex, I.ok.exfs, I.ok.funs, I.ok.frf⟩, I.os, I.bare, I.base, I.loc, I.cell, I.free, I.freeC, (fun p hp => by
  rw [List.append_assoc, List.mem_append] at hp
  rcases hp with hp | hp
  ·exact I.pin p (List.mem_append_left _ hp)
  ·rcases List.mem_cons.mp hp with rfl | hp
   ·exact ⟨he, hn, hl, hf, hc⟩
   ·exact I.pin p (List.mem_append_right _ hp)), I.hok, I.len⟩
theorem Inv.unsubP (ok : X.Ok) (I : Inv (X.subP a oe) pins σ H s) : Inv X pins σ H s := ⟨ok, I.os, I.bare, I.base, I.loc, I.cell, I.free, I.freeC, (fun p hp => I.pin p (by
  rw [List.append_assoc]
  rcases List.mem_append.mp hp with hp | hp
  ·exact List.mem_append_left _ hp
  ·exact List.mem_append_right _ (List.mem_append_right _ hp))), I.hok, I.len⟩
theorem SP.unsubP (ok : X.Ok) {D : GK} {f : Flow} {s' : Shared} (h : SP (X.subP a oe) pins D f s') : SP X pins D f s' := by
 cases f with
 | next => obtain ⟨σ', H', I, q⟩ := h; exact ⟨σ', H', I.unsubP ok, q⟩
 | brk => obtain ⟨σ', H', I, q⟩ := h; exact ⟨σ', H', I.unsubP ok, q⟩
 | cont => obtain ⟨σ', H', I, q⟩ := h; exact ⟨σ', H', I.unsubP ok, q⟩
 | ret u => obtain ⟨v, σ', H', I, r, q⟩ := h; exact ⟨v, σ', H', I.unsubP ok, r, q⟩
theorem CS.there {P : Program} {w : World} {H : Hp} {h : Heap} {a : Addr} {o : HO} (x : CS P w H h a o) : ∃ u, h.get? a = some u := by
 cases o with
 | lst xs => obtain ⟨_, _, _, _, e⟩ := x; exact ⟨_, e⟩
 | tup xs => obtain ⟨_, _, _, p⟩ := x; obtain ⟨_, e, _⟩ := p; exact ⟨_, e⟩
 | dK kvs => obtain ⟨_, _, _, _, o, _, _, e, _⟩ := x; exact ⟨_, e⟩
 | dT kvs => obtain ⟨_, _, _, _, o, _, _, e, _⟩ := x; exact ⟨_, e⟩
 | set S n => obtain ⟨o, _, _, _, e, _⟩ := x; exact ⟨_, e⟩
 | ins C dx fs => obtain ⟨_, _, _, e, _⟩ := x; exact ⟨_, e⟩
 | own y => obtain ⟨_, e⟩ := x; exact ⟨_, e⟩
 | xd fs => obtain ⟨_, ⟨_, _, _, e, _⟩, _⟩ := x; exact ⟨_, e⟩
 | rng lo hi => obtain ⟨_, _, _, e⟩ := x; exact ⟨_, e⟩
 | frz ob u => obtain ⟨e, _⟩ := x; exact ⟨_, e⟩
 | tbl ps => exact ⟨_, (show h.get? a = some _ from x)⟩
 | met f y => exact ⟨_, (show h.get? a = some _ from x)⟩
 | ext φ => obtain ⟨_, ⟨_, e⟩, _⟩ := x; exact ⟨_, e⟩
theorem RA {C a0 : Value} {B : Heap} (fl : Heap.FlyingW B X.stack a C a0 s.heap) (st : ∀ h2, B.StaysIn h2 → s.heap.UpToSlots h2 → Inv X pins σ H { s with heap := h2 }) :
  H a = none ∧ a ≠ X.env.locals ∧ a ∉ X.fs ∧ ∃ oe, s.heap.get? a = some oe ∧ oe.cls = C ∧ ∀ v, oe.data ≠ .cell v := by
 obtain ⟨f1, f2, f3, oe, vs, T, oT, ts, he, ⟨hc, _⟩, hd, _⟩ := fl
 have J := st (PySem.W.hideAll s.heap [a]) (fun b o q => PySem.W.hideAll_get _ (f1 b o q) (by
   rw [List.mem_singleton]
   rintro rfl
   rw [f2] at q; cases q)) (fun b o q nd => ⟨o.slots, PySem.W.hideAll_get _ q (by
   rw [List.mem_singleton]
   rintro rfl
   rw [he] at q; cases q
   exact nd _ hd)⟩)
 have hna : (PySem.W.hideAll s.heap [a]).get? a = none := PySem.W.hideAll_none _ (List.mem_singleton.mpr rfl)
 refine ⟨?_, ?_, fun z => ?_, oe, he, hc, fun v z => by rw [hd] at z; cases z⟩
 ·cases e : H a with
  | none => rfl
  | some u =>
   obtain ⟨o, q⟩ := (J.hok a u e).there
   rw [hna] at q; cases q
 ·rintro rfl
  obtain ⟨m, ⟨o, _, _, q, _⟩, _⟩ := J.loc
  have q : (PySem.W.hideAll s.heap [X.env.locals]).get? X.env.locals = some o := q
  rw [hna] at q; cases q
 ·have J0 := st s.heap f1 (MZ _)
  have : a ∈ frs X.stack := by
   rcases J0.ok.stk with e | ⟨e, _⟩
   ·rw [e]; exact z
   ·rw [e]; unfold frs; rw [List.filterMap_cons]; split
    ·exact z
    ·exact List.mem_cons_of_mem _ z
  obtain ⟨o, q, nd⟩ := FB f3 a this
  rw [he] at q; cases q
  exact nd _ hd
theorem HL {M : Model} {A : Around} {E : Value → Shared → Prop} {i : Nat} {x : Str} {pos : Pos} {Q : Unit → Shared → Prop} (I : Inv X pins σ H s) (hN : X.N.Nodup) (hi : X.N[i]? = some x) (hk : X.env.kindOf x = some .local)
  (h : ∀ s', Inv X pins (σ.set i none) H s' → Q () s') : wpAny M A (do bindName X.env x Value.none; unbindBehindTheSuite X.env x pos) Q E s := by
 obtain ⟨m, hn, hl⟩ := id I.loc
 have hcls : (X.env.scope.kind == .class || (X.env.scope.kind == .module && X.env.locals != X.env.globals)) = false := by rw [I.ok.kind]; rfl
 have hiσ : i < σ.length := by rw [I.len]; exact (List.getElem?_eq_some_iff.mp hi).1
 have cne := I.cne
 obtain ⟨oL, _, _, hoL, _⟩ := id hn
 refine wpAny_nameGoes_keeps hk hn hcls fun h' v hn' hs => ?_
 have tracked : HOk X.prog X.w H h' := fun b ob e => by
  refine (I.hok b ob e).stay (fun c w' hc q => (hs.2 c ?_).trans q) (fun _ q => q) fun _ _ q => q
  rintro rfl
  rcases hc with rfl | hc
  ·rw [I.free] at e; cases e
  ·rw [I.free] at hc; cases hc
 refine h _ ⟨I.ok, I.os, I.bare, ⟨fun b o e n hb hx => ?_, fun b o e n hb hx => ?_, I.base.free, fun b o e hx => ?_, I.base.tups, I.base.frzs, I.base.tbls⟩, ⟨_, hn', fun j y v' e1 e2 e3 => ?_⟩, fun y c e => ?_, I.free, I.freeC, fun p hp => ?_, tracked, by simpa using I.len⟩
 ·exact (hs.2 b (Nat.ne_of_lt (Nat.lt_of_lt_of_le (Heap.lt_size e) I.ok.above))).trans (I.base.keep b o e n hb hx)
 ·obtain ⟨sl, e1⟩ := I.base.slot b o e n hb hx
  exact ⟨sl, (hs.2 b (Nat.ne_of_lt (Nat.lt_of_lt_of_le (Heap.lt_size e) I.ok.above))).trans e1⟩
 ·obtain ⟨o', e1⟩ := I.base.there b o e hx
  exact ⟨o', (hs.2 b (Nat.ne_of_lt (Nat.lt_of_lt_of_le (Heap.lt_size e) I.ok.above))).trans e1⟩
 ·by_cases hj : j = i
  ·subst hj
   rw [List.getElem?_set_self hiσ] at e2
   cases e2
  ·rw [List.getElem?_set_ne (Ne.symm hj)] at e2
   obtain ⟨u', r', q⟩ := hl j y v' e1 e2 e3
   refine ⟨u', r', ?_⟩
   rcases q with ⟨k, e⟩ | ⟨k, c, e, z⟩
   ·refine .inl ⟨k, ?_⟩
    have : y ≠ x := fun e => hj (LJ hN e1 (e ▸ hi))
    simp [this, e]
   ·exact .inr ⟨k, c, e, z.sameBut hs (cne y c e)⟩
 ·obtain ⟨w', z⟩ := I.cell y c e
  exact ⟨w', z.sameBut hs (cne y c e)⟩
 ·obtain ⟨e, n, ne, nf, d⟩ := I.pin p hp
  exact ⟨(hs.2 p.1 ne).trans e, n, ne, nf, d⟩
def fgE (i : Nat) (D : GK) : GK := { nx := fun σ H => D.nx (σ.set i none) H, rt := D.rt, bk := fun σ H => D.bk (σ.set i none) H, ct := fun σ H => D.ct (σ.set i none) H }
def bC (K : PySem.W.Frag) (HE : Addr) (i : Nat) (ts : Addr → Addr → TS) : HX := fun C D σ H => ∃ c, C = .ref c ∧ CI K HE c = true ∧ ∀ a, ts a c (fgE i D) (σ.set i (some (.ref a))) H
theorem mQ {HE : Addr} {y x : Str} {np pos : Pos} {b₀ : Stmt} {suite : List Stmt} {EA : List ExceptHandler} {ts : Addr → Addr → TS} {i : Nat} (hg : Gl X y) (hm : X.mg y = some (.ref HE)) (hd : NC X.K HE = true)
  (hN : X.N.Nodup) (hi : X.N[i]? = some x) (hk : X.env.kindOf x = some .local) (hs : ∀ a c oe, oe.cls = .ref c → PSs (X.subP a oe) (b₀ :: suite) (ts a c)) (hdb : (y == ("__debug__" : Str)) = false := by decide) :
  PH X (.ExceptHandler (some (.Name y np)) (some x) (b₀ :: suite) pos :: EA) (bC X.K HE i ts) := by
 intro pins s σ H D a C a0 B ok fl st h
 obtain ⟨c, rfl, hc, h⟩ := h
 have I0 := st s.heap fl.1 (MZ _)
 obtain ⟨oe, he, hcls⟩ := fl.there
 refine wpAny_handleBy_cons (codeAny_handlers_test (FH (X := X.sub a) (I0.sub a) hg hm ?_ hdb)) (by intro q; cases q)
 refine TZ (K := X.K) hc hd I0.kIn he hcls ?_
 refine codeAny_handlers_suite_as (lands_againW fl fun h2 fl2 up2 => ?_)
 obtain ⟨n1, n2, n3, oe2, he2, hc2, nc2⟩ := RA (s := { s with heap := h2 }) fl2 fun h3 st3 up3 => st h3 st3 (up2.trans up3)
 have I2 : Inv (X.subP a oe2) pins σ H { s with heap := h2 } := (st h2 fl2.1 up2).subP he2 n1 n2 n3 nc2
 refine JH (X := X.subP a oe2) (v := .ref a) I2 hN hi (.inl hk) rfl (fun s2 I3 => ?_) (.inr hk)
 refine wpAny_mono (hs a c oe2 hc2 pins _ _ H _ I3 (h a)) (fun f s2 q => ?_) fun _ _ z => z.elim
 have q := SP.unsubP ok q
 cases f with
 | next => obtain ⟨σ', H', I, q⟩ := q; exact HL I hN hi hk fun s3 I4 => ⟨_, H', I4, q⟩
 | brk => obtain ⟨σ', H', I, q⟩ := q; exact HL I hN hi hk fun s3 I4 => ⟨_, H', I4, q⟩
 | cont => obtain ⟨σ', H', I, q⟩ := q; exact HL I hN hi hk fun s3 I4 => ⟨_, H', I4, q⟩
 | ret u => obtain ⟨v, σ', H', I, r, q⟩ := q; exact HL I hN hi hk fun s3 I4 => ⟨v, _, H', I4, r, q⟩
end
section
variable {X : Cx} {a c HE : Addr} {oe : Obj}
def isE (K : PySem.W.Frag) (H : Hp) (c : Addr) (y : V) (b : Bool) : Prop := match y with
 | .ty n => PySem.W.kitOne K (.ref c) (.type n) = some b
 | .ref d => PySem.W.kitOne K (.ref c) (.ref d) = some b ∨ ∃ ds : List Addr, SqT K H d (ds.map V.ref) ∧ PySem.W.kitAny K (.ref c) (ds.map Value.ref) = some b
 | _ => False
def YI (K : PySem.W.Frag) (HE a c : Addr) : List V → Hp → VK → Prop := fun xs H Q => o2 xs fun x y => x = .ref a ∧ aU K HE c = true ∧ ∃ b, isE K H c y b ∧ Q (.bl b) H
theorem NV : ∀ {ds : List Addr} {us : List Value}, AN (ds.map V.ref) us → us = ds.map Value.ref
 | [], _, .nil => rfl
 | d :: ds, _, .cons r t => by cases r; rw [NV t]; rfl
theorem dL (hp : (a, oe) ∈ X.pn) (hc : oe.cls = .ref c) : DX X (.builtin "isinstance") (YI X.K HE a c) := by
 intro pins s σ H xs us Q I rv h
 obtain ⟨x, y, rfl, rfl, hk, b, hb, q⟩ := o2.ex h
 obtain ⟨u, u', rfl, ru, ru'⟩ := rv.two
 cases (show u = Value.ref a from ru)
 have hx := (I.pin (a, oe) (List.mem_append_left _ hp)).1
 have fin : ∀ tk, EP X pins σ Q (.bool b) { s with toks := tk } := fun tk => ⟨.bl b, H, I.tok _, rfl, q⟩
 cases y with
 | ty n => cases (show u' = Value.type n from ru'); exact PySem.W.kia_one (LQ hk) I.kIn ⟨oe, hx, hc⟩ hb (fun z => nomatch z) fin
 | ref d =>
  cases (show u' = Value.ref d from ru')
  rcases hb with hb | ⟨ds, hs, hb⟩
  ·exact PySem.W.kia_one (LQ hk) I.kIn ⟨oe, hx, hc⟩ hb (fun z => nomatch z) fin
  ·obtain ⟨its, r, ⟨o, e, e1, n, e2⟩, _⟩ := I.tuple hs
   have := NV r
   subst this
   obtain ⟨cl, dd, da, sl⟩ := o
   cases e1; cases e2
   exact PySem.W.kia_tup (LQ hk) I.kIn ⟨oe, hx, hc⟩ e hb (fun z => nomatch z) fin
 | non => exact hb.elim
 | bl _ => exact hb.elim
 | int _ => exact hb.elim
 | str _ => exact hb.elim
 | byt _ => exact hb.elim
 | flt _ => exact hb.elim
end
def exK (K : PySem.W.Frag) (HE : Addr) (cs : List Addr) : Bool := cs.all fun c => aU K HE c && (PySem.W.kitOne K (.ref c) (.type "ValueError") == some true) && cs.all fun d => PySem.W.kitOne K (.ref c) (.ref d) == some (c == d)
theorem exK.k {K : PySem.W.Frag} {HE c : Addr} {cs : List Addr} (h : exK K HE cs = true) (hc : c ∈ cs) : aU K HE c = true := by
 unfold exK at h
 have := List.all_eq_true.mp h c hc
 simp only [Bool.and_eq_true] at this
 exact this.1.1
theorem exK.v {K : PySem.W.Frag} {HE c : Addr} {cs : List Addr} (h : exK K HE cs = true) (hc : c ∈ cs) : PySem.W.kitOne K (.ref c) (.type "ValueError") = some true := by
 unfold exK at h
 have := List.all_eq_true.mp h c hc
 simp only [Bool.and_eq_true, beq_iff_eq] at this
 exact this.1.2
theorem exK.one {K : PySem.W.Frag} {HE c d : Addr} {cs : List Addr} (h : exK K HE cs = true) (hc : c ∈ cs) (hd : d ∈ cs) : PySem.W.kitOne K (.ref c) (.ref d) = some (decide (c = d)) := by
 unfold exK at h
 have := List.all_eq_true.mp h c hc
 simp only [Bool.and_eq_true] at this
 have := List.all_eq_true.mp this.2 d hd
 rw [beq_iff_eq] at this
 rw [this]
 congr 1
theorem exK.any {K : PySem.W.Frag} {HE c : Addr} {cs : List Addr} (h : exK K HE cs = true) (hc : c ∈ cs) : ∀ ds : List Addr, (∀ d ∈ ds, d ∈ cs ∧ c ≠ d) → PySem.W.kitAny K (.ref c) (ds.map Value.ref) = some false
 | [], _ => by rw [List.map_nil, PySem.W.kitAny]
 | d :: ds, hd => by
  obtain ⟨h1, h2⟩ := hd d List.mem_cons_self
  rw [List.map_cons, PySem.W.kitAny, exK.one h hc h1, decide_eq_false h2]
  exact exK.any h hc ds fun e he => hd e (List.mem_cons_of_mem _ he)
theorem BJ.downR {P : Program} {w : World} {K : PySem.W.Frag} {mg : Str → Option Value} {base : Heap} {f : Addr} {k : Nat} {fd : FuncData} {ps : List Str} {sp : Sp} (F : BJ P w K mg base (CXr P w) k f fd ps sp) : BJ P w K mg base CX0 k f fd ps (fun vs H Q _ => sp vs H Q fun _ _ _ => False) :=
 ⟨fun vs H Q E h => F.len vs H Q _ h, fun A outer s H args us vs Q E hr e0 hb r h => codeAny_mono (F.run A outer s H args us vs Q _ hr e0 hb r h) fun r s' q => by
  cases r with
  | error e => obtain ⟨_, _, _, _, _, _, _, _, _, _, _, z⟩ := q; exact z.elim
  | ok fl => cases fl <;> exact q⟩
theorem IA {X : Cx} {K : PySem.W.Frag} {a c HE : Addr} {oe : Obj} (hK : X.K = K) (hp : (a, oe) ∈ X.pn) (hc : oe.cls = .ref c) : DX X (.builtin "isinstance") (YI K HE a c) := by subst hK; exact dL hp hc
theorem gZ {X : Cx} {K : PySem.W.Frag} (hK : X.K = K) (hu : X.A.units + 64 < cLine) : OpR X (compareOp .NotEq) (rAl K true) := by subst hK; exact jS hu
theorem atom (s : String) (ns : List Nat) (h : s = String.ofList (ns.map Char.ofNat)) (e : (ns.map Char.ofNat).map Char.toNat = ns) : Str.ofString s = ⟨⟨ns⟩⟩ := by
 rw [h, PySem.W.Fast.ofString_ofList, e]
theorem nA {α : Type} {a b : α} {l m : List α} (h : a = b) (t : l = m) : a :: l = b :: m := by rw [h, t]
theorem tr2 {α β : Type} {C : α → β → Prop} {a a' : α} {b b' : β} (e : a = a') (e' : b = b') (h : C a' b') : C a b := by subst e e'; exact h
theorem eP (P : Params) : ((PySem.W.boot_heap P).isNs mainGlobals, (PySem.W.boot_heap P).objs.size, (PySem.W.boot_heap P).nsMap mainGlobals "__annotations__") = (true, 11, some (.ref 6)) := by kernel_rfl
noncomputable def dF (p q : Program) (loose : List Str) (Xt : Shared → Bool) {α : Type} (Yf : Shared → α) (w : World) (s : Shared) :=
 (PySem.W.staticsOk (importedModules p.main.body) (PySem.W.boot_heap w.params) s.heap && PySem.W.namesBound p s.heap && PySem.W.gensDone s && PySem.W.laidKept (PySem.W.boot_heap w.params) s.heap,
  PySem.W.Fast.tw4187177175401517315 q loose (importedModules p.main.body) Xt true s, Yf s)
def ZW (p q : Program) (loose : List Str) (Xt : Shared → Bool) {α : Type} (Yf : Shared → α) (Ya : World → α) (N : Nat) (w : World) : Prop :=
 (fun os => (PySem.W.Fast.tw14082659384304107361 PySem.W.Fast.tw14364793385576792824 p w 11 (some (.ref 6)) N ⟨PySem.W.boot_heap w.params, Array.mk [], PySem.W.boot_drawn, PySem.W.boot_toks, os⟩ (PySem.W.topStub p)).map (dF p q loose Xt Yf w)) =
  fun _ => some (true, PySem.W.openGood q loose, Ya w)
theorem ZB {p q : Program} {loose : List Str} {Xt : Shared → Bool} {α : Type} {Yf : Shared → α} {Ya : World → α} {N : Nat}
  (e : PySem.W.opening p = PySem.W.plainProg p.main.scope.names) (hN : Nat.ble 600 N = true) (f : ∀ s, fenceModules? p s = some s)
  (run : ∀ w : World, ZW p q loose Xt Yf Ya N w) : PySem.W.LeftO p q loose Xt Yf Ya N := fun w => by
 obtain ⟨⟨h, gs, d, k, os⟩, e1, e2⟩ := Option.map_eq_some_iff.mp (PySem.W.boot_open e hN f w)
 simp only [Prod.mk.injEq] at e2
 obtain ⟨rfl, rfl, rfl, rfl⟩ := e2
 have b := eP w.params
 simp only [Prod.mk.injEq] at b
 obtain ⟨b1, b2, b3⟩ := b
 have r := congrFun (run w) os
 rw [← PySem.W.Fast.te14082659384304107361, ← PySem.W.Fast.te14364793385576792824] at r
 obtain ⟨s₁, r1, r2⟩ := Option.map_eq_some_iff.mp r
 unfold dF at r2
 rw [← PySem.W.Fast.te4187177175401517315] at r2
 simp only [Prod.mk.injEq] at r2
 obtain ⟨r2, r3, r4⟩ := r2
 unfold PySem.W.openEnds
 rw [e1]
 show (PySem.W.topFrom treeTable p w N _).map _ = _
 have t : PySem.W.topFrom treeTable p w N ⟨PySem.W.boot_heap w.params, Array.mk [], PySem.W.boot_drawn, PySem.W.boot_toks, os⟩ = some s₁ := by
  unfold PySem.W.topFrom
  dsimp only
  rw [b1, b2, b3]
  show Option.bind (PySem.W.topRun treeTable p w 11 (some (.ref 6)) N ⟨PySem.W.boot_heap w.params, Array.mk [], PySem.W.boot_drawn, PySem.W.boot_toks, os⟩ (PySem.W.topStub p)) _ = _
  rw [r1]
  show (match PySem.W.staticsOk (importedModules p.main.body) (PySem.W.boot_heap w.params) s₁.heap && PySem.W.namesBound p s₁.heap && PySem.W.gensDone s₁ && PySem.W.laidKept (PySem.W.boot_heap w.params) s₁.heap with | true => some s₁ | false => none) = _
  rw [r2]
 rw [t]
 exact congrArg some (Prod.ext r3 r4)
noncomputable def nm (l : List Str) (i : Nat) : Str := l.getD i Str.empty
noncomputable def de (P : Params) (x : Str) (t : Nat) (v : Value) : DictEntry := ⟨PyData.keyHash P x, .str x t, v⟩
noncomputable def XY (p : Program) (i : Nat) : Stmt := p.main.body.getD i (.Pass ⟨0, 0, 0, 0⟩)
noncomputable def fnO (p : Program) (x : Str) (i : Nat) (kV doc pm : Value) (an : Option Addr) (cdv ct : Value) : Obj := ⟨.type "function", none, .func (PySem.W.fnOf x x (AO (XY p i)) (AM (XY p i)) (AD (XY p i)) .none kV doc pm an cdv ct), #[]⟩
noncomputable def fnM (p : Program) (x qual : Str) (i j : Nat) (kV doc pm : Value) (an : Option Addr) (cdv ct : Value) : Obj := ⟨.type "function", none, .func (PySem.W.fnOf x qual (AO (CC (XY p i) j)) (AM (CC (XY p i) j)) (AD (CC (XY p i) j)) .none kV doc pm an cdv ct), #[]⟩
end L2
namespace My
open PySem PySem.Spec PyProof.Rows L2
def tmC (c : Char) : Lean.MacroM Lean.Term := do match c with
 | '_' => `(_)
 | 'r' => `((by rfl))
 | 'd' => `((by first | exact Or.inl rfl | exact Or.inr (Or.inl rfl)))
 | 'v' => `((by decide))
 | 'n' => `(rfl)
 | 'i' => `((by first | exact .inl rfl | exact .inr rfl | assumption))
 | 'o' => `(.nil)
 | 'c' => `((fun _ _ => rfl))
 | 'a' => `((Or.inl rfl))
 | 'b' => `((BE _))
 | 'e' => `((by intro _; rfl))
 | 'f' => return ⟨Lean.mkIdent `PySem.F.plainAttrs_list⟩
 | 'g' => return ⟨Lean.mkIdent `PySem.F.slot_list_append⟩
 | 'h' => return ⟨Lean.mkIdent `PySem.F.type_list_append⟩
 | 'j' => return ⟨Lean.mkIdent `DR⟩
 | 'k' => return ⟨Lean.mkIdent `IZ⟩
 | 'l' => return ⟨Lean.mkIdent `PassesOwn.never⟩
 | 'm' => return ⟨Lean.mkIdent `T.z_range⟩
 | 'p' => `(⟨by decide +kernel, by decide +kernel, by decide +kernel, by decide +kernel, by decide +kernel, by decide +kernel⟩)
 | 'q' => return ⟨Lean.mkIdent `VL⟩
 | _ => Lean.Macro.throwUnsupported
def tmT : List (Char × Lean.Name × String) := [('A', `pvD, "_*__rdvv"), ('B', `AA, "_____**r"), ('C', `AC, "_"), ('D', `AE, "____"), ('E', `AG, "___*"), ('F', `AF, "_____**"), ('G', `AJ, "________***"), ('H', `AS, "____"), ('I', `AW, "__*____*n**ri"), ('J', `AQ, "_____*n"), ('K', `BA, "_____*"), ('L', `BD, "____*"), ('M', `AT, "________________**r***o**vrr"), ('N', `AL, "_______**"), ('O', `CD, "_______***c"), ('P', `CN, "________***"), ('Q', `AV, "________****"), ('R', `BT, "_____*v"), ('S', `BH, "_"), ('T', `BO, "________**n"), ('U', `BV, "__*_*nai"), ('V', `BC, "______*"), ('W', `BG, "______*"), ('X', `BR, "_________*r***vvrr"), ('Y', `CF, "_"), ('Z', `CG, "____*r"), ('a', `BS, "_____**"), ('b', `CV, "__*__r**v"), ('c', `CA, "_____**r"), ('d', `EL, "____*"), ('e', `II, "____"), ('f', `EU, "________***b"), ('g', `FA, "____________________******o**rrr"), ('h', `FC, "___*e"), ('i', `ED, "_________________******o*r"), ('j', `ME, "____________fghj**rrrrr"), ('k', `FY, "_"), ('l', `ML, "______**rrr"), ('m', `HU, "______n*rr"), ('n', `NX, "______k*"), ('o', `IV, "_________________***r**o**vrr"), ('p', `GB, "_______*"), ('q', `FS, "_______**"), ('r', `PY, "________ln***e"), ('s', `HV, "______rm*r"), ('t', `QH, "____*"), ('u', `VW, "_______**"), ('v', `QL, "____*"), ('w', `PK, "______*_____****nnnp****e"), ('x', `LR, "_"), ('y', `TW, "_______**"), ('z', `OX, "____*"), ('!', `IP, "__________**q"), ('#', `OQ, "_______**"), ('$', `UA, "_____*"), ('%', `JX, "_________*r***vvrr"), ('&', `LX, "____*")]
def tmK (st : List Lean.Term) (c : Char) : Lean.MacroM (List Lean.Term) := do
 if c.isDigit then return ⟨Lean.Syntax.mkNumLit (toString c)⟩ :: st
 if c == '_' then return (← `(_)) :: st
 let some (f, t) := tmT.lookup c | Lean.Macro.throwUnsupported
 let m := (t.toList.filter (· == '*')).length
 let (as, _) ← t.toList.foldlM (init := ((#[] : Array Lean.Term), (st.take m).reverse)) fun (as, ks) d => do
  if d == '*' then match ks with
   | k :: r => return (as.push k, r)
   | [] => Lean.Macro.throwUnsupported
  else return (as.push (← tmC d), ks)
 return Lean.Syntax.mkApp (← `(@$(Lean.mkIdent f))) as :: st.drop m
def tmD (x : Lean.Syntax) : Lean.MacroM Lean.Term := do
 let st ← x.getArgs.toList.foldlM (init := ([] : List Lean.Term)) fun st c => match c.isInterpolatedStrLit? with
  | some w => w.toList.foldlM tmK st
  | none => return ⟨c⟩ :: st
 match st with
  | [t] => return t
  | _ => Lean.Macro.throwUnsupported
local macro_rules | `(s! $x) => tmD x
def top (i : Nat) : Stmt := PySem.Challenge.pw_turtlehouse_k24_refused.main.body.getD i (.Pass ⟨0, 0, 0, 0⟩)
abbrev JO : Stmt := top 12
theorem gL : AR ["one", "other"] ["one", "other"] (AD JO) := ⟨rfl, rfl, rfl, by decide +kernel, rfl, by decide +kernel, by decide +kernel⟩
abbrev HK : Stmt := top 13
theorem aH : AR ["number", "factor"] ["number", "factor"] (AD HK) := ⟨rfl, rfl, rfl, by decide +kernel, rfl, by decide +kernel, by decide +kernel⟩
abbrev HS : Stmt := top 14
theorem HD : AR ["place", "heading", "steps", "x", "y", "east", "north"] ["place", "heading", "steps"] (AD HS) := ⟨rfl, rfl, rfl, by decide +kernel, rfl, by decide +kernel, by decide +kernel⟩
abbrev DU : Stmt := CC (top 17) 0
theorem OT : AR ["self"] ["self"] (AD DU) := ⟨rfl, rfl, rfl, by decide +kernel, rfl, by decide +kernel, by decide +kernel⟩
abbrev DB : Stmt := CC (top 17) 1
theorem LI : AR ["self", "spot"] ["self", "spot"] (AD DB) := ⟨rfl, rfl, rfl, by decide +kernel, rfl, by decide +kernel, by decide +kernel⟩
abbrev FD : Stmt := CC (top 17) 2
theorem MQ : AR ["self", "steps", "start"] ["self", "steps"] (AD FD) := ⟨rfl, rfl, rfl, by decide +kernel, rfl, by decide +kernel, by decide +kernel⟩
abbrev DW : Stmt := CC (top 17) 3
theorem OP : AR ["self", "eighths"] ["self", "eighths"] (AD DW) := ⟨rfl, rfl, rfl, by decide +kernel, rfl, by decide +kernel, by decide +kernel⟩
abbrev DV : Stmt := CC (top 17) 4
theorem GH : AR ["self", "number", "spot", "heading"] ["self", "number"] (AD DV) := ⟨rfl, rfl, rfl, by decide +kernel, rfl, by decide +kernel, by decide +kernel⟩
abbrev EQ : Stmt := CC (top 17) 5
theorem JZ : AR ["self", "statement", "first"] ["self", "statement"] (AD EQ) := ⟨rfl, rfl, rfl, by decide +kernel, rfl, by decide +kernel, by decide +kernel⟩
abbrev EO : Stmt := CC (top 17) 6
theorem SJ : AR ["self"] ["self"] (AD EO) := ⟨rfl, rfl, rfl, by decide +kernel, rfl, by decide +kernel, by decide +kernel⟩
abbrev HR : Stmt := top 21
theorem FR : AR ["amount", "sources", "value", "factor", "source", "more"] ["amount", "sources"] (AD HR) := ⟨rfl, rfl, rfl, by decide +kernel, rfl, by decide +kernel, by decide +kernel⟩
abbrev DJ : Stmt := CC (top 22) 0
theorem NN : AR ["self", "body", "sources"] ["self", "body", "sources"] (AD DJ) := ⟨rfl, rfl, rfl, by decide +kernel, rfl, by decide +kernel, by decide +kernel⟩
abbrev CM : Stmt := CC (top 22) 1
theorem JU : AR ["self"] ["self"] (AD CM) := ⟨rfl, rfl, rfl, by decide +kernel, rfl, by decide +kernel, by decide +kernel⟩
abbrev CB : Stmt := CC (top 22) 2
theorem IN : AR ["self"] ["self"] (AD CB) := ⟨rfl, rfl, rfl, by decide +kernel, rfl, by decide +kernel, by decide +kernel⟩
abbrev BX : Stmt := CC (top 22) 3
theorem IG : AR ["self"] ["self"] (AD BX) := ⟨rfl, rfl, rfl, by decide +kernel, rfl, by decide +kernel, by decide +kernel⟩
abbrev BM : Stmt := CC (top 22) 4
theorem GG : AR ["self"] ["self"] (AD BM) := ⟨rfl, rfl, rfl, by decide +kernel, rfl, by decide +kernel, by decide +kernel⟩
abbrev DL : Stmt := top 23
theorem IH : AR ["body", "sources", "rounds", "level"] ["body", "sources", "rounds"] (AD DL) := ⟨rfl, rfl, rfl, by decide +kernel, rfl, by decide +kernel, by decide +kernel⟩
abbrev DE : Stmt := CC (top 24) 0
theorem GM : AR ["self", "program", "words", "body"] ["self", "program"] (AD DE) := ⟨rfl, rfl, rfl, by decide +kernel, rfl, by decide +kernel, by decide +kernel⟩
abbrev DA : Stmt := CC (top 24) 1
theorem MK : AR ["self"] ["self"] (AD DA) := ⟨rfl, rfl, rfl, by decide +kernel, rfl, by decide +kernel, by decide +kernel⟩
abbrev DD : Stmt := CC (top 24) 2
theorem GW : AR ["self", "level"] ["self"] (AD DD) := ⟨rfl, rfl, rfl, by decide +kernel, rfl, by decide +kernel, by decide +kernel⟩
abbrev CY : Stmt := CC (top 24) 3
theorem EV : AR ["self", "statement", "sources", "first", "chosen", "handed"] ["self", "statement", "sources"] (AD CY) := ⟨rfl, rfl, rfl, by decide +kernel, rfl, by decide +kernel, by decide +kernel⟩
abbrev EK : Stmt := CC (top 24) 4
theorem RD : AR ["self", "statement"] ["self", "statement"] (AD EK) := ⟨rfl, rfl, rfl, by decide +kernel, rfl, by decide +kernel, by decide +kernel⟩
abbrev FU : Stmt := top 25
theorem HM : AR ["program", "most", "walk", "deeds"] ["program", "most"] (AD FU) := ⟨rfl, rfl, rfl, by decide +kernel, rfl, by decide +kernel, by decide +kernel⟩
abbrev OF : Stmt := top 26
theorem UR : AR ["program", "most", "walk", "hand"] ["program", "most"] (AD OF) := ⟨rfl, rfl, rfl, by decide +kernel, rfl, by decide +kernel, by decide +kernel⟩
abbrev HZ : Stmt := top 28
theorem MR : AR ["_law_script", "_law_k", "_law_number"] ["_law_script", "_law_k"] (AD HZ) := ⟨rfl, rfl, rfl, by decide +kernel, rfl, by decide +kernel, by decide +kernel⟩
abbrev FZ : Stmt := top 29
theorem HW : AR ["_law_cell_here", "_law_k", "_law_number"] ["_law_cell_here", "_law_k"] (AD FZ) := ⟨rfl, rfl, rfl, by decide +kernel, rfl, by decide +kernel, by decide +kernel⟩
abbrev IQ : Stmt := top 30
theorem IX : AR ["_law_cell_here", "_law_most", "_law_many", "_law_found", "_law_rest", "_law_k"] ["_law_cell_here", "_law_most", "_law_many"] (AD IQ) := ⟨rfl, rfl, rfl, by decide +kernel, rfl, by decide +kernel, by decide +kernel⟩
abbrev ES : Stmt := top 31
theorem DG : AR ["_law_program_here", "_law_most", "_law_found", "error", "_law_some_here", "_law_others"] ["_law_program_here", "_law_most"] (AD ES) := ⟨rfl, rfl, rfl, by decide +kernel, rfl, by decide +kernel, by decide +kernel⟩
abbrev GQ : Stmt := top 32
theorem QR : AR ["_law_cell_here", "_law_some_here"] ["_law_cell_here"] (AD GQ) := ⟨rfl, rfl, rfl, by decide +kernel, rfl, by decide +kernel, by decide +kernel⟩
abbrev FE : Stmt := top 33
theorem LH : AR ["_law_cell_here", "_law_over", "_law_way"] ["_law_cell_here", "_law_over"] (AD FE) := ⟨rfl, rfl, rfl, by decide +kernel, rfl, by decide +kernel, by decide +kernel⟩
abbrev HP : Stmt := top 34
theorem RJ : AR ["_law_cell_here", "_law_amount_here", "_law_way"] ["_law_cell_here", "_law_amount_here"] (AD HP) := ⟨rfl, rfl, rfl, by decide +kernel, rfl, by decide +kernel, by decide +kernel⟩
abbrev ER : Stmt := top 35
theorem HB : AR ["_law_begin", "_law_inside", "_law_last_here", "_law_size", "_law_near", "_law_far"] ["_law_begin", "_law_inside", "_law_last_here", "_law_size"] (AD ER) := ⟨rfl, rfl, rfl, by decide +kernel, rfl, by decide +kernel, by decide +kernel⟩
abbrev DK : Stmt := top 36
theorem BZ : AR ["_law_cell_here", "_law_begin", "_law_inside", "_law_ahead", "_law_last_here", "_law_program_here", "_law_most"] ["_law_cell_here"] (AD DK) := ⟨rfl, rfl, rfl, by decide +kernel, rfl, by decide +kernel, by decide +kernel⟩
abbrev DQ : Stmt := top 37
theorem DH : AR ["_law_cell_here", "_law_mark", "_law_marks", "_law_begin", "_law_program_here", "_law_most", "_law_other"] ["_law_cell_here"] (AD DQ) := ⟨rfl, rfl, rfl, by decide +kernel, rfl, by decide +kernel, by decide +kernel⟩
abbrev OH : Stmt := top 38
theorem VG : AR ["_law_script", "_law_k", "_law_cell_here"] ["_law_script"] (AD OH) := ⟨rfl, rfl, rfl, by decide +kernel, rfl, by decide +kernel, by decide +kernel⟩
structure Own (K : PySem.W.Frag) (mg : Str → Option Value) (x : Str) (st : Stmt) (ps : List Str) (f : Addr) (fd : FuncData) : Prop where
 F : Fun K x x st f fd
 b : FF K fd ps []
 m : mg x = some (.ref f)
structure JJ (K : PySem.W.Frag) (C : Addr) (x qx : Str) (st : Stmt) (ps : List Str) (f : Addr) (fd : FuncData) : Prop where
 F : Fun K x qx st f fd
 b : FF K fd ps []
 mt : hX K C x f
structure jF (K : PySem.W.Frag) (C : Addr) (x qx : Str) (st : Stmt) (ps : List Str) (f : Addr) (fd : FuncData) : Prop where
 F : Fun K x qx st f fd
 b : FF K fd ps []
 mki : Mk K C f
def KU : D := .int (8)
def KF : D := .tup [.tup [.int (0), .int (0)], .tup [.int (0), .int (0)]]
def JK : D := .tup [.tup [.tup [.int (1), .int (0)], .tup [.int (0), .int (0)]], .tup [.tup [.int (0), .int (1)], .tup [.int (0), .int (1)]], .tup [.tup [.int (0), .int (0)], .tup [.int (1), .int (0)]], .tup [.tup [.int (0), .int (-1)], .tup [.int (0), .int (1)]], .tup [.tup [.int (-1), .int (0)], .tup [.int (0), .int (0)]], .tup [.tup [.int (0), .int (-1)], .tup [.int (0), .int (-1)]], .tup [.tup [.int (0), .int (0)], .tup [.int (-1), .int (0)]], .tup [.tup [.int (0), .int (1)], .tup [.int (0), .int (-1)]]]
def UT : D := .int (8)
def FJ : D := .int (1000000)
def JV : D := .tup [.str "n0", .str "n1", .str "n2", .str "n3"]
set_option genInjectivity false in
set_option genSizeOf false in
structure Adr where
 a_plus : Addr
 d_plus : FuncData
 a_times : Addr
 d_times : FuncData
 a_moved : Addr
 d_moved : FuncData
 a_Hand_init : Addr
 d_Hand_init : FuncData
 a_Hand_cometo : Addr
 d_Hand_cometo : FuncData
 a_Hand_go : Addr
 d_Hand_go : FuncData
 a_Hand_turn : Addr
 d_Hand_turn : FuncData
 a_Hand_back : Addr
 d_Hand_back : FuncData
 a_Hand_act : Addr
 d_Hand_act : FuncData
 a_Hand_end : Addr
 d_Hand_end : FuncData
 a_worth : Addr
 d_worth : FuncData
 a_Level_init : Addr
 d_Level_init : FuncData
 a_Level_isatend : Addr
 d_Level_isatend : FuncData
 a_Level_isthrough : Addr
 d_Level_isthrough : FuncData
 a_Level_beginround : Addr
 d_Level_beginround : FuncData
 a_Level_nextstatement : Addr
 d_Level_nextstatement : FuncData
 a_againlevel : Addr
 d_againlevel : FuncData
 a_Walk_init : Addr
 d_Walk_init : FuncData
 a_Walk_isdone : Addr
 d_Walk_isdone : FuncData
 a_Walk_dodeed : Addr
 d_Walk_dodeed : FuncData
 a_Walk_begin : Addr
 d_Walk_begin : FuncData
 a_Walk_act : Addr
 d_Walk_act : FuncData
 a_walked : Addr
 d_walked : FuncData
 a_run : Addr
 d_run : FuncData
 a_Lcell : Addr
 d_Lcell : FuncData
 a_Lmixed : Addr
 d_Lmixed : FuncData
 a_Lrow : Addr
 d_Lrow : FuncData
 a_Lrefused : Addr
 d_Lrefused : FuncData
 a_Lsome : Addr
 d_Lsome : FuncData
 a_Lamount : Addr
 d_Lamount : FuncData
 a_Llast : Addr
 d_Llast : FuncData
 a_Lprogram : Addr
 d_Lprogram : FuncData
 a_Lofamounts : Addr
 d_Lofamounts : FuncData
 a_Lofmarks : Addr
 d_Lofmarks : FuncData
 a_law : Addr
 d_law : FuncData
 c_Hand : Addr
 c_Level : Addr
 c_Walk : Addr
 u_ROUND : Value
 v_ROUND : V
 u_BEGINNING : Value
 v_BEGINNING : V
 u_STEPS : Value
 v_STEPS : V
 u_INKS : Value
 v_INKS : V
 u_MOST_AMOUNT : Value
 v_MOST_AMOUNT : V
 u_NUMBERS : Value
 v_NUMBERS : V
 c_HouseError : Addr
 c_NoProgram : Addr
 c_NoText : Addr
 c_NoMark : Addr
 c_TooGreat : Addr
 c_TooLong : Addr
 c_NotWhole : Addr
local macro_rules | `(tactic| walk_at "rd") => `(tactic| ((try simp only [L2.start, L2.stC, List.map_cons, List.map_nil, List.length_cons, List.length_nil, List.replicate_succ, List.replicate_zero, List.nil_append, List.cons_append, Nat.reduceAdd, Nat.reduceSub, Nat.zero_add, Nat.sub_self, Nat.add_one_sub_one]); (try dsimp only [ZH, QF, ZU, cV, JC, NU, NQ, bN, bY, bH, ipI, MM, RL, LD, rIn, cH, tSl, JN, SW, bA, bS, SY, UN, MU, tOp, tUn, rI, rI0, rU, XL, tC, dQ, NR, dW, QS, SB, OB, VA, aX, cP, tCB, bV, aI, tOr, RB, tB, tIf, cS, ND, dJ, SN, cM, L2.start, ZJ, cR, KQ, RC, RP, bO, JI, L2.stC, tBM, JA, List.getElem?_cons_zero, List.getElem?_cons_succ, List.set_cons_zero, List.set_cons_succ, List.map_cons, List.map_nil, List.length_cons, List.length_nil, List.replicate_succ, List.replicate_zero, List.nil_append, List.cons_append, Nat.reduceAdd, Nat.reduceSub, Nat.zero_add, SU, RX, MF, tBD, LA, RT, QU, GX, rID, MI, rUD, cO, dG, JG, NP, OE, QY, MO, NW, LV, QX, YI, bC, fgE, GD, HJ, MV, RK, TB, cX, tDZ, LY, GP, LN, HA, tHc, LL, QV, dP, dR, eD, RW, ZQ, GZ, DO, GU, oBl, PC, o0, o1, o2, oC]); try simp only [ZH, SU, RX, MF, tBD, LA, RT, QU, GX, rID, MI, rUD, cO, dG, JG, NP, OE, QY, MO, NW, LV, QX, YI, bC, fgE, GD, HJ, MV, RK, TB, cX, tDZ, LY, GP, LN, HA, tHc, LL, QV, dP, dR, eD, RW, ZQ, GZ, DO, GU, oBl, PC, o0, o1, o2, oC, QF, ZU, cV, JC, NU, NQ, bN, bY, bH, ipI, MM, RL, LD, rIn, cH, tSl, JN, SW, bA, bS, SY, UN, MU, tOp, tUn, rI, rI0, rU, XL, tC, dQ, NR, dW, QS, SB, OB, VA, aX, cP, tCB, bV, aI, tOr, RB, tB, tIf, cS, ND, dJ, SN, cM, L2.start, ZJ, cR, KQ, RC, RP, bO, JI, L2.stC, tBM, JA, tyV, List.getElem?_cons_zero, List.getElem?_cons_succ, List.set_cons_zero, List.set_cons_succ, List.map_cons, List.map_nil, List.length_cons, List.length_nil, List.length_map, List.replicate_succ, List.replicate_zero, List.append_nil, List.nil_append, List.cons_append, Option.some.injEq, Option.join_some, V.int.injEq, V.bl.injEq, V.ref.injEq, V.str.injEq, List.cons.injEq, exists_and_left, exists_and_right, exists_eq_left, exists_eq_left', exists_eq, exists_eq', and_true, true_and, and_self, and_assoc, decide_eq_true_eq, Nat.reduceAdd, Nat.reduceSub, Nat.add_one_sub_one, Nat.sub_self, Nat.zero_add, reduceCtorEq, eq_self, not_true_eq_false, not_false_eq_true, false_and, and_false, exists_false, false_or, or_false, if_true, if_false, ite_true, ite_false, Bool.false_eq_true, Bool.not_true, Bool.not_false, Bool.not_eq_true', decide_eq_false_iff_not]))
local macro_rules | `(tactic| walk_at "rh") => `(tactic| ((try refine fT ?_); walk_at "rd"))
local macro_rules | `(tactic| walk_at "ro") => `(tactic| ((try simp only [L2.start, L2.stC, List.map_cons, List.map_nil, List.length_cons, List.length_nil, List.replicate_succ, List.replicate_zero, List.nil_append, List.cons_append, Nat.reduceAdd, Nat.reduceSub, Nat.zero_add, Nat.sub_self, Nat.add_one_sub_one]); (try dsimp only [QF, ZU, cV, JC, NU, NQ, bN, bY, bH, ipI, MM, RL, LD, rIn, cH, tSl, JN, SW, bA, bS, SY, UN, MU, tOp, tUn, rI, rI0, rU, XL, tC, dQ, NR, dW, QS, SB, OB, VA, aX, cP, tCB, bV, aI, tOr, RB, tB, tIf, cS, ND, dJ, SN, cM, L2.start, ZJ, cR, KQ, RC, RP, bO, JI, L2.stC, tBM, JA, List.getElem?_cons_zero, List.getElem?_cons_succ, List.set_cons_zero, List.set_cons_succ, List.map_cons, List.map_nil, List.length_cons, List.length_nil, List.replicate_succ, List.replicate_zero, List.nil_append, List.cons_append, Nat.reduceAdd, Nat.reduceSub, Nat.zero_add, SU, RX, MF, tBD, LA, RT, QU, GX, rID, MI, rUD, cO, dG, JG, NP, OE, QY, MO, NW, LV, QX, YI, bC, fgE, GD, HJ, MV, RK, TB, cX, tDZ, LY, GP, LN, HA, tHc, LL, QV, dP, dR, eD, RW, ZQ, GZ, DO, GU, oBl, PC, o0, o1, o2, oC]); try simp only [AB, WF, HO.ins.injEq, SU, RX, MF, tBD, LA, RT, QU, GX, rID, MI, rUD, cO, dG, JG, NP, OE, QY, MO, NW, LV, QX, YI, bC, fgE, GD, HJ, MV, RK, TB, cX, tDZ, LY, GP, LN, HA, tHc, LL, QV, dP, dR, eD, RW, ZQ, GZ, DO, GU, oBl, PC, o0, o1, o2, oC, QF, ZU, cV, JC, NU, NQ, bN, bY, bH, ipI, MM, RL, LD, rIn, cH, tSl, JN, SW, bA, bS, SY, UN, MU, tOp, tUn, rI, rI0, rU, XL, tC, dQ, NR, dW, QS, SB, OB, VA, aX, cP, tCB, bV, aI, tOr, RB, tB, tIf, cS, ND, dJ, SN, cM, L2.start, ZJ, cR, KQ, RC, RP, bO, JI, L2.stC, tBM, JA, tyV, List.getElem?_cons_zero, List.getElem?_cons_succ, List.set_cons_zero, List.set_cons_succ, List.map_cons, List.map_nil, List.length_cons, List.length_nil, List.length_map, List.replicate_succ, List.replicate_zero, List.append_nil, List.nil_append, List.cons_append, Option.some.injEq, Option.join_some, V.int.injEq, V.bl.injEq, V.ref.injEq, V.str.injEq, List.cons.injEq, exists_and_left, exists_and_right, exists_eq_left, exists_eq_left', exists_eq, exists_eq', and_true, true_and, and_self, and_assoc, decide_eq_true_eq, Nat.reduceAdd, Nat.reduceSub, Nat.add_one_sub_one, Nat.sub_self, Nat.zero_add, reduceCtorEq, eq_self, not_true_eq_false, not_false_eq_true, false_and, and_false, exists_false, false_or, or_false, if_true, if_false, ite_true, ite_false, Bool.false_eq_true, Bool.not_true, Bool.not_false, Bool.not_eq_true', decide_eq_false_iff_not]))
theorem kk {k : Int} (h0 : 0 ≤ k) (h1 : k ≤ 100) : 0 ≤ k * k ∧ k * k ≤ 10000 := by
 have a : k * k ≤ 100 * 100 := Int.mul_le_mul h1 h1 h0 (by decide)
 have a0 : 0 ≤ k * k := Int.mul_nonneg h0 h0
 exact ⟨a0, a⟩
theorem zk {k z : Int} (h0 : 0 ≤ k) (h1 : k ≤ 100) (z0 : 0 ≤ z) (z1 : z < 10 ^ 40) : 0 ≤ z * (48271 + k) ∧ z * (48271 + k) ≤ 10 ^ 40 * 48371 := by
 have b : z * (48271 + k) ≤ 10 ^ 40 * 48371 := Int.mul_le_mul (by omega) (by omega) (by omega) (by decide)
 exact ⟨Int.mul_nonneg z0 (by omega), b⟩
structure Pl where
 a : Int
 b : Int
 c : Int
 d : Int
def OY (h : Int) : Pl := if h % 8 = 0 then ⟨1, 0, 0, 0⟩ else if h % 8 = 1 then ⟨0, 1, 0, 1⟩ else if h % 8 = 2 then ⟨0, 0, 1, 0⟩ else if h % 8 = 3 then ⟨0, -1, 0, 1⟩ else if h % 8 = 4 then ⟨-1, 0, 0, 0⟩ else if h % 8 = 5 then ⟨0, -1, 0, -1⟩ else if h % 8 = 6 then ⟨0, 0, -1, 0⟩ else ⟨0, 1, 0, -1⟩
def mv (p : Pl) (h n : Int) : Pl := ⟨p.a + (OY h).a * n, p.b + (OY h).b * n, p.c + (OY h).c * n, p.d + (OY h).d * n⟩
abbrev Pl.D (p : Pl) : L2.D := plc p.a p.b p.c p.d
theorem nC (h : Int) : h % 8 = 0 ∨ h % 8 = 1 ∨ h % 8 = 2 ∨ h % 8 = 3 ∨ h % 8 = 4 ∨ h % 8 = 5 ∨ h % 8 = 6 ∨ h % 8 = 7 := by omega
theorem eV (h : Int) : (match JK with | .tup ds => ds.getD (h % 8).toNat .non | _ => .non) = .tup [num (OY h).a (OY h).b, num (OY h).c (OY h).d] := by
 rcases nC h with e | e | e | e | e | e | e | e <;> simp only [OY, e] <;> rfl
structure Txt (K : PySem.W.Frag) (mg : Str → Option Value) (t : Adr) : Prop where
 plus : Own K mg "plus" JO ["one", "other"] t.a_plus t.d_plus
 times : Own K mg "times" HK ["number", "factor"] t.a_times t.d_times
 moved : Own K mg "moved" HS ["place", "heading", "steps"] t.a_moved t.d_moved
 Hand_init : jF K t.c_Hand "__init__" "Hand.__init__" DU ["self"] t.a_Hand_init t.d_Hand_init
 Hand_cometo : JJ K t.c_Hand "come_to" "Hand.come_to" DB ["self", "spot"] t.a_Hand_cometo t.d_Hand_cometo
 Hand_go : JJ K t.c_Hand "go" "Hand.go" FD ["self", "steps"] t.a_Hand_go t.d_Hand_go
 Hand_turn : JJ K t.c_Hand "turn" "Hand.turn" DW ["self", "eighths"] t.a_Hand_turn t.d_Hand_turn
 Hand_back : JJ K t.c_Hand "back" "Hand.back" DV ["self", "number"] t.a_Hand_back t.d_Hand_back
 Hand_act : JJ K t.c_Hand "act" "Hand.act" EQ ["self", "statement"] t.a_Hand_act t.d_Hand_act
 Hand_end : JJ K t.c_Hand "end" "Hand.end" EO ["self"] t.a_Hand_end t.d_Hand_end
 worth : Own K mg "worth" HR ["amount", "sources"] t.a_worth t.d_worth
 Level_init : jF K t.c_Level "__init__" "Level.__init__" DJ ["self", "body", "sources"] t.a_Level_init t.d_Level_init
 Level_isatend : JJ K t.c_Level "is_at_end" "Level.is_at_end" CM ["self"] t.a_Level_isatend t.d_Level_isatend
 Level_isthrough : JJ K t.c_Level "is_through" "Level.is_through" CB ["self"] t.a_Level_isthrough t.d_Level_isthrough
 Level_beginround : JJ K t.c_Level "begin_round" "Level.begin_round" BX ["self"] t.a_Level_beginround t.d_Level_beginround
 Level_nextstatement : JJ K t.c_Level "next_statement" "Level.next_statement" BM ["self"] t.a_Level_nextstatement t.d_Level_nextstatement
 againlevel : Own K mg "again_level" DL ["body", "sources", "rounds"] t.a_againlevel t.d_againlevel
 Walk_init : jF K t.c_Walk "__init__" "Walk.__init__" DE ["self", "program"] t.a_Walk_init t.d_Walk_init
 Walk_isdone : JJ K t.c_Walk "is_done" "Walk.is_done" DA ["self"] t.a_Walk_isdone t.d_Walk_isdone
 Walk_dodeed : JJ K t.c_Walk "do_deed" "Walk.do_deed" DD ["self"] t.a_Walk_dodeed t.d_Walk_dodeed
 Walk_begin : JJ K t.c_Walk "begin" "Walk.begin" CY ["self", "statement", "sources"] t.a_Walk_begin t.d_Walk_begin
 Walk_act : JJ K t.c_Walk "act" "Walk.act" EK ["self", "statement"] t.a_Walk_act t.d_Walk_act
 walked : Own K mg "walked" FU ["program", "most"] t.a_walked t.d_walked
 run : Own K mg "run" OF ["program", "most"] t.a_run t.d_run
 Lcell : Own K mg "_law_cell" HZ ["_law_script", "_law_k"] t.a_Lcell t.d_Lcell
 Lmixed : Own K mg "_law_mixed" FZ ["_law_cell_here", "_law_k"] t.a_Lmixed t.d_Lmixed
 Lrow : Own K mg "_law_row" IQ ["_law_cell_here", "_law_most", "_law_many"] t.a_Lrow t.d_Lrow
 Lrefused : Own K mg "_law_refused" ES ["_law_program_here", "_law_most"] t.a_Lrefused t.d_Lrefused
 Lsome : Own K mg "_law_some" GQ ["_law_cell_here"] t.a_Lsome t.d_Lsome
 Lamount : Own K mg "_law_amount" FE ["_law_cell_here", "_law_over"] t.a_Lamount t.d_Lamount
 Llast : Own K mg "_law_last" HP ["_law_cell_here", "_law_amount_here"] t.a_Llast t.d_Llast
 Lprogram : Own K mg "_law_program" ER ["_law_begin", "_law_inside", "_law_last_here", "_law_size"] t.a_Lprogram t.d_Lprogram
 Lofamounts : Own K mg "_law_of_amounts" DK ["_law_cell_here"] t.a_Lofamounts t.d_Lofamounts
 Lofmarks : Own K mg "_law_of_marks" DQ ["_law_cell_here"] t.a_Lofmarks t.d_Lofmarks
 law : Own K mg "law" OH ["_law_script"] t.a_law t.d_law
 cl_Hand : Cls K t.c_Hand
 mg_Hand : mg "Hand" = some (.ref t.c_Hand)
 n_Hand_spot : BW K t.c_Hand "spot"
 n_Hand_heading : BW K t.c_Hand "heading"
 n_Hand_down : BW K t.c_Hand "down"
 n_Hand_ink : BW K t.c_Hand "ink"
 n_Hand_turned : BW K t.c_Hand "turned"
 n_Hand_marks : BW K t.c_Hand "marks"
 n_Hand_strokes : BW K t.c_Hand "strokes"
 n_Hand_corners : BW K t.c_Hand "corners"
 cl_Level : Cls K t.c_Level
 mg_Level : mg "Level" = some (.ref t.c_Level)
 n_Level_body : BW K t.c_Level "body"
 n_Level_sources : BW K t.c_Level "sources"
 n_Level_at : BW K t.c_Level "at"
 n_Level_begun : BW K t.c_Level "begun"
 n_Level_rounds : BW K t.c_Level "rounds"
 cl_Walk : Cls K t.c_Walk
 mg_Walk : mg "Walk" = some (.ref t.c_Walk)
 n_Walk_bodies : BW K t.c_Walk "bodies"
 n_Walk_levels : BW K t.c_Walk "levels"
 n_Walk_hand : BW K t.c_Walk "hand"
 n_Walk_acts : BW K t.c_Walk "acts"
 z_ValueError : mg "ValueError" = none
 z_dict : mg "dict" = none
 z_int : mg "int" = none
 z_isinstance : mg "isinstance" = none
 z_len : mg "len" = none
 z_max : mg "max" = none
 z_min : mg "min" = none
 z_range : mg "range" = none
 z_tuple : mg "tuple" = none
 z_zip : mg "zip" = none
 g_ROUND : mg "ROUND" = some t.u_ROUND
 r_ROUND : AX t.v_ROUND t.u_ROUND
 k_ROUND : ∀ H, Rp K H KU t.v_ROUND
 g_BEGINNING : mg "BEGINNING" = some t.u_BEGINNING
 r_BEGINNING : AX t.v_BEGINNING t.u_BEGINNING
 k_BEGINNING : ∀ H, Rp K H KF t.v_BEGINNING
 g_STEPS : mg "STEPS" = some t.u_STEPS
 r_STEPS : AX t.v_STEPS t.u_STEPS
 k_STEPS : ∀ H, Rp K H JK t.v_STEPS
 g_INKS : mg "INKS" = some t.u_INKS
 r_INKS : AX t.v_INKS t.u_INKS
 k_INKS : ∀ H, Rp K H UT t.v_INKS
 g_MOST_AMOUNT : mg "MOST_AMOUNT" = some t.u_MOST_AMOUNT
 r_MOST_AMOUNT : AX t.v_MOST_AMOUNT t.u_MOST_AMOUNT
 k_MOST_AMOUNT : ∀ H, Rp K H FJ t.v_MOST_AMOUNT
 g_NUMBERS : mg "NUMBERS" = some t.u_NUMBERS
 r_NUMBERS : AX t.v_NUMBERS t.u_NUMBERS
 k_NUMBERS : ∀ H, Rp K H JV t.v_NUMBERS
 mg_NoProgram : mg "NoProgram" = some (.ref t.c_NoProgram)
 x_NoProgram : CI K t.c_HouseError t.c_NoProgram = true
 mg_NoText : mg "NoText" = some (.ref t.c_NoText)
 x_NoText : CI K t.c_HouseError t.c_NoText = true
 mg_NoMark : mg "NoMark" = some (.ref t.c_NoMark)
 x_NoMark : CI K t.c_HouseError t.c_NoMark = true
 mg_TooGreat : mg "TooGreat" = some (.ref t.c_TooGreat)
 x_TooGreat : CI K t.c_HouseError t.c_TooGreat = true
 mg_TooLong : mg "TooLong" = some (.ref t.c_TooLong)
 x_TooLong : CI K t.c_HouseError t.c_TooLong = true
 mg_NotWhole : mg "NotWhole" = some (.ref t.c_NotWhole)
 x_NotWhole : CI K t.c_HouseError t.c_NotWhole = true
 mg_HouseError : mg "HouseError" = some (.ref t.c_HouseError)
 xH : NC K t.c_HouseError = true
 xK : exK K t.c_HouseError [t.c_NoProgram, t.c_NoText, t.c_NoMark, t.c_TooGreat, t.c_TooLong, t.c_NotWhole] = true
 nx : [t.c_NoProgram, t.c_NoText, t.c_NoMark, t.c_TooGreat, t.c_TooLong, t.c_NotWhole].Nodup
section
variable {P : Program} {w : World} {K : PySem.W.Frag} {mg : Str → Option Value} {base : Heap} {t : Adr}
def cA (K : PySem.W.Frag) : Sp := fun vs H Q _ => ∃ (a : Addr) (ns : List Int) (k : Int), vs = [.ref a, .int k] ∧ SqL K H a (ns.map V.int) ∧ ns.length ≤ 63 ∧ 0 ≤ k ∧ k ≤ 100 ∧ ∀ z, Q (.int z) H
theorem aM (T : Txt K mg t) : BJ P w K mg base CX0 1 t.a_Lcell t.d_Lcell ["_law_script", "_law_k"] (cA K) := by
 refine T.Lcell.F.ok MR (fun vs H Q E h => ?_) (fun cdv A outer s H vs Q E hr h => ?_)
 ·obtain ⟨a, ns, k, rfl, _⟩ := h; rfl
 ·obtain ⟨a, ns, k, rfl, hS, hl, k0, k1, q⟩ := h
  have hk := kk k0 k1
  refine ⟨_, s!"{TF}1A{BN}{T.z_len}{PySem.boot_len}0ACBX{BE _}Q{DP}0A1AOLEYP2{MR.nd}{Or.inl rfl}{CO}{CK}{CK}1A1AGDGDGI{TM}{BN}{T.z_len}{PySem.boot_len}0ACBXD{BE _}Q2{MR.nd}{Or.inl rfl}{CO}2A{CK}{CL}{DP}0A{CL}{CK}1ADG{BN}{T.z_len}{PySem.boot_len}0ACBXGO{GO}DDGG{CO}D1AGGGIEYP{CL}{CK}2A2AGDGLEFFF", ?_⟩
  walk_at "rd"
  refine ⟨_, .inl hS, ?_⟩
  walk_at "rd"
  split
  ·rename_i c
   obtain ⟨z, _, hz⟩ := RY k0 c
   exact ⟨_, hS, _, hz, q z⟩
  ·rename_i c
   refine ⟨EZ (by omega) (by omega), HN (by decide) (by decide), _, .inl hS, ?_⟩
   walk_at "rd"
   split
   ·rename_i d
    refine ⟨HN (by decide) (by decide), _, .inl hS, ?_⟩
    walk_at "rd"
    have hp : (0 : Int) < ns.length := by omega
    obtain ⟨z, _, hz⟩ := RY (ns := ns) (Int.emod_nonneg (k * 7) (by omega)) (Int.emod_lt_of_pos (k * 7) hp)
    refine ⟨hp, _, hS, _, hz, ?_⟩
    walk_at "rd"
    refine ⟨⟨by decide, by decide, by decide⟩, by decide, HN (by omega) (by omega), ?_⟩
    have h1 := zk k0 k1 (Int.emod_nonneg z (by decide : (10 : Int) ^ 40 ≠ 0)) (Int.emod_lt_of_pos z (by decide : (0 : Int) < 10 ^ 40))
    have e40 : (10 : Int) ^ Int.toNat 40 = 10 ^ 40 := rfl
    rw [e40]
    generalize z % 10 ^ 40 * (48271 + k) = y at h1 ⊢
    refine ⟨TL 200 200 (by omega) (by omega) (by decide), by decide, q _⟩
   ·exact ⟨EZ (by omega) (by omega), by decide, q _⟩
def XG : Sp := fun vs H Q _ => ∃ (c k : Int), vs = [.int c, .int k] ∧ 0 ≤ k ∧ k ≤ 100 ∧ ∀ z, Q (.int z) H
theorem XJ (T : Txt K mg t) : BJ P w K mg base CX0 1 t.a_Lmixed t.d_Lmixed ["_law_cell_here", "_law_k"] XG := by
 refine T.Lmixed.F.ok HW (fun vs H Q E h => ?_) (fun cdv A outer s H vs Q E hr h => ?_)
 ·obtain ⟨c, k, rfl, _⟩ := h; rfl
 ·obtain ⟨c, k, rfl, k0, k1, q⟩ := h
  have hk := kk k0 k1
  have md : ∀ x : Int, 0 ≤ x % 2305843009213693951 ∧ x % 2305843009213693951 < 2305843009213693951 := fun x => ⟨Int.emod_nonneg x (by decide), Int.emod_lt_of_pos x (by decide)⟩
  refine ⟨_, s!"2{HW.nd}{Or.inl rfl}{CL}{CO}{CO}0A{CK}{CK}1A1AGDGGDGDGI2{HW.nd}{Or.inl rfl}{CL}{CK}2A2AGDGI2{HW.nd}{Or.inl rfl}{CL}{CK}{CO}{CO}2A{CK}1ADGGDGDGDGI{DC}{CL}{CK}2A2AGDGDGLEFFF", ?_⟩
  walk_at "rd"
  refine ⟨EZ (by omega) (by omega), HN (by decide) (by decide), by decide, ?_⟩
  have h1 := md (c + k * k * 40503 + 12345)
  generalize (c + k * k * 40503 + 12345) % 2305843009213693951 = x1 at h1 ⊢
  refine ⟨EZ (by omega) (by omega), by decide, ?_⟩
  have h2 := md (x1 * x1)
  generalize x1 * x1 % 2305843009213693951 = x2 at h2 ⊢
  refine ⟨EZ (by omega) (by omega), HN (by decide) (by decide), by decide, ?_⟩
  have h3 := md ((x2 + k * 7919 + 1) * 48271)
  generalize (x2 + k * 7919 + 1) * 48271 % 2305843009213693951 = x3 at h3 ⊢
  refine ⟨EZ (by omega) (by omega), by decide, by decide, by decide, q _⟩
def eU : Sp := fun vs H Q _ => ∃ (c most many : Int), vs = [.int c, .int most, .int many] ∧ 0 < most ∧ most < 2 ^ 100 ∧ 0 ≤ many ∧ many ≤ 60 ∧
 ∀ (l : Addr) (xs : List Int) (H' : Hp), AI H H' → H l = none → H' l = some (.lst (xs.map V.int)) → xs.length = many.toNat → (∀ x ∈ xs, 0 ≤ x ∧ x < most) → Q (.ref l) H'
def jP (c m n : Int) (l : Addr) (H : Hp) (i : Nat) (σ : L2.St) (H2 : Hp) : Prop := ∃ (xs : List Int) (r : Int) (kv : Option V), σ = [some (.int c), some (.int m), some (.int n), some (.ref l), some (.int r), kv] ∧ H2 = upd H l (.lst (xs.map V.int)) ∧ xs.length = i ∧ ∀ x ∈ xs, 0 ≤ x ∧ x < m
def gD (c m : Int) (p : Addr) (H : Hp) (i : Nat) (σ : L2.St) (H2 : Hp) : Prop := ∃ (ys : List Int) (kv : Option V), σ = [some (.int m), some (.int c), kv] ∧ AI H H2 ∧ H2 p = some (.lst (ys.map V.int)) ∧ ys.length = i ∧ ∀ x ∈ ys, 0 ≤ x ∧ x < m
theorem WE (T : Txt K mg t) : BJ P w K mg base CX0 2 t.a_Lrow t.d_Lrow ["_law_cell_here", "_law_most", "_law_many"] eU := by
 refine T.Lrow.F.ok IX (fun vs H Q E h => ?_) (fun cdv A outer s H vs Q E hr h => ?_)
 ·obtain ⟨c, m, n, rfl, _⟩ := h; rfl
 ·obtain ⟨c, m, n, rfl, m0, m1, n0, n1, q⟩ := h
  have md : ∀ x : Int, 0 ≤ x % m ∧ x % m < m := fun x => ⟨Int.emod_nonneg x (by omega), Int.emod_lt_of_pos x m0⟩
  refine ⟨_, s!"3{IX.nd}{Or.inl rfl}CdI4{IX.nd}{Or.inl rfl}0AI2ACBs5{IX.nd}U3A{CL}4A1AGCBjZ4{IX.nd}{Or.inl rfl}{DC}4A1AGIEFr{TM}4AD{BE _}Q3ALEYP{AD IQ}{["_law_cell_here", "_law_most", "_law_many", "_law_found", "_law_rest", "_law_k"]}{["_law_most", "_law_cell_here", "_law_k"]}{["_law_k"]}{[1, 0]}2ACBs{fun _ _ _ _ => s!"2{show List.Nodup (["_law_most", "_law_cell_here", "_law_k"] : List Str) by decide +kernel}U"}{fun _ _ _ _ => s!"x"}{fun _ _ _ _ => s!"{CL}{XJ T}{hr.mono (by decide)}{T.Lmixed.m}{T.Lmixed.F.kp}{T.Lmixed.b}{BY}1A2ACBBM0AG"}wLEFFFF", ?_⟩
  walk_at "rd"
  refine ⟨Nat.zero_le _, fun l hl => ⟨by omega, by omega, ?_⟩⟩
  refine RG (jP c m n l H) ⟨[], c, none, rfl, rfl, rfl, by intro x hx; cases hx⟩ ?_ ?_
  ·rintro i σ H2 hi ⟨xs, r, kv, rfl, rfl, hx, hb⟩
   walk_at "rd"
   refine ⟨.inl ⟨_, SqL.of AB⟩, m0, ?_⟩
   refine ⟨_, AB, NY (by rw [List.length_map]; omega), m0, m1, xs ++ [r % m], _, _, rfl, ?_, ?_, ?_⟩
   ·rw [WF, List.map_append]; rfl
   ·rw [List.length_append, hx]; rfl
   ·intro x h
    rcases List.mem_append.mp h with h | h
    ·exact hb x h
    ·rw [List.mem_singleton.mp h]; exact md r
  ·rintro σ H2 ⟨xs, r, kv, rfl, rfl, hx, hb⟩
   walk_at "rd"
   split
   ·exact q l xs _ (AI.upd hl) hl AB hx hb
   ·refine ⟨by omega, by omega, fun p hp => ?_⟩
    have hne : p ≠ l := fun e => by rw [e, AB] at hp; cases hp
    have hp0 : H p = none := by rw [AH hne] at hp; exact hp
    refine RV (gD c m p H) ⟨[], none, rfl, (AI.upd hl).upd2 hp0, AB, rfl, by intro x hx; cases hx⟩ ?_ ?_
    ·rintro i σ H2 hi ⟨ys, kv, rfl, sm, hy, hlen, hby⟩
     walk_at "rd"
     refine ⟨_, _, rfl, by omega, by omega, fun z => ?_⟩
     walk_at "rd"
     refine ⟨m0, _, hy, NY (by rw [List.length_map]; omega), nx hi ⟨ys ++ [z % m], _, rfl, sm.upd2 hp0, ?_, ?_, ?_⟩⟩
     ·rw [AB, List.map_append]; rfl
     ·rw [List.length_append, hlen]; rfl
     ·intro x h
      rcases List.mem_append.mp h with h | h
      ·exact hby x h
      ·rw [List.mem_singleton.mp h]; exact md z
    ·rintro σ H2 ⟨ys, kv, rfl, sm, hy, hlen, hby⟩
     exact q p ys _ sm hp0 hy hlen hby
def gY (K : PySem.W.Frag) : Sp := fun vs H Q _ => ∃ (x y : V) (a b c d : Int), vs = [x, y] ∧ Rp K H (num a b) x ∧ Rp K H (num c d) y ∧ ∀ v H', AI H H' → Rp K H' (num (a + c) (b + d)) v → Q v H'
theorem WP (T : Txt K mg t) : BJ P w K mg base CX0 1 t.a_plus t.d_plus ["one", "other"] (gY K) := by
 refine T.plus.F.ok gL (fun vs H Q E h => ?_) (fun cdv A outer s H vs Q E hr h => ?_)
 ·obtain ⟨x, y, a, b, c, d, rfl, _⟩ := h; rfl
 ·obtain ⟨x, y, a, b, c, d, rfl, hx, hy, q⟩ := h
  obtain ⟨p, rfl, hp⟩ := IY.mp hx
  obtain ⟨p', rfl, hp'⟩ := IY.mp hy
  refine ⟨_, s!"{CO}{BP}0ADO{BP}1ADOG{CO}{BP}0ADO{BP}1ADOGCBBKLE", ?_⟩
  walk_at "rd"
  refine ⟨_, hp, _, rfl, ?_⟩
  walk_at "rd"
  refine ⟨_, hp', _, rfl, ?_⟩
  walk_at "rd"
  refine ⟨_, hp, _, rfl, ?_⟩
  walk_at "rd"
  refine ⟨_, hp', _, rfl, ?_⟩
  walk_at "rd"
  exact ⟨by decide, fun p hp => q _ _ (AI.upd hp) (IY.mpr ⟨p, rfl, SqT.of AB⟩)⟩
def cL (K : PySem.W.Frag) : Sp := fun vs H Q _ => ∃ (x : V) (a b f : Int), vs = [x, .int f] ∧ Rp K H (num a b) x ∧ (-(2 ^ 60) ≤ f ∧ f ≤ 2 ^ 60) ∧ ∀ v H', AI H H' → Rp K H' (num (a * f) (b * f)) v → Q v H'
theorem SV (T : Txt K mg t) : BJ P w K mg base CX0 1 t.a_times t.d_times ["number", "factor"] (cL K) := by
 refine T.times.F.ok aH (fun vs H Q E h => ?_) (fun cdv A outer s H vs Q E hr h => ?_)
 ·obtain ⟨x, a, b, f, rfl, _⟩ := h; rfl
 ·obtain ⟨x, a, b, f, rfl, hx, hf, q⟩ := h
  obtain ⟨p, rfl, hp⟩ := IY.mp hx
  have mo : ∀ z, IntMulOk z f := fun z => HN (by have := hf.1; omega) (by have := hf.2; omega)
  refine ⟨_, s!"{CK}{BP}0ADO1AG{CK}{BP}0ADO1AGCBBKLE", ?_⟩
  walk_at "rd"
  refine ⟨_, hp, _, rfl, ?_⟩
  walk_at "rd"
  refine ⟨mo _, _, hp, _, rfl, ?_⟩
  walk_at "rd"
  exact ⟨mo _, by decide, fun p hp => q _ _ (AI.upd hp) (IY.mpr ⟨p, rfl, SqT.of AB⟩)⟩
def bZ (K : PySem.W.Frag) : Sp := fun vs H Q _ => ∃ (x : V) (p : Pl) (h n : Int), vs = [x, .int h, .int n] ∧ Rp K H p.D x ∧ (-(2 ^ 60) ≤ n ∧ n ≤ 2 ^ 60) ∧ ∀ v H', AI H H' → Rp K H' (mv p h n).D v → Q v H'
theorem cT (T : Txt K mg t) : BJ P w K mg base CX0 2 t.a_moved t.d_moved ["place", "heading", "steps"] (bZ K) := by
 refine T.moved.F.ok HD (fun vs H Q E h => ?_) (fun cdv A outer s H vs Q E hr h => ?_)
 ·obtain ⟨x, p, h, n, rfl, _⟩ := h; rfl
 ·obtain ⟨x, p, h, n, rfl, hx, hn, q⟩ := h
  obtain ⟨a0, x1, y1, rfl, hs, hx1, hy1⟩ := DM.mp hx
  refine ⟨_, s!"0A3{HD.nd}U4{HD.nd}Ukccml{BP}_{T.g_STEPS}{T.r_STEPS}b{CL}1A_{T.g_ROUND}{T.r_ROUND}bGO5{HD.nd}U6{HD.nd}Ukccml{WP T}{hr.mono (by decide)}{T.plus.m}{T.plus.F.kp}{T.plus.b}{BY}3A{SV T}{hr.mono (by decide)}{T.times.m}{T.times.F.kp}{T.times.b}{BY}5A2ACBBMCBBM{WP T}{hr.mono (by decide)}{T.plus.m}{T.plus.F.kp}{T.plus.b}{BY}4A{SV T}{hr.mono (by decide)}{T.times.m}{T.times.F.kp}{T.times.b}{BY}6A2ACBBMCBBMCBBKLEFF", ?_⟩
  walk_at "rd"
  refine ⟨_, hs, rfl, ?_⟩
  have eR : t.v_ROUND = .int 8 := by have := T.k_ROUND H; rw [KU, Rp] at this; exact this
  have hS := T.k_STEPS H
  rw [JK, Rp] at hS
  obtain ⟨aS, xs, eS, hsS, hlS⟩ := hS
  rw [eR, eS]
  walk_at "rd"
  obtain ⟨v, hv, rv⟩ := hlS.atI (Int.emod_nonneg h (by decide : (8 : Int) ≠ 0)) (Int.emod_lt_of_pos h (by decide : (0 : Int) < 8))
  have hd := eV h
  rw [JK] at hd
  dsimp only at hd
  rw [hd] at rv
  obtain ⟨a1, x2, y2, rfl, hs2, hx2, hy2⟩ := DM.mp rv
  refine ⟨by decide, _, hsS, _, hv, ?_⟩
  walk_at "rd"
  refine ⟨_, hs2, rfl, ?_⟩
  walk_at "rd"
  refine ⟨x2, _, _, n, rfl, hx2, hn, fun v1 H1 s1 hv1 => ?_⟩
  refine ⟨x1, v1, _, _, _, _, rfl, hx1.same s1, hv1, fun v2 H2 s2 hv2 => ?_⟩
  walk_at "rd"
  have s12 := s1.trans s2
  refine ⟨y2, _, _, n, rfl, hy2.same s12, hn, fun v3 H3 s3 hv3 => ?_⟩
  refine ⟨y1, v3, _, _, _, _, rfl, hy1.same (s12.trans s3), hv3, fun v4 H4 s4 hv4 => ?_⟩
  walk_at "rd"
  have s14 := (s12.trans s3).trans s4
  refine ⟨by decide, fun z hz => q _ _ (s14.upd2 (s14.free hz)) ?_⟩
  refine DM.mpr ⟨z, v2, v4, rfl, SqT.of AB, ?_, ?_⟩
  ·exact hv2.same ((s3.trans s4).trans (AI.upd hz))
  ·exact hv4.same (AI.upd hz)
end
section
variable {κ α : Type} [DecidableEq κ]
def lkA (l : List (κ × α)) (k : κ) : Option α := (l.find? fun z => decide (z.1 = k)).map (·.2)
def ptA (l : List (κ × α)) (k : κ) (x : α) : List (κ × α) := if (l.any fun z => decide (z.1 = k)) = true then l.map (fun z => if z.1 = k then (z.1, x) else z) else l ++ [(k, x)]
def As (f : κ → Key) (R : α → V → Prop) : List (κ × α) → List (Key × V) → Prop := Paired fun a b => b.1 = f a.1 ∧ R a.2 b.2
theorem As.get {f : κ → Key} (inj : ∀ a b, f a = f b → a = b) {R : α → V → Prop} {k : κ} : ∀ {l : List (κ × α)} {kvs : List (Key × V)}, As f R l kvs → (lkA l k = none → FQ kvs (f k) = none) ∧ ∀ z, lkA l k = some z → ∃ v, FQ kvs (f k) = some v ∧ R z v
 | _, _, .nil => ⟨fun _ => rfl, fun z e => by simp [lkA] at e⟩
 | (k', x) :: l, (j, v) :: kvs, .cons ⟨e, r⟩ t => by
  have e : j = f k' := e
  subst e
  have ih := As.get inj (k := k) t
  by_cases h : k' = k
  ·subst h
   refine ⟨fun e => by simp [lkA] at e, fun z e => ⟨v, by simp [FQ], ?_⟩⟩
   simp [lkA] at e
   subst e
   exact r
  ·have h2 : ¬ f k' = f k := fun z => h (inj _ _ z)
   have e1 : lkA ((k', x) :: l) k = lkA l k := by simp [lkA, h]
   have e2 : FQ ((f k', v) :: kvs) (f k) = FQ kvs (f k) := by simp [FQ, h2]
   rw [e1, e2]
   exact ih
theorem As.any {f : κ → Key} (inj : ∀ a b, f a = f b → a = b) {R : α → V → Prop} {k : κ} : ∀ {l : List (κ × α)} {kvs : List (Key × V)}, As f R l kvs → (kvs.any fun z => decide (z.1 = f k)) = (l.any fun z => decide (z.1 = k))
 | _, _, .nil => rfl
 | (k', x) :: l, (j, v) :: kvs, .cons ⟨e, r⟩ t => by
  have e : j = f k' := e
  subst e
  rw [List.any_cons, List.any_cons, As.any inj t]
  have : (f k' = f k) ↔ (k' = k) := ⟨inj _ _, fun z => by rw [z]⟩
  simp [this]
theorem As.app {f : κ → Key} {R : α → V → Prop} : ∀ {l l' : List (κ × α)} {kvs kvs' : List (Key × V)}, As f R l kvs → As f R l' kvs' → As f R (l ++ l') (kvs ++ kvs')
 | _, _, _, _, .nil, h => h
 | _ :: _, _, _ :: _, _, .cons r t, h => .cons r (As.app t h)
theorem As.map {f : κ → Key} (inj : ∀ a b, f a = f b → a = b) {R : α → V → Prop} {k : κ} {x : α} {v : V} (r : R x v) : ∀ {l : List (κ × α)} {kvs : List (Key × V)}, As f R l kvs → As f R (l.map fun z => if z.1 = k then (z.1, x) else z) (kvs.map fun z => if z.1 = f k then (z.1, v) else z)
 | _, _, .nil => .nil
 | (k', y) :: l, (j, u) :: kvs, .cons ⟨e, q⟩ t => by
  have e : j = f k' := e
  subst e
  refine .cons ?_ (As.map inj r t)
  by_cases h : k' = k
  ·subst h
   simp
   exact r
  ·have h2 : ¬ f k' = f k := fun z => h (inj _ _ z)
   simp [h, h2]
   exact q
theorem As.put {f : κ → Key} (inj : ∀ a b, f a = f b → a = b) {R : α → V → Prop} {l : List (κ × α)} {kvs : List (Key × V)} (h : As f R l kvs) {k : κ} {x : α} {v : V} (r : R x v) : As f R (ptA l k x) (EC kvs (f k) v) := by
 unfold ptA EC
 rw [As.any inj h]
 by_cases c : (l.any fun z => decide (z.1 = k)) = true
 ·rw [if_pos c, if_pos c]; exact As.map inj r h
 ·rw [if_neg c, if_neg c]; exact As.app h (.cons ⟨rfl, r⟩ .nil)
theorem As.mono {f : κ → Key} {R R' : α → V → Prop} (m : ∀ a v, R a v → R' a v) : ∀ {l : List (κ × α)} {kvs : List (Key × V)}, As f R l kvs → As f R' l kvs
 | _, _, .nil => .nil
 | _ :: _, _ :: _, .cons r t => .cons ⟨r.1, m _ _ r.2⟩ (As.mono m t)
theorem As.length {f : κ → Key} {R : α → V → Prop} : ∀ {l : List (κ × α)} {kvs : List (Key × V)}, As f R l kvs → l.length = kvs.length
 | _, _, .nil => rfl
 | _ :: _, _ :: _, .cons _ t => congrArg (· + 1) (As.length t)
theorem QO (l : List (κ × α)) (k : κ) (x : α) : (ptA l k x).length ≤ l.length + 1 := by
 unfold ptA
 split
 ·rw [List.length_map]; exact Nat.le_succ _
 ·rw [List.length_append]; exact Nat.le_refl _
end
theorem VN : ∀ a b : Int, (Sum.inl a : Key) = Sum.inl b → a = b := fun _ _ e => Sum.inl.inj e
theorem KY : ∀ a b : Str, (Sum.inr a : Key) = Sum.inr b → a = b := fun _ _ e => Sum.inr.inj e
inductive Ac where
 | go (n : Int) | turn (n : Int) | ink (n : Int) | up | down | mark (n : Int) | back (n : Int)
def Ac.D : Ac → L2.D
 | .go n => .tup [.str "go", .int n]
 | .turn n => .tup [.str "turn", .int n]
 | .ink n => .tup [.str "ink", .int n]
 | .up => .tup [.str "up"]
 | .down => .tup [.str "down"]
 | .mark n => .tup [.str "mark", .int n]
 | .back n => .tup [.str "back", .int n]
structure Hd where
 p : Pl
 h : Int
 dn : Bool
 ink : Int
 tu : Int
 st : List (Int × Pl × Pl)
 co : List Pl
 ms : List (Int × (Pl × Int))
def skD (x : Int × Pl × Pl) : L2.D := .tup [.int x.1, x.2.1.D, x.2.2.D]
def Hd.come (x : Hd) (q : Pl) : Hd := { x with p := q, co := x.co ++ [q] }
def stp (x : Hd) : Ac → Option Hd
 | .go n => some { x with p := mv x.p x.h n, st := if x.dn = true ∧ n ≠ 0 then x.st ++ [(x.ink, x.p, mv x.p x.h n)] else x.st, co := x.co ++ [mv x.p x.h n] }
 | .turn n => some { x with h := (x.h + n) % 8, tu := x.tu + n }
 | .ink n => some { x with ink := n % 8 }
 | .up => some { x with dn := false }
 | .down => some { x with dn := true }
 | .mark n => some { x with ms := ptA x.ms n (x.p, x.h) }
 | .back n => (lkA x.ms n).map fun z => { x with p := z.1, h := z.2, co := x.co ++ [z.1] }
def p0 : Pl := ⟨0, 0, 0, 0⟩
def hd0 : Hd := ⟨p0, 0, true, 0, 0, [], [p0], []⟩
structure Ha where
 (p ls lc lm : Addr)
abbrev Ha.l (a : Ha) : List Addr := [a.p, a.ls, a.lc, a.lm]
def hf (vp : V) (x : Hd) (a : Ha) : List (Str × V) := [("spot", vp), ("heading", .int x.h), ("down", .bl x.dn), ("ink", .int x.ink), ("turned", .int x.tu), ("marks", .ref a.lm), ("strokes", .ref a.ls), ("corners", .ref a.lc)]
abbrev MkR (K : PySem.W.Frag) (H : Hp) : (Pl × Int) → V → Prop := fun z v => Rp K H (.tup [z.1.D, .int z.2]) v
structure CJ (K : PySem.W.Frag) (C : Addr) (H : Hp) (a : Ha) (x : Hd) : Prop where
 ob : ∃ dx vp, H a.p = some (.ins C dx (hf vp x a)) ∧ Rp K H x.p.D vp
 st : ∃ vs, H a.ls = some (.lst vs) ∧ RpL K H (x.st.map skD) vs
 co : ∃ vs, H a.lc = some (.lst vs) ∧ RpL K H (x.co.map Pl.D) vs
 ms : ∃ kvs, H a.lm = some (.dK kvs) ∧ As .inl (MkR K H) x.ms kvs
 ne : a.ls ≠ a.lc
theorem SO {H : Hp} {a : Addr} {kvs : List (Key × V)} (h : H a = some (.dK kvs)) : ∀ u, H a = some u → ¬ ((∃ xs, u = .tup xs) ∨ ∃ o1 o2, u = .frz o1 o2) := by
 intro u e
 rw [h] at e; cases e
 rintro (⟨_, z⟩ | ⟨_, _, z⟩) <;> cases z
section
variable {P : Program} {w : World} {K : PySem.W.Frag} {mg : Str → Option Value} {base : Heap} {t : Adr}
theorem AZ {K : PySem.W.Frag} {H : Hp} {d : L2.D} {ds : List L2.D} {v : V} {r : List V} (h1 : Rp K H d v) (h2 : RpL K H ds r) : RpL K H (d :: ds) (v :: r) := by rw [RpL]; exact ⟨_, _, rfl, h1, h2⟩
theorem l8 : (8 : Nat) < 1000 := by decide
theorem EY {n : Nat} (h : n ≤ 5000) : n < sizeLine := Nat.lt_of_le_of_lt h (by decide)
theorem SL (T : Txt K mg t) (H : Hp) : Rp K H p0.D t.v_BEGINNING := T.k_BEGINNING H
def aZ (K : PySem.W.Frag) (C : Addr) : Sp := fun vs H Q _ => ∃ (p dx : Addr), vs = [.ref p] ∧ H p = some (.ins C dx []) ∧ ∀ (a : Ha) (H' : Hp), a.p = p → H a.ls = none → H a.lc = none → H a.lm = none → But [p] H H' → CJ K C H' a hd0 → Q .non H'
theorem PQ (T : Txt K mg t) : BJ P w K mg base CX0 1 t.a_Hand_init t.d_Hand_init ["self"] (aZ K t.c_Hand) := by
 refine T.Hand_init.F.ok OT (fun vs H Q E h => ?_) (fun cdv A outer s H vs Q E hr h => ?_)
 ·obtain ⟨p, dx, rfl, _⟩ := h; rfl
 ·obtain ⟨p, dx, rfl, hp, q⟩ := h
  refine ⟨_, s!"0A_{T.g_BEGINNING}{T.r_BEGINNING}bT0ADT0AeT0ADT0ADT0A{@SA _ _}T0ACdT0A_{T.g_BEGINNING}{T.r_BEGINNING}bCBdTEFFFFFFF", ?_⟩
  walk_at "ro"
  refine ⟨_, _, _, hp, T.cl_Hand, T.n_Hand_spot, by decide, ?_⟩
  refine ⟨T.cl_Hand, T.n_Hand_heading, (show (1 : Nat) < 1000 by decide), T.cl_Hand, T.n_Hand_down, (show (2 : Nat) < 1000 by decide), T.cl_Hand, T.n_Hand_ink, (show (3 : Nat) < 1000 by decide), T.cl_Hand, T.n_Hand_turned, (show (4 : Nat) < 1000 by decide), ?_⟩
  have g1 : ∀ o, (upd H p o) p = some o := fun o => AB
  have b1 : ∀ o, But [p] H (upd H p o) := fun o => (But.refl _ H).upd (.inr (by simp))
  generalize e1 : BB (Str.ofString "turned") (V.int 0) _ = f1
  have g1 := g1 (.ins t.c_Hand dx f1)
  have b1 := b1 (.ins t.c_Hand dx f1)
  generalize upd H p (.ins t.c_Hand dx f1) = G1 at g1 b1 ⊢
  intro lm hlm
  have nm := AK g1 hlm
  have fm := b1.free (by simp [g1]) hlm
  refine ⟨_, _, _, by rw [AH nm]; exact g1, T.cl_Hand, T.n_Hand_marks, by rw [← e1]; exact (show (5 : Nat) < 1000 by decide), by decide, ?_⟩
  have b2 : But [p] H (upd (upd G1 lm (.dK [])) p (.ins t.c_Hand dx (BB (Str.ofString "marks") (.ref lm) f1))) := (b1.upd (.inl fm)).upd (.inr (by simp))
  have g2 : (upd (upd G1 lm (.dK [])) p (.ins t.c_Hand dx (BB (Str.ofString "marks") (.ref lm) f1))) p = some (.ins t.c_Hand dx (BB (Str.ofString "marks") (.ref lm) f1)) := AB
  have m2 : (upd (upd G1 lm (.dK [])) p (.ins t.c_Hand dx (BB (Str.ofString "marks") (.ref lm) f1))) lm = some (.dK []) := by rw [AH nm.symm, AB]
  generalize upd (upd G1 lm (.dK [])) p (.ins t.c_Hand dx (BB (Str.ofString "marks") (.ref lm) f1)) = G2 at g2 b2 m2 ⊢
  intro ls hls
  have ns := AK g2 hls
  refine ⟨_, _, _, by rw [AH ns]; exact g2, T.cl_Hand, T.n_Hand_strokes, by rw [← e1]; exact (show (6 : Nat) < 1000 by decide), ?_⟩
  have fs := b2.free (by simp [g2]) hls
  have b3 : But [p] H (upd (upd G2 ls (.lst [])) p (.ins t.c_Hand dx (BB (Str.ofString "strokes") (.ref ls) (BB (Str.ofString "marks") (.ref lm) f1)))) := (b2.upd (.inl fs)).upd (.inr (by simp))
  have g3 : (upd (upd G2 ls (.lst [])) p (.ins t.c_Hand dx (BB (Str.ofString "strokes") (.ref ls) (BB (Str.ofString "marks") (.ref lm) f1)))) p = some (.ins t.c_Hand dx (BB (Str.ofString "strokes") (.ref ls) (BB (Str.ofString "marks") (.ref lm) f1))) := AB
  have l3 : (upd (upd G2 ls (.lst [])) p (.ins t.c_Hand dx (BB (Str.ofString "strokes") (.ref ls) (BB (Str.ofString "marks") (.ref lm) f1)))) ls = some (.lst []) := by rw [AH ns.symm, AB]
  have m3 : (upd (upd G2 ls (.lst [])) p (.ins t.c_Hand dx (BB (Str.ofString "strokes") (.ref ls) (BB (Str.ofString "marks") (.ref lm) f1)))) lm = some (.dK []) := by rw [AH nm.symm, AH (AK m2 hls)]; exact m2
  generalize upd (upd G2 ls (.lst [])) p (.ins t.c_Hand dx (BB (Str.ofString "strokes") (.ref ls) (BB (Str.ofString "marks") (.ref lm) f1))) = G3 at g3 b3 l3 m3 ⊢
  walk_at "ro"
  refine ⟨by decide, fun lc hlc => ?_⟩
  have nc := AK g3 hlc
  have ncl := AK l3 hlc
  refine ⟨_, _, _, by rw [AH nc]; exact g3, T.cl_Hand, T.n_Hand_corners, by rw [← e1]; exact (show (7 : Nat) < 1000 by decide), ?_⟩
  have fc := b3.free (by simp [g3]) hlc
  refine q ⟨p, ls, lc, lm⟩ _ rfl fs fc fm ((b3.upd (.inl fc)).upd (.inr (by simp))) ⟨⟨dx, t.v_BEGINNING, ?_, SL T _⟩, ⟨[], ?_, RpL.nil⟩, ⟨[t.v_BEGINNING], ?_, RpL.one (SL T _)⟩, ⟨[], ?_, .nil⟩, ncl⟩
  ·rw [AB, ← e1]; rfl
  ·rw [AH ns.symm, AH ncl]; exact l3
  ·rw [AH nc.symm, AB]
  ·rw [AH nm.symm, AH (AK m3 hlc)]; exact m3
theorem CJ.same {C : Addr} {a : Ha} {H H' : Hp} {x : Hd} (h : CJ K C H a x) (s : AI H H') : CJ K C H' a x := by
 obtain ⟨⟨dx, vp, hp, rp⟩, ⟨vs1, hs, rs⟩, ⟨vs2, hc, rc⟩, ⟨kvs, hm, rm⟩, ne⟩ := h
 exact ⟨⟨dx, vp, s _ _ hp, rp.same s⟩, ⟨vs1, s _ _ hs, rs.same s⟩, ⟨vs2, s _ _ hc, rc.same s⟩, ⟨kvs, s _ _ hm, rm.mono fun z v r => Rp.same s r⟩, ne⟩
theorem CJ.off {C : Addr} {a : Ha} {l : List Addr} {H H' : Hp} {x : Hd} (h : CJ K C H a x) (b : But l H H') (st : AU H H') (n : ∀ c ∈ a.l, c ∉ l) : CJ K C H' a x := by
 obtain ⟨⟨dx, vp, hp, rp⟩, ⟨vs1, hs, rs⟩, ⟨vs2, hc, rc⟩, ⟨kvs, hm, rm⟩, ne⟩ := h
 exact ⟨⟨dx, vp, b _ _ hp (n _ (by simp)), rp.t st⟩, ⟨vs1, b _ _ hs (n _ (by simp)), rs.t st⟩, ⟨vs2, b _ _ hc (n _ (by simp)), rc.t st⟩, ⟨kvs, b _ _ hm (n _ (by simp)), rm.mono fun z v r => Rp.t st r⟩, ne⟩
theorem CJ.put {C dx : Addr} {a : Ha} {vp : V} {H : Hp} {x y : Hd} {fs : List (Str × V)} (h : CJ K C H a x) (hp : H a.p = some (.ins C dx (hf vp x a))) (rp : Rp K H y.p.D vp) (e : fs = hf vp y a) (e1 : y.st = x.st) (e2 : y.co = x.co) (e3 : y.ms = x.ms) :
  But a.l H (upd H a.p (.ins C dx fs)) ∧ AU H (upd H a.p (.ins C dx fs)) ∧ CJ K C (upd H a.p (.ins C dx fs)) a y := by
 subst e
 obtain ⟨_, ⟨vs1, hs, rs⟩, ⟨vs2, hc, rc⟩, ⟨kvs, hm, rm⟩, ne⟩ := h
 have st : AU H (upd H a.p (.ins C dx (hf vp y a))) := (AU.refl H).upd (FO hp)
 have n1 := FP hp hs
 have n2 := FP hp hc
 have n3 : a.p ≠ a.lm := BL hp hm (by intro z; cases z)
 refine ⟨(But.refl _ H).upd (.inr (by simp)), st, ⟨dx, vp, AB, rp.t st⟩, ⟨vs1, by rw [AH n1.symm]; exact hs, ?_⟩, ⟨vs2, by rw [AH n2.symm]; exact hc, ?_⟩, ⟨kvs, by rw [AH n3.symm]; exact hm, ?_⟩, ne⟩
 ·rw [e1]; exact rs.t st
 ·rw [e2]; exact rc.t st
 ·rw [e3]; exact rm.mono fun z v r => Rp.t st r
def cW (K : PySem.W.Frag) (C : Addr) : Sp := fun vs H Q _ => ∃ (a : Ha) (v : V) (x : Hd) (q : Pl), vs = [.ref a.p, v] ∧ CJ K C H a x ∧ Rp K H q.D v ∧ x.co.length ≤ 5000 ∧ ∀ H', But a.l H H' → AU H H' → CJ K C H' a (x.come q) → Q .non H'
theorem HC (T : Txt K mg t) : BJ P w K mg base CX0 1 t.a_Hand_cometo t.d_Hand_cometo ["self", "spot"] (cW K t.c_Hand) := by
 refine T.Hand_cometo.F.ok LI (fun vs H Q E h => ?_) (fun cdv A outer s H vs Q E hr h => ?_)
 ·obtain ⟨a, v, x, y, rfl, _⟩ := h; rfl
 ·obtain ⟨a, v, x, y, rfl, hA, hv, hc, q⟩ := h
  obtain ⟨⟨dx, vp, hp, rp⟩, ⟨vs1, hs, rs⟩, ⟨vs2, hc2, rc⟩, ⟨kvs, hm, rm⟩, ne⟩ := id hA
  have n1 := FP hp hs
  have n2 := FP hp hc2
  have n3 : a.p ≠ a.lm := BL hp hm (by intro z; cases z)
  have n4 : a.lc ≠ a.lm := BL hc2 hm (by intro z; cases z)
  refine ⟨_, s!"0A1AT0AJ1ACBjZEF", ?_⟩
  walk_at "ro"
  refine ⟨_, _, _, hp, T.cl_Hand, T.n_Hand_spot, l8, ?_⟩
  walk_at "ro"
  refine ⟨T.cl_Hand, T.n_Hand_corners, .ref a.lc, rfl, .inl ⟨vs2, ?_⟩, vs2, ?_, ?_, ?_⟩
  ·exact SqL.of (by rw [AH n2.symm]; exact hc2)
  ·rw [AH n2.symm]; exact hc2
  ·refine EY ?_; rw [rc.length, List.length_map]; exact hc
  ·have st : AU H (upd (upd H a.p (.ins t.c_Hand dx (BB (Str.ofString "spot") v (hf vp x a)))) a.lc (.lst (vs2 ++ [v]))) := ((AU.refl H).upd (FO hp)).upd (FN hc2)
   have bt : But a.l H (upd (upd H a.p (.ins t.c_Hand dx (BB (Str.ofString "spot") v (hf vp x a)))) a.lc (.lst (vs2 ++ [v]))) := ((But.refl _ H).upd (.inr (by simp))).upd (.inr (by simp))
   refine q _ bt st ⟨⟨dx, v, ?_, hv.t st⟩, ⟨vs1, ?_, rs.t st⟩, ⟨vs2 ++ [v], AB, ?_⟩, ⟨kvs, ?_, rm.mono fun z v r => Rp.t st r⟩, ne⟩
   ·rw [AH n2, AB]; rfl
   ·rw [AH ne, AH n1.symm]; exact hs
   ·show RpL K _ ((x.co ++ [y]).map Pl.D) _
    rw [List.map_append]
    exact (rc.t st).app (RpL.one (hv.t st))
   ·rw [AH n4.symm, AH n3.symm]; exact hm
end
theorem VD : (Str.ofString "go" = Str.ofString "again") = False := eq_false (by decide +kernel)
theorem gN : (Str.ofString "go" = Str.ofString "if") = False := eq_false (by decide +kernel)
theorem gI : (Str.ofString "go" = Str.ofString "do") = False := eq_false (by decide +kernel)
theorem YE : (Str.ofString "turn" = Str.ofString "go") = False := eq_false (by decide +kernel)
theorem QP : (Str.ofString "turn" = Str.ofString "again") = False := eq_false (by decide +kernel)
theorem YF : (Str.ofString "turn" = Str.ofString "if") = False := eq_false (by decide +kernel)
theorem ZF : (Str.ofString "turn" = Str.ofString "do") = False := eq_false (by decide +kernel)
theorem aO : (Str.ofString "ink" = Str.ofString "go") = False := eq_false (by decide +kernel)
theorem UY : (Str.ofString "ink" = Str.ofString "turn") = False := eq_false (by decide +kernel)
theorem QT : (Str.ofString "ink" = Str.ofString "again") = False := eq_false (by decide +kernel)
theorem ZI : (Str.ofString "ink" = Str.ofString "if") = False := eq_false (by decide +kernel)
theorem ZT : (Str.ofString "ink" = Str.ofString "do") = False := eq_false (by decide +kernel)
theorem gR : (Str.ofString "up" = Str.ofString "go") = False := eq_false (by decide +kernel)
theorem YH : (Str.ofString "up" = Str.ofString "turn") = False := eq_false (by decide +kernel)
theorem bQ : (Str.ofString "up" = Str.ofString "ink") = False := eq_false (by decide +kernel)
theorem YR : (Str.ofString "up" = Str.ofString "down") = False := eq_false (by decide +kernel)
theorem XE : (Str.ofString "up" = Str.ofString "mark") = False := eq_false (by decide +kernel)
theorem XM : (Str.ofString "up" = Str.ofString "back") = False := eq_false (by decide +kernel)
theorem UG : (Str.ofString "up" = Str.ofString "again") = False := eq_false (by decide +kernel)
theorem gX : (Str.ofString "up" = Str.ofString "if") = False := eq_false (by decide +kernel)
theorem hV : (Str.ofString "up" = Str.ofString "do") = False := eq_false (by decide +kernel)
theorem YQ : (Str.ofString "down" = Str.ofString "go") = False := eq_false (by decide +kernel)
theorem SZ : (Str.ofString "down" = Str.ofString "turn") = False := eq_false (by decide +kernel)
theorem UP : (Str.ofString "down" = Str.ofString "ink") = False := eq_false (by decide +kernel)
theorem RH : (Str.ofString "down" = Str.ofString "mark") = False := eq_false (by decide +kernel)
theorem RI : (Str.ofString "down" = Str.ofString "back") = False := eq_false (by decide +kernel)
theorem PP : (Str.ofString "down" = Str.ofString "again") = False := eq_false (by decide +kernel)
theorem WW : (Str.ofString "down" = Str.ofString "if") = False := eq_false (by decide +kernel)
theorem YC : (Str.ofString "down" = Str.ofString "do") = False := eq_false (by decide +kernel)
theorem XZ : (Str.ofString "mark" = Str.ofString "go") = False := eq_false (by decide +kernel)
theorem RM : (Str.ofString "mark" = Str.ofString "turn") = False := eq_false (by decide +kernel)
theorem VF : (Str.ofString "mark" = Str.ofString "ink") = False := eq_false (by decide +kernel)
theorem QB : (Str.ofString "mark" = Str.ofString "again") = False := eq_false (by decide +kernel)
theorem WV : (Str.ofString "mark" = Str.ofString "if") = False := eq_false (by decide +kernel)
theorem WU : (Str.ofString "mark" = Str.ofString "do") = False := eq_false (by decide +kernel)
theorem YT : (Str.ofString "back" = Str.ofString "go") = False := eq_false (by decide +kernel)
theorem SR : (Str.ofString "back" = Str.ofString "turn") = False := eq_false (by decide +kernel)
theorem TJ : (Str.ofString "back" = Str.ofString "ink") = False := eq_false (by decide +kernel)
theorem SG : (Str.ofString "back" = Str.ofString "mark") = False := eq_false (by decide +kernel)
theorem OU : (Str.ofString "back" = Str.ofString "again") = False := eq_false (by decide +kernel)
theorem XA : (Str.ofString "back" = Str.ofString "if") = False := eq_false (by decide +kernel)
theorem XC : (Str.ofString "back" = Str.ofString "do") = False := eq_false (by decide +kernel)
theorem UF : (Str.ofString "if" = Str.ofString "again") = False := eq_false (by decide +kernel)
theorem UH : (Str.ofString "do" = Str.ofString "again") = False := eq_false (by decide +kernel)
theorem eZ : (Str.ofString "do" = Str.ofString "if") = False := eq_false (by decide +kernel)
local macro_rules | `(tactic| walk_at "ws") => `(tactic| try simp only [VD, gN, gI, YE, QP, YF, ZF, aO, UY, QT, ZI, ZT, gR, YH, bQ, YR, XE, XM, UG, gX, hV, YQ, SZ, UP, RH, RI, PP, WW, YC, XZ, RM, VF, QB, WV, WU, YT, SR, TJ, SG, OU, XA, XC, UF, UH, eZ, if_true, if_false, decide_true, decide_false, Bool.false_eq_true, eq_self])
def Ac.ok : Ac → Prop
 | .go n => -1000000 ≤ n ∧ n ≤ 1000000
 | .turn n => -1000000 ≤ n ∧ n ≤ 1000000
 | .ink n => -1000000 ≤ n ∧ n ≤ 1000000
 | _ => True
theorem rp2 {K : PySem.W.Frag} {H : Hp} {x : Str} {n : Int} {v : V} (h : Rp K H (.tup [.str x, .int n]) v) : ∃ a, v = .ref a ∧ SqT K H a [.str x, .int n] := by
 obtain ⟨a, y, z, rfl, hs, hy, hz⟩ := DM.mp h
 have hy : y = .str x := by rw [Rp] at hy; exact hy
 have hz : z = .int n := by rw [Rp] at hz; exact hz
 subst hy; subst hz
 exact ⟨a, rfl, hs⟩
theorem rp1 {K : PySem.W.Frag} {H : Hp} {x : Str} {v : V} (h : Rp K H (.tup [.str x]) v) : ∃ a, v = .ref a ∧ SqT K H a [.str x] := by
 rw [Rp] at h
 obtain ⟨a, xs, rfl, hs, hl⟩ := h
 rw [RpL] at hl
 obtain ⟨y, r, rfl, hy, hr⟩ := hl
 rw [RpL] at hr
 rw [Rp] at hy
 subst hr; subst hy
 exact ⟨a, rfl, hs⟩
def Ac.xs : Ac → List V
 | .go n => [.str "go", .int n]
 | .turn n => [.str "turn", .int n]
 | .ink n => [.str "ink", .int n]
 | .up => [.str "up"]
 | .down => [.str "down"]
 | .mark n => [.str "mark", .int n]
 | .back n => [.str "back", .int n]
theorem mS {K : PySem.W.Frag} {H : Hp} {s : Ac} {v : V} (h : Rp K H s.D v) : ∃ a, v = .ref a ∧ SqT K H a s.xs := by
 cases s with
 | go n => exact rp2 h
 | turn n => exact rp2 h
 | ink n => exact rp2 h
 | mark n => exact rp2 h
 | back n => exact rp2 h
 | up => exact rp1 h
 | down => exact rp1 h
section
variable {P : Program} {w : World} {K : PySem.W.Frag} {mg : Str → Option Value} {base : Heap} {t : Adr}
def jT (K : PySem.W.Frag) (C : Addr) : Sp := fun vs H Q _ => ∃ (a : Ha) (x y : Hd) (n : Int), vs = [.ref a.p, .int n] ∧ CJ K C H a x ∧ (-(2 ^ 60) ≤ n ∧ n ≤ 2 ^ 60) ∧ x.co.length ≤ 5000 ∧ x.st.length ≤ 5000 ∧ stp x (.go n) = some y ∧ ∀ H', But a.l H H' → AU H H' → CJ K C H' a y → Q .non H'
theorem VC (T : Txt K mg t) : BJ P w K mg base CX0 3 t.a_Hand_go t.d_Hand_go ["self", "steps"] (jT K t.c_Hand) := by
 refine T.Hand_go.F.ok MQ (fun vs H Q E h => ?_) (fun cdv A outer s H vs Q E hr h => ?_)
 ·obtain ⟨a, x, y, n, rfl, _⟩ := h; rfl
 ·obtain ⟨a, x, y, n, rfl, hA, hn, hc, hst, ey, q⟩ := h
  obtain ⟨⟨dx, vp, hp, rp⟩, _, _, _, _⟩ := id hA
  refine ⟨_, s!"2{MQ.nd}{Or.inl rfl}0AJI0A{T.cl_Hand}{T.Hand_cometo.mt}{HC T}{hr.mono (by decide)}{T.Hand_cometo.b}{BY}{cT T}{hr.mono (by decide)}{T.moved.m}{T.moved.F.kp}{T.moved.b}{BY}2A0AJ1ACBBBMCBgZ{@PW.pt _ _ _ s!"0AJh{HH}1AD{BE _}Qzy"}0AJ0AJ2A0AJCBBBKCNjZEYPEFF", ?_⟩
  walk_at "ro"
  refine ⟨_, _, _, hp, T.cl_Hand, T.n_Hand_spot, vp, rfl, ?_⟩
  walk_at "ro"
  refine ⟨_, _, hp, rfl, _, _, _, hp, T.cl_Hand, T.n_Hand_heading, _, rfl, ?_⟩
  refine ⟨vp, x.p, x.h, n, rfl, rp, hn, fun v H1 s1 r1 => ?_⟩
  refine ⟨a, v, x, _, rfl, hA.same s1, r1, hc, fun H2 b2 t2 hB => ?_⟩
  walk_at "ro"
  have b02 : But a.l H H2 := s1.but.trans b2
  have t02 : AU H H2 := s1.t.trans t2
  obtain ⟨⟨dx2, vp2, hp2, rp2⟩, ⟨vs1, hs2, rs2⟩, ⟨vs2, hc2, rc2⟩, ⟨kvs, hm2, rm2⟩, ne2⟩ := id hB
  have ns := FP hp2 hs2
  refine ⟨_, _, _, hp2, T.cl_Hand, T.n_Hand_down, _, rfl, ?_⟩
  walk_at "ro"
  rw [show (x.come (mv x.p x.h n)).dn = x.dn from rfl]
  have ey := Option.some.inj ey
  by_cases hd : x.dn = true
  ·rw [if_pos hd]
   by_cases h0 : n = 0
   ·rw [if_neg (not_not_intro h0)]
    refine q H2 b02 t02 ?_
    have e : y = x.come (mv x.p x.h n) := by rw [← ey]; simp [Hd.come, h0]
    rw [e]; exact hB
   ·rw [if_pos h0]
    refine ⟨_, _, _, hp2, T.cl_Hand, T.n_Hand_strokes, .ref a.ls, rfl, .inl ⟨_, SqL.of hs2⟩, _, _, _, hp2, T.cl_Hand, T.n_Hand_ink, _, rfl, _, _, _, hp2, T.cl_Hand, T.n_Hand_spot, vp2, rfl, by decide, fun tp htp => ?_⟩
    walk_at "ro"
    have ntl := AK hs2 htp
    have ntp := AK hp2 htp
    have ntc := AK hc2 htp
    have ntm := AK hm2 htp
    have nml : a.lm ≠ a.ls := BL hm2 hs2 (by intro z; cases z)
    refine ⟨_, by rw [AH ntl]; exact hs2, by refine EY ?_; rw [rs2.length, List.length_map]; exact hst, ?_⟩
    have sU := AI.upd (o := .tup [.int (x.come (mv x.p x.h n)).ink, vp, vp2]) htp
    have tU : AU H2 (upd (upd H2 tp (.tup [.int (x.come (mv x.p x.h n)).ink, vp, vp2])) a.ls (.lst (vs1 ++ [.ref tp]))) := sU.t.upd (FN hs2)
    have bU : But a.l H (upd (upd H2 tp (.tup [.int (x.come (mv x.p x.h n)).ink, vp, vp2])) a.ls (.lst (vs1 ++ [.ref tp]))) := (b02.upd (.inl (b02.free (by simp [hp2, hs2, hc2, hm2]) htp))).upd (.inr (by simp))
    refine q _ bU (t02.trans tU) ?_
    have e : y = { x.come (mv x.p x.h n) with st := x.st ++ [(x.ink, x.p, mv x.p x.h n)] } := by rw [← ey]; simp [Hd.come, h0, hd]
    rw [e]
    refine ⟨⟨dx2, vp2, by rw [AH ns, AH ntp]; exact hp2, rp2.t tU⟩, ⟨_, AB, ?_⟩, ⟨vs2, by rw [AH ne2.symm, AH ntc]; exact hc2, rc2.t tU⟩, ⟨kvs, by rw [AH nml, AH ntm]; exact hm2, rm2.mono fun z v r => Rp.t tU r⟩, ne2⟩
    show RpL K _ ((x.st ++ [(x.ink, x.p, mv x.p x.h n)]).map skD) _
    rw [List.map_append]
    refine (rs2.t tU).app (RpL.one ?_)
    rw [skD, Rp]
    refine ⟨tp, [.int x.ink, vp, vp2], rfl, SqT.of ?_, ?_⟩
    ·rw [AH ntl.symm, AB]; rfl
    ·exact AZ (by rw [Rp]) (AZ ((rp.t t02).t tU) (AZ (rp2.t tU) RpL.nil))
  ·rw [if_neg hd]
   refine q H2 b02 t02 ?_
   have e : y = x.come (mv x.p x.h n) := by rw [← ey]; simp [Hd.come, hd]
   rw [e]; exact hB
def aV (K : PySem.W.Frag) (C : Addr) : Sp := fun vs H Q _ => ∃ (a : Ha) (x y : Hd) (n : Int), vs = [.ref a.p, .int n] ∧ CJ K C H a x ∧ stp x (.turn n) = some y ∧ ∀ H', But a.l H H' → AU H H' → CJ K C H' a y → Q .non H'
theorem PD (T : Txt K mg t) : BJ P w K mg base CX0 1 t.a_Hand_turn t.d_Hand_turn ["self", "eighths"] (aV K t.c_Hand) := by
 refine T.Hand_turn.F.ok OP (fun vs H Q E h => ?_) (fun cdv A outer s H vs Q E hr h => ?_)
 ·obtain ⟨a, x, y, n, rfl, _⟩ := h; rfl
 ·obtain ⟨a, x, y, n, rfl, hA, ey, q⟩ := h
  obtain ⟨⟨dx, vp, hp, rp⟩, _, _, _, _⟩ := id hA
  have eR : t.v_ROUND = .int 8 := by have := T.k_ROUND H; rw [KU, Rp] at this; exact this
  refine ⟨_, s!"0A{CL}{CO}0AJ1AG_{T.g_ROUND}{T.r_ROUND}bGT0A1A!EF", ?_⟩
  walk_at "ro"
  refine ⟨_, _, _, hp, T.cl_Hand, T.n_Hand_heading, _, rfl, ?_⟩
  rw [eR]
  walk_at "ro"
  refine ⟨by decide, _, _, _, hp, T.cl_Hand, T.n_Hand_heading, l8, ?_⟩
  walk_at "ro"
  refine ⟨T.cl_Hand, T.n_Hand_turned, _, rfl, x.tu, rfl, l8, ?_⟩
  have ey := Option.some.inj ey
  subst ey
  obtain ⟨b, s1, h1⟩ := hA.put (y := { x with h := (x.h + n) % 8, tu := x.tu + n }) hp rp (fs := BB (Str.ofString "turned") (V.int (x.tu + n)) (BB (Str.ofString "heading") (V.int ((x.h + n) % 8)) (hf vp x a))) rfl rfl rfl rfl
  exact q _ b s1 h1
def mE (K : PySem.W.Frag) (t : Adr) (a : Ha) (H : Hp) (Q : VK) (E : XK) : Option Hd → Prop
 | some y => ∀ H', But a.l H H' → AU H H' → CJ K t.c_Hand H' a y → Q .non H'
 | none => ∀ H', But a.l H H' → AU H H' → E (.ref t.c_NoMark) none H'
def aN (K : PySem.W.Frag) (t : Adr) : Sp := fun vs H Q E => ∃ (a : Ha) (x : Hd) (n : Int), vs = [.ref a.p, .int n] ∧ CJ K t.c_Hand H a x ∧ x.co.length ≤ 5000 ∧ mE K t a H Q E (stp x (.back n))
theorem PN (T : Txt K mg t) : BJ P w K mg base (CXr P w) 2 t.a_Hand_back t.d_Hand_back ["self", "number"] (aN K t) := by
 refine T.Hand_back.F.okR GH (fun vs H Q E h => ?_) (fun cdv A outer s H vs Q E hr h => ?_)
 ·obtain ⟨a, x, n, rfl, _⟩ := h; rfl
 ·obtain ⟨a, x, n, rfl, hA, hc, q⟩ := h
  obtain ⟨⟨dx, vp, hp, rp⟩, ⟨vs1, hs, rs⟩, ⟨vs2, hc2, rc⟩, ⟨kvs, hm, rm⟩, ne⟩ := id hA
  refine ⟨_, s!"{XR (OI hr)}1A0AJ{by with_unfolding_all rfl}Q{RO iO rfl T.x_NoMark (by rfl) T.mg_NoMark s!"HCB"}EYP{PU (OI hr) s!"0AJ" s!"1A" (fun _ _ => rfl)}2{GH.nd}U3{GH.nd}Ukccml0A3AT0A{T.cl_Hand}{T.Hand_cometo.mt}{BJ.upR (HC T)}{hr.mono (by decide)}{T.Hand_cometo.b}{DF}2ACBgZEFFF", ?_⟩
  walk_at "ro"
  refine ⟨_, _, _, hp, T.cl_Hand, T.n_Hand_marks, _, rfl, ?_⟩
  dsimp only
  refine ⟨kvs, .inl hm, .inl n, rfl, ?_⟩
  have gt := As.get VN (k := n) rm
  cases e : lkA x.ms n with
  | none =>
   rw [gt.1 e]
   simp only [stp, e] at q
   rw [if_pos (by rfl)]
   exact ⟨by decide, q H (But.refl _ _) (AU.refl _)⟩
  | some z =>
   obtain ⟨v, ev, rv⟩ := gt.2 z e
   simp only [stp, e] at q
   rw [ev]
   rw [if_neg (by simp)]
   refine ⟨_, _, _, hp, T.cl_Hand, T.n_Hand_marks, _, rfl, ?_⟩
   dsimp only
   refine ⟨kvs, .inl hm, .inl n, rfl, v, ev, ?_⟩
   obtain ⟨pm, xp, xh, rfl, hpm, rxp, rxh⟩ := DM.mp rv
   have rxh : xh = .int z.2 := by rw [Rp] at rxh; exact rxh
   subst rxh
   walk_at "ro"
   refine ⟨_, hpm, rfl, ?_⟩
   walk_at "ro"
   refine ⟨_, _, _, hp, T.cl_Hand, T.n_Hand_heading, l8, ?_⟩
   obtain ⟨b, s1, h1⟩ := hA.put (y := { x with h := z.2 }) hp rp (fs := BB (Str.ofString "heading") (V.int z.2) (hf vp x a)) rfl rfl rfl rfl
   walk_at "ro"
   refine ⟨rfl, a, xp, { x with h := z.2 }, z.1, rfl, h1, rxp.t s1, hc, fun H2 b2 t2 hB => ?_⟩
   exact q H2 (b.trans b2) (s1.trans t2) hB
def gK (K : PySem.W.Frag) (t : Adr) : Sp := fun vs H Q E => ∃ (a : Ha) (x : Hd) (s : Ac) (v : V), vs = [.ref a.p, v] ∧ CJ K t.c_Hand H a x ∧ Rp K H s.D v ∧ s.ok ∧ x.co.length ≤ 5000 ∧ x.st.length ≤ 5000 ∧ x.ms.length ≤ 5000 ∧ mE K t a H Q E (stp x s)
theorem QZ (T : Txt K mg t) : BJ P w K mg base (CXr P w) 4 t.a_Hand_act t.d_Hand_act ["self", "statement"] (gK K t) := by
 refine T.Hand_act.F.okR JZ (fun vs H Q E h => ?_) (fun cdv A outer s H vs Q E hr h => ?_)
 ·obtain ⟨a, x, s, v, rfl, _⟩ := h; rfl
 ·obtain ⟨a, x, s1, v, rfl, hA, hv, ho, hc, hst, hms, q⟩ := h
  obtain ⟨⟨dx, vp, hp, rp⟩, _, _, ⟨kvs, hm, rm⟩, _⟩ := id hA
  obtain ⟨a1, rfl, hs⟩ := mS hv
  have eI : t.v_INKS = .int 8 := by have := T.k_INKS H; rw [UT, Rp] at this; exact this
  refine ⟨_, s!"2{JZ.nd}{Or.inl rfl}{BP}1ADOI{CT}2AH{BE _}Q0A{T.cl_Hand}{T.Hand_go.mt}{BJ.upR (VC T)}{hr.mono (by decide)}{T.Hand_go.b}{DF}{BP}1ADOCBgZE{CT}2AH{BE _}Q0A{T.cl_Hand}{T.Hand_turn.mt}{BJ.upR (PD T)}{hr.mono (by decide)}{T.Hand_turn.b}{DF}{BP}1ADOCBgZE{CT}2AH{BE _}Q0A{CL}{BP}1ADO_{T.g_INKS}{T.r_INKS}bGTE{CT}2AH{BE _}Q{VS (OI hr) s!"0AJ" s!"{BP}1ADO" s!"0AJ0AJCBBK"}E{CT}2AH{BE _}Q0A{T.cl_Hand}{T.Hand_back.mt}{PN T}{hr.mono (by decide)}{T.Hand_back.b}{DF}{BP}1ADOCBgZE0A{CT}2AHfTEPEPEPEPEPEF", ?_⟩
  walk_at "ro"
  cases s1 with
  | go n =>
   refine ⟨_, hs, _, rfl, ?_⟩
   walk_at "ro"
   walk_at "ws"
   exact ⟨_, _, hp, rfl, _, hs, _, rfl, a, x, _, n, rfl, hA, ⟨by have := ho.1; omega, by have := ho.2; omega⟩, hc, hst, rfl, q⟩
  | turn n =>
   refine ⟨_, hs, _, rfl, ?_⟩
   walk_at "ro"
   walk_at "ws"
   exact ⟨_, _, hp, rfl, _, hs, _, rfl, a, x, _, n, rfl, hA, rfl, q⟩
  | ink n =>
   refine ⟨_, hs, _, rfl, ?_⟩
   walk_at "ro"
   walk_at "ws"
   refine ⟨_, hs, _, rfl, ?_⟩
   rw [eI]
   walk_at "ro"
   refine ⟨by decide, _, _, _, hp, T.cl_Hand, T.n_Hand_ink, l8, ?_⟩
   obtain ⟨b, s1, h1⟩ := hA.put (y := { x with ink := n % 8 }) hp rp (fs := BB (Str.ofString "ink") (V.int (n % 8)) (hf vp x a)) rfl rfl rfl rfl
   exact q _ b s1 h1
  | mark n =>
   refine ⟨_, hs, _, rfl, ?_⟩
   walk_at "ro"
   walk_at "ws"
   refine ⟨_, _, _, hp, T.cl_Hand, T.n_Hand_spot, _, rfl, _, _, _, hp, T.cl_Hand, T.n_Hand_heading, _, rfl, by decide, fun tp htp => ?_⟩
   have sU := AI.upd (o := .tup [vp, .int x.h]) htp
   have ntm := AK hm htp
   walk_at "ro"
   refine ⟨_, _, _, sU _ _ hp, T.cl_Hand, T.n_Hand_marks, _, rfl, _, sU.tup hs, _, rfl, ?_⟩
   dsimp only
   refine ⟨kvs, sU _ _ hm, .inl n, rfl, by rw [← rm.length]; exact EY hms, ?_⟩
   have tU : AU H (upd (upd H tp (.tup [vp, .int x.h])) a.lm (.dK (EC kvs (.inl n) (.ref tp)))) := sU.t.upd (SO hm)
   have bU : But a.l H (upd (upd H tp (.tup [vp, .int x.h])) a.lm (.dK (EC kvs (.inl n) (.ref tp)))) := sU.but.upd (.inr (by simp))
   obtain ⟨⟨dx', vp', hp', rp'⟩, ⟨vs1, hs', rs⟩, ⟨vs2, hc', rc⟩, _, ne⟩ := id hA
   have n1 : a.p ≠ a.lm := BL hp' hm (by intro z; cases z)
   have n2 : a.ls ≠ a.lm := BL hs' hm (by intro z; cases z)
   have n3 : a.lc ≠ a.lm := BL hc' hm (by intro z; cases z)
   refine q _ bU tU ⟨⟨dx', vp', by rw [AH n1]; exact sU _ _ hp', rp'.t tU⟩, ⟨vs1, by rw [AH n2]; exact sU _ _ hs', rs.t tU⟩, ⟨vs2, by rw [AH n3]; exact sU _ _ hc', rc.t tU⟩, ⟨_, AB, As.put VN (rm.mono fun z v r => Rp.t tU r) ?_⟩, ne⟩
   exact DM.mpr ⟨tp, vp, .int x.h, rfl, SqT.of (by rw [AH ntm.symm, AB]), rp.t tU, by rw [Rp]⟩
  | back n =>
   refine ⟨_, hs, _, rfl, ?_⟩
   walk_at "ro"
   walk_at "ws"
   exact ⟨_, _, hp, rfl, _, hs, _, rfl, a, x, n, rfl, hA, hc, q⟩
  | up =>
   refine ⟨_, hs, _, rfl, ?_⟩
   walk_at "ro"
   walk_at "ws"
   refine ⟨_, _, _, hp, T.cl_Hand, T.n_Hand_down, l8, ?_⟩
   obtain ⟨b, s1, h1⟩ := hA.put (y := { x with dn := false }) hp rp (fs := BB (Str.ofString "down") (V.bl false) (hf vp x a)) rfl rfl rfl rfl
   exact q _ b s1 h1
  | down =>
   refine ⟨_, hs, _, rfl, ?_⟩
   walk_at "ro"
   walk_at "ws"
   refine ⟨_, _, _, hp, T.cl_Hand, T.n_Hand_down, l8, ?_⟩
   obtain ⟨b, s1, h1⟩ := hA.put (y := { x with dn := true }) hp rp (fs := BB (Str.ofString "down") (V.bl true) (hf vp x a)) rfl rfl rfl rfl
   exact q _ b s1 h1
def fY (K : PySem.W.Frag) (C : Addr) : Sp := fun vs H Q _ => ∃ (a : Ha) (x : Hd), vs = [.ref a.p] ∧ CJ K C H a x ∧ ∀ e vp H', AI H H' → H' e = some (.tup [vp, .int x.h, .bl x.dn, .int x.ink]) → Rp K H' x.p.D vp → Q (.ref e) H'
theorem SC (T : Txt K mg t) : BJ P w K mg base CX0 1 t.a_Hand_end t.d_Hand_end ["self"] (fY K t.c_Hand) := by
 refine T.Hand_end.F.ok SJ (fun vs H Q E h => ?_) (fun cdv A outer s H vs Q E hr h => ?_)
 ·obtain ⟨a, x, rfl, _⟩ := h; rfl
 ·obtain ⟨a, x, rfl, hA, q⟩ := h
  obtain ⟨⟨dx, vp, hp, rp⟩, _, _, _, _⟩ := id hA
  refine ⟨_, s!"0AJ0AJ0AJ0AJCBBBBKLE", ?_⟩
  walk_at "ro"
  refine ⟨_, _, _, hp, T.cl_Hand, T.n_Hand_spot, _, rfl, _, _, _, hp, T.cl_Hand, T.n_Hand_heading, _, rfl, _, _, _, hp, T.cl_Hand, T.n_Hand_down, _, rfl, _, _, _, hp, T.cl_Hand, T.n_Hand_ink, _, rfl, by decide, fun a ha => ?_⟩
  exact q a vp _ (AI.upd ha) AB (rp.same (AI.upd ha))
end
inductive Am where
 | int (i : Int) | src (f : Int) (s : Str) (m : Int)
def Am.D : Am → L2.D
 | .int i => .int i
 | .src f s m => .tup [.int f, .str s, .int m]
abbrev En := List (Str × Int)
def Am.val (e : En) : Am → Int
 | .int i => i
 | .src f s m => f * (lkA e s).getD 0 + m
def wth (e : En) (a : Am) : Option Int := if -1000000 ≤ a.val e ∧ a.val e ≤ 1000000 then some (a.val e) else none
def RF (e : En) : Am → Prop
 | .int _ => True
 | .src f s _ => (-1000000 ≤ f ∧ f ≤ 1000000) ∧ ∃ i, lkA e s = some i
inductive Stm where
 | go (a : Am) | turn (a : Am) | ink (a : Am) | up | down | mark (n : Int) | back (n : Int)
 | again (a : Am) (b : List Stm) | ifs (a : Am) (b c : List Stm) | dow (w : Str) (as : List Am)
mutual
def Stm.D : Stm → L2.D
 | .go a => .tup [.str "go", a.D]
 | .turn a => .tup [.str "turn", a.D]
 | .ink a => .tup [.str "ink", a.D]
 | .up => .tup [.str "up"]
 | .down => .tup [.str "down"]
 | .mark n => .tup [.str "mark", .int n]
 | .back n => .tup [.str "back", .int n]
 | .again a b => .tup [.str "again", a.D, .tup (Stm.Ds b)]
 | .ifs a b c => .tup [.str "if", a.D, .tup (Stm.Ds b), .tup (Stm.Ds c)]
 | .dow w as => .tup [.str "do", .str w, .tup (as.map Am.D)]
def Stm.Ds : List Stm → List L2.D
 | [] => []
 | s :: r => s.D :: Stm.Ds r
end
theorem GV : ∀ l : List Stm, Stm.Ds l = l.map Stm.D
 | [] => by rw [Stm.Ds]; rfl
 | s :: r => by rw [Stm.Ds, GV r]; rfl
abbrev bD (b : List Stm) : L2.D := .tup (b.map Stm.D)
abbrev EnR (H : Hp) (d : Addr) (e : En) : Prop := ∃ kvs, H d = some (.dK kvs) ∧ As .inr (fun (i : Int) v => v = V.int i) e kvs
def lf (vb : V) (d : Addr) (i : Nat) (b r : Int) : List (Str × V) := [("body", vb), ("sources", .ref d), ("at", .int i), ("begun", .int b), ("rounds", .int r)]
structure Lv where
 body : List Stm
 en : En
 i : Nat
 bg : Int
 rd : Int
 own : Bool
structure La where
 (p d : Addr)
structure AY (K : PySem.W.Frag) (C : Addr) (H : Hp) (a : La) (v : Lv) : Prop where
 ob : ∃ dx vb, H a.p = some (.ins C dx (lf vb a.d v.i v.bg v.rd)) ∧ Rp K H (bD v.body) vb
 en : EnR H a.d v.en
theorem EnR.same {H H' : Hp} {d : Addr} {e : En} (h : EnR H d e) (s : AI H H') : EnR H' d e := let ⟨kvs, a, b⟩ := h; ⟨kvs, s _ _ a, b⟩
theorem AY.same {K : PySem.W.Frag} {C : Addr} {H H' : Hp} {a : La} {v : Lv} (h : AY K C H a v) (s : AI H H') : AY K C H' a v := by
 obtain ⟨⟨dx, vb, h1, h2⟩, h3⟩ := h
 exact ⟨⟨dx, vb, s _ _ h1, h2.same s⟩, h3.same s⟩
theorem AY.off {K : PySem.W.Frag} {C : Addr} {l : List Addr} {H H' : Hp} {a : La} {v : Lv} (h : AY K C H a v) (b : But l H H') (st : AU H H') (n1 : a.p ∉ l) (n2 : a.d ∉ l) : AY K C H' a v := by
 obtain ⟨⟨dx, vb, h1, h2⟩, ⟨kvs, h3, h4⟩⟩ := h
 exact ⟨⟨dx, vb, b _ _ h1 n1, h2.t st⟩, ⟨kvs, b _ _ h3 n2, h4⟩⟩
theorem HQ {K : PySem.W.Frag} {H : Hp} {body : List Stm} {v : V} (h : Rp K H (bD body) v) : ∃ a xs, v = .ref a ∧ SqT K H a xs ∧ RpL K H (body.map Stm.D) xs ∧ xs.length = body.length := by
 rw [Rp] at h
 obtain ⟨a, xs, rfl, hs, hl⟩ := h
 exact ⟨a, xs, rfl, hs, hl, by rw [hl.length, List.length_map]⟩
theorem fV {K : PySem.W.Frag} {H : Hp} {body : List Stm} {xs : List V} {i : Nat} {s : Stm} (h : RpL K H (body.map Stm.D) xs) (hs : body[i]? = some s) : ∃ x, xs[i]? = some x ∧ Rp K H s.D x := by
 have hi : i < body.length := (List.getElem?_eq_some_iff.mp hs).1
 obtain ⟨v, e, r⟩ := h.at (j := i) (by rw [List.length_map]; exact hi)
 rw [List.getD_eq_getElem?_getD, List.getElem?_map, hs] at r
 exact ⟨v, e, r⟩
section
variable {P : Program} {w : World} {K : PySem.W.Frag} {mg : Str → Option Value} {base : Heap} {t : Adr}
theorem NJ {K : PySem.W.Frag} : PySem.W.kitOne K (.type "int") (.type "tuple") = some false := lK (by decide +kernel) (by decide +kernel) (by decide +kernel)
def dO (K : PySem.W.Frag) (t : Adr) : Sp := fun vs H Q E => ∃ (va : V) (d : Addr) (a : Am) (e : En), vs = [va, .ref d] ∧ Rp K H a.D va ∧ EnR H d e ∧ RF e a ∧ (∀ n, wth e a = some n → Q (.int n) H) ∧ (wth e a = none → E (.ref t.c_TooGreat) none H)
theorem JD (T : Txt K mg t) : BJ P w K mg base (CXr P w) 1 t.a_worth t.d_worth ["amount", "sources"] (dO K t) := by
 refine T.worth.F.okR FR (fun vs H Q E h => ?_) (fun cdv A outer s H vs Q E hr h => ?_)
 ·obtain ⟨va, d, a, e, rfl, _⟩ := h; rfl
 ·obtain ⟨va, d, a, e, rfl, ra, ⟨kvs, hk, rk⟩, ha, q1, q2⟩ := h
  have eM : t.v_MOST_AMOUNT = .int 1000000 := by have := T.k_MOST_AMOUNT H; rw [FJ, Rp] at this; exact this
  refine ⟨_, s!"2{FR.nd}{Or.inl rfl}0AI{UE (c := .type "tuple")}{T.z_isinstance}{boot_isinstance}0A{@WH _ _ (.ty "tuple") _ _ (by rfl) T.z_tuple boot_tuple rfl (by decide) (by decide)}CBBXh0A3{FR.nd}U4{FR.nd}U5{FR.nd}Ukcccml2{FR.nd}{Or.inl rfl}{CO}{CK}3A{PU (OI hr) s!"1A" s!"4A" (fun _ _ => rfl)}G5AGIEFYP{@ZP _ _ _ _ _ _ _ _ _ _ _ _ dB dB s!"_{T.g_MOST_AMOUNT}{T.r_MOST_AMOUNT}bn" s!"2A" s!"_{T.g_MOST_AMOUNT}{T.r_MOST_AMOUNT}b" (by with_unfolding_all rfl)}t{RO iO rfl T.x_TooGreat (by rfl) T.mg_TooGreat s!"HCB"}EYP2ALEFFF", ?_⟩
  walk_at "ro"
  have fin : ∀ n : Int, n = a.val e → (if -1000000 ≤ n then (if ¬ n ≤ 1000000 then 1 ≤ sizeLine ∧ E (.ref t.c_TooGreat) none H else Q (.int n) H) else 1 ≤ sizeLine ∧ E (.ref t.c_TooGreat) none H) := by
   rintro n rfl
   unfold wth at q1 q2
   by_cases c1 : -1000000 ≤ a.val e
   ·rw [if_pos c1]
    by_cases c2 : a.val e ≤ 1000000
    ·rw [if_neg (not_not_intro c2)]; exact q1 _ (by rw [if_pos ⟨c1, c2⟩])
    ·rw [if_pos c2]; exact ⟨by decide, q2 (by rw [if_neg (fun z => c2 z.2)])⟩
   ·rw [if_neg c1]; exact ⟨by decide, q2 (by rw [if_neg (fun z => c1 z.1)])⟩
  cases a with
  | int i =>
   have ra : va = .int i := by rw [Am.D, Rp] at ra; exact ra
   subst ra
   refine ⟨rfl, ⟨_, rfl⟩, _, .inl (.int i), _, NJ, ?_⟩
   walk_at "ro"
   rw [eM]
   walk_at "ro"
   exact fin i rfl
  | src f s0 m =>
   rw [Am.D, Rp] at ra
   obtain ⟨pa, xs, rfl, hpa, rl⟩ := ra
   refine ⟨rfl, ⟨_, rfl⟩, _, .inr ⟨pa, rfl, ⟨_, hpa⟩, rfl⟩, _, KP, ?_⟩
   walk_at "ro"
   obtain ⟨x0, x1, x2, rfl, e0, e1, e2⟩ : ∃ x0 x1 x2, xs = [x0, x1, x2] ∧ x0 = .int f ∧ x1 = .str s0 ∧ x2 = .int m := by
    rw [RpL] at rl
    obtain ⟨x0, r0, rfl, a0, rl⟩ := rl
    rw [RpL] at rl
    obtain ⟨x1, r1, rfl, a1, rl⟩ := rl
    rw [RpL] at rl
    obtain ⟨x2, r2, rfl, a2, rl⟩ := rl
    rw [RpL] at rl
    subst rl
    rw [Rp] at a0; rw [Rp] at a1; rw [Rp] at a2
    exact ⟨_, _, _, rfl, a0, a1, a2⟩
   subst e0 e1 e2
   obtain ⟨⟨f0, f1⟩, i, hi⟩ := ha
   obtain ⟨v, ev, rv⟩ := (As.get KY (k := s0) rk).2 i hi
   subst rv
   refine ⟨_, hpa, rfl, ?_⟩
   dsimp only
   refine ⟨kvs, .inl hk, .inr s0, rfl, _, ev, ?_⟩
   walk_at "ro"
   rw [eM]
   walk_at "ro"
   have ev2 : f * i + m = (Am.src f s0 m).val e := by rw [Am.val, hi]; rfl
   exact ⟨EZ (by omega) (by omega), fin _ ev2⟩
def ZR (C : Addr) : Sp := fun vs H Q _ => ∃ (p dx d : Addr) (vb : V), vs = [.ref p, vb, .ref d] ∧ H p = some (.ins C dx []) ∧ ∀ H', H' = upd H p (.ins C dx (lf vb d 0 0 0)) → Q .non H'
theorem ET (T : Txt K mg t) : BJ P w K mg base CX0 1 t.a_Level_init t.d_Level_init ["self", "body", "sources"] (ZR t.c_Level) := by
 refine T.Level_init.F.ok NN (fun vs H Q E h => ?_) (fun cdv A outer s H vs Q E hr h => ?_)
 ·obtain ⟨p, dx, d, vb, rfl, _⟩ := h; rfl
 ·obtain ⟨p, dx, d, vb, rfl, hp, q⟩ := h
  refine ⟨_, s!"0A1AT0A2AT0ADT0ADT0ADTEFFFF", ?_⟩
  walk_at "ro"
  refine ⟨_, _, _, hp, T.cl_Level, T.n_Level_body, by decide, ?_⟩
  refine ⟨T.cl_Level, T.n_Level_sources, (show (1 : Nat) < 1000 by decide), T.cl_Level, T.n_Level_at, (show (2 : Nat) < 1000 by decide), T.cl_Level, T.n_Level_begun, (show (3 : Nat) < 1000 by decide), T.cl_Level, T.n_Level_rounds, (show (4 : Nat) < 1000 by decide), ?_⟩
  exact q _ rfl
def YJ (K : PySem.W.Frag) (C : Addr) : Sp := fun vs H Q _ => ∃ (a : La) (v : Lv), vs = [.ref a.p] ∧ AY K C H a v ∧ Q (.bl (decide (v.i = v.body.length))) H
theorem l5 : (5 : Nat) < 1000 := by decide
theorem GC (T : Txt K mg t) : BJ P w K mg base CX0 1 t.a_Level_isatend t.d_Level_isatend ["self"] (YJ K t.c_Level) := by
 refine T.Level_isatend.F.ok JU (fun vs H Q E h => ?_) (fun cdv A outer s H vs Q E hr h => ?_)
 ·obtain ⟨a, v, rfl, _⟩ := h; rfl
 ·obtain ⟨a, v, rfl, ⟨⟨dx, vb, hp, rb⟩, _⟩, q⟩ := h
  obtain ⟨b, xs, rfl, hs, hl, hn⟩ := HQ rb
  refine ⟨_, s!"{CT}0AJ{BN}{T.z_len}{PySem.boot_len}0AJCBXfLE", ?_⟩
  walk_at "ro"
  refine ⟨_, _, _, hp, T.cl_Level, T.n_Level_at, _, rfl, _, _, _, hp, T.cl_Level, T.n_Level_body, _, rfl, ?_⟩
  dsimp only
  refine ⟨_, .inr hs, ?_⟩
  rw [hn]
  have e : (decide ((v.i : Int) = (v.body.length : Int))) = decide (v.i = v.body.length) := decide_eq_decide.mpr (by omega)
  rw [e]
  exact q
def Lv.thr (v : Lv) : Bool := decide (v.i = v.body.length) && decide (v.rd ≤ v.bg)
def gS (K : PySem.W.Frag) (C : Addr) : Sp := fun vs H Q _ => ∃ (a : La) (v : Lv), vs = [.ref a.p] ∧ AY K C H a v ∧ Q (.bl v.thr) H
theorem IU (T : Txt K mg t) : BJ P w K mg base CX0 2 t.a_Level_isthrough t.d_Level_isthrough ["self"] (gS K t.c_Level) := by
 refine T.Level_isthrough.F.ok IN (fun vs H Q E h => ?_) (fun cdv A outer s H vs Q E hr h => ?_)
 ·obtain ⟨a, v, rfl, _⟩ := h; rfl
 ·obtain ⟨a, v, rfl, hL, q⟩ := h
  obtain ⟨⟨dx, vb, hp, rb⟩, _⟩ := id hL
  refine ⟨_, s!"0A{T.cl_Level}{T.Level_isatend.mt}{GC T}{hr.mono (by decide)}{T.Level_isatend.b}{BY}i{kF}0AJ0AJf$#LE", ?_⟩
  walk_at "ro"
  refine ⟨_, _, hp, rfl, a, v, rfl, hL, ?_⟩
  walk_at "ro"
  by_cases c : v.i = v.body.length
  ·rw [if_pos c]
   refine ⟨_, _, _, hp, T.cl_Level, T.n_Level_begun, _, rfl, _, _, _, hp, T.cl_Level, T.n_Level_rounds, _, rfl, ?_⟩
   dsimp only
   rw [Lv.thr, decide_eq_true c, Bool.true_and] at q
   exact q
  ·rw [if_neg c]
   rw [Lv.thr, decide_eq_false c, Bool.false_and] at q
   exact q
def Lv.round (v : Lv) : Lv := { v with en := ptA v.en "count" v.bg, bg := v.bg + 1, i := 0 }
def XI (K : PySem.W.Frag) (C : Addr) : Sp := fun vs H Q _ => ∃ (a : La) (v : Lv), vs = [.ref a.p] ∧ AY K C H a v ∧ v.en.length ≤ 5000 ∧ ∀ H', But [a.p, a.d] H H' → AU H H' → AY K C H' a v.round → Q .non H'
theorem IE (T : Txt K mg t) : BJ P w K mg base CX0 1 t.a_Level_beginround t.d_Level_beginround ["self"] (XI K t.c_Level) := by
 refine T.Level_beginround.F.ok IG (fun vs H Q E h => ?_) (fun cdv A outer s H vs Q E hr h => ?_)
 ·obtain ⟨a, v, rfl, _⟩ := h; rfl
 ·obtain ⟨a, v, rfl, hL, hen, q⟩ := h
  obtain ⟨⟨dx, vb, hp, rb⟩, ⟨kvs, hk, rk⟩⟩ := id hL
  have npd : a.p ≠ a.d := BL hp hk (by intro z; cases z)
  refine ⟨_, s!"{VS (OI hr) s!"0AJ" s!"H" s!"0AJ"}0AD!0ADTEFF", ?_⟩
  walk_at "ro"
  refine ⟨_, _, _, hp, T.cl_Level, T.n_Level_begun, _, rfl, _, _, _, hp, T.cl_Level, T.n_Level_sources, _, rfl, ?_⟩
  dsimp only
  refine ⟨kvs, hk, .inr "count", rfl, by rw [← rk.length]; exact EY hen, ?_⟩
  have b1 : But [a.p, a.d] H (upd H a.d (.dK (EC kvs (.inr "count") (.int v.bg)))) := (But.refl _ H).upd (.inr (by simp))
  have t1 : AU H (upd H a.d (.dK (EC kvs (.inr "count") (.int v.bg)))) := (AU.refl H).upd (SO hk)
  have hp1 : (upd H a.d (.dK (EC kvs (.inr "count") (.int v.bg)))) a.p = some (.ins t.c_Level dx (lf vb a.d v.i v.bg v.rd)) := by rw [AH npd]; exact hp
  have hd1 : (upd H a.d (.dK (EC kvs (.inr "count") (.int v.bg)))) a.d = some (.dK (EC kvs (.inr "count") (.int v.bg))) := AB
  generalize upd H a.d (.dK (EC kvs (.inr "count") (.int v.bg))) = G at *
  walk_at "ro"
  refine ⟨_, _, _, hp1, T.cl_Level, T.n_Level_begun, _, rfl, ?_⟩
  refine ⟨v.bg, rfl, _, _, hp1, l5, T.cl_Level, T.n_Level_at, l5, ?_⟩
  have t2 : AU G (upd G a.p (.ins t.c_Level dx (BB (Str.ofString "at") (V.int 0) (BB (Str.ofString "begun") (V.int (v.bg + 1)) (lf vb a.d v.i v.bg v.rd))))) := (AU.refl G).upd (FO hp1)
  refine q _ (b1.upd (.inr (by simp))) (t1.trans t2) ⟨⟨dx, vb, AB, (rb.t t1).t t2⟩, ⟨_, by rw [AH npd.symm]; exact hd1, As.put KY rk rfl⟩⟩
def aQ (K : PySem.W.Frag) (C : Addr) : Sp := fun vs H Q _ => ∃ (a : La) (v : Lv) (s1 : Stm), vs = [.ref a.p] ∧ AY K C H a v ∧ v.body[v.i]? = some s1 ∧ ∀ u H', But [a.p] H H' → AU H H' → AY K C H' a { v with i := v.i + 1 } → Rp K H' s1.D u → Q u H'
theorem GJ (T : Txt K mg t) : BJ P w K mg base CX0 1 t.a_Level_nextstatement t.d_Level_nextstatement ["self"] (aQ K t.c_Level) := by
 refine T.Level_nextstatement.F.ok GG (fun vs H Q E h => ?_) (fun cdv A outer s H vs Q E hr h => ?_)
 ·obtain ⟨a, v, s1, rfl, _⟩ := h; rfl
 ·obtain ⟨a, v, s1, rfl, hL, hs1, q⟩ := h
  obtain ⟨⟨dx, vb, hp, rb⟩, ⟨kvs, hk, rk⟩⟩ := id hL
  have npd : a.p ≠ a.d := BL hp hk (by intro z; cases z)
  obtain ⟨b, xs, rfl, hs, hl, hn⟩ := HQ rb
  obtain ⟨x, hx, rx⟩ := fV hl hs1
  refine ⟨_, s!"0AD!{BP}0AJ{PF}0AJDGOLEF", ?_⟩
  walk_at "ro"
  refine ⟨_, _, _, hp, T.cl_Level, T.n_Level_at, _, rfl, ?_⟩
  refine ⟨v.i, rfl, _, _, hp, l5, ?_⟩
  walk_at "ro"
  refine ⟨T.cl_Level, T.n_Level_body, _, rfl, T.cl_Level, T.n_Level_at, _, rfl, ?_⟩
  dsimp only
  have st : AU H (upd H a.p (.ins t.c_Level dx (BB (Str.ofString "at") (V.int ((v.i : Int) + 1)) (lf (.ref b) a.d v.i v.bg v.rd)))) := (AU.refl H).upd (FO hp)
  refine ⟨xs, st.tup hs, x, by rw [show ((v.i : Int) + 1 - 1) = (v.i : Int) by omega]; exact HY hx, ?_⟩
  refine q x _ ((But.refl _ H).upd (.inr (by simp))) st ⟨⟨dx, .ref b, AB, rb.t st⟩, ⟨kvs, by rw [AH npd.symm]; exact hk, rk⟩⟩ (rx.t st)
def cN (K : PySem.W.Frag) (t : Adr) : Sp := fun vs H Q _ => ∃ (vb : V) (d : Addr) (body : List Stm) (e : En) (n : Int), vs = [vb, .ref d, .int n] ∧ Rp K H (bD body) vb ∧ EnR H d e ∧ ∀ (a : La) H', H a.p = none → H a.d = none → AI H H' → AY K t.c_Level H' a ⟨body, e, body.length, 0, n, true⟩ → Q (.ref a.p) H'
theorem NL (T : Txt K mg t) : BJ P w K mg base CX0 3 t.a_againlevel t.d_againlevel ["body", "sources", "rounds"] (cN K t) := by
 refine T.againlevel.F.ok IH (fun vs H Q E h => ?_) (fun cdv A outer s H vs Q E hr h => ?_)
 ·obtain ⟨vb, d, body, e, n, rfl, _⟩ := h; rfl
 ·obtain ⟨vb, d, body, e, n, rfl, rb, ⟨kvs, hk, rk⟩, q⟩ := h
  obtain ⟨b, xs, rfl, hs, hl, hn⟩ := HQ rb
  refine ⟨_, s!"3{IH.nd}{Or.inl rfl}{T.Level_init.mki}{ET T}{hr.mono (by decide)}{T.mg_Level}{T.Level_init.b}{BY}0A{SF (by rfl) T.z_dict s!"1A"}CBBoI3A2AT3A{BN}{T.z_len}{PySem.boot_len}0ACBXT3ALEFFF", ?_⟩
  walk_at "ro"
  refine ⟨kvs, .inl hk, fun d2 hd2 x dx hx hdx nx => ⟨x, dx, d2, .ref b, rfl, AB, fun H2 e2 => ⟨rfl, ?_⟩⟩⟩
  have fx : H x = none := (un hx).2
  have fdx : H dx = none := (un hdx).2
  have nx2 : x ≠ d2 := (un hx).1
  have ndx2 : dx ≠ d2 := (un hdx).1
  have hx2 : H2 x = some (.ins t.c_Level dx (lf (.ref b) d2 0 0 0)) := by rw [e2, AB]
  have hd : H2 d2 = some (.dK kvs) := by rw [e2, AH nx2.symm, AH nx2.symm, AH ndx2.symm, AB]
  have s2 : AI H H2 := fun c o e => by
   have n1 := AK e fx
   have n2 := AK e fdx
   have n3 := AK e hd2
   rw [e2, AH n1, AH n1, AH n2, AH n3]; exact e
  clear e2
  have t3 : ∀ o, AU H2 (upd H2 x o) := fun o => (AU.refl H2).upd (FO hx2)
  refine ⟨_, _, _, hx2, T.cl_Level, T.n_Level_rounds, l5, xs, .inr ((t3 _).tup (s2.tup hs)), T.cl_Level, T.n_Level_at, l5, ?_⟩
  refine q ⟨x, d2⟩ _ fx hd2 (fun c o e => by rw [AH (AK e fx)]; exact s2 _ _ e) ⟨⟨dx, .ref b, ?_, (rb.same s2).t (t3 _)⟩, ⟨kvs, by rw [AH nx2.symm]; exact hd, rk⟩⟩
  rw [AB, hn]
  rfl
end
structure Wd where
 name : Str
 many : Int
 body : List Stm
def Wd.D (x : Wd) : L2.D := .tup [.str x.name, .int x.many, bD x.body]
def pD (ws : List Wd) (body : List Stm) : L2.D := .tup [.tup (ws.map Wd.D), bD body]
abbrev Tb := List (Str × List Stm)
def CU : List Wd → Tb := List.foldl (fun l x => ptA l x.name x.body) []
structure Wa where
 (pw db ll la : Addr)
 ha : Ha
structure Ms where
 lv : List Lv
 hd : Hd
 ac : List Ac
def wf (a : Wa) : List (Str × V) := [("bodies", .ref a.db), ("levels", .ref a.ll), ("hand", .ref a.ha.p), ("acts", .ref a.la)]
def fB : List La → List Lv → Prop
 | x :: xs, v :: vs => (v.own = true → ∀ y ∈ xs, y.d ≠ x.d) ∧ fB xs vs
 | _, _ => True
abbrev TbR (K : PySem.W.Frag) (H : Hp) : List Stm → V → Prop := fun b v => Rp K H (bD b) v
structure BU (K : PySem.W.Frag) (t : Adr) (H : Hp) (a : Wa) (ws : Tb) (las : List La) (m : Ms) : Prop where
 wo : ∃ dx, H a.pw = some (.ins t.c_Walk dx (wf a))
 bo : ∃ kvs, H a.db = some (.dK kvs) ∧ As .inr (TbR K H) ws kvs
 le : H a.ll = some (.lst (las.map fun x => V.ref x.p).reverse)
 lv : Paired (AY K t.c_Level H) las m.lv
 ha : CJ K t.c_Hand H a.ha m.hd
 ac : ∃ vs, H a.la = some (.lst vs) ∧ RpL K H (m.ac.map Ac.D) vs
 ap : a.pw ≠ a.ha.p ∧ a.ll ≠ a.la ∧ a.ll ≠ a.ha.ls ∧ a.ll ≠ a.ha.lc ∧ a.la ≠ a.ha.ls ∧ a.la ≠ a.ha.lc ∧ a.db ≠ a.ha.lm
 lp : ∀ x ∈ las, x.p ≠ a.pw ∧ x.p ≠ a.ha.p ∧ x.d ≠ a.db ∧ x.d ≠ a.ha.lm
 nd : (las.map (·.p)).Nodup
 od : fB las m.lv
def mJ (K : PySem.W.Frag) (p : Addr) (ws : List Wd) (H : Hp) (i : Nat) (σ : L2.St) (H2 : Hp) : Prop := ∃ (kvs : List (Key × V)) (o1 o2 o3 : Option V), σ = [o1, o2, o3] ∧ AI H H2 ∧ H2 p = some (.dK kvs) ∧ As .inr (TbR K H2) (CU (ws.take i)) kvs
theorem YL {ws : List Wd} {i : Nat} {x : Wd} (h : ws[i]? = some x) : CU (ws.take (i + 1)) = ptA (CU (ws.take i)) x.name x.body := by
 unfold CU
 rw [List.take_add_one, h, List.foldl_append]; rfl
theorem ZG (ws : List Wd) : (CU ws).length ≤ ws.length := by
 have key : ∀ (l : List Wd) (b : Tb), (l.foldl (fun l x => ptA l x.name x.body) b).length ≤ b.length + l.length := by
  intro l
  induction l with
  | nil => intro b; simp
  | cons x l ih =>
   intro b
   rw [List.foldl_cons, List.length_cons]
   have := ih (ptA b x.name x.body)
   have := QO b x.name x.body
   omega
 have := key ws []
 simpa [CU] using this
theorem nB {K : PySem.W.Frag} {H : Hp} {ws : List Wd} {xs : List V} {i : Nat} {x : V} (h : RpL K H (ws.map Wd.D) xs) (hx : xs[i]? = some x) : ∃ (z : Wd) (p : Addr) (vb : V), ws[i]? = some z ∧ x = .ref p ∧ SqT K H p [.str z.name, .int z.many, vb] ∧ Rp K H (bD z.body) vb := by
 have hi : i < xs.length := (List.getElem?_eq_some_iff.mp hx).1
 have hb : i < ws.length := by rw [h.length, List.length_map] at hi; exact hi
 obtain ⟨v, e, r⟩ := h.at (j := i) (by rw [List.length_map]; exact hb)
 rw [hx] at e; cases e
 rw [List.getD_eq_getElem?_getD, List.getElem?_map, List.getElem?_eq_getElem hb] at r
 have r : Rp K H (ws[i]).D x := r
 rw [Wd.D, Rp] at r
 obtain ⟨p, ys, rfl, hp, ry⟩ := r
 rw [RpL] at ry
 obtain ⟨y0, r0, rfl, a0, ry⟩ := ry
 rw [RpL] at ry
 obtain ⟨y1, r1, rfl, a1, ry⟩ := ry
 rw [RpL] at ry
 obtain ⟨y2, r2, rfl, a2, ry⟩ := ry
 rw [RpL] at ry
 subst ry
 rw [Rp] at a0; rw [Rp] at a1
 subst a0 a1
 exact ⟨_, p, y2, List.getElem?_eq_getElem hb, rfl, hp, a2⟩
section
variable {P : Program} {w : World} {K : PySem.W.Frag} {mg : Str → Option Value} {base : Heap} {t : Adr}
def aW (K : PySem.W.Frag) (t : Adr) : Sp := fun vs H Q _ => ∃ (p dx : Addr) (v : V) (ws : List Wd) (body : List Stm), vs = [.ref p, v] ∧ H p = some (.ins t.c_Walk dx []) ∧ Rp K H (pD ws body) v ∧ ws.length ≤ 1000 ∧
 ∀ (a : Wa) (x : La) (H' : Hp), a.pw = p → H a.db = none → H a.ll = none → H a.ha.p = none → H a.la = none → H x.p = none → H x.d = none → H a.ha.ls = none → H a.ha.lc = none → H a.ha.lm = none → But [p] H H' → BU K t H' a (CU ws) [x] ⟨[⟨body, [], 0, 0, 0, true⟩], hd0, []⟩ → Q .non H'
theorem PR (T : Txt K mg t) : BJ P w K mg base CX0 3 t.a_Walk_init t.d_Walk_init ["self", "program"] (aW K t) := by
 refine T.Walk_init.F.ok GM (fun vs H Q E h => ?_) (fun cdv A outer s H vs Q E hr h => ?_)
 ·obtain ⟨p, dx, v, ws, body, rfl, _⟩ := h; rfl
 ·obtain ⟨p, dx, v, ws, body, rfl, hp, rv, hws, q⟩ := h
  obtain ⟨a0, x1, vb, rfl, hs, hx1, rb⟩ := DM.mp rv
  obtain ⟨a1, xs1, rfl, hs1, rl1⟩ := CH.mp hx1
  refine ⟨_, s!"1A2{GM.nd}U3{GM.nd}Ukccml0A{XF (sc := AD DE) (N0 := ["self", "program", "words", "body"]) (N := ["name", "many", "inner"]) (js := []) (os := ["name", "many", "inner"]) rfl rfl rfl ⟨by decide +kernel, by decide +kernel, by decide +kernel, by decide +kernel, by decide +kernel, by decide +kernel⟩ (@VQ _ _ _ _ s!"2A") (fun _ _ _ _ => (@iE _ (K) _ _ _ _ (3) rfl rfl s!"0{show List.Nodup (["name", "many", "inner"] : List Str) by decide +kernel}U1{show List.Nodup (["name", "many", "inner"] : List Str) by decide +kernel}U2{show List.Nodup (["name", "many", "inner"] : List Str) by decide +kernel}Ukccc" (by rfl) (by rfl))) (fun _ _ _ _ => s!"0A") (fun _ _ _ _ => s!"2A")}T0A{T.Level_init.mki}{ET T}{hr.mono (by decide)}{T.mg_Level}{T.Level_init.b}{BY}3A{@SA _ _}CBBoCBdT0A{@dH _ _ _ _ _ _ _ _ _ _ _ _ _ _ T.Hand_init.mki (PQ T) (hr.mono (by decide)) (by rfl) T.mg_Hand T.Hand_init.b .nil BY (by decide)}T0ACdTEFFFF", ?_⟩
  walk_at "ro"
  refine ⟨_, hs, rfl, ?_⟩
  walk_at "ro"
  refine ⟨⟨_, hs1⟩, fun d0 hd0 => ?_⟩
  refine fK (xs := xs1) (mJ K d0 ws H) ⟨[], none, none, none, rfl, AI.upd hd0, AB, .nil⟩ (fun i σ H2 _ z => by obtain ⟨_, _, _, _, rfl, s2, _⟩ := z; exact s2.tup hs1) ?_ ?_
  ·rintro i x σ H2 hx ⟨kvs, o1, o2, o3, rfl, s2, h2, r2⟩
   obtain ⟨z, pz, vz, hz, rfl, hpz, rz⟩ := nB (rl1.same s2) hx
   have hi : i < xs1.length := (List.getElem?_eq_some_iff.mp hx).1
   walk_at "rd"
   refine ⟨_, hpz, rfl, ?_⟩
   walk_at "rd"
   have lz := ZG (ws.take i)
   have lw : xs1.length = ws.length := by rw [rl1.length, List.length_map]
   refine ⟨kvs, .inr z.name, rfl, h2, EY (by rw [← r2.length]; rw [List.length_take] at lz; omega), nx hi ⟨_, _, _, _, rfl, s2.upd2 hd0, AB, ?_⟩⟩
   have t2 : AU H2 (upd H2 d0 (.dK (EC kvs (.inr z.name) vz))) := (AU.refl H2).upd (SO h2)
   rw [YL hz]
   exact As.put KY (r2.mono fun b v r => Rp.t t2 r) (rz.t t2)
  rintro σ H2 ⟨kvs, o1, o2, o3, rfl, s2, h2, r2⟩
  have lw : xs1.length = ws.length := by rw [rl1.length, List.length_map]
  rw [List.take_of_length_le (by omega)] at r2
  have hp2 := s2 _ _ hp
  have rb2 := rb.same s2
  have nd0 := AK hp hd0
  refine ⟨_, _, _, hp2, T.cl_Walk, T.n_Walk_bodies, by decide, ?_⟩
  have b1 : But [p] H (upd H2 p (.ins t.c_Walk dx (BB (Str.ofString "bodies") (.ref d0) []))) := s2.but.upd (.inr (by simp))
  have g1 : (upd H2 p (.ins t.c_Walk dx (BB (Str.ofString "bodies") (.ref d0) []))) p = some (.ins t.c_Walk dx (BB (Str.ofString "bodies") (.ref d0) [])) := AB
  have k1 : (upd H2 p (.ins t.c_Walk dx (BB (Str.ofString "bodies") (.ref d0) []))) d0 = some (.dK kvs) := by rw [AH nd0.symm]; exact h2
  have t1 : AU H2 (upd H2 p (.ins t.c_Walk dx (BB (Str.ofString "bodies") (.ref d0) []))) := (AU.refl H2).upd (FO hp2)
  have r1 : As .inr (TbR K (upd H2 p (.ins t.c_Walk dx (BB (Str.ofString "bodies") (.ref d0) [])))) (CU ws) kvs := r2.mono fun b v r => Rp.t t1 r
  have rb1 := rb2.t t1
  generalize upd H2 p (.ins t.c_Walk dx (BB (Str.ofString "bodies") (.ref d0) [])) = G1 at b1 g1 k1 t1 r1 rb1 ⊢
  clear t1 r2 rb2 hp2 h2 s2
  intro d1 hd1 pl dxl hpl hdxl nel
  refine ⟨pl, dxl, d1, vb, rfl, AB, fun G3 e3 => ?_⟩
  have fpl1 : G1 pl = none := (un hpl).2
  have npd1 : pl ≠ d1 := (un hpl).1
  have fdx1 : G1 dxl = none := (un hdxl).2
  have ndx1 : dxl ≠ d1 := (un hdxl).1
  have s3 : AI G1 G3 := fun c o e => by
   have n1 := AK e fpl1
   have n2 := AK e fdx1
   have n3 := AK e hd1
   rw [e3, AH n1, AH n1, AH n2, AH n3]; exact e
  have l3 : G3 pl = some (.ins t.c_Level dxl (lf vb d1 0 0 0)) := by rw [e3, AB]
  have e3d : G3 d1 = some (.dK []) := by rw [e3, AH npd1.symm, AH npd1.symm, AH ndx1.symm, AB]
  have b3 : But [p] H G3 := b1.trans s3.but
  have fd1 : H d1 = none := b1.free (by simp [g1]) hd1
  have fpl : H pl = none := b1.free (by simp [g1]) fpl1
  have g3 := s3 _ _ g1
  have k3 := s3 _ _ k1
  have r3 : As .inr (TbR K G3) (CU ws) kvs := r1.mono fun b v r => Rp.same s3 r
  have rb3 := rb1.same s3
  have npl := AK g1 fpl1
  have nd1' := AK k1 hd1
  clear e3 hpl hdxl s3 r1 rb1
  refine ⟨rfl, by decide, fun ll hll => ?_⟩
  have nll := AK g3 hll
  refine ⟨_, _, _, by rw [AH nll]; exact g3, T.cl_Walk, T.n_Walk_levels, by exact (show (1 : Nat) < 1000 by decide), ?_⟩
  have fll : H ll = none := b3.free (by simp [g3]) hll
  have c4 : ∀ c o, c ≠ p → G3 c = some o → (upd (upd G3 ll (.lst [.ref pl])) p (.ins t.c_Walk dx (BB (Str.ofString "levels") (.ref ll) (BB (Str.ofString "bodies") (.ref d0) [])))) c = some o := fun c o n e => by rw [AH n, AH (AK e hll)]; exact e
  have b4 : But [p] H (upd (upd G3 ll (.lst [.ref pl])) p (.ins t.c_Walk dx (BB (Str.ofString "levels") (.ref ll) (BB (Str.ofString "bodies") (.ref d0) [])))) := (b3.upd (.inl fll)).upd (.inr (by simp))
  have g4 : (upd (upd G3 ll (.lst [.ref pl])) p (.ins t.c_Walk dx (BB (Str.ofString "levels") (.ref ll) (BB (Str.ofString "bodies") (.ref d0) [])))) p = some (.ins t.c_Walk dx (BB (Str.ofString "levels") (.ref ll) (BB (Str.ofString "bodies") (.ref d0) []))) := AB
  have l4 := c4 _ _ npl.symm l3
  have d4 := c4 _ _ (BL g3 e3d (by intro z; cases z)).symm e3d
  have k4 := c4 _ _ nd0.symm k3
  have m4 : (upd (upd G3 ll (.lst [.ref pl])) p (.ins t.c_Walk dx (BB (Str.ofString "levels") (.ref ll) (BB (Str.ofString "bodies") (.ref d0) [])))) ll = some (.lst [.ref pl]) := by rw [AH nll.symm, AB]
  have t4 : AU G3 (upd (upd G3 ll (.lst [.ref pl])) p (.ins t.c_Walk dx (BB (Str.ofString "levels") (.ref ll) (BB (Str.ofString "bodies") (.ref d0) [])))) := fun c o e k => c4 c o (by rintro rfl; exact FO g3 o e k) e
  have r4 : As .inr (TbR K (upd (upd G3 ll (.lst [.ref pl])) p (.ins t.c_Walk dx (BB (Str.ofString "levels") (.ref ll) (BB (Str.ofString "bodies") (.ref d0) []))))) (CU ws) kvs := r3.mono fun b v r => Rp.t t4 r
  have rb4 := rb3.t t4
  generalize upd (upd G3 ll (.lst [.ref pl])) p (.ins t.c_Walk dx (BB (Str.ofString "levels") (.ref ll) (BB (Str.ofString "bodies") (.ref d0) []))) = G4 at b4 g4 l4 d4 k4 m4 r4 rb4 ⊢
  clear c4 t4 r3 rb3 g3 l3 k3 e3d b3 hll
  intro ph dxh hph hdxh neh
  have c5 : AI G4 (upd (upd G4 dxh (.own ph)) ph (.ins t.c_Hand dxh [])) := fun b o e => by rw [AH (AK e hph), AH (AK e hdxh)]; exact e
  refine ⟨ph, dxh, rfl, AB, fun ha G6 eha hls hlc hlm b6 hA => ?_⟩
  subst eha
  have k6 : AI G4 G6 := fun b o e => b6 b o (c5 b o e) (by simp only [List.mem_singleton]; exact AK e hph)
  have fr : ∀ {b}, (upd (upd G4 dxh (.own ha.p)) ha.p (.ins t.c_Hand dxh [])) b = none → G4 b = none := fun {b} e => (un (un e).2).2
  have b7 : But [p] H G6 := b4.trans k6.but
  have fH : ∀ {b}, G4 b = none → H b = none := fun {b} e => b4.free (by simp [g4]) e
  refine ⟨rfl, ?_⟩
  walk_at "ro"
  have g6 := k6 p _ g4
  obtain ⟨⟨dh, vp, hp6, rp6⟩, ⟨vs1, hs6, rs6⟩, ⟨vs2, hc6, rc6⟩, ⟨kv6, hm6, rm6⟩, ne6⟩ := id hA
  refine ⟨_, _, _, g6, T.cl_Walk, T.n_Walk_hand, (show (2 : Nat) < 1000 by decide), by decide, fun la hla => ?_⟩
  have nla := (un hla).1
  have fla6 := (un hla).2
  have fla4 : G4 la = none := by
   cases e : G4 la with
   | none => rfl
   | some o => rw [k6 _ _ e] at fla6; cases fla6
  refine ⟨_, _, _, by rw [AH nla.symm, AB], T.cl_Walk, T.n_Walk_acts, by exact (show (3 : Nat) < 1000 by decide), ?_⟩
  generalize eF : (upd (upd (upd G6 p (.ins t.c_Walk dx (BB (Str.ofString "hand") (V.ref ha.p) (BB (Str.ofString "levels") (.ref ll) (BB (Str.ofString "bodies") (.ref d0) []))))) la (.lst [])) p (.ins t.c_Walk dx (BB (Str.ofString "acts") (V.ref la) (BB (Str.ofString "hand") (V.ref ha.p) (BB (Str.ofString "levels") (.ref ll) (BB (Str.ofString "bodies") (.ref d0) [])))))) = GF
  have cF : ∀ b o, b ≠ p → G6 b = some o → GF b = some o := fun b o hb e => by rw [← eF, AH hb, AH (AK e fla6), AH hb]; exact e
  have gF : GF p = some (.ins t.c_Walk dx (wf ⟨p, d0, ll, la, ha⟩)) := by rw [← eF, AB]; rfl
  have aF : GF la = some (.lst []) := by rw [← eF, AH nla, AB]
  have bF : But [p] H GF := fun b o e k => cF b o (by simpa using k) (b7 b o e k)
  have tF : AU G6 GF := fun b o e k => cF b o (by rintro rfl; exact FO g6 o e k) e
  have n4 : ∀ {c : Addr} {o : HO}, G4 c = some o → c ≠ p → GF c = some o := fun {c o} e n => cF c o n (k6 _ _ e)
  have np : ∀ {c : Addr}, G4 c = none → c ≠ p := fun {c} e => (AK g4 e).symm
  clear eF
  refine q ⟨p, d0, ll, la, ha⟩ ⟨pl, d1⟩ GF rfl hd0 fll (fH hph) (fH fla4) fpl fd1 (fH (fr hls)) (fH (fr hlc)) (fH (fr hlm)) bF ⟨⟨dx, gF⟩, ⟨kvs, n4 k4 nd0.symm, r4.mono fun b v r => Rp.t tF (Rp.same k6 r)⟩, n4 m4 nll.symm, .cons ⟨⟨dxl, vb, n4 l4 npl.symm, (rb4.same k6).t tF⟩, ⟨[], n4 d4 (BL g4 d4 (by intro z; cases z)).symm, .nil⟩⟩ .nil, hA.off (l := [p]) (fun b o e n => cF b o (by simpa using n) e) tF ?_, ⟨[], aF, RpL.nil⟩, ⟨?_, ?_, ?_, ?_, ?_, ?_, ?_⟩, ?_, by simp, ⟨(fun _ y hy => by cases hy), trivial⟩⟩
  ·intro c hc
   simp only [List.mem_cons, List.not_mem_nil, or_false] at hc ⊢
   rcases hc with rfl | rfl | rfl | rfl
   ·exact np hph
   ·exact np (fr hls)
   ·exact np (fr hlc)
   ·exact np (fr hlm)
  ·exact (np hph).symm
  ·exact AK m4 fla4
  ·exact AK m4 (fr hls)
  ·exact AK m4 (fr hlc)
  ·exact (AK hs6 fla6).symm
  ·exact (AK hc6 fla6).symm
  ·exact AK k4 (fr hlm)
  ·intro x hx
   rw [List.mem_singleton] at hx
   subst hx
   exact ⟨npl.symm, AK l4 hph, nd1'.symm, AK d4 (fr hlm)⟩
end
theorem LF {K : PySem.W.Frag} {C : Addr} {H H' : Hp} : ∀ {las : List La} {lv : List Lv}, Paired (AY K C H) las lv → (∀ x v, x ∈ las → AY K C H x v → AY K C H' x v) → Paired (AY K C H') las lv
 | _, _, .nil, _ => .nil
 | _ :: _, _ :: _, .cons r t, f => .cons (f _ _ List.mem_cons_self r) (LF t fun x v m => f x v (List.mem_cons_of_mem _ m))
theorem JP {K : PySem.W.Frag} {C : Addr} {H : Hp} : ∀ {las : List La} {lv : List Lv}, Paired (AY K C H) las lv → ∀ x ∈ las, ∃ v ∈ lv, AY K C H x v
 | _, _, .nil, x, m => by cases m
 | y :: _, u :: _, .cons r t, x, m => by
  rcases List.mem_cons.mp m with rfl | m
  ·exact ⟨u, List.mem_cons_self, r⟩
  ·obtain ⟨v, mv, h⟩ := JP t x m
   exact ⟨v, List.mem_cons_of_mem _ mv, h⟩
theorem AY.nl {K : PySem.W.Frag} {C l : Addr} {H : Hp} {x : La} {v : Lv} {vs : List V} (h : AY K C H x v) (e : H l = some (.lst vs)) : x.p ≠ l ∧ x.d ≠ l := by
 obtain ⟨⟨dx, vb, h1, _⟩, ⟨kvs, h2, _⟩⟩ := h
 exact ⟨BL h1 e (by intro z; cases z), BL h2 e (by intro z; cases z)⟩
theorem CJ.nl {K : PySem.W.Frag} {C l : Addr} {H : Hp} {a : Ha} {x : Hd} {vs : List V} (h : CJ K C H a x) (e : H l = some (.lst vs)) (n1 : l ≠ a.ls) (n2 : l ≠ a.lc) : ∀ c ∈ a.l, c ∉ [l] := by
 obtain ⟨⟨dx, vp, hp, _⟩, _, _, ⟨kvs, hm, _⟩, _⟩ := h
 have e1 : a.p ≠ l := BL hp e (by intro z; cases z)
 have e2 : a.lm ≠ l := BL hm e (by intro z; cases z)
 intro c hc
 simp only [List.mem_cons, List.not_mem_nil, or_false] at hc ⊢
 rcases hc with rfl | rfl | rfl | rfl
 ·exact e1
 ·exact n1.symm
 ·exact n2.symm
 ·exact e2
theorem BU.lev {K : PySem.W.Frag} {t : Adr} {H : Hp} {a : Wa} {ws : Tb} {las : List La} {m : Ms} (h : BU K t H a ws las m) {las' : List La} {lv' : List Lv} (hl : Paired (AY K t.c_Level H) las' lv') (lp : ∀ x ∈ las', x.p ≠ a.pw ∧ x.p ≠ a.ha.p ∧ x.d ≠ a.db ∧ x.d ≠ a.ha.lm) (nd : (las'.map (·.p)).Nodup) (od : fB las' lv') :
  But [a.ll] H (upd H a.ll (.lst (las'.map fun x => V.ref x.p).reverse)) ∧ AU H (upd H a.ll (.lst (las'.map fun x => V.ref x.p).reverse)) ∧ BU K t (upd H a.ll (.lst (las'.map fun x => V.ref x.p).reverse)) a ws las' { m with lv := lv' } := by
 obtain ⟨⟨dx, wo⟩, ⟨kvs, bo, rbo⟩, le, lv, hA, ⟨vs, ac, rac⟩, ⟨n1, n2, n3, n4, n5, n6, n7⟩, _, _, _⟩ := h
 have st : AU H (upd H a.ll (.lst (las'.map fun x => V.ref x.p).reverse)) := (AU.refl H).upd (FN le)
 have bt : But [a.ll] H (upd H a.ll (.lst (las'.map fun x => V.ref x.p).reverse)) := (But.refl _ H).upd (.inr (by simp))
 have k : ∀ {b : Addr} {o : HO}, H b = some o → b ≠ a.ll → (upd H a.ll (.lst (las'.map fun x => V.ref x.p).reverse)) b = some o := fun {b o} e hb => by rw [AH hb]; exact e
 refine ⟨bt, st, ⟨dx, k wo (BL wo le (by intro z; cases z))⟩, ⟨kvs, k bo (BL bo le (by intro z; cases z)), rbo.mono fun b v r => Rp.t st r⟩, AB, LF hl fun x v _ r => ?_, hA.off bt st (hA.nl le n3 n4), ⟨vs, k ac n2.symm, rac.t st⟩, ⟨n1, n2, n3, n4, n5, n6, n7⟩, lp, nd, od⟩
 have := r.nl le
 exact r.off bt st (by simpa using this.1) (by simpa using this.2)
theorem BU.same {K : PySem.W.Frag} {t : Adr} {H H' : Hp} {a : Wa} {ws : Tb} {las : List La} {m : Ms} (h : BU K t H a ws las m) (s : AI H H') : BU K t H' a ws las m := by
 obtain ⟨⟨dx, wo⟩, ⟨kvs, bo, rbo⟩, le, lv, hA, ⟨vs, ac, rac⟩, ap, lp, nd, od⟩ := h
 exact ⟨⟨dx, s _ _ wo⟩, ⟨kvs, s _ _ bo, rbo.mono fun b v r => Rp.same s r⟩, s _ _ le, LF lv fun x v _ r => r.same s, hA.same s, ⟨vs, s _ _ ac, rac.same s⟩, ap, lp, nd, od⟩
def cln (m : Ms) : Ms := { m with lv := m.lv.dropWhile Lv.thr }
def lvn (ll : Addr) (_ : L2.St) (H : Hp) : Nat := match H ll with | some (.lst xs) => xs.length | _ => 0
def gC (K : PySem.W.Frag) (t : Adr) (a : Wa) (ws : Tb) (las : List La) (m : Ms) (H : Hp) (σ : L2.St) (H2 : Hp) : Prop :=
 ∃ (las2 : List La) (lv2 : List Lv), σ = [some (.ref a.pw)] ∧ But [a.ll] H H2 ∧ AU H H2 ∧ BU K t H2 a ws las2 { m with lv := lv2 } ∧ (∀ x ∈ las2, x ∈ las) ∧ lv2.dropWhile Lv.thr = m.lv.dropWhile Lv.thr
section
variable {P : Program} {w : World} {K : PySem.W.Frag} {mg : Str → Option Value} {base : Heap} {t : Adr}
def dS (K : PySem.W.Frag) (t : Adr) : Sp := fun vs H Q _ => ∃ (a : Wa) (ws : Tb) (las : List La) (m : Ms), vs = [.ref a.pw] ∧ BU K t H a ws las m ∧
 ∀ las' H', But [a.ll] H H' → AU H H' → (∀ x ∈ las', x ∈ las) → BU K t H' a ws las' (cln m) → Q (.bl (cln m).lv.isEmpty) H'
theorem GY (T : Txt K mg t) : BJ P w K mg base CX0 3 t.a_Walk_isdone t.d_Walk_isdone ["self"] (dS K t) := by
 refine T.Walk_isdone.F.ok MK (fun vs H Q E h => ?_) (fun cdv A outer s H vs Q E hr h => ?_)
 ·obtain ⟨a, ws, las, m, rfl, _⟩ := h; rfl
 ·obtain ⟨a, ws, las, m, rfl, hW, q⟩ := h
  refine ⟨_, s!"{@RZ _ _ _ _ _ _ PassesOwn.never (@PW.pt _ _ _ s!"{@ZZ _ _ _ s!"0AJ" (fun _ => rfl)}{DP}0AJDnO{T.cl_Level}{T.Level_isthrough.mt}{IU T}{hr.mono (by decide)}{T.Level_isthrough.b}{BY}ihzy") s!"{@jK _ _ _ _ _ _ _ _ _ PySem.F.plainAttrs_list PySem.F.slot_list_pop PySem.F.type_list_pop jG s!"0AJ" (by rfl) (by rfl)}ZE"}{@gA _ _ _ _ s!"0AJ"}LEF", ?_⟩
  walk_at "ro"
  refine VP (gC K t a ws las m H) (lvn a.ll) ⟨las, m.lv, rfl, But.refl _ H, AU.refl H, hW, fun _ h => h, rfl⟩ ?_
  rintro σ H2 ⟨las2, lv2, rfl, b2, t2, hW2, sub, he⟩
  obtain ⟨⟨dx, wo⟩, bo, le, lv, hA, ac, ap, lp, nd, od⟩ := id hW2
  walk_at "ro"
  refine ⟨_, _, _, wo, T.cl_Walk, T.n_Walk_levels, _, rfl, !(((las2.map fun x => V.ref x.p).reverse) : List V).isEmpty, .inl ⟨_, SqL.of le, rfl⟩, ?_⟩
  have lv' : Paired (AY K t.c_Level H2) las2 lv2 := lv
  clear lv
  cases lv' with
  | nil =>
   rw [if_neg (by simp)]
   refine ⟨_, _, _, wo, T.cl_Walk, T.n_Walk_levels, _, rfl, false, .inl ⟨_, SqL.of le, rfl⟩, ?_⟩
   have e : cln m = { m with lv := [] } := by simp only [cln, ← he]; rfl
   have z := q [] H2 b2 t2 sub
   rw [e] at z
   exact z hW2
  | @cons x v las3 lv3 hx ht =>
   obtain ⟨⟨dl, vb, hxp, rb⟩, hen⟩ := id hx
   have le' : H2 a.ll = some (.lst ((las3.map fun x => V.ref x.p).reverse ++ [.ref x.p])) := by rw [le]; simp
   have ise : (((x :: las3).map fun x => V.ref x.p).reverse : List V).isEmpty = false := by simp
   rw [ise]
   walk_at "ro"
   refine ⟨_, _, _, wo, T.cl_Walk, T.n_Walk_levels, _, rfl, ?_⟩
   dsimp only
   refine ⟨_, SqL.of le', .ref x.p, TC _ _, x.p, rfl, _, _, hxp, rfl, x, v, rfl, hx, ?_⟩
   dsimp only
   by_cases c : v.thr = true
   ·rw [if_pos c]
    have hod : fB las3 lv3 := od.2
    have nd3 : (las3.map (·.p)).Nodup := (List.nodup_cons.mp nd).2
    refine ⟨fun σ' H' => σ' = [some (.ref a.pw)] ∧ H' = upd H2 a.ll (.lst (las3.map fun x => V.ref x.p).reverse), ?_, ?_⟩
    ·rintro σ' H' ⟨rfl, rfl⟩
     obtain ⟨b3, t3, h3⟩ := hW2.lev ht (fun y hy => lp y (List.mem_cons_of_mem _ hy)) nd3 hod
     refine ⟨_, ?_, rfl, las3, lv3, rfl, b2.trans b3, t2.trans t3, h3, fun y hy => sub y (List.mem_cons_of_mem _ hy), ?_⟩
     ·simp only [lvn, le', AB]; simp
     ·rw [← he, List.dropWhile_cons, if_pos c]
    ·refine ⟨_, _, _, wo, T.cl_Walk, T.n_Walk_levels, _, rfl, .inl ⟨_, SqL.of le'⟩, ?_⟩
     exact ⟨a.ll, rfl, _, le', ⟨.ref x.p, by simp⟩, rfl, by rw [List.dropLast_concat]⟩
   ·rw [if_neg c]
    refine ⟨_, _, _, wo, T.cl_Walk, T.n_Walk_levels, _, rfl, true, .inl ⟨_, SqL.of le', by simp⟩, ?_⟩
    have e : cln m = { m with lv := v :: lv3 } := by simp only [cln, ← he, List.dropWhile_cons, if_neg c]
    have z := q _ H2 b2 t2 sub
    rw [e] at z
    exact z hW2
def Wa.l (a : Wa) (las : List La) : List Addr := [a.ll, a.la] ++ a.ha.l ++ las.map (·.p) ++ las.map (·.d)
theorem BU.nt {H : Hp} {a : Wa} {ws : Tb} {las : List La} {m : Ms} (h : BU K t H a ws las m) : ∀ c ∈ a.l las, ∀ u, H c = some u → ¬ ((∃ xs, u = .tup xs) ∨ ∃ o1 o2, u = .frz o1 o2) := by
 obtain ⟨_, _, le, lv, ⟨⟨dx, vp, hp, _⟩, ⟨vs1, hs, _⟩, ⟨vs2, hc, _⟩, ⟨kvs, hm, _⟩, _⟩, ⟨vs, ac, _⟩, _⟩ := h
 intro c hc'
 simp only [Wa.l, Ha.l, List.mem_append, List.mem_cons, List.not_mem_nil, or_false, List.mem_map] at hc'
 rcases hc' with ((((rfl | rfl) | (rfl | rfl | rfl | rfl)) | ⟨x, hx, rfl⟩) | ⟨x, hx, rfl⟩)
 ·exact FN le
 ·exact FN ac
 ·exact FO hp
 ·exact FN hs
 ·exact FN hc
 ·exact SO hm
 ·obtain ⟨v, _, ⟨⟨dx, vb, h1, _⟩, _⟩⟩ := JP lv x hx
  exact FO h1
 ·obtain ⟨v, _, ⟨_, ⟨kvs, h1, _⟩⟩⟩ := JP lv x hx
  exact SO h1
def IJ (K : PySem.W.Frag) (t : Adr) (a : Wa) (ws : Tb) (las : List La) (H : Hp) (Q : VK) (E : XK) : Except Bool Ms → Prop
 | .ok m => ∀ las' H', But (a.l las) H H' → (∀ x ∈ las', (x.p ∈ las.map (·.p) ∨ H x.p = none) ∧ (x.d ∈ las.map (·.d) ∨ H x.d = none)) → BU K t H' a ws las' m → Q .non H'
 | .error b => ∀ H', But (a.l las) H H' → E (.ref (if b then t.c_NoMark else t.c_TooGreat)) none H'
def IF (m : Ms) (s : Ac) : Except Bool Ms := match stp m.hd s with
 | some y => .ok { m with hd := y, ac := m.ac ++ [s] }
 | none => .error true
def iG (K : PySem.W.Frag) (t : Adr) : Sp := fun vs H Q E => ∃ (a : Wa) (ws : Tb) (las : List La) (m : Ms) (s : Ac) (v : V), vs = [.ref a.pw, v] ∧ BU K t H a ws las m ∧ Rp K H s.D v ∧ s.ok ∧ m.hd.co.length ≤ 5000 ∧ m.hd.st.length ≤ 5000 ∧ m.hd.ms.length ≤ 5000 ∧ m.ac.length ≤ 5000 ∧ IJ K t a ws las H Q E (IF m s)
theorem KA (T : Txt K mg t) : BJ P w K mg base (CXr P w) 5 t.a_Walk_act t.d_Walk_act ["self", "statement"] (iG K t) := by
 refine T.Walk_act.F.okR RD (fun vs H Q E h => ?_) (fun cdv A outer s H vs Q E hr h => ?_)
 ·obtain ⟨a, ws, las, m, s, v, rfl, _⟩ := h; rfl
 ·obtain ⟨a, ws, las, m, s1, v, rfl, hW, rv, ho, hc, hst, hms, hac, q⟩ := h
  obtain ⟨⟨dx, wo⟩, ⟨kvs, bo, rbo⟩, le, lv, hA, ⟨vs, ac, rac⟩, ⟨n1, n2, n3, n4, n5, n6, n7⟩, lp, nd, od⟩ := id hW
  obtain ⟨⟨dh, vp, hp, rp⟩, ⟨vs1, hs, rs⟩, ⟨vs2, hc2, rc⟩, ⟨km, hm, rm⟩, ne⟩ := id hA
  refine ⟨_, s!"0AJ{T.cl_Hand}{T.Hand_act.mt}{QZ T}{hr.mono (by decide)}{T.Hand_act.b}{DF}1ACBgZ0AJ1ACBjZEF", ?_⟩
  walk_at "ro"
  refine ⟨_, _, _, wo, T.cl_Walk, T.n_Walk_hand, _, rfl, a.ha.p, rfl, _, _, hp, rfl, a.ha, m.hd, s1, v, rfl, hA, rv, ho, hc, hst, hms, ?_⟩
  have sub : ∀ c ∈ a.ha.l, c ∈ a.l las := fun c hc => by simp only [Wa.l, List.mem_append]; exact .inl (.inl (.inr hc))
  unfold IF at q
  cases e : stp m.hd s1 with
  | none =>
   rw [e] at q
   exact fun H' b' t' => q H' (b'.mono sub)
  | some y =>
   rw [e] at q
   intro H2 b2 t2 hA2
   have k2 : ∀ {b : Addr} {o : HO}, H b = some o → b ∉ a.ha.l → H2 b = some o := fun {b o} e n => b2 b o e n
   have nw : a.pw ∉ a.ha.l := by
    simp only [List.mem_cons, List.not_mem_nil, or_false, not_or]
    exact ⟨n1, FP wo hs, FP wo hc2, BL wo hm (by intro z; cases z)⟩
   have nb : a.db ∉ a.ha.l := by
    simp only [List.mem_cons, List.not_mem_nil, or_false, not_or]
    exact ⟨BL bo hp (by intro z; cases z), BL bo hs (by intro z; cases z), BL bo hc2 (by intro z; cases z), n7⟩
   have nle : a.ll ∉ a.ha.l := by
    simp only [List.mem_cons, List.not_mem_nil, or_false, not_or]
    exact ⟨BL le hp (by intro z; cases z), n3, n4, BL le hm (by intro z; cases z)⟩
   have nac : a.la ∉ a.ha.l := by
    simp only [List.mem_cons, List.not_mem_nil, or_false, not_or]
    exact ⟨BL ac hp (by intro z; cases z), n5, n6, BL ac hm (by intro z; cases z)⟩
   have wo2 := k2 wo nw
   have ac2 := k2 ac nac
   walk_at "ro"
   refine ⟨_, _, _, wo2, T.cl_Walk, T.n_Walk_acts, _, rfl, .inl ⟨_, SqL.of ac2⟩, _, ac2, by refine EY ?_; rw [rac.length, List.length_map]; exact hac, ?_⟩
   have t3 : AU H2 (upd H2 a.la (.lst (vs ++ [v]))) := (AU.refl H2).upd (FN ac2)
   have b3 : But [a.la] H2 (upd H2 a.la (.lst (vs ++ [v]))) := (But.refl _ H2).upd (.inr (by simp))
   have k3 : ∀ {b : Addr} {o : HO}, H2 b = some o → b ≠ a.la → (upd H2 a.la (.lst (vs ++ [v]))) b = some o := fun {b o} e m => by rw [AH m]; exact e
   have t23 := t2.trans t3
   refine q las _ (((b2.mono sub).trans (b3.mono (by intro c hc; simp only [List.mem_singleton] at hc; subst hc; simp [Wa.l])))) (fun x hx => ⟨.inl (List.mem_map_of_mem hx), .inl (List.mem_map_of_mem hx)⟩) ⟨⟨dx, k3 wo2 (FP wo ac)⟩, ⟨kvs, k3 (k2 bo nb) (BL bo ac (by intro z; cases z)), rbo.mono fun b v r => Rp.t t23 r⟩, k3 (k2 le nle) n2, LF lv fun x z hx r => ?_, hA2.off b3 t3 ?_, ⟨_, AB, ?_⟩, ⟨n1, n2, n3, n4, n5, n6, n7⟩, lp, nd, od⟩
   ·obtain ⟨⟨dx1, vb1, h1, _⟩, ⟨kv1, h2, _⟩⟩ := id r
    obtain ⟨l1, l2, l3, l4⟩ := lp x hx
    have r2 : AY K t.c_Level H2 x z := r.off b2 t2 (by
     simp only [List.mem_cons, List.not_mem_nil, or_false, not_or]
     exact ⟨l2, FP h1 hs, FP h1 hc2, BL h1 hm (by intro z; cases z)⟩) (by
     simp only [List.mem_cons, List.not_mem_nil, or_false, not_or]
     exact ⟨BL h2 hp (by intro z; cases z), BL h2 hs (by intro z; cases z), BL h2 hc2 (by intro z; cases z), l4⟩)
    have := r2.nl ac2
    exact r2.off b3 t3 (by simpa using this.1) (by simpa using this.2)
   ·exact hA2.nl ac2 n5 n6
   ·show RpL K _ ((m.ac ++ [s1]).map Ac.D) _
    rw [List.map_append]
    exact (rac.t t23).app (RpL.one (rv.t t23))
end
def NUM : List Str := ["n0", "n1", "n2", "n3"]
def DY (e : En) : List Am → Option (List Int)
 | [] => some []
 | a :: r => match wth e a with
  | none => none
  | some n => (DY e r).map (n :: ·)
def bgn (ws : Tb) (m : Ms) (e : En) : Stm → Except Bool Ms
 | .go a => match wth e a with | none => .error false | some n => IF m (.go n)
 | .turn a => match wth e a with | none => .error false | some n => IF m (.turn n)
 | .ink a => match wth e a with | none => .error false | some n => IF m (.ink n)
 | .up => IF m .up
 | .down => IF m .down
 | .mark n => IF m (.mark n)
 | .back n => IF m (.back n)
 | .again a b => match wth e a with | none => .error false | some n => .ok { m with lv := ⟨b, e, b.length, 0, n, true⟩ :: m.lv }
 | .ifs a b c => match wth e a with | none => .error false | some n => .ok { m with lv := ⟨if 0 < n then b else c, e, 0, 0, 0, false⟩ :: m.lv }
 | .dow x as => match DY e as with | none => .error false | some ns => .ok { m with lv := ⟨(lkA ws x).getD [], NUM.zip ns, 0, 0, 0, true⟩ :: m.lv }
def bB (ws : Tb) (e : En) : Stm → Prop
 | .go a => RF e a
 | .turn a => RF e a
 | .ink a => RF e a
 | .again a _ => RF e a
 | .ifs a _ _ => RF e a
 | .dow x as => (∀ a ∈ as, RF e a) ∧ as.length ≤ 1000 ∧ ∃ b, lkA ws x = some b
 | _ => True
def Stm.xs (va vb vc : V) : Stm → List V
 | .go _ => [.str "go", va]
 | .turn _ => [.str "turn", va]
 | .ink _ => [.str "ink", va]
 | .up => [.str "up"]
 | .down => [.str "down"]
 | .mark n => [.str "mark", .int n]
 | .back n => [.str "back", .int n]
 | .again _ _ => [.str "again", va, vb]
 | .ifs _ _ _ => [.str "if", va, vb, vc]
 | .dow x _ => [.str "do", .str x, va]
def Stm.rp (K : PySem.W.Frag) (H : Hp) (va vb vc : V) : Stm → Prop
 | .go a => Rp K H a.D va
 | .turn a => Rp K H a.D va
 | .ink a => Rp K H a.D va
 | .again a b => Rp K H a.D va ∧ Rp K H (bD b) vb
 | .ifs a b c => Rp K H a.D va ∧ Rp K H (bD b) vb ∧ Rp K H (bD c) vc
 | .dow _ as => Rp K H (.tup (as.map Am.D)) va
 | _ => True
theorem lO {K : PySem.W.Frag} {H : Hp} {a : L2.D} {xs : List V} (h : RpL K H [a] xs) : ∃ x, xs = [x] ∧ Rp K H a x := by
 rw [RpL] at h; obtain ⟨x, r, rfl, h1, h⟩ := h; rw [RpL] at h; subst h; exact ⟨x, rfl, h1⟩
theorem UB {K : PySem.W.Frag} {H : Hp} {a b : L2.D} {xs : List V} (h : RpL K H [a, b] xs) : ∃ x y, xs = [x, y] ∧ Rp K H a x ∧ Rp K H b y := by
 rw [RpL] at h; obtain ⟨x, r, rfl, h1, h⟩ := h; obtain ⟨y, rfl, h2⟩ := lO h; exact ⟨x, y, rfl, h1, h2⟩
theorem NI {K : PySem.W.Frag} {H : Hp} {a b c : L2.D} {xs : List V} (h : RpL K H [a, b, c] xs) : ∃ x y z, xs = [x, y, z] ∧ Rp K H a x ∧ Rp K H b y ∧ Rp K H c z := by
 rw [RpL] at h; obtain ⟨x, r, rfl, h1, h⟩ := h; obtain ⟨y, z, rfl, h2, h3⟩ := UB h; exact ⟨x, y, z, rfl, h1, h2, h3⟩
theorem mU {K : PySem.W.Frag} {H : Hp} {a b c d : L2.D} {xs : List V} (h : RpL K H [a, b, c, d] xs) : ∃ x y z u, xs = [x, y, z, u] ∧ Rp K H a x ∧ Rp K H b y ∧ Rp K H c z ∧ Rp K H d u := by
 rw [RpL] at h; obtain ⟨x, r, rfl, h1, h⟩ := h; obtain ⟨y, z, u, rfl, h2, h3, h4⟩ := NI h; exact ⟨x, y, z, u, rfl, h1, h2, h3, h4⟩
theorem BF {K : PySem.W.Frag} {H : Hp} {x : Str} {v : V} (h : Rp K H (.str x) v) : v = .str x := by rw [Rp] at h; exact h
theorem ZK {K : PySem.W.Frag} {H : Hp} {x : Int} {v : V} (h : Rp K H (.int x) v) : v = .int x := by rw [Rp] at h; exact h
theorem kD {K : PySem.W.Frag} {H : Hp} {s : Stm} {v : V} (h : Rp K H s.D v) : ∃ p va vb vc, v = .ref p ∧ SqT K H p (s.xs va vb vc) ∧ s.rp K H va vb vc := by
 cases s with
 | go a => obtain ⟨p, xs, rfl, hp, rl⟩ := CH.mp h; obtain ⟨x, y, rfl, r1, r2⟩ := UB rl; cases BF r1; exact ⟨p, y, .non, .non, rfl, hp, r2⟩
 | turn a => obtain ⟨p, xs, rfl, hp, rl⟩ := CH.mp h; obtain ⟨x, y, rfl, r1, r2⟩ := UB rl; cases BF r1; exact ⟨p, y, .non, .non, rfl, hp, r2⟩
 | ink a => obtain ⟨p, xs, rfl, hp, rl⟩ := CH.mp h; obtain ⟨x, y, rfl, r1, r2⟩ := UB rl; cases BF r1; exact ⟨p, y, .non, .non, rfl, hp, r2⟩
 | up => obtain ⟨p, xs, rfl, hp, rl⟩ := CH.mp h; obtain ⟨x, rfl, r1⟩ := lO rl; cases BF r1; exact ⟨p, .non, .non, .non, rfl, hp, trivial⟩
 | down => obtain ⟨p, xs, rfl, hp, rl⟩ := CH.mp h; obtain ⟨x, rfl, r1⟩ := lO rl; cases BF r1; exact ⟨p, .non, .non, .non, rfl, hp, trivial⟩
 | mark n => obtain ⟨p, xs, rfl, hp, rl⟩ := CH.mp h; obtain ⟨x, y, rfl, r1, r2⟩ := UB rl; cases BF r1; cases ZK r2; exact ⟨p, .non, .non, .non, rfl, hp, trivial⟩
 | back n => obtain ⟨p, xs, rfl, hp, rl⟩ := CH.mp h; obtain ⟨x, y, rfl, r1, r2⟩ := UB rl; cases BF r1; cases ZK r2; exact ⟨p, .non, .non, .non, rfl, hp, trivial⟩
 | again a b => rw [Stm.D, GV] at h; obtain ⟨p, xs, rfl, hp, rl⟩ := CH.mp h; obtain ⟨x, y, z, rfl, r1, r2, r3⟩ := NI rl; cases BF r1; exact ⟨p, y, z, .non, rfl, hp, r2, r3⟩
 | ifs a b c => rw [Stm.D, GV, GV] at h; obtain ⟨p, xs, rfl, hp, rl⟩ := CH.mp h; obtain ⟨x, y, z, u, rfl, r1, r2, r3, r4⟩ := mU rl; cases BF r1; exact ⟨p, y, z, u, rfl, hp, r2, r3, r4⟩
 | dow w as => rw [Stm.D] at h; obtain ⟨p, xs, rfl, hp, rl⟩ := CH.mp h; obtain ⟨x, y, z, rfl, r1, r2, r3⟩ := NI rl; cases BF r1; cases BF r2; exact ⟨p, z, .non, .non, rfl, hp, r3⟩
theorem BU.push {K : PySem.W.Frag} {t : Adr} {H : Hp} {a : Wa} {ws : Tb} {las : List La} {m : Ms} (h : BU K t H a ws las m) {x : La} {v : Lv} (hx : AY K t.c_Level H x v) (n1 : ∀ y ∈ las, y.p ≠ x.p) (n2 : x.p ≠ a.pw) (n3 : x.p ≠ a.ha.p) (n4 : x.d ≠ a.db) (n5 : x.d ≠ a.ha.lm) (ow : v.own = true → ∀ y ∈ las, y.d ≠ x.d) :
  But [a.ll] H (upd H a.ll (.lst ((las.map fun x => V.ref x.p).reverse ++ [.ref x.p]))) ∧ BU K t (upd H a.ll (.lst ((las.map fun x => V.ref x.p).reverse ++ [.ref x.p]))) a ws (x :: las) { m with lv := v :: m.lv } := by
 have e : ((x :: las).map fun x => V.ref x.p).reverse = (las.map fun x => V.ref x.p).reverse ++ [.ref x.p] := by simp
 obtain ⟨b, _, r⟩ := h.lev (las' := x :: las) (lv' := v :: m.lv) (.cons hx h.lv) (by
  intro y hy
  rcases List.mem_cons.mp hy with rfl | hy
  ·exact ⟨n2, n3, n4, n5⟩
  ·exact h.lp y hy) (by
  rw [List.map_cons, List.nodup_cons]
  refine ⟨fun z => ?_, h.nd⟩
  rw [List.mem_map] at z
  obtain ⟨y, hy, ey⟩ := z
  exact n1 y hy ey) ⟨ow, h.od⟩
 rw [e] at b r
 exact ⟨b, r⟩
section
variable {P : Program} {w : World} {K : PySem.W.Frag} {mg : Str → Option Value} {base : Heap} {t : Adr}
structure Bnd (m : Ms) : Prop where
 co : m.hd.co.length ≤ 5000
 st : m.hd.st.length ≤ 5000
 ms : m.hd.ms.length ≤ 5000
 ac : m.ac.length ≤ 5000
 lv : m.lv.length ≤ 5000
theorem IJ.same {H H1 : Hp} {a : Wa} {ws : Tb} {las : List La} {Q : VK} {E : XK} {r : Except Bool Ms} (h : IJ K t a ws las H Q E r) (s : AI H H1) : IJ K t a ws las H1 Q E r := by
 have fr : ∀ {c}, H1 c = none → H c = none := fun {c} e => by
  cases h : H c with
  | none => rfl
  | some o => rw [s _ _ h] at e; cases e
 cases r with
 | ok m => exact fun las' H' b n w => h las' H' (s.but.trans b) (fun x hx => ⟨(n x hx).1.imp_right fr, (n x hx).2.imp_right fr⟩) w
 | error b => exact fun H' b => h H' (s.but.trans b)
theorem UV {e : En} {a : Am} {n : Int} (h : wth e a = some n) : -1000000 ≤ n ∧ n ≤ 1000000 := by
 unfold wth at h
 split at h
 ·next c => cases h; exact c
 ·cases h
theorem bW {H : Hp} {p : Addr} {x : Str} {n : Int} (h : H p = some (.tup [.str x, .int n])) : Rp K H (.tup [.str x, .int n]) (.ref p) := by
 rw [Rp]
 exact ⟨p, _, rfl, SqT.of h, AZ (by rw [Rp]) (AZ (by rw [Rp]) RpL.nil)⟩
def YG (K : PySem.W.Frag) (t : Adr) : Sp := fun vs H Q E => ∃ (a : Wa) (ws : Tb) (las : List La) (m : Ms) (s : Stm) (v : V) (d : Addr) (e : En), vs = [.ref a.pw, v, .ref d] ∧ BU K t H a ws las m ∧ Rp K H s.D v ∧ EnR H d e ∧ d ∈ las.map (·.d) ∧ bB ws e s ∧ Bnd m ∧ IJ K t a ws las H Q E (bgn ws m e s)
def fF (p : Addr) (as : List Am) (e : En) (d : Addr) (H : Hp) (i : Nat) (σ : L2.St) (H2 : Hp) : Prop := ∃ (ns : List Int) (o : Option V), σ = [some (.ref d), o] ∧ AI H H2 ∧ H2 p = some (.lst (ns.map V.int)) ∧ DY e (as.take i) = some ns
theorem LZ {e : En} {l2 : List Am} : ∀ {l1 : List Am}, DY e (l1 ++ l2) = match DY e l1 with | none => none | some ns => (DY e l2).map (ns ++ ·)
 | [] => by rw [List.nil_append, DY]; cases DY e l2 <;> rfl
 | a :: l1 => by
  rw [List.cons_append, DY, DY]
  cases wth e a with
  | none => rfl
  | some n =>
   dsimp only
   rw [LZ (l1 := l1)]
   cases DY e l1 with
   | none => rfl
   | some ns => dsimp only; cases DY e l2 <;> rfl
theorem aE {e : En} {as : List Am} {i : Nat} {a : Am} {ns : List Int} {k : Int} (h : as[i]? = some a) (h1 : DY e (as.take i) = some ns) (h2 : wth e a = some k) : DY e (as.take (i + 1)) = some (ns ++ [k]) := by
 rw [List.take_add_one, h, LZ, h1]
 simp [DY, h2]
theorem dZ {e : En} {as : List Am} {i : Nat} {a : Am} {ns : List Int} (h : as[i]? = some a) (h1 : DY e (as.take i) = some ns) (h2 : wth e a = none) : DY e as = none := by
 have hi := (List.getElem?_eq_some_iff.mp h).1
 have e1 : as = as.take i ++ a :: as.drop (i + 1) := by
  have := (List.getElem?_eq_some_iff.mp h).2
  rw [← this]; simp
 rw [e1, LZ, h1]
 simp [DY, h2]
theorem MD {e : En} : ∀ {as : List Am} {ns : List Int}, DY e as = some ns → ns.length = as.length
 | [], ns, h => by rw [DY] at h; cases h; rfl
 | a :: l, ns, h => by
  rw [DY] at h
  cases h1 : wth e a with
  | none => rw [h1] at h; cases h
  | some n =>
   rw [h1] at h
   cases h2 : DY e l with
   | none => rw [h2] at h; cases h
   | some ms => rw [h2] at h; cases h; simp [MD h2]
theorem lZ {H : Hp} {as : List Am} {xs : List V} {i : Nat} {x : V} (h : RpL K H (as.map Am.D) xs) (hx : xs[i]? = some x) : ∃ a, as[i]? = some a ∧ Rp K H a.D x := by
 have hi : i < xs.length := (List.getElem?_eq_some_iff.mp hx).1
 have hb : i < as.length := by rw [h.length, List.length_map] at hi; exact hi
 obtain ⟨v, e, r⟩ := h.at (j := i) (by rw [List.length_map]; exact hb)
 rw [hx] at e; cases e
 rw [List.getD_eq_getElem?_getD, List.getElem?_map, List.getElem?_eq_getElem hb] at r
 exact ⟨as[i], List.getElem?_eq_getElem hb, r⟩
theorem aL : ∀ (ks : List Str) (ns : List Int), As .inr (fun (i : Int) v => v = V.int i) (ks.zip ns) ((ks.map Sum.inr).zip (ns.map V.int))
 | [], _ => .nil
 | _ :: _, [] => .nil
 | k :: ks, n :: ns => .cons ⟨rfl, rfl⟩ (aL ks ns)
theorem LK {C : Addr} {H H2 : Hp} {x dx d : Addr} {vb : V} {body : List Stm} {e : En} {own : Bool} (hx : H x = none) (hdx : H dx = none) (nx : dx ≠ x) (rb : Rp K H (bD body) vb) (hE : EnR H d e) (e2 : H2 = upd (upd (upd H dx (.own x)) x (.ins C dx [])) x (.ins C dx (lf vb d 0 0 0))) : AI H H2 ∧ AY K C H2 ⟨x, d⟩ ⟨body, e, 0, 0, 0, own⟩ := by
 have s2 : AI H H2 := fun c o e => by
  have n1 := AK e hx
  have n2 := AK e hdx
  rw [e2, AH n1, AH n1, AH n2]; exact e
 exact ⟨s2, ⟨dx, vb, by rw [e2]; exact AB, rb.same s2⟩, hE.same s2⟩
theorem NF (T : Txt K mg t) : BJ P w K mg base (CXr P w) 6 t.a_Walk_begin t.d_Walk_begin ["self", "statement", "sources"] (YG K t) := by
 refine T.Walk_begin.F.okR EV (fun vs H Q E h => ?_) (fun cdv A outer s H vs Q E hr h => ?_)
 ·obtain ⟨a, ws, las, m, s, v, d, e, rfl, _⟩ := h; rfl
 ·obtain ⟨a, ws, las, m, s1, v, d, e, rfl, hW, rv, hE, hd, hin, bd, q⟩ := h
  obtain ⟨dx, wo⟩ := id hW.wo
  obtain ⟨a1, va, vb, vc, rfl, hs, hrp⟩ := kD rv
  have le := hW.le
  have lel : (las.map fun x => V.ref x.p).reverse.length < sizeLine := by
   refine EY ?_
   rw [List.length_reverse, List.length_map, Paired.length hW.lv]
   exact bd.lv
  have inl0 : ∀ {c}, c ∈ [a.ll] → c ∈ a.l las := fun {c} hc => by rw [List.mem_singleton] at hc; subst hc; simp [Wa.l]
  have old : ∀ x ∈ las, (x.p ∈ las.map (·.p) ∨ H x.p = none) ∧ (x.d ∈ las.map (·.d) ∨ H x.d = none) := fun x hx => ⟨.inl (List.mem_map_of_mem hx), .inl (List.mem_map_of_mem hx)⟩
  have err1 : ∀ {H1 : Hp}, AI H H1 → bgn ws m e s1 = .error false → E (.ref t.c_TooGreat) none H1 := fun {H1} s1 er => by rw [er] at q; exact q H1 s1.but
  have frs : ∀ {H1 : Hp} {c : Addr}, AI H H1 → H1 c = none → H c = none := fun {H1 c} s1 e => by
   cases h : H c with
   | none => rfl
   | some o => rw [s1 _ _ h] at e; cases e
  have frs' : ∀ {H0 H1 : Hp} {c : Addr}, AI H0 H1 → H1 c = none → H0 c = none := fun {H0 H1 c} s1 e => by
   cases h : H0 c with
   | none => rfl
   | some o => rw [s1 _ _ h] at e; cases e
  have fin : ∀ {H1 : Hp} {x : La} {v : Lv}, AI H H → H x.p = none → (x.d ∈ las.map (·.d) ∨ H x.d = none) → AI H H1 → AY K t.c_Level H1 x v → (v.own = true → H x.d = none) → IJ K t a ws las H Q E (.ok { m with lv := v :: m.lv }) → Q .non (upd H1 a.ll (.lst ((las.map fun x => V.ref x.p).reverse ++ [.ref x.p]))) := by
   intro H1 x v _ fp fd s1 hx ow q
   have hW1 := hW.same s1
   obtain ⟨_, ⟨kb, bo, _⟩, _, _, ⟨⟨dh, vp, hp, _⟩, _, _, ⟨km, hm, _⟩, _⟩, _⟩ := id hW
   have nd : ∀ {y : La}, y ∈ las → H y.p ≠ none ∧ H y.d ≠ none := fun {y} hy => by
    obtain ⟨v, _, ⟨⟨dx, vb, h1, _⟩, ⟨kvs, h2, _⟩⟩⟩ := JP hW.lv y hy
    rw [h1, h2]; exact ⟨by simp, by simp⟩
   have ndb : x.d ≠ a.db ∧ x.d ≠ a.ha.lm := by
    rcases fd with fd | fd
    ·rw [List.mem_map] at fd
     obtain ⟨y, hy, ey⟩ := fd
     rw [← ey]
     exact ⟨(hW.lp y hy).2.2.1, (hW.lp y hy).2.2.2⟩
    ·exact ⟨(AK bo fd).symm, (AK hm fd).symm⟩
   obtain ⟨b, r⟩ := hW1.push hx (fun y hy => by rintro ey; rw [← ey] at fp; exact (nd hy).1 fp) (AK wo fp).symm (AK hp fp).symm ndb.1 ndb.2 (fun o y hy ey => by have := ow o; rw [← ey] at this; exact (nd hy).2 this)
   refine q (x :: las) _ ((s1.but).trans (b.mono fun c hc => inl0 hc)) ?_ r
   intro y hy
   rcases List.mem_cons.mp hy with rfl | hy
   ·exact ⟨.inr fp, fd⟩
   ·exact old y hy
  refine ⟨_, s!"3{EV.nd}{Or.inl rfl}{BP}1ADOI{CT}3AH{BE _}Q0AJ{BJ.upR (NL T)}{hr.mono (by decide)}{T.againlevel.m}{T.againlevel.F.kp}{T.againlevel.b}{DF}{BP}1ADO2A{JD T}{hr.mono (by decide)}{T.worth.m}{T.worth.F.kp}{T.worth.b}{DF}{BP}1ADO2ACBBMCBBBMCBjZE{CT}3AH{BE _}Q4{EV.nd}{Or.inl rfl}{@dI _ _ _ _ _ _ _ _ s!"{TM}{JD T}{hr.mono (by decide)}{T.worth.m}{T.worth.F.kp}{T.worth.b}{DF}{BP}1ADO2ACBBMD{BE _}Q" s!"{BP}1ADO" s!"{BP}1ADO"}I0AJ{T.Level_init.mki}{BJ.upR (ET T)}{hr.mono (by decide)}{T.mg_Level}{T.Level_init.b}{DF}4A2ACBBoCBjZEF{CT}3AH{BE _}Q{dX (i := 5) (sc := AD CY) (N0 := ["self", "statement", "sources", "first", "chosen", "handed"]) (N := ["sources", "amount"]) (js := [2]) (os := ["amount"]) mI rfl rfl EV.nd rfl (Or.inl rfl) rfl rfl rfl ⟨by decide +kernel, by decide +kernel, by decide +kernel, by decide +kernel, by decide +kernel, by decide +kernel⟩ (@VQ _ _ _ _ s!"{dC (K := K) rfl}1ADO") (fun _ _ _ _ => s!"1{show List.Nodup (["sources", "amount"] : List Str) by decide +kernel}U") (fun _ _ _ _ => s!"x") (fun _ _ _ _ => s!"{JD T}{hr.mono (by decide)}{T.worth.m}{T.worth.F.kp}{T.worth.b}{nI}1A0ACBBM")}0AJ{T.Level_init.mki}{BJ.upR (ET T)}{hr.mono (by decide)}{T.mg_Level}{T.Level_init.b}{DF}{PU (OI hr) s!"0AJ" s!"{BP}1ADO" (fun _ _ => rfl)}{TV rfl (by rfl) T.z_dict (by rfl) T.z_zip s!"_{T.g_NUMBERS}{T.r_NUMBERS}b5ACBB"}CBBoCBjZEF{YM}3ASVVVR{by with_unfolding_all rfl}Q0A{T.cl_Walk}{T.Walk_act.mt}{KA T}{hr.mono (by decide)}{T.Walk_act.b}{DF}3A{JD T}{hr.mono (by decide)}{T.worth.m}{T.worth.F.kp}{T.worth.b}{DF}{BP}1ADO2ACBBMCBBKCNgZE0A{T.cl_Walk}{T.Walk_act.mt}{KA T}{hr.mono (by decide)}{T.Walk_act.b}{DF}1ACBgZEPEPEPEPEF", ?_⟩
  walk_at "ro"
  cases s1 with
  | go n =>
   refine ⟨_, hs, _, rfl, ?_⟩
   walk_at "ro"
   walk_at "ws"
   intro vt H1 s1 rt
   obtain ⟨pt, yt, zt, ut, rfl, ht, r1, r2, r3⟩ : ∃ pt yt zt ut, vt = .ref pt ∧ SqT K H1 pt [yt, zt, ut] ∧ yt = .str "go" ∧ zt = .str "turn" ∧ ut = .str "ink" := by
    obtain ⟨pt, xs, rfl, hp, rl⟩ := CH.mp rt
    obtain ⟨x, y, z, rfl, r1, r2, r3⟩ := NI rl
    exact ⟨pt, x, y, z, rfl, hp, BF r1, BF r2, BF r3⟩
   subst r1; subst r2; subst r3
   refine ⟨pt, rfl, _, .inr ht, rfl, rfl, ?_⟩
   rw [if_pos (by rfl)]
   refine ⟨_, _, s1 _ _ wo, rfl, _, s1.tup hs, _, rfl, va, d, n, e, rfl, hrp.same s1, hE.same s1, hin, fun k hk => ⟨by decide, fun p2 hp2 => ?_⟩, fun hn => err1 s1 (by rw [bgn, hn])⟩
   have s2 := s1.trans (AI.upd (o := .tup [.str (Str.ofString "go"), .int k]) hp2)
   rw [bgn, hk] at q
   exact ⟨a, ws, las, m, .go k, .ref p2, rfl, hW.same s2, bW AB, UV hk, bd.co, bd.st, bd.ms, bd.ac, q.same s2⟩
  | turn n =>
   refine ⟨_, hs, _, rfl, ?_⟩
   walk_at "ro"
   walk_at "ws"
   intro vt H1 s1 rt
   obtain ⟨pt, yt, zt, ut, rfl, ht, r1, r2, r3⟩ : ∃ pt yt zt ut, vt = .ref pt ∧ SqT K H1 pt [yt, zt, ut] ∧ yt = .str "go" ∧ zt = .str "turn" ∧ ut = .str "ink" := by
    obtain ⟨pt, xs, rfl, hp, rl⟩ := CH.mp rt
    obtain ⟨x, y, z, rfl, r1, r2, r3⟩ := NI rl
    exact ⟨pt, x, y, z, rfl, hp, BF r1, BF r2, BF r3⟩
   subst r1; subst r2; subst r3
   refine ⟨pt, rfl, _, .inr ht, rfl, rfl, ?_⟩
   rw [if_pos (by rfl)]
   refine ⟨_, _, s1 _ _ wo, rfl, _, s1.tup hs, _, rfl, va, d, n, e, rfl, hrp.same s1, hE.same s1, hin, fun k hk => ⟨by decide, fun p2 hp2 => ?_⟩, fun hn => err1 s1 (by rw [bgn, hn])⟩
   have s2 := s1.trans (AI.upd (o := .tup [.str (Str.ofString "turn"), .int k]) hp2)
   rw [bgn, hk] at q
   exact ⟨a, ws, las, m, .turn k, .ref p2, rfl, hW.same s2, bW AB, UV hk, bd.co, bd.st, bd.ms, bd.ac, q.same s2⟩
  | ink n =>
   refine ⟨_, hs, _, rfl, ?_⟩
   walk_at "ro"
   walk_at "ws"
   intro vt H1 s1 rt
   obtain ⟨pt, yt, zt, ut, rfl, ht, r1, r2, r3⟩ : ∃ pt yt zt ut, vt = .ref pt ∧ SqT K H1 pt [yt, zt, ut] ∧ yt = .str "go" ∧ zt = .str "turn" ∧ ut = .str "ink" := by
    obtain ⟨pt, xs, rfl, hp, rl⟩ := CH.mp rt
    obtain ⟨x, y, z, rfl, r1, r2, r3⟩ := NI rl
    exact ⟨pt, x, y, z, rfl, hp, BF r1, BF r2, BF r3⟩
   subst r1; subst r2; subst r3
   refine ⟨pt, rfl, _, .inr ht, rfl, rfl, ?_⟩
   rw [if_pos (by rfl)]
   refine ⟨_, _, s1 _ _ wo, rfl, _, s1.tup hs, _, rfl, va, d, n, e, rfl, hrp.same s1, hE.same s1, hin, fun k hk => ⟨by decide, fun p2 hp2 => ?_⟩, fun hn => err1 s1 (by rw [bgn, hn])⟩
   have s2 := s1.trans (AI.upd (o := .tup [.str (Str.ofString "ink"), .int k]) hp2)
   rw [bgn, hk] at q
   exact ⟨a, ws, las, m, .ink k, .ref p2, rfl, hW.same s2, bW AB, UV hk, bd.co, bd.st, bd.ms, bd.ac, q.same s2⟩
  | up =>
   refine ⟨_, hs, _, rfl, ?_⟩
   walk_at "ro"
   walk_at "ws"
   intro vt H1 s1 rt
   obtain ⟨pt, yt, zt, ut, rfl, ht, r1, r2, r3⟩ : ∃ pt yt zt ut, vt = .ref pt ∧ SqT K H1 pt [yt, zt, ut] ∧ yt = .str "go" ∧ zt = .str "turn" ∧ ut = .str "ink" := by
    obtain ⟨pt, xs, rfl, hp, rl⟩ := CH.mp rt
    obtain ⟨x, y, z, rfl, r1, r2, r3⟩ := NI rl
    exact ⟨pt, x, y, z, rfl, hp, BF r1, BF r2, BF r3⟩
   subst r1; subst r2; subst r3
   refine ⟨pt, rfl, _, .inr ht, rfl, rfl, ?_⟩
   rw [if_neg (by decide +kernel)]
   refine ⟨_, _, s1 _ _ wo, rfl, a, ws, las, m, .up, .ref a1, rfl, hW.same s1, rv.same s1, trivial, bd.co, bd.st, bd.ms, bd.ac, q.same s1⟩
  | down =>
   refine ⟨_, hs, _, rfl, ?_⟩
   walk_at "ro"
   walk_at "ws"
   intro vt H1 s1 rt
   obtain ⟨pt, yt, zt, ut, rfl, ht, r1, r2, r3⟩ : ∃ pt yt zt ut, vt = .ref pt ∧ SqT K H1 pt [yt, zt, ut] ∧ yt = .str "go" ∧ zt = .str "turn" ∧ ut = .str "ink" := by
    obtain ⟨pt, xs, rfl, hp, rl⟩ := CH.mp rt
    obtain ⟨x, y, z, rfl, r1, r2, r3⟩ := NI rl
    exact ⟨pt, x, y, z, rfl, hp, BF r1, BF r2, BF r3⟩
   subst r1; subst r2; subst r3
   refine ⟨pt, rfl, _, .inr ht, rfl, rfl, ?_⟩
   rw [if_neg (by decide +kernel)]
   refine ⟨_, _, s1 _ _ wo, rfl, a, ws, las, m, .down, .ref a1, rfl, hW.same s1, rv.same s1, trivial, bd.co, bd.st, bd.ms, bd.ac, q.same s1⟩
  | mark n =>
   refine ⟨_, hs, _, rfl, ?_⟩
   walk_at "ro"
   walk_at "ws"
   intro vt H1 s1 rt
   obtain ⟨pt, yt, zt, ut, rfl, ht, r1, r2, r3⟩ : ∃ pt yt zt ut, vt = .ref pt ∧ SqT K H1 pt [yt, zt, ut] ∧ yt = .str "go" ∧ zt = .str "turn" ∧ ut = .str "ink" := by
    obtain ⟨pt, xs, rfl, hp, rl⟩ := CH.mp rt
    obtain ⟨x, y, z, rfl, r1, r2, r3⟩ := NI rl
    exact ⟨pt, x, y, z, rfl, hp, BF r1, BF r2, BF r3⟩
   subst r1; subst r2; subst r3
   refine ⟨pt, rfl, _, .inr ht, rfl, rfl, ?_⟩
   rw [if_neg (by decide +kernel)]
   refine ⟨_, _, s1 _ _ wo, rfl, a, ws, las, m, .mark n, .ref a1, rfl, hW.same s1, rv.same s1, trivial, bd.co, bd.st, bd.ms, bd.ac, q.same s1⟩
  | back n =>
   refine ⟨_, hs, _, rfl, ?_⟩
   walk_at "ro"
   walk_at "ws"
   intro vt H1 s1 rt
   obtain ⟨pt, yt, zt, ut, rfl, ht, r1, r2, r3⟩ : ∃ pt yt zt ut, vt = .ref pt ∧ SqT K H1 pt [yt, zt, ut] ∧ yt = .str "go" ∧ zt = .str "turn" ∧ ut = .str "ink" := by
    obtain ⟨pt, xs, rfl, hp, rl⟩ := CH.mp rt
    obtain ⟨x, y, z, rfl, r1, r2, r3⟩ := NI rl
    exact ⟨pt, x, y, z, rfl, hp, BF r1, BF r2, BF r3⟩
   subst r1; subst r2; subst r3
   refine ⟨pt, rfl, _, .inr ht, rfl, rfl, ?_⟩
   rw [if_neg (by decide +kernel)]
   refine ⟨_, _, s1 _ _ wo, rfl, a, ws, las, m, .back n, .ref a1, rfl, hW.same s1, rv.same s1, trivial, bd.co, bd.st, bd.ms, bd.ac, q.same s1⟩
  | again n b =>
   refine ⟨_, hs, _, rfl, ?_⟩
   walk_at "ro"
   walk_at "ws"
   refine ⟨_, _, _, wo, T.cl_Walk, T.n_Walk_levels, _, rfl, .inl ⟨_, SqL.of le⟩, _, hs, _, rfl, _, hs, _, rfl, va, d, n, e, rfl, hrp.1, hE, hin, fun k hk => ⟨vb, d, b, e, k, rfl, hrp.2, hE, fun x H1 f1 f2 s1 hx => ?_⟩, fun hn => err1 (AI.refl H) (by rw [bgn, hn])⟩
   rw [bgn, hk] at q
   refine ⟨_, s1 _ _ le, lel, ?_⟩
   exact fin (AI.refl H) f1 (.inr f2) s1 hx (fun _ => f2) q
  | ifs n b c =>
   refine ⟨_, hs, _, rfl, ?_⟩
   walk_at "ro"
   walk_at "ws"
   refine ⟨_, hs, _, rfl, va, d, n, e, rfl, hrp.1, hE, hin, fun k hk => ?_, fun hn => err1 (AI.refl H) (by rw [bgn, hn])⟩
   rw [bgn, hk] at q
   dsimp only at q ⊢
   by_cases ck : 0 < k
   ·rw [if_pos ck] at q ⊢
    refine ⟨_, hs, _, rfl, _, _, _, wo, T.cl_Walk, T.n_Walk_levels, _, rfl, .inl ⟨_, SqL.of le⟩, fun x dl hx hdl ndl => ⟨x, dl, d, vb, rfl, AB, fun H2 e2 => ⟨rfl, ?_⟩⟩⟩
    obtain ⟨s2, l2⟩ := LK (own := false) hx hdl ndl hrp.2.1 hE e2
    exact ⟨_, s2 _ _ le, lel, fin (AI.refl H) hx (.inl hd) s2 l2 (fun o => by cases o) q⟩
   ·rw [if_neg ck] at q ⊢
    refine ⟨_, hs, _, rfl, _, _, _, wo, T.cl_Walk, T.n_Walk_levels, _, rfl, .inl ⟨_, SqL.of le⟩, fun x dl hx hdl ndl => ⟨x, dl, d, vc, rfl, AB, fun H2 e2 => ⟨rfl, ?_⟩⟩⟩
    obtain ⟨s2, l2⟩ := LK (own := false) hx hdl ndl hrp.2.2 hE e2
    exact ⟨_, s2 _ _ le, lel, fin (AI.refl H) hx (.inl hd) s2 l2 (fun o => by cases o) q⟩
  | dow x as =>
   refine ⟨_, hs, _, rfl, ?_⟩
   walk_at "ro"
   walk_at "ws"
   obtain ⟨pa, xa, rfl, hpa, rla⟩ := CH.mp hrp
   obtain ⟨hin, hln, bx, hbx⟩ := hin
   have lxa : xa.length = as.length := by rw [rla.length, List.length_map]
   refine ⟨_, hs, _, rfl, ⟨_, hpa⟩, fun lp hlp => ?_⟩
   refine jO (xs := xa) (fF lp as e d H) ⟨[], _, rfl, AI.upd hlp, AB, rfl⟩ (fun i σ H2 _ z => by obtain ⟨_, _, rfl, s2, _⟩ := z; exact s2.tup hpa) ?_ ?_
   ·rintro i y σ H7 hy ⟨ns, o, rfl, s7, h7, l7⟩
    have hi : i < xa.length := (List.getElem?_eq_some_iff.mp hy).1
    obtain ⟨ai, hai, ry⟩ := lZ rla hy
    walk_at "rd"
    refine ⟨y, d, ai, e, rfl, ry.same s7, hE.same s7, hin _ (List.mem_of_getElem? hai), fun k hk => ?_, fun hn => err1 s7 (by rw [bgn, dZ hai l7 hn])⟩
    try dsimp only
    try rw [if_pos (by decide)]
    refine ⟨_, h7, EY (by rw [List.length_map, MD l7, List.length_take]; omega), nx hi ⟨ns ++ [k], _, rfl, s7.upd2 hlp, by rw [AB, List.map_append]; rfl, aE hai l7 hk⟩⟩
   ·rintro σ H7 ⟨ns, o, rfl, s7, h7, l7⟩
    rw [lxa, List.take_length] at l7
    rw [bgn, l7] at q
    dsimp only at q
    obtain ⟨kvs, bo, rbo⟩ := id (hW.same s7).bo
    obtain ⟨vB, eB, rB⟩ := (As.get KY (k := x) rbo).2 bx hbx
    have eN := T.k_NUMBERS H7
    rw [JV] at eN
    obtain ⟨pn, xn, en, hn, rn⟩ := CH.mp eN
    obtain ⟨y0, y1, y2, y3, rfl, r0, r1, r2, r3⟩ := mU rn
    cases BF r0; cases BF r1; cases BF r2; cases BF r3
    refine ⟨_, _, _, s7 _ _ wo, T.cl_Walk, T.n_Walk_levels, _, rfl, .inl ⟨_, SqL.of (s7 _ _ le)⟩, _, _, _, s7 _ _ wo, T.cl_Walk, T.n_Walk_bodies, _, rfl, _, s7.tup hs, _, rfl, ?_⟩
    dsimp only
    refine ⟨kvs, .inl bo, .inr x, rfl, vB, eB, ?_⟩
    rw [en]
    dsimp only
    refine ⟨NUM.map Sum.inr, hn, _, SqL.of h7, by decide +kernel, by decide, fun dn hdn y dl hy hdl ndl => ⟨y, dl, dn, vB, rfl, AB, fun H2 e2 => ⟨rfl, ?_⟩⟩⟩
    have s8 : AI H7 (upd H7 dn (.dK ((NUM.map Sum.inr).zip (ns.map V.int)))) := AI.upd hdn
    obtain ⟨s2, l2⟩ := LK (own := true) hy hdl ndl (rB.same s8) ⟨_, AB, aL NUM ns⟩ e2
    have s9 := s7.trans (s8.trans s2)
    rw [hbx] at q
    exact ⟨_, s9 _ _ le, lel, fin (AI.refl H) (frs s7 (frs' s8 hy)) (.inr (frs s7 hdn)) s9 l2 (fun _ => frs s7 hdn) q⟩
end
theorem BU.top {K : PySem.W.Frag} {t : Adr} {H H' : Hp} {a : Wa} {ws : Tb} {las : List La} {m : Ms} {x : La} {v v' : Lv} {r : List Lv} {l : List Addr} (h : BU K t H a ws (x :: las) { m with lv := v :: r }) (b : But l H H') (st : AU H H') (hx : AY K t.c_Level H' x v') (eo : v'.own = v.own) (hl : ∀ c ∈ l, c = x.p ∨ (c = x.d ∧ v.own = true)) : BU K t H' a ws (x :: las) { m with lv := v' :: r } := by
 obtain ⟨⟨dx, wo⟩, ⟨kvs, bo, rbo⟩, le, lv, hA, ⟨vs, ac, rac⟩, ap, lp, nd, od⟩ := h
 obtain ⟨⟨dh, vp, hp, rp⟩, ⟨vs1, hs, rs⟩, ⟨vs2, hc, rc⟩, ⟨km, hm, rm⟩, ne⟩ := id hA
 have lv0 : Paired (AY K t.c_Level H) (x :: las) (v :: r) := lv
 cases lv0 with
 | cons h0 ht =>
  obtain ⟨⟨dl, vb, hxp, rb⟩, ⟨kx, hxd, rk⟩⟩ := id h0
  obtain ⟨p1, p2, p3, p4⟩ := lp x List.mem_cons_self
  have off : ∀ c, c ≠ x.p → (c ≠ x.d ∨ v.own ≠ true) → c ∉ l := fun c n1 n2 m => by
   rcases hl c m with e | ⟨e, o⟩
   ·exact n1 e
   ·exact n2.elim (· e) (· o)
  have nx : x.p ∉ las.map (·.p) := (List.nodup_cons.mp nd).1
  refine ⟨⟨dx, b _ _ wo (off _ p1.symm (.inl (BL wo hxd (by intro z; cases z))))⟩, ⟨kvs, b _ _ bo (off _ (BL bo hxp (by intro z; cases z)) (.inl p3.symm)), rbo.mono fun b v r => Rp.t st r⟩, b _ _ le (off _ (BL le hxp (by intro z; cases z)) (.inl (BL le hxd (by intro z; cases z)))), .cons hx (LF ht fun y u hy ru => ?_), hA.off b st ?_, ⟨vs, b _ _ ac (off _ (BL ac hxp (by intro z; cases z)) (.inl (BL ac hxd (by intro z; cases z)))), rac.t st⟩, ap, lp, nd, ⟨by rw [eo]; exact od.1, od.2⟩⟩
  ·obtain ⟨⟨dy, vy, hyp, _⟩, ⟨ky, hyd, _⟩⟩ := id ru
   refine ru.off b st (off _ (fun e => nx (by rw [← e]; exact List.mem_map_of_mem hy)) (.inl (BL hyp hxd (by intro z; cases z)))) (off _ (BL hyd hxp (by intro z; cases z)) ?_)
   by_cases o : v.own = true
   ·exact .inl (od.1 o y hy)
   ·exact .inr o
  ·intro c hc'
   simp only [List.mem_cons, List.not_mem_nil, or_false] at hc'
   rcases hc' with rfl | rfl | rfl | rfl
   ·exact off _ p2.symm (.inl (BL hp hxd (by intro z; cases z)))
   ·exact off _ (BL hs hxp (by intro z; cases z)) (.inl (BL hs hxd (by intro z; cases z)))
   ·exact off _ (BL hc hxp (by intro z; cases z)) (.inl (BL hc hxd (by intro z; cases z)))
   ·exact off _ (BL hm hxp (by intro z; cases z)) (.inl p4.symm)
def dd (ws : Tb) (m : Ms) : Except Bool Ms := match m.lv with
 | [] => .ok m
 | v :: r => match v.body[v.i]? with
  | none => .ok { m with lv := v.round :: r }
  | some s => bgn ws { m with lv := { v with i := v.i + 1 } :: r } v.en s
structure cD (ws : Tb) (v : Lv) : Prop where
 en : v.en.length ≤ 5000
 i : v.i ≤ v.body.length
 ow : v.i = v.body.length → v.own = true
 st : ∀ s, v.body[v.i]? = some s → bB ws v.en s
section
variable {P : Program} {w : World} {K : PySem.W.Frag} {mg : Str → Option Value} {base : Heap} {t : Adr}
theorem BU.all {H : Hp} {a : Wa} {ws : Tb} {las : List La} {m : Ms} (h : BU K t H a ws las m) : ∀ c ∈ a.l las, H c ≠ none := by
 obtain ⟨_, _, le, lv, ⟨⟨dx, vp, hp, _⟩, ⟨vs1, hs, _⟩, ⟨vs2, hc, _⟩, ⟨kvs, hm, _⟩, _⟩, ⟨vs, ac, _⟩, _⟩ := h
 intro c hc'
 simp only [Wa.l, Ha.l, List.mem_append, List.mem_cons, List.not_mem_nil, or_false, List.mem_map] at hc'
 rcases hc' with ((((rfl | rfl) | (rfl | rfl | rfl | rfl)) | ⟨x, hx, rfl⟩) | ⟨x, hx, rfl⟩)
 ·rw [le]; simp
 ·rw [ac]; simp
 ·rw [hp]; simp
 ·rw [hs]; simp
 ·rw [hc]; simp
 ·rw [hm]; simp
 ·obtain ⟨v, _, ⟨⟨dx, vb, h1, _⟩, _⟩⟩ := JP lv x hx
  rw [h1]; simp
 ·obtain ⟨v, _, ⟨_, ⟨kvs, h1, _⟩⟩⟩ := JP lv x hx
  rw [h1]; simp
theorem IJ.but {H H1 : Hp} {a : Wa} {ws : Tb} {las : List La} {m1 : Ms} {Q : VK} {E : XK} {r : Except Bool Ms} (h : IJ K t a ws las H Q E r) (s : But (a.l las) H H1) (hW : BU K t H1 a ws las m1) : IJ K t a ws las H1 Q E r := by
 have fr : ∀ {c}, H1 c = none → H c = none := fun {c} e => by
  cases h : H c with
  | none => rfl
  | some o => rw [s _ _ h (fun hc => hW.all c hc e)] at e; cases e
 cases r with
 | ok m => exact fun las' H' b n w => h las' H' (s.trans b) (fun x hx => ⟨(n x hx).1.imp_right fr, (n x hx).2.imp_right fr⟩) w
 | error b => exact fun H' b => h H' (s.trans b)
def cZ (K : PySem.W.Frag) (t : Adr) : Sp := fun vs H Q E => ∃ (a : Wa) (ws : Tb) (las : List La) (m : Ms) (v : Lv) (r : List Lv), vs = [.ref a.pw] ∧ BU K t H a ws las m ∧ m.lv = v :: r ∧ cD ws v ∧ Bnd m ∧ IJ K t a ws las H Q E (dd ws m)
theorem LW (T : Txt K mg t) : BJ P w K mg base (CXr P w) 7 t.a_Walk_dodeed t.d_Walk_dodeed ["self"] (cZ K t) := by
 refine T.Walk_dodeed.F.okR GW (fun vs H Q E h => ?_) (fun cdv A outer s H vs Q E hr h => ?_)
 ·obtain ⟨a, ws, las, m, v, r, rfl, _⟩ := h; rfl
 ·obtain ⟨a, ws, las0, m, v, r, rfl, hW, em, hin, bd, q⟩ := h
  have hm : m = { m with lv := v :: r } := by rw [← em]
  rw [hm] at hW
  have lv0 : Paired (AY K t.c_Level H) las0 (v :: r) := hW.lv
  obtain ⟨x, las, rfl, hx⟩ : ∃ x las, las0 = x :: las ∧ AY K t.c_Level H x v := by cases lv0 with | cons h0 _ => exact ⟨_, _, rfl, h0⟩
  obtain ⟨⟨dl, vb, hxp, rb⟩, hen⟩ := id hx
  obtain ⟨dx, wo⟩ := id hW.wo
  have le : H a.ll = some (.lst ((las.map fun x => V.ref x.p).reverse ++ [.ref x.p])) := by rw [hW.le]; simp
  have old : ∀ y ∈ x :: las, (y.p ∈ (x :: las).map (·.p) ∨ H y.p = none) ∧ (y.d ∈ (x :: las).map (·.d) ∨ H y.d = none) := fun x hx => ⟨.inl (List.mem_map_of_mem hx), .inl (List.mem_map_of_mem hx)⟩
  have inp : x.p ∈ a.l (x :: las) := by simp [Wa.l]
  have ind : x.d ∈ a.l (x :: las) := by simp [Wa.l]
  refine ⟨_, s!"1{GW.nd}{Or.inl rfl}{DP}0AJDnOI1A{T.cl_Level}{T.Level_isatend.mt}{BJ.upR (GC T)}{hr.mono (by decide)}{T.Level_isatend.b}{DF}ih1A{T.cl_Level}{T.Level_beginround.mt}{BJ.upR (IE T)}{hr.mono (by decide)}{T.Level_beginround.b}{DF}iZE0A{T.cl_Walk}{T.Walk_begin.mt}{NF T}{hr.mono (by decide)}{T.Walk_begin.b}{DF}1A{T.cl_Level}{T.Level_nextstatement.mt}{BJ.upR (GJ T)}{hr.mono (by decide)}{T.Level_nextstatement.b}{DF}i1AJCBBgZEPEF", ?_⟩
  walk_at "ro"
  refine ⟨_, _, _, wo, T.cl_Walk, T.n_Walk_levels, _, rfl, _, SqL.of le, .ref x.p, TC _ _, ?_⟩
  walk_at "ro"
  refine ⟨_, _, hxp, rfl, x, v, rfl, hx, ?_⟩
  dsimp only
  unfold dd at q
  rw [em] at q
  dsimp only at q
  by_cases c : v.i = v.body.length
  ·rw [if_pos (decide_eq_true c)]
   rw [show v.body[v.i]? = none from List.getElem?_eq_none (by omega)] at q
   refine ⟨_, _, hxp, rfl, x, v, rfl, hx, hin.en, fun H1 b1 t1 h1 => ?_⟩
   refine q (x :: las) H1 (b1.mono ?_) old (hW.top b1 t1 h1 rfl ?_)
   ·intro c hc
    simp only [List.mem_cons, List.not_mem_nil, or_false] at hc
    rcases hc with rfl | rfl
    ·exact inp
    ·exact ind
   ·intro c' hc
    simp only [List.mem_cons, List.not_mem_nil, or_false] at hc
    rcases hc with rfl | rfl
    ·exact .inl rfl
    ·exact .inr ⟨rfl, hin.ow c⟩
  ·rw [if_neg (by rw [decide_eq_true_iff]; exact c)]
   have hi := hin.i
   obtain ⟨s1, hs1⟩ : ∃ s1, v.body[v.i]? = some s1 := ⟨_, List.getElem?_eq_getElem (by omega)⟩
   rw [hs1] at q
   refine ⟨_, _, wo, rfl, _, _, hxp, rfl, x, v, s1, rfl, hx, hs1, fun u H1 b1 t1 h1 ru => ?_⟩
   have b1' : But (a.l (x :: las)) H H1 := b1.mono (by
    intro c hc
    rw [List.mem_singleton] at hc
    subst hc
    exact inp)
   have hW1 : BU K t H1 a ws (x :: las) { m with lv := { v with i := v.i + 1 } :: r } := hW.top b1 t1 h1 rfl (by
    intro c' hc
    rw [List.mem_singleton] at hc
    exact .inl hc)
   obtain ⟨⟨dl1, vb1, hxp1, _⟩, hen1⟩ := id h1
   refine ⟨_, _, _, hxp1, T.cl_Level, T.n_Level_sources, _, rfl, a, ws, x :: las, _, s1, u, x.d, v.en, rfl, hW1, ru, hen1, by simp, hin.st _ hs1, ⟨bd.co, bd.st, bd.ms, bd.ac, ?_⟩, q.but b1' hW1⟩
   have := bd.lv
   rw [em] at this
   exact this
end
def JQ (D : Str → Prop) : Am → Prop
 | .int _ => True
 | .src f s _ => (-1000000 ≤ f ∧ f ≤ 1000000) ∧ D s
mutual
def Stm.Ok (ar : Str → Option Nat) (D : Str → Prop) : Stm → Prop
 | .go a => JQ D a
 | .turn a => JQ D a
 | .ink a => JQ D a
 | .up => True
 | .down => True
 | .mark _ => True
 | .back _ => True
 | .again a b => JQ D a ∧ Stm.Oks ar (fun x => D x ∨ x = "count") b
 | .ifs a b c => JQ D a ∧ Stm.Oks ar D b ∧ Stm.Oks ar D c
 | .dow w as => (∀ a ∈ as, JQ D a) ∧ as.length ≤ 4 ∧ ar w = some as.length
def Stm.Oks (ar : Str → Option Nat) (D : Str → Prop) : List Stm → Prop
 | [] => True
 | s :: r => s.Ok ar D ∧ Stm.Oks ar D r
end
theorem JQ.mono {D D' : Str → Prop} (h : ∀ x, D x → D' x) : ∀ {a : Am}, JQ D a → JQ D' a
 | .int _, _ => trivial
 | .src _ _ _, r => ⟨r.1, h _ r.2⟩
mutual
theorem Stm.Ok.mono {ar : Str → Option Nat} {D D' : Str → Prop} (h : ∀ x, D x → D' x) : ∀ {s : Stm}, s.Ok ar D → s.Ok ar D'
 | .go a, r => by rw [Stm.Ok] at r ⊢; exact r.mono h
 | .turn a, r => by rw [Stm.Ok] at r ⊢; exact r.mono h
 | .ink a, r => by rw [Stm.Ok] at r ⊢; exact r.mono h
 | .up, _ => by rw [Stm.Ok]; trivial
 | .down, _ => by rw [Stm.Ok]; trivial
 | .mark _, _ => by rw [Stm.Ok]; trivial
 | .back _, _ => by rw [Stm.Ok]; trivial
 | .again a b, r => by
  rw [Stm.Ok] at r ⊢
  exact ⟨r.1.mono h, Stm.Oks.mono (fun x => Or.imp_left (h x)) r.2⟩
 | .ifs a b c, r => by
  rw [Stm.Ok] at r ⊢
  exact ⟨r.1.mono h, Stm.Oks.mono h r.2.1, Stm.Oks.mono h r.2.2⟩
 | .dow w as, r => by
  rw [Stm.Ok] at r ⊢
  exact ⟨fun a ha => (r.1 a ha).mono h, r.2⟩
theorem Stm.Oks.mono {ar : Str → Option Nat} {D D' : Str → Prop} (h : ∀ x, D x → D' x) : ∀ {b : List Stm}, Stm.Oks ar D b → Stm.Oks ar D' b
 | [], _ => by rw [Stm.Oks]; trivial
 | s :: b, r => by
  rw [Stm.Oks] at r ⊢
  exact ⟨Stm.Ok.mono h r.1, Stm.Oks.mono h r.2⟩
end
theorem Oks.get {ar : Str → Option Nat} {D : Str → Prop} : ∀ {b : List Stm} {i : Nat} {s : Stm}, Stm.Oks ar D b → b[i]? = some s → s.Ok ar D
 | [], _, _, _, h => by simp at h
 | x :: b, 0, s, r, h => by rw [Stm.Oks] at r; cases h; exact r.1
 | x :: b, i + 1, s, r, h => by rw [Stm.Oks] at r; exact Oks.get r.2 h
def dom (e : En) (x : Str) : Prop := ∃ i, lkA e x = some i
def cU (ws : Tb) (ar : Str → Option Nat) : Prop := ∀ x n, ar x = some n → ∃ b, lkA ws x = some b ∧ Stm.Oks ar (· ∈ NUM.take n) b
structure eQ (ar : Str → Option Nat) (v : Lv) : Prop where
 i : v.i ≤ v.body.length
 ow : v.own = false → v.rd ≤ v.bg
 b1 : v.i < v.body.length → Stm.Oks ar (dom v.en) v.body
 b2 : v.bg < v.rd → Stm.Oks ar (fun x => dom v.en x ∨ x = "count") v.body
theorem JQ.in {e : En} : ∀ {a : Am}, JQ (dom e) a → RF e a
 | .int _, _ => trivial
 | .src _ _ _, r => ⟨r.1, r.2⟩
theorem Ok.in {ws : Tb} {ar : Str → Option Nat} (ht : cU ws ar) {e : En} {s : Stm} (h : s.Ok ar (dom e)) : bB ws e s := by
 cases s with
 | go a => rw [Stm.Ok] at h; exact h.in
 | turn a => rw [Stm.Ok] at h; exact h.in
 | ink a => rw [Stm.Ok] at h; exact h.in
 | again a b => rw [Stm.Ok] at h; exact h.1.in
 | ifs a b c => rw [Stm.Ok] at h; exact h.1.in
 | dow x as =>
  rw [Stm.Ok] at h
  obtain ⟨b, hb, _⟩ := ht _ _ h.2.2
  exact ⟨fun a ha => (h.1 a ha).in, by omega, b, hb⟩
 | _ => trivial
theorem eQ.deed {ws : Tb} {ar : Str → Option Nat} (ht : cU ws ar) {v : Lv} (h : eQ ar v) (nt : v.thr = false) (hen : v.en.length ≤ 5000) : cD ws v := by
 refine ⟨hen, h.i, fun c => ?_, fun s hs => Ok.in ht (Oks.get (h.b1 (List.getElem?_eq_some_iff.mp hs).1) hs)⟩
 rw [Lv.thr, decide_eq_true c, Bool.true_and, decide_eq_false_iff_not] at nt
 cases e : v.own with
 | true => rfl
 | false => exact absurd (h.ow e) nt
section
variable {κ α : Type} [DecidableEq κ]
theorem EX (k : κ) (v : α) (l : List (κ × α)) (x : κ) : lkA ((k, v) :: l) x = if k = x then some v else lkA l x := by
 unfold lkA
 rw [List.find?_cons]
 by_cases c : k = x
 ·simp [c]
 ·simp [c]
theorem QC (k : κ) (i : α) (x : κ) : ∀ l : List (κ × α), lkA (l.map fun z => if z.1 = k then (z.1, i) else z) x = if x = k then (lkA l x).map fun _ => i else lkA l x
 | [] => by simp [lkA]
 | (k', v) :: l => by
  rw [List.map_cons, EX]
  dsimp only
  by_cases c : k' = k
  ·rw [if_pos c, EX, QC k i x l]
   by_cases d : k' = x
   ·subst d; simp [c]
   ·rw [if_neg d, if_neg d]
  ·rw [if_neg c, EX, QC k i x l]
   by_cases d : k' = x
   ·subst d; simp [c]
   ·rw [if_neg d, if_neg d]
theorem VO (k : κ) (i : α) (x : κ) : ∀ l : List (κ × α), lkA (l ++ [(k, i)]) x = match lkA l x with | some z => some z | none => if k = x then some i else none
 | [] => by rw [List.nil_append, EX]; simp [lkA]
 | (k', v) :: l => by
  rw [List.cons_append, EX, EX, VO k i x l]
  by_cases d : k' = x
  ·simp [d]
  ·simp [d]
theorem WK (k : κ) : ∀ l : List (κ × α), (l.any fun z => decide (z.1 = k)) = (lkA l k).isSome
 | [] => rfl
 | (k', v) :: l => by
  rw [List.any_cons, EX, WK k l]
  by_cases d : k' = k
  ·simp [d]
  ·simp [d]
theorem JL (e : List (κ × α)) (k x : κ) (i : α) : lkA (ptA e k i) x = if x = k then some i else lkA e x := by
 unfold ptA
 rw [WK]
 cases h : lkA e k with
 | none =>
  rw [if_neg (by simp), VO]
  by_cases c : x = k
  ·subst c; rw [h]
  ·rw [if_neg c, if_neg (fun z => c z.symm)]
   cases lkA e x with
   | none => rfl
   | some z => rfl
 | some z =>
  rw [if_pos (by simp), QC]
  by_cases c : x = k
  ·subst c; rw [h, if_pos rfl, if_pos rfl]; rfl
  ·rw [if_neg c, if_neg c]
end
theorem eG {e : En} {x k : Str} {i : Int} (h : dom e x ∨ x = k) : dom (ptA e k i) x := by
 unfold dom
 rw [JL]
 by_cases c : x = k
 ·exact ⟨i, if_pos c⟩
 ·obtain ⟨z, hz⟩ := h.resolve_right c
  exact ⟨z, by rw [if_neg c]; exact hz⟩
theorem VU : ∀ (ks : List Str) (ns : List Int) (x : Str), x ∈ ks.take ns.length → dom (ks.zip ns) x
 | [], ns, x, h => by simp at h
 | k :: ks, [], x, h => by simp at h
 | k :: ks, n :: ns, x, h => by
  unfold dom
  rw [List.zip_cons_cons, EX]
  by_cases c : k = x
  ·exact ⟨n, if_pos c⟩
  ·rw [if_neg c]
   rw [List.length_cons, List.take_succ_cons, List.mem_cons] at h
   exact VU ks ns x (h.resolve_left fun z => c z.symm)
structure ID (ar : Str → Option Nat) (j : Nat) (m : Ms) : Prop where
 co : m.hd.co.length ≤ j + 1
 st : m.hd.st.length ≤ j
 ms : m.hd.ms.length ≤ j
 ac : m.ac.length ≤ j
 nl : m.lv.length ≤ j + 1
 lv : ∀ v ∈ m.lv, eQ ar v ∧ v.en.length ≤ j + 4
theorem ID.mono {ar : Str → Option Nat} {j : Nat} {m : Ms} (h : ID ar j m) : ID ar (j + 1) m := by
 obtain ⟨a, b, c, d, e, f⟩ := h
 exact ⟨by omega, by omega, by omega, by omega, by omega, fun v hv => ⟨(f v hv).1, by have := (f v hv).2; omega⟩⟩
theorem lF {x y : Hd} {s : Ac} (h : stp x s = some y) : y.co.length ≤ x.co.length + 1 ∧ y.st.length ≤ x.st.length + 1 ∧ y.ms.length ≤ x.ms.length + 1 := by
 cases s with
 | go n =>
  cases h
  simp only [List.length_append, List.length_cons, List.length_nil]
  refine ⟨by omega, ?_, by omega⟩
  split
  ·simp
  ·omega
 | mark n =>
  cases h
  have := QO x.ms n (x.p, x.h)
  exact ⟨by simp, by simp, this⟩
 | back n =>
  rw [stp] at h
  cases e : lkA x.ms n with
  | none => rw [e] at h; cases h
  | some z => rw [e] at h; cases h; simp
 | turn n => cases h; simp
 | ink n => cases h; simp
 | up => cases h; simp
 | down => cases h; simp
theorem GI {ar : Str → Option Nat} {j : Nat} {m m' : Ms} {s : Ac} (h : ID ar j m) (e : IF m s = .ok m') : ID ar (j + 1) m' := by
 unfold IF at e
 cases es : stp m.hd s with
 | none => rw [es] at e; cases e
 | some y =>
  rw [es] at e; cases e
  obtain ⟨a, b, c⟩ := lF es
  obtain ⟨a1, b1, c1, d1, e1, f1⟩ := h
  exact ⟨by dsimp only; omega, by dsimp only; omega, by dsimp only; omega, by simp only [List.length_append, List.length_cons, List.length_nil]; omega, by dsimp only; omega, fun v hv => ⟨(f1 v hv).1, by have := (f1 v hv).2; omega⟩⟩
theorem QD {ar : Str → Option Nat} {j : Nat} {m : Ms} {v : Lv} (h : ID ar j m) (hv : eQ ar v) (hn : v.en.length ≤ j + 5) : ID ar (j + 1) { m with lv := v :: m.lv } := by
 obtain ⟨a1, b1, c1, d1, e1, f1⟩ := h.mono
 obtain ⟨_, _, _, _, e2, _⟩ := h
 refine ⟨a1, b1, c1, d1, by simp only [List.length_cons]; omega, fun u hu => ?_⟩
 rcases List.mem_cons.mp hu with rfl | hu
 ·exact ⟨hv, by omega⟩
 ·exact f1 u hu
theorem jH {ws : Tb} {ar : Str → Option Nat} (ht : cU ws ar) {j : Nat} {m m' : Ms} {e : En} {s : Stm} (h : ID ar j m) (hs : s.Ok ar (dom e)) (he : e.length ≤ j + 4) (eq : bgn ws m e s = .ok m') : ID ar (j + 1) m' := by
 cases s with
 | go a =>
  rw [bgn] at eq; split at eq <;> first | exact GI h eq | cases eq
 | turn a =>
  rw [bgn] at eq; split at eq <;> first | exact GI h eq | cases eq
 | ink a =>
  rw [bgn] at eq; split at eq <;> first | exact GI h eq | cases eq
 | up => rw [bgn] at eq; exact GI h eq
 | down => rw [bgn] at eq; exact GI h eq
 | mark n => rw [bgn] at eq; exact GI h eq
 | back n => rw [bgn] at eq; exact GI h eq
 | again a b =>
  rw [Stm.Ok] at hs
  rw [bgn] at eq
  split at eq
  ·cases eq
  ·cases eq
   exact QD h ⟨Nat.le_refl _, (fun z => by cases z), fun z => absurd z (Nat.lt_irrefl _), fun _ => hs.2⟩ (by dsimp only; omega)
 | ifs a b c =>
  rw [Stm.Ok] at hs
  rw [bgn] at eq
  split at eq
  ·cases eq
  ·next n _ =>
   cases eq
   refine QD h ⟨Nat.zero_le _, fun _ => Int.le_refl _, fun _ => ?_, fun z => absurd z (Int.lt_irrefl _)⟩ (by dsimp only; omega)
   dsimp only
   split
   ·exact hs.2.1
   ·exact hs.2.2
 | dow x as =>
  rw [Stm.Ok] at hs
  rw [bgn] at eq
  split at eq
  ·cases eq
  ·next ns hns =>
   cases eq
   obtain ⟨b, hb, hob⟩ := ht _ _ hs.2.2
   have ln := MD hns
   refine QD h ⟨Nat.zero_le _, (fun _ => Int.le_refl _), fun _ => ?_, fun z => absurd z (Int.lt_irrefl _)⟩ ?_
   ·dsimp only
    rw [hb]
    exact Stm.Oks.mono (fun x hx => VU _ _ _ (by rw [ln]; exact hx)) hob
   ·have l2 : (NUM.zip ns).length ≤ 4 := by rw [List.length_zip]; exact Nat.min_le_left _ _
    dsimp only
    omega
theorem nF {ws : Tb} {ar : Str → Option Nat} (ht : cU ws ar) {j : Nat} {m m' : Ms} {v : Lv} {r : List Lv} (h : ID ar j m) (em : m.lv = v :: r) (nt : v.thr = false) (eq : dd ws m = .ok m') : ID ar (j + 1) m' := by
 obtain ⟨a1, b1, c1, d1, e1, f1⟩ := id h
 rw [em] at f1
 obtain ⟨hv, hn⟩ := f1 v List.mem_cons_self
 have hvi := hv.i
 unfold dd at eq
 rw [em] at eq
 dsimp only at eq
 have nl : (v :: r).length ≤ j + 1 := by rw [← em]; exact e1
 cases hs : v.body[v.i]? with
 | none =>
  rw [hs] at eq
  cases eq
  have hi : v.i = v.body.length := by have := List.getElem?_eq_none_iff.mp hs; omega
  have hb : v.bg < v.rd := by
   rw [Lv.thr, decide_eq_true hi, Bool.true_and, decide_eq_false_iff_not] at nt
   omega
  refine ⟨by dsimp only; omega, by dsimp only; omega, by dsimp only; omega, by dsimp only; omega, by simp only [List.length_cons] at nl ⊢; omega, fun u hu => ?_⟩
  rcases List.mem_cons.mp hu with rfl | hu
  ·have l1 := QO v.en "count" v.bg
   refine ⟨⟨Nat.zero_le _, fun o => ?_, fun _ => ?_, fun _ => ?_⟩, by simp only [Lv.round]; omega⟩
   ·have o' : v.own = false := o
    exact absurd (hv.ow o') (by omega)
   ·exact Stm.Oks.mono (fun x hx => eG hx) (hv.b2 hb)
   ·exact Stm.Oks.mono (fun x hx => .inl (eG hx)) (hv.b2 hb)
  ·have := f1 u (List.mem_cons_of_mem _ hu)
   exact ⟨this.1, by omega⟩
 | some s =>
  rw [hs] at eq
  have hi : v.i < v.body.length := (List.getElem?_eq_some_iff.mp hs).1
  have hm : ID ar j { m with lv := { v with i := v.i + 1 } :: r } := by
   refine ⟨a1, b1, c1, d1, by simp only [List.length_cons] at nl ⊢; omega, fun u hu => ?_⟩
   rcases List.mem_cons.mp hu with rfl | hu
   ·exact ⟨⟨hi, hv.ow, fun _ => hv.b1 hi, hv.b2⟩, hn⟩
   ·exact f1 u (List.mem_cons_of_mem _ hu)
  exact jH ht hm (Oks.get (hv.b1 hi) hs) hn eq
theorem jJ {ar : Str → Option Nat} {j : Nat} {m : Ms} (h : ID ar j m) : ID ar j (cln m) := by
 obtain ⟨a1, b1, c1, d1, e1, f1⟩ := h
 have sf : List.Sublist (m.lv.dropWhile Lv.thr) m.lv := List.dropWhile_sublist _
 exact ⟨a1, b1, c1, d1, Nat.le_trans sf.length_le e1, fun v hv => f1 v (sf.subset hv)⟩
theorem WS {m : Ms} {v : Lv} {r : List Lv} (h : (cln m).lv = v :: r) : v.thr = false := by
 have h : m.lv.dropWhile Lv.thr = v :: r := h
 have := List.head?_dropWhile_not Lv.thr m.lv
 rw [h] at this
 simpa using this
def wk (ws : Tb) : Nat → Ms → Except Bool Ms
 | 0, m => .ok m
 | n + 1, m => match (cln m).lv with
  | [] => .ok (cln m)
  | _ :: _ => match dd ws (cln m) with
   | .error b => .error b
   | .ok m' => wk ws n m'
theorem HF {l : List Addr} {H G G' : Hp} (s : AI H G) (b : But l G G') (h : ∀ c ∈ l, H c = none) : AI H G' := fun c o e => b c o (s c o e) fun m => by rw [h c m] at e; cases e
structure WG (H : Hp) (a : Wa) : Prop where
 (pw : H a.pw = none) (db : H a.db = none) (ll : H a.ll = none) (la : H a.la = none) (ph : H a.ha.p = none) (ls : H a.ha.ls = none) (lc : H a.ha.lc = none) (lm : H a.ha.lm = none)
def VB (H : Hp) (las : List La) : Prop := ∀ x ∈ las, H x.p = none ∧ H x.d = none
theorem WG.all {H : Hp} {a : Wa} {las : List La} (F : WG H a) (L : VB H las) : ∀ c ∈ a.l las, H c = none := by
 intro c hc
 simp only [Wa.l, Ha.l, List.mem_append, List.mem_cons, List.not_mem_nil, or_false, List.mem_map] at hc
 rcases hc with ((((rfl | rfl) | (rfl | rfl | rfl | rfl)) | ⟨x, hx, rfl⟩) | ⟨x, hx, rfl⟩)
 ·exact F.ll
 ·exact F.la
 ·exact F.ph
 ·exact F.ls
 ·exact F.lc
 ·exact F.lm
 ·exact (L x hx).1
 ·exact (L x hx).2
def ms0 (body : List Stm) : Ms := ⟨[⟨body, [], 0, 0, 0, true⟩], hd0, []⟩
def POk (ws : List Wd) (body : List Stm) : Prop := ws.length ≤ 1000 ∧ ∃ ar, cU (CU ws) ar ∧ Stm.Oks ar (fun _ => False) body
theorem kX {ar : Str → Option Nat} {body : List Stm} (h : Stm.Oks ar (fun _ => False) body) : ID ar 0 (ms0 body) := by
 refine ⟨Nat.le_refl _, Nat.zero_le _, Nat.zero_le _, Nat.zero_le _, Nat.le_refl _, fun v hv => ?_⟩
 rw [ms0] at hv
 simp only [List.mem_singleton] at hv
 subst hv
 exact ⟨⟨Nat.zero_le _, (fun z => by cases z), fun _ => Stm.Oks.mono (fun x hx => hx.elim) h, fun z => absurd z (Int.lt_irrefl _)⟩, by simp⟩
def lX (K : PySem.W.Frag) (t : Adr) (ws : Tb) (H : Hp) (Q : VK) (E : XK) : Except Bool Ms → Prop
 | .ok m => ∀ (a : Wa) (las : List La) (H' : Hp), AI H H' → WG H a → BU K t H' a ws las m → Q (.ref a.pw) H'
 | .error b => ∀ H', AI H H' → E (.ref (if b then t.c_NoMark else t.c_TooGreat)) none H'
def iT (K : PySem.W.Frag) (t : Adr) (a : Wa) (ws : Tb) (ar : Str → Option Nat) (v : V) (n : Nat) (R : Except Bool Ms) (H : Hp) (σ : L2.St) (H2 : Hp) : Prop :=
 ∃ (j : Nat) (las : List La) (m : Ms), σ = [some v, some (.int n), some (.ref a.pw), some (.int j)] ∧ AI H H2 ∧ VB H las ∧ BU K t H2 a ws las m ∧ j ≤ n ∧ ID ar j m ∧ wk ws (n - j) m = R
def iV (m : Nat) (σ : L2.St) (_ : Hp) : Nat := match σ with | [_, _, _, some (.int d)] => ((m : Int) - d).toNat | _ => 0
section
variable {P : Program} {w : World} {K : PySem.W.Frag} {mg : Str → Option Value} {base : Heap} {t : Adr}
def XQ (K : PySem.W.Frag) (t : Adr) : Sp := fun vs H Q E => ∃ (v : V) (n : Nat) (ws : List Wd) (body : List Stm), vs = [v, .int n] ∧ Rp K H (pD ws body) v ∧ n ≤ 4500 ∧ POk ws body ∧ lX K t (CU ws) H Q E (wk (CU ws) n (ms0 body))
theorem ZC (T : Txt K mg t) : BJ P w K mg base (CXr P w) 8 t.a_walked t.d_walked ["program", "most"] (XQ K t) := by
 refine T.walked.F.okR HM (fun vs H Q E h => ?_) (fun cdv A outer s H vs Q E hr h => ?_)
 ·obtain ⟨v, n, ws, body, rfl, _⟩ := h; rfl
 ·obtain ⟨v, n, ws, body, rfl, rv, hn, ⟨hwl, ar, ht, hok⟩, q⟩ := h
  refine ⟨_, s!"2{HM.nd}{Or.inl rfl}{T.Walk_init.mki}{BJ.upR (PR T)}{hr.mono (by decide)}{T.mg_Walk}{T.Walk_init.b}{DF}0ACBoI3{HM.nd}{Or.inl rfl}DI{@RZ _ _ _ _ _ _ PassesOwn.leaving (@PW.pt _ _ _ s!"{TF}3A1A{BE _}Q2A{T.cl_Walk}{T.Walk_isdone.mt}{BJ.upR (GY T)}{hr.mono (by decide)}{T.Walk_isdone.b}{DF}ihtzy") s!"2A{T.cl_Walk}{T.Walk_dodeed.mt}{LW T}{hr.mono (by decide)}{T.Walk_dodeed.b}{DF}iZ{@jW _ _ (3) _ _ _ _ _ _ HM.nd rfl (Or.inl rfl) s!"D" lD (by first | exact .inl rfl | exact .inr rfl | assumption)}EF"}2ALEFFF", ?_⟩
  walk_at "ro"
  intro pw dx hpw hdx nx
  have s0 : AI H (upd (upd H dx (.own pw)) pw (.ins t.c_Walk dx [])) := fun b o e => by rw [AH (AK e hpw), AH (AK e hdx)]; exact e
  refine ⟨pw, dx, v, ws, body, rfl, AB, rv.same s0, hwl, fun a x H1 ea f1 f2 f3 f4 f5 f6 f7 f8 f9 b1 hW => ?_⟩
  have fr : ∀ {b}, (upd (upd H dx (.own pw)) pw (.ins t.c_Walk dx [])) b = none → H b = none := fun {b} e => (un (un e).2).2
  have s1 : AI H H1 := HF s0 b1 (by intro c hc; rw [List.mem_singleton] at hc; subst hc; exact hpw)
  have F : WG H a := ⟨by rw [ea]; exact hpw, fr f1, fr f2, fr f4, fr f3, fr f7, fr f8, fr f9⟩
  subst ea
  refine ⟨rfl, ?_⟩
  walk_at "ro"
  refine VP (iT K t a (CU ws) ar v n (wk (CU ws) n (ms0 body)) H) (iV n) ⟨0, [x], ms0 body, rfl, s1, (fun y hy => by rw [List.mem_singleton] at hy; subst hy; exact ⟨fr f5, fr f6⟩), hW, Nat.zero_le _, kX hok, rfl⟩ ?_
  rintro σ H2 ⟨j, las, m, rfl, s2, L2, hW2, hj, hm, hR⟩
  rw [← hR] at q
  walk_at "ro"
  obtain ⟨dw, wo⟩ := id hW2.wo
  by_cases hlt : (j : Int) < n
  ·rw [if_pos hlt]
   obtain ⟨k, hk⟩ : ∃ k, n - j = k + 1 := ⟨n - j - 1, by omega⟩
   rw [hk, wk] at q
   rw [hk, wk] at hR
   refine ⟨_, _, wo, rfl, a, _, las, m, rfl, hW2, fun las3 H3 b3 t3 sub hW3 => ?_⟩
   have s3 : AI H H3 := HF s2 b3 (by intro c hc; rw [List.mem_singleton] at hc; subst hc; exact F.ll)
   have L3 : VB H las3 := fun y hy => L2 y (sub y hy)
   have hm3 := jJ hm
   dsimp only
   cases e3 : (cln m).lv with
   | nil =>
    rw [e3] at q
    rw [if_neg (by simp)]
    exact q a las3 H3 s3 F hW3
   | cons u r =>
    rw [e3] at q hR
    dsimp only at q hR
    rw [if_pos (by simp)]
    refine ⟨fun σ' H' => σ' = [some v, some (.int n), some (.ref a.pw), some (.int ((j : Int) + 1))] ∧ iT K t a (CU ws) ar v n (wk (CU ws) n (ms0 body)) H σ' H', ?_, ?_⟩
    ·rintro σ' H' ⟨rfl, hv⟩
     refine ⟨_, ?_, rfl, hv⟩
     simp only [iV]; omega
    ·obtain ⟨dw3, wo3⟩ := id hW3.wo
     obtain ⟨hu, hl⟩ := hm3.lv u (by rw [e3]; exact List.mem_cons_self)
     have nt := WS e3
     refine ⟨_, _, wo3, rfl, a, _, las3, cln m, u, r, rfl, hW3, e3, hu.deed ht nt (by omega), ⟨by have := hm3.co; omega, by have := hm3.st; omega, by have := hm3.ms; omega, by have := hm3.ac; omega, by have := hm3.nl; omega⟩, ?_⟩
     cases ed : dd (CU ws) (cln m) with
     | error b =>
      rw [ed] at q
      exact fun H4 b4 => q H4 (HF s3 b4 (F.all L3))
     | ok m4 =>
      rw [ed] at hR
      intro las4 H4 b4 n4 hW4
      have s4 := HF s3 b4 (F.all L3)
      refine ⟨rfl, j + 1, las4, m4, rfl, s4, fun y hy => ?_, hW4, by omega, nF ht hm3 e3 nt ed, by rw [show n - (j + 1) = k by omega]; exact hR⟩
      obtain ⟨y1, y2⟩ := n4 y hy
      refine ⟨?_, ?_⟩
      ·rcases y1 with y1 | y1
       ·rw [List.mem_map] at y1
        obtain ⟨z, hz, ez⟩ := y1
        rw [← ez]; exact (L3 z hz).1
       ·exact s3.free y1
      ·rcases y2 with y1 | y1
       ·rw [List.mem_map] at y1
        obtain ⟨z, hz, ez⟩ := y1
        rw [← ez]; exact (L3 z hz).2
       ·exact s3.free y1
  ·rw [if_neg hlt]
   rw [show n - j = 0 by omega, wk] at q
   exact q a las H2 s2 F hW2
def Ms.dn (m : Ms) : Bool := (cln m).lv.isEmpty
def RunQ (K : PySem.W.Frag) (t : Adr) (H : Hp) (Q : VK) (E : XK) : Except Bool Ms → Prop
 | .ok m => ∀ (rr ls lc ae : Addr) (vp : V) (vs1 vs2 : List V) (H' : Hp), AI H H' → H ls = none → H lc = none → ls ≠ lc → H' rr = some (.tup [.ref ls, .ref lc, .ref ae, .int m.hd.tu, .bl m.dn]) → H rr = none →
  H' ls = some (.lst vs1) → RpL K H' (m.hd.st.map skD) vs1 → H' lc = some (.lst vs2) → RpL K H' (m.hd.co.map Pl.D) vs2 → H' ae = some (.tup [vp, .int m.hd.h, .bl m.hd.dn, .int m.hd.ink]) → Rp K H' m.hd.p.D vp → Q (.ref rr) H'
 | .error b => ∀ H', AI H H' → E (.ref (if b then t.c_NoMark else t.c_TooGreat)) none H'
def jN (K : PySem.W.Frag) (t : Adr) : Sp := fun vs H Q E => ∃ (v : V) (n : Nat) (ws : List Wd) (body : List Stm), vs = [v, .int n] ∧ Rp K H (pD ws body) v ∧ n ≤ 4500 ∧ POk ws body ∧ RunQ K t H Q E (wk (CU ws) n (ms0 body))
theorem UM (T : Txt K mg t) : BJ P w K mg base (CXr P w) 9 t.a_run t.d_run ["program", "most"] (jN K t) := by
 refine T.run.F.okR UR (fun vs H Q E h => ?_) (fun cdv A outer s H vs Q E hr h => ?_)
 ·obtain ⟨v, m, ws, body, rfl, _⟩ := h; rfl
 ·obtain ⟨v, n, ws, body, rfl, rv, hn, hok, q⟩ := h
  refine ⟨_, s!"2{UR.nd}{Or.inl rfl}{ZC T}{hr.mono (by decide)}{T.walked.m}{T.walked.F.kp}{T.walked.b}{DF}0A1ACBBMI3{UR.nd}{Or.inl rfl}2AJI3AJ3AJ3A{T.cl_Hand}{T.Hand_end.mt}{BJ.upR (SC T)}{hr.mono (by decide)}{T.Hand_end.b}{DF}i3AJ2A{T.cl_Walk}{T.Walk_isdone.mt}{BJ.upR (GY T)}{hr.mono (by decide)}{T.Walk_isdone.b}{DF}iCBBBBBKLEFF", ?_⟩
  walk_at "ro"
  refine ⟨v, n, ws, body, rfl, rv, hn, hok, ?_⟩
  cases eR : wk (CU ws) n (ms0 body) with
  | error b => rw [eR] at q; exact fun H' s' => q H' s'
  | ok m =>
   rw [eR] at q
   intro a las H1 s1 F hW
   obtain ⟨⟨dx, wo⟩, _, _, _, hA, _, ⟨n1, n2, n3, n4, n5, n6, n7⟩, _⟩ := id hW
   obtain ⟨⟨dh, vp, hp, rp⟩, ⟨vs1, hs, rs⟩, ⟨vs2, hc2, rc⟩, _, ne⟩ := id hA
   walk_at "ro"
   refine ⟨_, _, _, wo, T.cl_Walk, T.n_Walk_hand, _, rfl, ?_⟩
   walk_at "ro"
   refine ⟨_, _, _, hp, T.cl_Hand, T.n_Hand_strokes, _, rfl, _, _, _, hp, T.cl_Hand, T.n_Hand_corners, _, rfl, _, _, hp, rfl, a.ha, _, rfl, hA, fun ae vp2 H2 s2 hae rvp => ?_⟩
   walk_at "ro"
   refine ⟨_, _, _, s2 _ _ hp, T.cl_Hand, T.n_Hand_turned, _, rfl, _, _, s2 _ _ wo, rfl, a, _, las, m, rfl, hW.same s2, fun las3 H3 b3 t3 sub hW3 => ?_⟩
   refine ⟨by decide, fun rr hrr => ?_⟩
   have k3 : ∀ b o, b ≠ a.ll → H2 b = some o → H3 b = some o := fun b o mm e => b3 b o e (by simpa using mm)
   have s13 : AI H H3 := HF (s1.trans s2) b3 (by intro c hc; rw [List.mem_singleton] at hc; subst hc; exact F.ll)
   have sr := AI.upd (o := .tup [.ref a.ha.ls, .ref a.ha.lc, .ref ae, .int m.hd.tu, .bl m.dn]) hrr
   have tr : AU H2 _ := t3.trans sr.t
   have nae : ae ≠ a.ll := by rintro rfl; have := hW.le; rw [s2 _ _ this] at hae; cases hae
   refine q rr a.ha.ls a.ha.lc ae vp2 vs1 vs2 _ (s13.trans sr) F.ls F.lc ne AB (s13.free hrr) (sr _ _ (k3 _ _ n3.symm (s2 _ _ hs))) ((rs.same s2).t tr) (sr _ _ (k3 _ _ n4.symm (s2 _ _ hc2))) ((rc.same s2).t tr) (sr _ _ (k3 _ _ nae hae)) (rvp.t tr)
end
section
variable {P : Program} {w : World} {K : PySem.W.Frag} {mg : Str → Option Value} {base : Heap} {t : Adr}
def rW : Except Bool Ms → Str
 | .ok _ => ""
 | .error true => "mark"
 | .error false => "great"
theorem iS {K : PySem.W.Frag} {H : Hp} {p q : Addr} {a b c a' b' c' : Bool} (h1 : H p = some (.lst [.bl a, .bl b, .bl c])) (h2 : H q = some (.lst [.bl a', .bl b', .bl c'])) (ha : a = a') (hb : b = b') (hc : c = c') : ∃ n p' q' xs ys, n ≤ 60 ∧ V.ref p = .ref p' ∧ V.ref q = .ref q' ∧ ((SqT K H p' xs ∧ SqT K H q' ys) ∨ (SqL K H p' xs ∧ SqL K H q' ys)) ∧ xs.length = ys.length ∧ (∀ (i : Nat) (x y : V), xs[i]? = some x → ys[i]? = some y → EG K H n x y) := by
 subst ha hb hc
 refine ⟨1, p, q, _, _, by decide, rfl, rfl, .inr ⟨SqL.of h1, SqL.of h2⟩, rfl, fun i x y hx hy => ?_⟩
 match i, hx, hy with
 | 0, hx, hy => cases hx; cases hy; exact .bl _ _
 | 1, hx, hy => cases hx; cases hy; exact .bl _ _
 | 2, hx, hy => cases hx; cases hy; exact .bl _ _
def eY (K : PySem.W.Frag) : Sp := fun vs H Q _ => ∃ (v : V) (n : Nat) (ws : List Wd) (body : List Stm), vs = [v, .int n] ∧ Rp K H (pD ws body) v ∧ n ≤ 4500 ∧ POk ws body ∧ ∀ H', AI H H' → Q (.str (rW (wk (CU ws) n (ms0 body)))) H'
theorem CQ (T : Txt K mg t) : BJ P w K mg base CX0 10 t.a_Lrefused t.d_Lrefused ["_law_program_here", "_law_most"] (eY K) := by
 refine T.Lrefused.F.ok DG (fun vs H Q E h => ?_) (fun cdv A outer s H vs Q E hr h => ?_)
 ·obtain ⟨v, n, ws, body, rfl, _⟩ := h; rfl
 ·obtain ⟨v, n, ws, body, rfl, rv, hn, hok, q⟩ := h
  have hu := hr.units
  refine ⟨_, s!"2{DG.nd}{Or.inl rfl}HI{NA rfl rfl (WR (UM T) (hr.mono (by decide)) (by rfl) T.run.m T.run.F.kp T.run.b .nil s!"0A1ACBB") (VZ (by rfl) T.mg_NoMark T.x_NoMark (fun _ => s!"2{DG.nd}{Or.inl rfl}HIE") (VZ (by rfl) T.mg_TooGreat T.x_TooGreat (fun _ => s!"2{DG.nd}{Or.inl rfl}HIE") jI))}{NA rfl rfl (WR (UM T) (hr.mono (by decide)) (by rfl) T.run.m T.run.F.kp T.run.b .nil s!"0A1ACBB") (mQ (i := 3) (by rfl) T.mg_HouseError T.xH DG.nd rfl rfl (fun _ _ _ hoe => s!"4{DG.nd}{Or.inl rfl}{IA (K := K) (HE := t.c_HouseError) rfl (List.mem_append_right _ List.mem_cons_self) hoe}{T.z_isinstance}{boot_isinstance}3A{.ref t.c_NoMark}{T.mg_NoMark}{rfl}bCBBX{IA (K := K) (HE := t.c_HouseError) rfl (List.mem_append_right _ List.mem_cons_self) hoe}{T.z_isinstance}{boot_isinstance}3A{.ref t.c_TooGreat}{T.mg_TooGreat}{rfl}bCBBX{IA (K := K) (HE := t.c_HouseError) rfl (List.mem_append_right _ List.mem_cons_self) hoe}{T.z_isinstance}{boot_isinstance}3A{@WH _ _ (.ty "ValueError") _ _ (by rfl) T.z_ValueError (by decide +kernel) rfl (by decide) (by decide)}CBBXCBBBdI5{DG.nd}{Or.inl rfl}{IA (K := K) (HE := t.c_HouseError) rfl (List.mem_append_right _ List.mem_cons_self) hoe}{T.z_isinstance}{boot_isinstance}3A{.ref t.c_NoProgram}{T.mg_NoProgram}{rfl}b{.ref t.c_NoText}{T.mg_NoText}{rfl}b{.ref t.c_NotWhole}{T.mg_NotWhole}{rfl}b{.ref t.c_TooLong}{T.mg_TooLong}{rfl}bCBBBBKCNBXI{@PW.pt _ _ _ s!"{gZ (K := K) rfl hu}4A{CT}2AHf{CT}2AHfeCBBBd{BE _}Q5Ahvu"}HLEYPEFF"))}2ALEFFF", ?_⟩
  walk_at "ro"
  refine ⟨v, n, ws, body, rfl, rv, hn, hok, ?_⟩
  cases eR : wk (CU ws) n (ms0 body) with
  | ok m =>
   rw [eR] at q
   intro rr ls lc ae vp vs1 vs2 H1 s1 fls flc nlc hrr frr hls rs hlc rc hae rp
   refine ⟨v, n, ws, body, rfl, rv.same s1, hn, hok, ?_⟩
   rw [eR]
   intro rr ls lc ae vp vs1 vs2 H2 s2 fls flc nlc hrr frr hls rs hlc rc hae rp
   exact q _ (s1.trans s2)
  | error b =>
   rw [eR] at q
   intro H1 s1
   have nd := T.nx
   simp only [List.nodup_cons, List.mem_cons, List.not_mem_nil, or_false, not_or] at nd
   have ne : t.c_TooGreat ≠ t.c_NoMark := fun e => by simp_all
   have key : ∀ c : Addr, c ∈ [t.c_NoProgram, t.c_NoText, t.c_NoMark, t.c_TooGreat, t.c_TooLong, t.c_NotWhole] → ∀ H', isE K H' c (.ref t.c_NoMark) (decide (c = t.c_NoMark)) ∧ isE K H' c (.ref t.c_TooGreat) (decide (c = t.c_TooGreat)) ∧ isE K H' c (.ty "ValueError") true := fun c hc H' =>
    ⟨.inl (exK.one T.xK hc (by simp)), .inl (exK.one T.xK hc (by simp)), exK.v T.xK hc⟩
   cases b with
   | true =>
    refine ⟨t.c_NoMark, rfl, T.x_NoMark, ?_⟩
    rw [if_pos rfl]
    refine ⟨v, n, ws, body, rfl, rv.same s1, hn, hok, ?_⟩
    rw [eR]
    intro H2 s2
    have hm : t.c_NoMark ∈ [t.c_NoProgram, t.c_NoText, t.c_NoMark, t.c_TooGreat, t.c_TooLong, t.c_NotWhole] := by simp
    obtain ⟨k1, k2, k3⟩ := key _ hm H2
    have hk := exK.k T.xK hm
    refine ⟨t.c_NoMark, rfl, T.x_NoMark, fun a => ⟨hk, _, k1, hk, _, k2, hk, _, k3, by decide, fun p hp => ⟨by decide, fun p1 hp1 => ⟨hk, false, .inr ⟨[t.c_NoProgram, t.c_NoText, t.c_NotWhole, t.c_TooLong], SqT.of AB, exK.any T.xK hm _ ?_⟩, by decide, fun p2 hp2 => ?_⟩⟩⟩⟩
    ·intro d hd
     simp only [List.mem_cons, List.not_mem_nil, or_false] at hd
     rcases hd with rfl | rfl | rfl | rfl
     ·exact ⟨by simp, fun e => by simp_all⟩
     ·exact ⟨by simp, fun e => by simp_all⟩
     ·exact ⟨by simp, fun e => by simp_all⟩
     ·exact ⟨by simp, fun e => by simp_all⟩
    ·have s3 := AI.upd (o := .lst [.bl (decide (t.c_NoMark = t.c_NoMark)), .bl (decide (t.c_NoMark = t.c_TooGreat)), .bl true]) hp
     have s4 := AI.upd (o := .tup [.ref t.c_NoProgram, .ref t.c_NoText, .ref t.c_NotWhole, .ref t.c_TooLong]) hp1
     have s5 := AI.upd (o := .lst [.bl (decide True), .bl (decide (Str.ofString "mark" = Str.ofString "great")), .bl true]) hp2
     refine ⟨iS (s5 _ _ (s4 _ _ AB)) AB (by simp) (by rw [decide_eq_false (fun e => ne e.symm)]; rfl) rfl, ?_⟩
     exact q _ ((s1.trans s2).trans ((s3.trans s4).trans s5))
   | false =>
    refine ⟨t.c_TooGreat, rfl, T.x_TooGreat, ?_⟩
    rw [if_neg ne]
    refine ⟨t.c_TooGreat, rfl, T.x_TooGreat, ?_⟩
    rw [if_pos rfl]
    refine ⟨v, n, ws, body, rfl, rv.same s1, hn, hok, ?_⟩
    rw [eR]
    intro H2 s2
    have hm : t.c_TooGreat ∈ [t.c_NoProgram, t.c_NoText, t.c_NoMark, t.c_TooGreat, t.c_TooLong, t.c_NotWhole] := by simp
    obtain ⟨k1, k2, k3⟩ := key _ hm H2
    have hk := exK.k T.xK hm
    refine ⟨t.c_TooGreat, rfl, T.x_TooGreat, fun a => ⟨hk, _, k1, hk, _, k2, hk, _, k3, by decide, fun p hp => ⟨by decide, fun p1 hp1 => ⟨hk, false, .inr ⟨[t.c_NoProgram, t.c_NoText, t.c_NotWhole, t.c_TooLong], SqT.of AB, exK.any T.xK hm _ ?_⟩, by decide, fun p2 hp2 => ?_⟩⟩⟩⟩
    ·intro d hd
     simp only [List.mem_cons, List.not_mem_nil, or_false] at hd
     rcases hd with rfl | rfl | rfl | rfl
     ·exact ⟨by simp, fun e => by simp_all⟩
     ·exact ⟨by simp, fun e => by simp_all⟩
     ·exact ⟨by simp, fun e => by simp_all⟩
     ·exact ⟨by simp, fun e => by simp_all⟩
    ·have s3 := AI.upd (o := .lst [.bl (decide (t.c_TooGreat = t.c_NoMark)), .bl (decide (t.c_TooGreat = t.c_TooGreat)), .bl true]) hp
     have s4 := AI.upd (o := .tup [.ref t.c_NoProgram, .ref t.c_NoText, .ref t.c_NotWhole, .ref t.c_TooLong]) hp1
     have s5 := AI.upd (o := .lst [.bl (decide (Str.ofString "great" = Str.ofString "mark")), .bl (decide True), .bl true]) hp2
     refine ⟨iS (s5 _ _ (s4 _ _ AB)) AB (by rw [decide_eq_false ne]; rfl) (by simp) rfl, ?_⟩
     exact q _ ((s1.trans s2).trans ((s3.trans s4).trans s5))
end
def S8 : List Stm := [.go (.int 3), .turn (.int 2), .up, .down, .ink (.int 5), .go (.int (-1)), .turn (.int (-9)), .mark 9]
def amF (over : Bool) (k : Nat) : Am := if over then ([.src 1 "n0" 1, .src (-1) "n0" (-1), .src 2 "n0" 0, .src 1 "n0" 1000000] : List Am).getD k (.int 0) else ([.src 1 "n0" 0, .src (-1) "n0" 0, .src 0 "n0" 1000000, .src 0 "n0" (-1000000)] : List Am).getD k (.int 0)
def CZ (k : Nat) (a : Am) : Stm := ([.go a, .turn a, .ink a, .again a [], .ifs a [.turn (.int 1)] [], .dow "near" [a, .int 0], .dow "near" [.int 0, a], .again (.int 1) [.go a]] : List Stm).getD k .up
def wsF (inside : List Stm) (last : Stm) : List Wd := [⟨"near", 2, [.go (.int 1)]⟩, ⟨"far", 1, inside ++ [last]⟩]
def boF (begin_ : List Stm) : List Stm := begin_ ++ [.dow "far" [.int 1000000]]
theorem SD {K : PySem.W.Frag} {H : Hp} : ∀ {ds : List L2.D} {xs : List V} (n : Nat), RpL K H ds xs → RpL K H (ds.take n) (xs.take n)
 | [], xs, n, h => by rw [RpL] at h; subst h; simp; exact RpL.nil
 | d :: ds, xs, 0, h => by simp; exact RpL.nil
 | d :: ds, xs, n + 1, h => by
  rw [RpL] at h
  obtain ⟨v, r, rfl, h1, h2⟩ := h
  rw [List.take_succ_cons, List.take_succ_cons]
  exact AZ h1 (SD n h2)
theorem jY {xs : List V} (m : Nat) : TK xs none (some (m : Int)) = xs.take m := by
 unfold TK
 rw [HT.sIx_none, HT.sIx_nat, List.drop_zero, Nat.sub_zero]
 by_cases h : m ≤ xs.length
 ·rw [Nat.min_eq_left h]
 ·rw [Nat.min_eq_right (by omega), List.take_of_length_le (Nat.le_refl _), List.take_of_length_le (by omega)]
theorem cp6 : kU 10 6 := ⟨by decide, by decide, by decide⟩
theorem IK {K : PySem.W.Frag} {H : Hp} (i : Int) : Rp K H (.int i) (.int i) := by rw [Rp]
theorem FK {K : PySem.W.Frag} {H : Hp} (x : Str) : Rp K H (.str x) (.str x) := by rw [Rp]
theorem DZ {K : PySem.W.Frag} {H : Hp} {ds : List L2.D} {p : Addr} {xs : List V} (h : SqT K H p xs) (r : RpL K H ds xs) : Rp K H (.tup ds) (.ref p) := CH.mpr ⟨p, xs, rfl, h, r⟩
section
variable {P : Program} {w : World} {K : PySem.W.Frag} {mg : Str → Option Value} {base : Heap} {t : Adr}
def ZV (K : PySem.W.Frag) : Sp := fun vs H Q _ => ∃ z : Int, vs = [.int z] ∧ ∀ (v : V) (b : List Stm) (H' : Hp), AI H H' → Rp K H' (bD b) v → (∀ s ∈ b, s ∈ S8) → b.length ≤ 4 → Q v H'
def mF (K : PySem.W.Frag) (p l : Addr) (H : Hp) (i : Nat) (σ : L2.St) (H2 : Hp) : Prop := ∃ (us : List V) (b : List Stm) (o1 : Option V), σ = [some (.ref l), o1] ∧ AI H H2 ∧ H2 p = some (.lst us) ∧ RpL K H2 (b.map Stm.D) us ∧ (∀ s ∈ b, s ∈ S8) ∧ us.length = i
theorem MT (T : Txt K mg t) : BJ P w K mg base CX0 3 t.a_Lsome t.d_Lsome ["_law_cell_here"] (ZV K) := by
 refine T.Lsome.F.ok QR (fun vs H Q E h => ?_) (fun cdv A outer s H vs Q E hr h => ?_)
 ·obtain ⟨z, rfl, _⟩ := h; rfl
 ·obtain ⟨z, rfl, q⟩ := h
  refine ⟨_, s!"1{QR.nd}{Or.inr rfl}SWVRSWVRSVRSVRSWVRSpVRSpVRSWVRCNNNNNNNNdI{GR}{T.z_tuple}{boot_tuple}{@dN _ _ _ _ _ _ _ _ _ _ aY s!"{AD GQ}{["_law_cell_here", "_law_some_here"]}{["_law_some_here", "_law_number"]}{["_law_number"]}{[1]}{WE T}{hr.mono (by decide)}{T.Lrow.m}{T.Lrow.F.kp}{T.Lrow.b}{BY}{DC}0ADGDDCBBBM&{fun _ _ _ _ => s!"1{show List.Nodup (["_law_some_here", "_law_number"] : List Str) by decide +kernel}U"}{fun _ _ _ _ => s!"x"}{fun _ _ _ _ => s!"{WX (K := K) rfl}0A{CL}1ADGO"}w" (@eT _) (@bT _ _ _ s!"{CL}0ADG")}CB%LEF", ?_⟩
  walk_at "ro"
  intro v0 H0 s0 r0 v1 H1 s1 r1 v2 H2 s2 r2 v3 H3 s3 r3 v4 H4 s4 r4 v5 H5 s5 r5 v6 H6 s6 r6 v7 H7 s7 r7
  have R : RpL K H7 (S8.map Stm.D) [v0, v1, v2, v3, v4, v5, v6, v7] := by
   have a6 := s7
   have a5 := s6.trans a6
   have a4 := s5.trans a5
   have a3 := s4.trans a4
   have a2 := s3.trans a3
   have a1 := s2.trans a2
   have a0 := s1.trans a1
   unfold S8
   simp only [List.map_cons, List.map_nil, Stm.D, Am.D]
   exact AZ (r0.same a0) (AZ (r1.same a1) (AZ (r2.same a2) (AZ (r3.same a3) (AZ (r4.same a4) (AZ (r5.same a5) (AZ (r6.same a6) (RpL.one r7)))))))
  have S := ((s0.trans s1).trans (s2.trans s3)).trans ((s4.trans s5).trans (s6.trans s7))
  clear r0 r1 r2 r3 r4 r5 r6 r7 s0 s1 s2 s3 s4 s5 s6 s7
  refine ⟨by decide, fun p hp => ⟨by decide, by decide, z / 5, 8, 4, rfl, by decide, by decide, by decide, by decide, fun l xs H8 s8 fl h8 l4 hx => ?_⟩⟩
  have u := AI.upd (o := .lst [v0, v1, v2, v3, v4, v5, v6, v7]) hp
  have S8' := (S.trans u).trans s8
  have hP := s8 _ _ (AB (H := H7) (a := p) (o := .lst [v0, v1, v2, v3, v4, v5, v6, v7]))
  have R := (R.same u).same s8
  dsimp only
  refine ⟨⟨_, SqL.of h8⟩, fun p1 hp1 => ?_⟩
  have u1 := AI.upd (o := .lst []) hp1
  refine hU (xs := xs.map V.int) (mF K p1 p H8) ⟨[], [], none, rfl, u1, AB, RpL.nil, (fun s h => by cases h), rfl⟩ (fun i σ H9 _ z => by obtain ⟨_, _, _, rfl, s9, _⟩ := z; exact SqL.of (s9 _ _ h8)) ?_ ?_
  ·rintro i x σ H9 hx' ⟨us, b, o1, rfl, s9, h9, r9, b9, l9⟩
   have hi : i < xs.length := by have := (List.getElem?_eq_some_iff.mp hx').1; rwa [List.length_map] at this
   rw [List.getElem?_map] at hx'
   cases e : xs[i]? with
   | none => rw [e] at hx'; cases hx'
   | some xi =>
   rw [e] at hx'; cases hx'
   have hxi := hx xi (List.mem_of_getElem? e)
   walk_at "ro"
   obtain ⟨j, ej, j8⟩ : ∃ j : Nat, xi % 8 = (j : Int) ∧ j < 8 := ⟨(xi % 8).toNat, by omega, by omega⟩
   have hj : j < S8.length := j8
   obtain ⟨y, ey, ry⟩ := (R.same s9).at (j := j) (by rw [List.length_map]; exact hj)
   rw [List.getD_eq_getElem?_getD, List.getElem?_map, List.getElem?_eq_getElem hj] at ry
   refine ⟨by decide, _, SqL.of (s9 _ _ hP), y, by rw [ej]; exact HY ey, ?_⟩
   have t4 : AU H9 (upd H9 p1 (.lst (us ++ [y]))) := (AU.refl _).upd (FN h9)
   refine ⟨us, h9, EY (by rw [l9]; have : xs.length = 4 := l4; omega), nx hi ⟨us ++ [y], b ++ [S8[j]], _, rfl, s9.upd2 hp1, AB, ?_, ?_, by simp [l9]⟩⟩
   ·rw [List.map_append]
    exact RpL.t t4 (r9.app (RpL.one ry))
   ·intro s hs
    rcases List.mem_append.mp hs with hs | hs
    ·exact b9 s hs
    ·rw [List.mem_singleton] at hs; subst hs; exact List.getElem_mem _
  ·rintro σ H9 ⟨us, b, o1, rfl, s9, h9, r9, b9, l9⟩
   obtain ⟨m, em, m4⟩ : ∃ m : Nat, z % 5 = (m : Int) ∧ m ≤ 4 := ⟨(z % 5).toNat, by omega, by omega⟩
   refine ⟨by decide, ?_⟩
   rw [em]
   refine ⟨_, SqL.of h9, fun p2 hp2 => ?_⟩
   rw [jY]
   have u2 := AI.upd (o := .lst (us.take m)) hp2
   refine ⟨_, SqL.of AB, fun p3 hp3 => ?_⟩
   have u3 := AI.upd (o := .tup (us.take m)) hp3
   refine q _ (b.take m) _ ((S8'.trans s9).trans (u2.trans u3)) ?_ (fun s hs => b9 s (List.mem_of_mem_take hs)) (by rw [List.length_take]; omega)
   have := SD m r9
   rw [← List.map_take] at this
   exact DZ (SqT.of AB) ((this.same u2).same u3)
def TH (K : PySem.W.Frag) : Sp := fun vs H Q _ => ∃ (z : Int) (o : Bool), vs = [.int z, .bl o] ∧ ∀ (v : V) (k : Nat) (H' : Hp), k < 4 → AI H H' → Rp K H' (amF o k).D v → Q v H'
theorem MH (T : Txt K mg t) : BJ P w K mg base CX0 1 t.a_Lamount t.d_Lamount ["_law_cell_here", "_law_over"] (TH K) := by
 refine T.Lamount.F.ok LH (fun vs H Q E h => ?_) (fun cdv A outer s H vs Q E hr h => ?_)
 ·obtain ⟨z, o, rfl, _⟩ := h; rfl
 ·obtain ⟨z, o, rfl, q⟩ := h
  refine ⟨_, s!"2{LH.nd}{Or.inl rfl}{CL}0ADGI1Ah{DP}SWVWRSpVpRSWVWRDH{GO}DDGCBBBKCNNNNd2AOLEYP{DP}SWVWRSWVpRDH{GO}DDGCBBBKDH{GO}DDGnCBBBKCNNNNd2AOLEFF", ?_⟩
  walk_at "ro"
  obtain ⟨k, ek, k4⟩ : ∃ k : Nat, z % 4 = (k : Int) ∧ k < 4 := ⟨(z % 4).toNat, by omega, by omega⟩
  rw [ek]
  refine ⟨by decide, ?_⟩
  have fin : ∀ (H' : Hp) (vs : List V) (p : Addr), AI H H' → H' p = some (.lst vs) → RpL K H' ((List.range 4).map fun i => (amF o i).D) vs → ∃ xs, SqL K H' p xs ∧ ∃ v, atI xs (k : Int) = some v ∧ Q v H' := by
   intro H' vs p s1 hp r
   obtain ⟨y, ey, ry⟩ := r.at (j := k) (by simpa using k4)
   rw [List.getD_eq_getElem?_getD, List.getElem?_map, List.getElem?_range k4] at ry
   exact ⟨vs, SqL.of hp, y, HY ey, q y k H' k4 s1 ry⟩
  cases o with
  | true =>
   rw [if_pos rfl]
   intro v0 H0 s0 r0 v1 H1 s1 r1 v2 H2 s2 r2
   refine ⟨cp6, by decide, fun p hp => ⟨by decide, fun p1 hp1 => ?_⟩⟩
   have u := AI.upd (o := .tup [.int 1, .str (Str.ofString "n0"), .int (10 ^ Int.toNat 6)]) hp
   have u1 := AI.upd (o := .lst [v0, v1, v2, .ref p]) hp1
   have uu := u.trans u1
   refine fin _ _ _ (((s0.trans s1).trans s2).trans uu) AB ?_
   simp only [List.range_succ, List.range_zero, List.map_append, List.map_cons, List.map_nil, List.nil_append, List.cons_append]
   exact AZ (((r0.same s1).same s2).same uu) (AZ ((r1.same s2).same uu) (AZ (r2.same uu) (RpL.one (DZ (u1.tup (SqT.of AB)) (AZ (IK _) (AZ (FK _) (RpL.one (IK _))))))))
  | false =>
   rw [if_neg (by decide)]
   intro v0 H0 s0 r0 v1 H1 s1 r1
   refine ⟨cp6, by decide, fun p hp => ⟨cp6, by decide, fun p1 hp1 => ⟨by decide, fun p2 hp2 => ?_⟩⟩⟩
   have u := AI.upd (o := .tup [.int 0, .str (Str.ofString "n0"), .int (10 ^ Int.toNat 6)]) hp
   have u1 := AI.upd (o := .tup [.int 0, .str (Str.ofString "n0"), .int (-10 ^ Int.toNat 6)]) hp1
   have u2 := AI.upd (o := .lst [v0, v1, .ref p, .ref p1]) hp2
   have uu := (u.trans u1).trans u2
   refine fin _ _ _ ((s0.trans s1).trans uu) AB ?_
   simp only [List.range_succ, List.range_zero, List.map_append, List.map_cons, List.map_nil, List.nil_append, List.cons_append]
   exact AZ ((r0.same s1).same uu) (AZ (r1.same uu) (AZ (DZ ((u1.trans u2).tup (SqT.of AB)) (AZ (IK _) (AZ (FK _) (RpL.one (IK _))))) (RpL.one (DZ (u2.tup (SqT.of AB)) (AZ (IK _) (AZ (FK _) (RpL.one (IK _))))))))
def aB (K : PySem.W.Frag) : Sp := fun vs H Q _ => ∃ (z : Int) (v : V) (a : Am), vs = [.int z, v] ∧ Rp K H a.D v ∧ ∀ (v' : V) (H' : Hp), AI H H' → Rp K H' (CZ (z % 8).toNat a).D v' → Q v' H'
theorem SX (T : Txt K mg t) : BJ P w K mg base CX0 1 t.a_Llast t.d_Llast ["_law_cell_here", "_law_amount_here"] (aB K) := by
 refine T.Llast.F.ok RJ (fun vs H Q E h => ?_) (fun cdv A outer s H vs Q E hr h => ?_)
 ·obtain ⟨z, v, a, rfl, _⟩ := h; rfl
 ·obtain ⟨z, v, a, rfl, rv, q⟩ := h
  refine ⟨_, s!"2{RJ.nd}{Or.inl rfl}{CL}0ADGI{TF}2AD{BE _}Q{DP}HHHCBBBd2AO1ACBBKLEYP{CT}2AD{BE _}QH1ASRCNBBKLEYP{CT}2AD{BE _}QH1ASWVRSqRSRCNNBBKLEYP{CT}2AD{BE _}QHH1ADCBBKCNBBKLEYP{CT}2AD{BE _}QHHD1ACBBKCNBBKLEYPHDH1ACBBKCNKCNBBKLEFFFFFF", ?_⟩
  walk_at "ro"
  obtain ⟨k, ek, k8⟩ : ∃ k : Nat, z % 8 = (k : Int) ∧ k < 8 := ⟨(z % 8).toNat, by omega, by omega⟩
  rw [ek, Int.toNat_natCast] at q
  rw [ek]
  refine ⟨by decide, ?_⟩
  have three : ∀ (j : Nat) (x : Str), k = j → j < 3 → ([V.str "go", V.str "turn", V.str "ink"] : List V)[j]? = some (.str x) → (∀ (H' : Hp) (p : Addr), AI H H' → SqT K H' p [.str x, v] → Q (.ref p) H') → (if (k : Int) < 3 then 3 ≤ sizeLine ∧ ∀ p, H p = none → ∃ xs, SqL K (upd H p (.lst [.str (Str.ofString "go"), .str (Str.ofString "turn"), .str (Str.ofString "ink")])) p xs ∧ ∃ v1, atI xs (k : Int) = some v1 ∧ 2 ≤ sizeLine ∧ ∀ p1, upd H p (.lst [.str (Str.ofString "go"), .str (Str.ofString "turn"), .str (Str.ofString "ink")]) p1 = none → Q (.ref p1) (upd (upd H p (.lst [.str (Str.ofString "go"), .str (Str.ofString "turn"), .str (Str.ofString "ink")])) p1 (.tup [v1, v])) else True) := by
   intro j x e1 j3 e2 h
   subst e1
   rw [if_pos (by omega)]
   refine ⟨by decide, fun p hp => ⟨_, SqL.of AB, _, HY e2, by decide, fun p1 hp1 => ?_⟩⟩
   exact h _ _ ((AI.upd hp).trans (AI.upd hp1)) (SqT.of AB)
  have c8 : k = 0 ∨ k = 1 ∨ k = 2 ∨ k = 3 ∨ k = 4 ∨ k = 5 ∨ k = 6 ∨ k = 7 := by omega
  rcases c8 with rfl | rfl | rfl | rfl | rfl | rfl | rfl | rfl
  ·have := three 0 "go" rfl (by decide) rfl fun H' p s1 h1 => q _ H' s1 (by show Rp K H' (Stm.go a).D _; rw [Stm.D]; exact DZ h1 (AZ (FK _) (RpL.one (rv.same s1))))
   rw [if_pos (by decide)] at this ⊢
   exact this
  ·have := three 1 "turn" rfl (by decide) rfl fun H' p s1 h1 => q _ H' s1 (by show Rp K H' (Stm.turn a).D _; rw [Stm.D]; exact DZ h1 (AZ (FK _) (RpL.one (rv.same s1))))
   rw [if_pos (by decide)] at this ⊢
   exact this
  ·have := three 2 "ink" rfl (by decide) rfl fun H' p s1 h1 => q _ H' s1 (by show Rp K H' (Stm.ink a).D _; rw [Stm.D]; exact DZ h1 (AZ (FK _) (RpL.one (rv.same s1))))
   rw [if_pos (by decide)] at this ⊢
   exact this
  ·rw [if_neg (by decide), if_pos (by decide)]
   intro v1 H1 s1 r1
   refine ⟨by decide, fun p hp => ?_⟩
   have u := AI.upd (o := .tup [.str (Str.ofString "again"), v, v1]) hp
   refine q _ _ (s1.trans u) ?_
   show Rp K _ (Stm.again a []).D _
   rw [Stm.D, GV]
   exact DZ (SqT.of AB) (AZ (FK _) (AZ ((rv.same s1).same u) (RpL.one (r1.same u))))
  ·rw [if_neg (by decide), if_neg (by decide), if_pos (by decide)]
   intro v1 H1 s1 r1 v2 H2 s2 r2
   refine ⟨by decide, fun p hp => ?_⟩
   have u := AI.upd (o := .tup [.str (Str.ofString "if"), v, v1, v2]) hp
   refine q _ _ ((s1.trans s2).trans u) ?_
   show Rp K _ (Stm.ifs a [.turn (.int 1)] []).D _
   rw [Stm.D, GV, GV]
   refine DZ (SqT.of AB) (AZ (FK _) (AZ (((rv.same s1).same s2).same u) (AZ ?_ (RpL.one (r2.same u)))))
   have := (r1.same s2).same u
   simp only [List.map_cons, List.map_nil, Stm.D, Am.D]
   exact this
  ·rw [if_neg (by decide), if_neg (by decide), if_neg (by decide), if_pos (by decide)]
   refine ⟨by decide, fun p hp => ⟨by decide, fun p1 hp1 => ?_⟩⟩
   have u := AI.upd (o := .tup [v, .int 0]) hp
   have u1 := AI.upd (o := .tup [.str (Str.ofString "do"), .str (Str.ofString "near"), .ref p]) hp1
   refine q _ _ (u.trans u1) ?_
   show Rp K _ (Stm.dow "near" [a, .int 0]).D _
   rw [Stm.D]
   refine DZ (SqT.of AB) (AZ (FK _) (AZ (FK _) (RpL.one (DZ (u1.tup (SqT.of AB)) ?_))))
   exact AZ ((rv.same u).same u1) (RpL.one (IK 0))
  ·rw [if_neg (by decide), if_neg (by decide), if_neg (by decide), if_neg (by decide), if_pos (by decide)]
   refine ⟨by decide, fun p hp => ⟨by decide, fun p1 hp1 => ?_⟩⟩
   have u := AI.upd (o := .tup [.int 0, v]) hp
   have u1 := AI.upd (o := .tup [.str (Str.ofString "do"), .str (Str.ofString "near"), .ref p]) hp1
   refine q _ _ (u.trans u1) ?_
   show Rp K _ (Stm.dow "near" [.int 0, a]).D _
   rw [Stm.D]
   refine DZ (SqT.of AB) (AZ (FK _) (AZ (FK _) (RpL.one (DZ (u1.tup (SqT.of AB)) ?_))))
   exact AZ (IK 0) (RpL.one ((rv.same u).same u1))
  ·rw [if_neg (by decide), if_neg (by decide), if_neg (by decide), if_neg (by decide), if_neg (by decide)]
   refine ⟨by decide, fun p hp => ⟨by decide, fun p1 hp1 => ⟨by decide, fun p2 hp2 => ?_⟩⟩⟩
   have u := AI.upd (o := .tup [.str (Str.ofString "go"), v]) hp
   have u1 := AI.upd (o := .tup [.ref p]) hp1
   have u2 := AI.upd (o := .tup [.str (Str.ofString "again"), .int 1, .ref p1]) hp2
   have u12 := u1.trans u2
   refine q _ _ (u.trans u12) ?_
   show Rp K _ (Stm.again (.int 1) [.go a]).D _
   rw [Stm.D, GV]
   refine DZ (SqT.of AB) (AZ (FK _) (AZ (IK 1) (RpL.one (DZ (u2.tup (SqT.of AB)) (RpL.one ?_)))))
   rw [Stm.D]
   exact DZ (u12.tup (SqT.of AB)) (AZ (FK _) (RpL.one ((rv.same u).same u12)))
def SQ (K : PySem.W.Frag) : Sp := fun vs H Q _ => ∃ (v1 v2 v3 : V) (b i : List Stm) (s : Stm), vs = [v1, v2, v3, .int 1000000] ∧ Rp K H (bD b) v1 ∧ Rp K H (bD i) v2 ∧ Rp K H s.D v3 ∧ b.length ≤ 10 ∧ i.length ≤ 10 ∧ ∀ (v' : V) (H' : Hp), AI H H' → Rp K H' (pD (wsF i s) (boF b)) v' → Q v' H'
theorem KB (T : Txt K mg t) : BJ P w K mg base CX0 1 t.a_Lprogram t.d_Lprogram ["_law_begin", "_law_inside", "_law_last_here", "_law_size"] (SQ K) := by
 refine T.Lprogram.F.ok HB (fun vs H Q E h => ?_) (fun cdv A outer s H vs Q E hr h => ?_)
 ·obtain ⟨v1, v2, v3, b, i, s, rfl, _⟩ := h; rfl
 ·obtain ⟨v1, v2, v3, b, i, sl, rfl, r1, r2, r3, lb, li, q⟩ := h
  refine ⟨_, s!"4{HB.nd}{Or.inl rfl}SWVRSqRSqWVRI5{HB.nd}{Or.inl rfl}HD{FX}1A2ACBKGCBBBKI4A5ACBBK{FX}0AHH3ACBKCNBBKCNKGCBNKLEFF", ?_⟩
  walk_at "ro"
  intro vn H1 s1 rn
  refine ⟨by decide, fun p hp => ?_⟩
  have u := AI.upd (o := .tup [v3]) hp
  have su := s1.trans u
  refine ⟨i.map Stm.D, r2.same su, [sl.D], DZ (SqT.of AB) (RpL.one (r3.same su)), ?_, fun vf H2 s2 rf => ⟨by decide, fun p1 hp1 => ⟨by decide, fun p2 hp2 => ⟨by decide, fun p3 hp3 => ⟨by decide, fun p4 hp4 => ⟨by decide, fun p5 hp5 => ?_⟩⟩⟩⟩⟩⟩
  ·rw [List.length_map]; exact Nat.le_of_lt (EY (by simp only [List.length_cons, List.length_nil]; omega))
  have a1 := AI.upd (o := .tup [.str (Str.ofString "far"), .int 1, vf]) hp1
  have a2 := AI.upd (o := .tup [vn, .ref p1]) hp2
  have a3 := AI.upd (o := .tup [.int 1000000]) hp3
  have a4 := AI.upd (o := .tup [.str (Str.ofString "do"), .str (Str.ofString "far"), .ref p3]) hp4
  have a5 := AI.upd (o := .tup [.ref p4]) hp5
  have b4 := a4.trans a5
  have b3 := a3.trans b4
  have b2 := a2.trans b3
  have b1 := a1.trans b2
  have all := (su.trans s2).trans b1
  refine ⟨b.map Stm.D, r1.same all, [(Stm.dow "far" [.int 1000000]).D], ?_, ?_, fun vb H6 s6 r6 => ⟨by decide, fun p6 hp6 => ?_⟩⟩
  ·refine DZ (SqT.of AB) (RpL.one ?_)
   rw [Stm.D]
   exact DZ (a5.tup (SqT.of AB)) (AZ (FK _) (AZ (FK _) (RpL.one (DZ (b4.tup (SqT.of AB)) (RpL.one (IK _))))))
  ·rw [List.length_map]; exact Nat.le_of_lt (EY (by simp only [List.length_cons, List.length_nil]; omega))
  ·have u6 := AI.upd (o := .tup [.ref p2, vb]) hp6
   have z6 := s6.trans u6
   refine q _ _ (all.trans z6) ?_
   refine DM.mpr ⟨p6, _, _, rfl, SqT.of AB, DZ ((b3.trans z6).tup (SqT.of AB)) (AZ ?_ (RpL.one ?_)), ?_⟩
   ·have := ((rn.same (u.trans s2)).same b1).same z6
    simp only [wsF, Wd.D, bD, List.map_cons, List.map_nil, Stm.D, Am.D]
    exact this
   ·rw [Wd.D]
    refine DZ ((b2.trans z6).tup (SqT.of AB)) (AZ (FK _) (AZ (IK _) (RpL.one ?_)))
    have := (rf.same b1).same z6
    rw [bD, List.map_append]
    exact this
   ·have := r6.same u6
    rw [boF, bD, List.map_append]
    exact this
end
theorem QM {ws : Tb} : ∀ (n k : Nat) (m m' : Ms), wk ws (n + k) m = .ok m' → ∃ m2, wk ws n m = .ok m2
 | 0, k, m, m', _ => ⟨m, rfl⟩
 | n + 1, k, m, m', h => by
  rw [show n + 1 + k = n + k + 1 by omega, wk] at h
  rw [wk]
  cases e : (cln m).lv with
  | nil => exact ⟨_, rfl⟩
  | cons v r =>
   rw [e] at h
   dsimp only at h ⊢
   cases d : dd ws (cln m) with
   | error b => rw [d] at h; cases h
   | ok m2 => rw [d] at h; exact QM n k m2 m' h
theorem PB {ws : Tb} {b : Bool} : ∀ (n k : Nat) (m : Ms), wk ws n m = .error b → wk ws (n + k) m = .error b
 | 0, k, m, h => by cases h
 | n + 1, k, m, h => by
  rw [wk] at h
  rw [show n + 1 + k = n + k + 1 by omega, wk]
  cases e : (cln m).lv with
  | nil => rw [e] at h; cases h
  | cons v r =>
   rw [e] at h
   dsimp only at h ⊢
   cases d : dd ws (cln m) with
   | error b => rw [d] at h; exact h
   | ok m2 => rw [d] at h; exact PB n k m2 h
theorem iI {ws : Tb} {v : Lv} {r : List Lv} {hd : Hd} {ac : List Ac} (n : Nat) (h : v.thr = false) : wk ws (n + 1) ⟨v :: r, hd, ac⟩ = match dd ws ⟨v :: r, hd, ac⟩ with | .error b => .error b | .ok m' => wk ws n m' := by
 have e : cln ⟨v :: r, hd, ac⟩ = ⟨v :: r, hd, ac⟩ := by
  unfold cln
  simp only [List.dropWhile_cons, h]
  rfl
 rw [wk, e]
 all_goals rfl
theorem iY {v : Lv} {s : Stm} (h : v.body[v.i]? = some s) : v.thr = false := by
 have := (List.getElem?_eq_some_iff.mp h).1
 unfold Lv.thr
 rw [decide_eq_false (by omega)]
 rfl
theorem ON {ws : Tb} {v : Lv} {r : List Lv} {hd : Hd} {ac : List Ac} {s : Stm} (n : Nat) (h : v.body[v.i]? = some s) : wk ws (n + 1) ⟨v :: r, hd, ac⟩ = match bgn ws ⟨{ v with i := v.i + 1 } :: r, hd, ac⟩ v.en s with | .error b => .error b | .ok m' => wk ws n m' := by
 rw [iI n (iY h)]
 have : dd ws ⟨v :: r, hd, ac⟩ = bgn ws ⟨{ v with i := v.i + 1 } :: r, hd, ac⟩ v.en s := by
  unfold dd
  dsimp only
  rw [h]
 rw [this]
def NH : Stm → Option Ac
 | .go (.int n) => if -1000000 ≤ n ∧ n ≤ 1000000 then some (.go n) else none
 | .turn (.int n) => if -1000000 ≤ n ∧ n ≤ 1000000 then some (.turn n) else none
 | .ink (.int n) => if -1000000 ≤ n ∧ n ≤ 1000000 then some (.ink n) else none
 | .up => some .up
 | .down => some .down
 | .mark n => some (.mark n)
 | .back n => some (.back n)
 | _ => none
theorem GN {e : En} {n : Int} (c : -1000000 ≤ n ∧ n ≤ 1000000) : wth e (.int n) = some n := by unfold wth; exact if_pos c
theorem PJ {ws : Tb} {m : Ms} {e : En} {s : Stm} {a : Ac} (h : NH s = some a) : bgn ws m e s = IF m a := by
 cases s with
 | go x => cases x with
  | int n => simp only [NH] at h; split at h <;> cases h; rename_i c; rw [bgn, GN c]
  | src f s m => cases h
 | turn x => cases x with
  | int n => simp only [NH] at h; split at h <;> cases h; rename_i c; rw [bgn, GN c]
  | src f s m => cases h
 | ink x => cases x with
  | int n => simp only [NH] at h; split at h <;> cases h; rename_i c; rw [bgn, GN c]
  | src f s m => cases h
 | up => cases h; rw [bgn]
 | down => cases h; rw [bgn]
 | mark n => cases h; rw [bgn]
 | back n => cases h; rw [bgn]
 | again a b => cases h
 | ifs a b c => cases h
 | dow x as => cases h
def HG : List Stm → Hd → Option Hd
 | [], x => some x
 | s :: ss, x => match NH s with | none => none | some a => match stp x a with | none => none | some y => HG ss y
theorem JE {ws : Tb} : ∀ (ss EA : List Stm) (v : Lv) (r : List Lv) (hd hd' : Hd) (ac : List Ac), v.body.drop v.i = ss ++ EA → HG ss hd = some hd' → ∃ ac', ∀ n, wk ws (ss.length + n) ⟨v :: r, hd, ac⟩ = wk ws n ⟨{ v with i := v.i + ss.length } :: r, hd', ac'⟩
 | [], EA, v, r, hd, hd', ac, _, h => by cases h; exact ⟨ac, fun n => by rw [List.length_nil, Nat.zero_add]; rfl⟩
 | s :: ss, EA, v, r, hd, hd', ac, e, h => by
  have hs : v.body[v.i]? = some s := by
   have : (v.body.drop v.i)[0]? = some s := by rw [e]; rfl
   rwa [List.getElem?_drop, Nat.add_zero] at this
  rw [HG] at h
  cases ea : NH s with
  | none => rw [ea] at h; cases h
  | some a =>
   rw [ea] at h
   dsimp only at h
   cases es : stp hd a with
   | none => rw [es] at h; cases h
   | some y =>
    rw [es] at h
    have e2 : ({ v with i := v.i + 1 } : Lv).body.drop ({ v with i := v.i + 1 } : Lv).i = ss ++ EA := by
     show v.body.drop (v.i + 1) = _
     rw [← List.drop_drop, e]; rfl
    obtain ⟨ac', q⟩ := JE ss EA { v with i := v.i + 1 } r y hd' (ac ++ [a]) e2 h
    refine ⟨ac', fun n => ?_⟩
    rw [List.length_cons, show ss.length + 1 + n = ss.length + n + 1 by omega, ON _ hs, PJ ea]
    unfold IF
    dsimp only
    rw [es]
    dsimp only
    rw [q n]
    show wk ws n ⟨{ v with i := v.i + 1 + ss.length } :: r, hd', ac'⟩ = _
    rw [show v.i + 1 + ss.length = v.i + (ss.length + 1) by omega]
def Nb (k : Int) (s : Stm) : Prop := ∃ a, NH s = some a ∧ ∀ x, ∃ y, stp x a = some y ∧ lkA y.ms k = lkA x.ms k
theorem MP {k : Int} : ∀ (ss : List Stm) (x : Hd), (∀ s ∈ ss, Nb k s) → ∃ y, HG ss x = some y ∧ lkA y.ms k = lkA x.ms k
 | [], x, _ => ⟨x, rfl, rfl⟩
 | s :: ss, x, h => by
  obtain ⟨a, ea, ha⟩ := h s List.mem_cons_self
  obtain ⟨y, ey, my⟩ := ha x
  obtain ⟨z, ez, mz⟩ := MP ss y fun s hs => h s (List.mem_cons_of_mem _ hs)
  exact ⟨z, by rw [HG, ea]; dsimp only; rw [ey]; exact ez, mz.trans my⟩
theorem WT {k n : Int} (h : k ≠ n) : Nb k (.mark n) := ⟨.mark n, rfl, fun x => ⟨_, rfl, by show lkA (ptA x.ms n (x.p, x.h)) k = _; rw [JL, if_neg h]⟩⟩
theorem WD {k : Int} (h : k ≠ 9) : ∀ s ∈ S8, Nb k s := by
 intro s hs
 unfold S8 at hs
 simp only [List.mem_cons, List.not_mem_nil, or_false] at hs
 rcases hs with rfl | rfl | rfl | rfl | rfl | rfl | rfl | rfl
 ·exact ⟨.go 3, rfl, fun x => ⟨_, rfl, rfl⟩⟩
 ·exact ⟨.turn 2, rfl, fun x => ⟨_, rfl, rfl⟩⟩
 ·exact ⟨.up, rfl, fun x => ⟨_, rfl, rfl⟩⟩
 ·exact ⟨.down, rfl, fun x => ⟨_, rfl, rfl⟩⟩
 ·exact ⟨.ink 5, rfl, fun x => ⟨_, rfl, rfl⟩⟩
 ·exact ⟨.go (-1), rfl, fun x => ⟨_, rfl, rfl⟩⟩
 ·exact ⟨.turn (-9), rfl, fun x => ⟨_, rfl, rfl⟩⟩
 ·exact WT h
theorem OR : ∀ (a b : List Stm) (x y : Hd), HG a x = some y → HG (a ++ b) x = HG b y
 | [], b, x, y, h => by cases h; rfl
 | s :: a, b, x, y, h => by
  rw [HG] at h
  rw [List.cons_append, HG]
  cases ea : NH s with
  | none => rw [ea] at h; cases h
  | some c =>
   rw [ea] at h
   dsimp only at h ⊢
   cases es : stp x c with
   | none => rw [es] at h; cases h
   | some z => rw [es] at h; exact OR a b z y h
def off (e e' : En) : Prop := ∀ x : Str, x ≠ "count" → lkA e' x = lkA e x
inductive Saf (ws : Tb) : En → Stm → Prop
 | act {e : En} {s : Stm} {a : Ac} : (∀ m : Ms, bgn ws m e s = IF m a) → (∀ x, ∃ y, stp x a = some y) → Saf ws e s
 | again {e : En} {a : Am} {b : List Stm} {n : Int} : wth e a = some n → (∀ e', off e e' → ∀ s, s ∈ b → Saf ws e' s) → Saf ws e (.again a b)
 | ifs {e : En} {a : Am} {b c : List Stm} {n : Int} : wth e a = some n → (∀ s, s ∈ b → Saf ws e s) → (∀ s, s ∈ c → Saf ws e s) → Saf ws e (.ifs a b c)
 | dow {e : En} {x : Str} {as : List Am} {ns : List Int} : DY e as = some ns → (∀ s, s ∈ (lkA ws x).getD [] → Saf ws (NUM.zip ns) s) → Saf ws e (.dow x as)
structure LS (ws : Tb) (v : Lv) : Prop where
 i : v.i ≤ v.body.length
 a : ∀ s, s ∈ v.body.drop v.i → Saf ws v.en s
 b : v.bg < v.rd → ∀ e', off v.en e' → ∀ s, s ∈ v.body → Saf ws e' s
theorem lB {ws : Tb} {v : Lv} {r : List Lv} {hd : Hd} {ac : List Ac} (h : ∀ u ∈ v :: r, LS ws u) (nt : v.thr = false) : ∃ m', dd ws ⟨v :: r, hd, ac⟩ = .ok m' ∧ ∀ u ∈ m'.lv, LS ws u := by
 have hv := h v List.mem_cons_self
 have hr : ∀ u ∈ r, LS ws u := fun u hu => h u (List.mem_cons_of_mem _ hu)
 unfold dd
 dsimp only
 cases e : v.body[v.i]? with
 | none =>
  have il : v.i = v.body.length := by have := List.getElem?_eq_none_iff.mp e; have := hv.i; omega
  have lt : v.bg < v.rd := by
   unfold Lv.thr at nt
   rw [decide_eq_true il, Bool.true_and, decide_eq_false_iff_not] at nt
   omega
  refine ⟨_, rfl, fun u hu => ?_⟩
  rcases List.mem_cons.mp hu with rfl | hu
  ·have of : off v.en v.round.en := fun x hx => by
    show lkA (ptA v.en "count" _) x = _
    rw [JL, if_neg hx]
   refine ⟨Nat.zero_le _, fun s hs => hv.b lt _ of s (List.mem_of_mem_drop hs), fun _ e' he s hs => hv.b lt e' (fun x hx => (he x hx).trans (of x hx)) s hs⟩
  ·exact hr u hu
 | some s =>
  show ∃ m', bgn ws ⟨{ v with i := v.i + 1 } :: r, hd, ac⟩ v.en s = .ok m' ∧ _
  have hi := (List.getElem?_eq_some_iff.mp e).1
  have sv : Saf ws v.en s := hv.a s (by
   have : (v.body.drop v.i)[0]? = some s := by rw [List.getElem?_drop, Nat.add_zero]; exact e
   exact List.mem_of_getElem? this)
  have hv1 : LS ws { v with i := v.i + 1 } := ⟨hi, fun s hs => hv.a s (by
   have hs : s ∈ v.body.drop (v.i + 1) := hs
   rw [← List.drop_drop] at hs
   exact List.mem_of_mem_drop hs), hv.b⟩
  have all : ∀ u ∈ { v with i := v.i + 1 } :: r, LS ws u := fun u hu => by
   rcases List.mem_cons.mp hu with rfl | hu
   ·exact hv1
   ·exact hr u hu
  have push : ∀ u0 : Lv, LS ws u0 → ∀ u ∈ u0 :: { v with i := v.i + 1 } :: r, LS ws u := fun u0 h0 u hu => by
   rcases List.mem_cons.mp hu with rfl | hu
   ·exact h0
   ·exact all u hu
  cases sv with
  | act h1 h2 =>
   obtain ⟨y, ey⟩ := h2 hd
   rw [h1]
   unfold IF
   dsimp only
   rw [ey]
   exact ⟨_, rfl, all⟩
  | again hw hb => rw [bgn, hw]; exact ⟨_, rfl, push _ ⟨Nat.le_refl _, (fun s hs => by rw [List.drop_length] at hs; cases hs), fun _ e' he s hs => hb e' he s hs⟩⟩
  | @ifs e a b c n hw hb hc =>
   rw [bgn, hw]
   refine ⟨_, rfl, push _ ⟨Nat.zero_le _, fun s hs => ?_, fun z => absurd z (Int.lt_irrefl _)⟩⟩
   have hs : s ∈ (if 0 < n then b else c) := List.mem_of_mem_drop hs
   split at hs
   ·exact hb s hs
   ·exact hc s hs
  | dow hw hb => rw [bgn, hw]; exact ⟨_, rfl, push _ ⟨Nat.zero_le _, fun s hs => hb s (List.mem_of_mem_drop hs), fun z => absurd z (Int.lt_irrefl _)⟩⟩
theorem cQ {ws : Tb} : ∀ (n : Nat) (m : Ms), (∀ u ∈ m.lv, LS ws u) → ∃ m', wk ws n m = .ok m'
 | 0, m, _ => ⟨m, rfl⟩
 | n + 1, m, h => by
  have hc : ∀ u ∈ (cln m).lv, LS ws u := fun u hu => h u ((List.dropWhile_sublist _).subset hu)
  rw [wk]
  cases e : (cln m).lv with
  | nil => exact ⟨_, rfl⟩
  | cons v r =>
   dsimp only
   rw [e] at hc
   obtain ⟨m', em, hm⟩ := lB (hd := (cln m).hd) (ac := (cln m).ac) hc (WS e)
   have ec : cln m = ⟨v :: r, (cln m).hd, (cln m).ac⟩ := by rw [← e]
   rw [ec, em]
   exact cQ n m' hm
def e6 : En := [("n0", 1000000)]
theorem UI (i : List Stm) (s : Stm) : lkA (CU (wsF i s)) "far" = some (i ++ [s]) := rfl
theorem VX (i : List Stm) (s : Stm) : lkA (CU (wsF i s)) "near" = some [.go (.int 1)] := rfl
theorem iN {b i : List Stm} {s : Stm} (hb : ∀ s ∈ b, s ∈ S8) (hi : ∀ s ∈ i, s ∈ S8) : ∃ (base : List Lv) (hd : Hd) (ac : List Ac), ∀ n, wk (CU (wsF i s)) (b.length + 1 + i.length + n) (ms0 (boF b)) = wk (CU (wsF i s)) n ⟨⟨i ++ [s], e6, i.length, 0, 0, true⟩ :: base, hd, ac⟩ := by
 obtain ⟨h1, r1, _⟩ := MP (k := 0) b hd0 fun s hs => WD (by decide) s (hb s hs)
 obtain ⟨h2, r2, _⟩ := MP (k := 0) i h1 fun s hs => WD (by decide) s (hi s hs)
 obtain ⟨a1, q1⟩ := JE (ws := CU (wsF i s)) b [.dow "far" [.int 1000000]] ⟨boF b, [], 0, 0, 0, true⟩ [] hd0 h1 [] rfl r1
 obtain ⟨a2, q2⟩ := JE (ws := CU (wsF i s)) i [s] ⟨i ++ [s], e6, 0, 0, 0, true⟩ [⟨boF b, [], b.length + 1, 0, 0, true⟩] h1 h2 a1 rfl r2
 refine ⟨[⟨boF b, [], b.length + 1, 0, 0, true⟩], h2, a2, fun n => ?_⟩
 rw [show b.length + 1 + i.length + n = b.length + (i.length + n + 1) by omega, ms0, q1]
 have hs : (⟨boF b, [], 0 + b.length, 0, 0, true⟩ : Lv).body[(⟨boF b, [], 0 + b.length, 0, 0, true⟩ : Lv).i]? = some (.dow "far" [.int 1000000]) := by
  show (b ++ [.dow "far" [.int 1000000]])[0 + b.length]? = _
  rw [Nat.zero_add, List.getElem?_append_right (Nat.le_refl _), Nat.sub_self]; rfl
 have q3 : wk (CU (wsF i s)) (i.length + n + 1) ⟨[⟨boF b, [], 0 + b.length, 0, 0, true⟩], h1, a1⟩ = wk (CU (wsF i s)) (i.length + n) ⟨[⟨i ++ [s], e6, 0, 0, 0, true⟩, ⟨boF b, [], b.length + 1, 0, 0, true⟩], h1, a1⟩ := by
  rw [ON _ hs]
  have : bgn (CU (wsF i s)) ⟨{ (⟨boF b, [], 0 + b.length, 0, 0, true⟩ : Lv) with i := (0 + b.length) + 1 } :: [], h1, a1⟩ [] (.dow "far" [.int 1000000]) = .ok ⟨[⟨i ++ [s], e6, 0, 0, 0, true⟩, ⟨boF b, [], b.length + 1, 0, 0, true⟩], h1, a1⟩ := by
   rw [bgn]
   have w : DY [] [.int 1000000] = some [1000000] := rfl
   rw [w]
   dsimp only
   rw [UI, Nat.zero_add]
   rfl
  dsimp only
  rw [this]
 show wk _ _ ⟨[⟨boF b, [], 0 + b.length, 0, 0, true⟩], h1, a1⟩ = _
 rw [q3, q2]
 show wk _ n ⟨⟨i ++ [s], e6, 0 + i.length, 0, 0, true⟩ :: _, h2, a2⟩ = _
 rw [Nat.zero_add]
def LP (e : En) : Prop := lkA e "n0" = some 1000000
theorem WM {e : En} (h : LP e) (f m : Int) : Am.val e (.src f "n0" m) = f * 1000000 + m := by
 unfold LP at h
 show f * (lkA e (Str.ofString "n0")).getD 0 + m = _
 rw [h]
 rfl
theorem QN {e : En} (h : LP e) {f m : Int} (c : ¬ (-1000000 ≤ f * 1000000 + m ∧ f * 1000000 + m ≤ 1000000)) : wth e (.src f "n0" m) = none := by
 unfold wth
 rw [WM h]
 exact if_neg c
theorem KS {e : En} (h : LP e) {f m : Int} (c : -1000000 ≤ f * 1000000 + m ∧ f * 1000000 + m ≤ 1000000) : wth e (.src f "n0" m) = some (f * 1000000 + m) := by
 unfold wth
 rw [WM h]
 exact if_pos c
theorem aK {e : En} (h : LP e) {j : Nat} (hj : j < 4) : wth e (amF true j) = none := by
 have c : j = 0 ∨ j = 1 ∨ j = 2 ∨ j = 3 := by omega
 rcases c with rfl | rfl | rfl | rfl
 ·show wth e (.src 1 "n0" 1) = none
  exact QN h (by decide)
 ·show wth e (.src (-1) "n0" (-1)) = none
  exact QN h (by decide)
 ·show wth e (.src 2 "n0" 0) = none
  exact QN h (by decide)
 ·show wth e (.src 1 "n0" 1000000) = none
  exact QN h (by decide)
theorem VM {e : En} (h : LP e) {j : Nat} (hj : j < 4) : ∃ n, wth e (amF false j) = some n := by
 have c : j = 0 ∨ j = 1 ∨ j = 2 ∨ j = 3 := by omega
 rcases c with rfl | rfl | rfl | rfl
 ·refine ⟨1000000, ?_⟩
  show wth e (.src 1 "n0" 0) = _
  exact KS h (by decide)
 ·refine ⟨-1000000, ?_⟩
  show wth e (.src (-1) "n0" 0) = _
  exact KS h (by decide)
 ·refine ⟨1000000, ?_⟩
  show wth e (.src 0 "n0" 1000000) = _
  exact KS h (by decide)
 ·refine ⟨-1000000, ?_⟩
  show wth e (.src 0 "n0" (-1000000)) = _
  exact KS h (by decide)
theorem iK : LP e6 := rfl
theorem SS {e e' : En} (h : LP e) (o : off e e') : LP e' := (o "n0" (by decide)).trans h
def exF (k : Nat) : Nat := if k = 7 then 2 else 0
theorem YY {ws : Tb} {k : Nat} (hk : k < 8) {a : Am} (ha : ∀ e, LP e → wth e a = none) {i : List Stm} {base : List Lv} {hd : Hd} {ac : List Ac} :
  (∃ m, wk ws (exF k) ⟨⟨i ++ [CZ k a], e6, i.length, 0, 0, true⟩ :: base, hd, ac⟩ = .ok m) ∧ wk ws (exF k + 1) ⟨⟨i ++ [CZ k a], e6, i.length, 0, 0, true⟩ :: base, hd, ac⟩ = .error false := by
 have hs : (⟨i ++ [CZ k a], e6, i.length, 0, 0, true⟩ : Lv).body[(⟨i ++ [CZ k a], e6, i.length, 0, 0, true⟩ : Lv).i]? = some (CZ k a) := by
  show (i ++ [CZ k a])[i.length]? = _
  rw [List.getElem?_append_right (Nat.le_refl _), Nat.sub_self]; rfl
 have h6 := ha e6 iK
 have z : ∀ s, CZ k a = s → exF k = 0 → (∀ m, bgn ws m e6 s = .error false) → (∃ m, wk ws (exF k) ⟨⟨i ++ [CZ k a], e6, i.length, 0, 0, true⟩ :: base, hd, ac⟩ = .ok m) ∧ wk ws (exF k + 1) ⟨⟨i ++ [CZ k a], e6, i.length, 0, 0, true⟩ :: base, hd, ac⟩ = .error false := by
  intro s es ek hb
  rw [ek]
  refine ⟨⟨_, rfl⟩, ?_⟩
  rw [Nat.zero_add, show (1 : Nat) = 0 + 1 from rfl, ON 0 hs, es]
  dsimp only
  rw [hb]
 have c : k = 0 ∨ k = 1 ∨ k = 2 ∨ k = 3 ∨ k = 4 ∨ k = 5 ∨ k = 6 ∨ k = 7 := by omega
 rcases c with rfl | rfl | rfl | rfl | rfl | rfl | rfl | rfl
 ·exact z (.go a) rfl rfl fun m => by rw [bgn, h6]
 ·exact z (.turn a) rfl rfl fun m => by rw [bgn, h6]
 ·exact z (.ink a) rfl rfl fun m => by rw [bgn, h6]
 ·exact z (.again a []) rfl rfl fun m => by rw [bgn, h6]
 ·exact z (.ifs a [.turn (.int 1)] []) rfl rfl fun m => by rw [bgn, h6]
 ·exact z (.dow "near" [a, .int 0]) rfl rfl fun m => by rw [bgn, DY, h6]
 ·exact z (.dow "near" [.int 0, a]) rfl rfl fun m => by rw [bgn, DY, GN (by decide), DY, h6]; rfl
 ·have q : ∀ n, wk ws (n + 2) ⟨⟨i ++ [CZ 7 a], e6, i.length, 0, 0, true⟩ :: base, hd, ac⟩ = wk ws n ⟨⟨[.go a], ptA e6 "count" 0, 0, 1, 1, true⟩ :: ⟨i ++ [CZ 7 a], e6, i.length + 1, 0, 0, true⟩ :: base, hd, ac⟩ := by
   intro n
   rw [show n + 2 = (n + 1) + 1 from rfl, ON _ hs]
   have b1 : bgn ws ⟨{ (⟨i ++ [CZ 7 a], e6, i.length, 0, 0, true⟩ : Lv) with i := i.length + 1 } :: base, hd, ac⟩ e6 (CZ 7 a) = .ok ⟨⟨[.go a], e6, 1, 0, 1, true⟩ :: ⟨i ++ [CZ 7 a], e6, i.length + 1, 0, 0, true⟩ :: base, hd, ac⟩ := by
    show bgn ws _ e6 (.again (.int 1) [.go a]) = _
    rw [bgn, GN (by decide)]
    rfl
   dsimp only
   rw [b1]
   dsimp only
   rw [iI n (by rfl)]
   rfl
  have e2 : exF 7 = 0 + 2 := rfl
  rw [e2, show 0 + 2 + 1 = 1 + 2 from rfl, q, q]
  refine ⟨⟨_, rfl⟩, ?_⟩
  rw [show (1 : Nat) = 0 + 1 from rfl, ON 0 (s := .go a) rfl, bgn]
  have : wth (ptA e6 "count" 0) a = none := ha _ (SS iK fun x hx => by rw [JL, if_neg hx])
  dsimp only
  rw [this]
theorem aC {b i : List Stm} (hb : ∀ s ∈ b, s ∈ S8) (hi : ∀ s ∈ i, s ∈ S8) {k j : Nat} (hk : k < 8) (hj : j < 4) :
  (∃ m, wk (CU (wsF i (CZ k (amF true j)))) (b.length + 1 + i.length + exF k) (ms0 (boF b)) = .ok m) ∧ wk (CU (wsF i (CZ k (amF true j)))) (b.length + 1 + i.length + exF k + 1) (ms0 (boF b)) = .error false := by
 obtain ⟨base, hd, ac, q⟩ := iN (s := CZ k (amF true j)) hb hi
 rw [show b.length + 1 + i.length + exF k + 1 = b.length + 1 + i.length + (exF k + 1) by omega, q, q]
 exact YY hk fun e he => aK he hj
theorem aT {ws : Tb} {e : En} {s : Stm} (h : s ∈ S8) : Saf ws e s := by
 obtain ⟨a, ea, ha⟩ := WD (k := 0) (by decide) s h
 exact .act (fun m => PJ ea) fun x => let ⟨y, h, _⟩ := ha x; ⟨y, h⟩
theorem cK {ws : Tb} (hn : lkA ws "near" = some [.go (.int 1)]) {e : En} (he : LP e) {k j : Nat} (hk : k < 8) (hj : j < 4) : Saf ws e (CZ k (amF false j)) := by
 obtain ⟨n, hw⟩ := VM he hj
 have near : ∀ s, s ∈ (lkA ws "near").getD [] → ∀ e', Saf ws e' s := fun s hs e' => by
  rw [hn] at hs
  have : s = .go (.int 1) := by simpa using hs
  subst this
  exact .act (a := .go 1) (fun m => PJ rfl) fun x => ⟨_, rfl⟩
 have c : k = 0 ∨ k = 1 ∨ k = 2 ∨ k = 3 ∨ k = 4 ∨ k = 5 ∨ k = 6 ∨ k = 7 := by omega
 rcases c with rfl | rfl | rfl | rfl | rfl | rfl | rfl | rfl
 ·exact .act (s := .go _) (a := .go n) (fun m => by rw [bgn, hw]) fun x => ⟨_, rfl⟩
 ·exact .act (s := .turn _) (a := .turn n) (fun m => by rw [bgn, hw]) fun x => ⟨_, rfl⟩
 ·exact .act (s := .ink _) (a := .ink n) (fun m => by rw [bgn, hw]) fun x => ⟨_, rfl⟩
 ·exact .again (b := []) hw fun e' _ s hs => by cases hs
 ·refine .ifs (b := [.turn (.int 1)]) (c := []) hw (fun s hs => ?_) fun s hs => by cases hs
  rw [List.mem_singleton] at hs
  subst hs
  exact .act (a := .turn 1) (fun m => PJ rfl) fun x => ⟨_, rfl⟩
 ·exact .dow (x := "near") (ns := [n, 0]) (by rw [DY, hw]; rfl) fun s hs => near s hs _
 ·exact .dow (x := "near") (ns := [0, n]) (by rw [DY, GN (by decide), DY, hw]; rfl) fun s hs => near s hs _
 ·refine .again (a := .int 1) (b := [.go _]) (n := 1) (GN (by decide)) fun e' o s hs => ?_
  rw [List.mem_singleton] at hs
  subst hs
  obtain ⟨n', hw'⟩ := VM (SS he o) hj
  exact .act (a := .go n') (fun m => by rw [bgn, hw']) fun x => ⟨_, rfl⟩
theorem WC {b i : List Stm} (hb : ∀ s ∈ b, s ∈ S8) (hi : ∀ s ∈ i, s ∈ S8) {k j : Nat} (hk : k < 8) (hj : j < 4) (n : Nat) :
  ∃ m, wk (CU (wsF i (CZ k (amF false j)))) n (ms0 (boF b)) = .ok m := by
 refine cQ n _ fun u hu => ?_
 have : u = ⟨boF b, [], 0, 0, 0, true⟩ := by simpa [ms0] using hu
 subst this
 refine ⟨Nat.zero_le _, fun s hs => ?_, fun z => absurd z (Int.lt_irrefl _)⟩
 have hs : s ∈ b ++ [.dow "far" [.int 1000000]] := hs
 rcases List.mem_append.mp hs with hs | hs
 ·exact aT (hb s hs)
 ·rw [List.mem_singleton] at hs
  subst hs
  refine .dow (ns := [1000000]) rfl fun s hs => ?_
  rw [UI] at hs
  have hs : s ∈ i ++ [CZ k (amF false j)] := hs
  rcases List.mem_append.mp hs with hs | hs
  ·exact aT (hi s hs)
  ·rw [List.mem_singleton] at hs
   subst hs
   exact cK (VX _ _) (by rfl) hk hj
theorem OW {ar : Str → Option Nat} {D : Str → Prop} : ∀ {l : List Stm}, (∀ s ∈ l, s.Ok ar D) → Stm.Oks ar D l
 | [], _ => by rw [Stm.Oks]; trivial
 | s :: l, h => by rw [Stm.Oks]; exact ⟨h s List.mem_cons_self, OW fun s hs => h s (List.mem_cons_of_mem _ hs)⟩
theorem cJ {ar : Str → Option Nat} {D : Str → Prop} {s : Stm} (h : s ∈ S8) : s.Ok ar D := by
 unfold S8 at h
 simp only [List.mem_cons, List.not_mem_nil, or_false] at h
 rcases h with rfl | rfl | rfl | rfl | rfl | rfl | rfl | rfl <;> (rw [Stm.Ok]; trivial)
def arF (x : Str) : Option Nat := if x = "near" then some 2 else if x = "far" then some 1 else none
theorem cC {D : Str → Prop} (hD : D "n0") (o : Bool) {j : Nat} (hj : j < 4) : JQ D (amF o j) := by
 have c : j = 0 ∨ j = 1 ∨ j = 2 ∨ j = 3 := by omega
 rcases c with rfl | rfl | rfl | rfl <;> cases o <;> exact ⟨by decide, hD⟩
theorem iF {D : Str → Prop} (hD : D "n0") (o : Bool) {j k : Nat} (hj : j < 4) (hk : k < 8) : (CZ k (amF o j)).Ok arF D := by
 have h := cC hD o hj
 have h0 : JQ D (.int 0) := trivial
 have c : k = 0 ∨ k = 1 ∨ k = 2 ∨ k = 3 ∨ k = 4 ∨ k = 5 ∨ k = 6 ∨ k = 7 := by omega
 rcases c with rfl | rfl | rfl | rfl | rfl | rfl | rfl | rfl
 ·show (Stm.go _).Ok arF D; rw [Stm.Ok]; exact h
 ·show (Stm.turn _).Ok arF D; rw [Stm.Ok]; exact h
 ·show (Stm.ink _).Ok arF D; rw [Stm.Ok]; exact h
 ·show (Stm.again _ []).Ok arF D; rw [Stm.Ok]; exact ⟨h, by rw [Stm.Oks]; trivial⟩
 ·show (Stm.ifs _ [.turn (.int 1)] []).Ok arF D; rw [Stm.Ok]; exact ⟨h, by rw [Stm.Oks, Stm.Oks, Stm.Ok]; exact ⟨trivial, trivial⟩, by rw [Stm.Oks]; trivial⟩
 ·show (Stm.dow "near" [_, .int 0]).Ok arF D; rw [Stm.Ok]
  refine ⟨fun a ha => ?_, by simp, rfl⟩
  simp only [List.mem_cons, List.not_mem_nil, or_false] at ha
  rcases ha with rfl | rfl
  ·exact h
  ·exact h0
 ·show (Stm.dow "near" [.int 0, _]).Ok arF D; rw [Stm.Ok]
  refine ⟨fun a ha => ?_, by simp, rfl⟩
  simp only [List.mem_cons, List.not_mem_nil, or_false] at ha
  rcases ha with rfl | rfl
  ·exact h0
  ·exact h
 ·show (Stm.again (.int 1) [.go _]).Ok arF D; rw [Stm.Ok]
  exact ⟨trivial, by rw [Stm.Oks, Stm.Oks, Stm.Ok]; exact ⟨cC (.inl hD) o hj, trivial⟩⟩
theorem nG {b i : List Stm} (hb : ∀ s ∈ b, s ∈ S8) (hi : ∀ s ∈ i, s ∈ S8) (o : Bool) {j k : Nat} (hj : j < 4) (hk : k < 8) : POk (wsF i (CZ k (amF o j))) (boF b) := by
 refine ⟨by simp [wsF], arF, fun x n h => ?_, OW fun s hs => ?_⟩
 ·unfold arF at h
  split at h
  ·rename_i e; cases h; subst e
   exact ⟨_, VX _ _, by rw [Stm.Oks, Stm.Oks, Stm.Ok]; exact ⟨trivial, trivial⟩⟩
  ·split at h
   ·rename_i e; cases h; subst e
    refine ⟨_, UI _ _, OW fun s hs => ?_⟩
    rcases List.mem_append.mp hs with hs | hs
    ·exact cJ (hi s hs)
    ·rw [List.mem_singleton] at hs; subst hs
     exact iF (by simp [NUM]) o hj hk
   ·cases h
 ·rcases List.mem_append.mp hs with hs | hs
  ·exact cJ (hb s hs)
  ·rw [List.mem_singleton] at hs; subst hs
   rw [Stm.Ok]
   refine ⟨fun a ha => ?_, by simp, rfl⟩
   rw [List.mem_singleton] at ha; subst ha; trivial
def JM (k : Int) : Nat → List Stm
 | 0 => []
 | n + 1 => JM k n ++ if (n : Int) ≠ k then [.mark n] else []
theorem UO {k : Int} : ∀ {n : Nat} {s : Stm}, s ∈ JM k n → Nb k s ∧ ∀ {ar : Str → Option Nat} {D : Str → Prop}, s.Ok ar D
 | 0, s, h => by cases h
 | n + 1, s, h => by
  rw [JM] at h
  rcases List.mem_append.mp h with h | h
  ·exact UO h
  ·split at h
   ·rename_i c
    rw [List.mem_singleton] at h; subst h
    exact ⟨WT (Ne.symm c), fun {ar D} => by rw [Stm.Ok]; trivial⟩
   ·cases h
theorem KZ {k : Int} : ∀ n : Nat, (JM k n).length ≤ n
 | 0 => Nat.le_refl _
 | n + 1 => by
  rw [JM, List.length_append]
  have := KZ (k := k) n
  split <;> simp <;> omega
def beF (k : Int) (b : List Stm) : List Stm := JM k 10 ++ b
def m1F (k : Int) (b : List Stm) : List Stm := beF k b ++ [.back k, .go (.int 1)]
def m2F (k : Int) (b : List Stm) : List Stm := .mark k :: beF k b ++ [.back k, .go (.int 1)]
theorem iR {k : Int} (hk : k ≠ 9) {b : List Stm} (hb : ∀ s ∈ b, s ∈ S8) : ∀ s ∈ beF k b, Nb k s := fun s hs => by
 rcases List.mem_append.mp hs with hs | hs
 ·exact (UO hs).1
 ·exact WD hk s (hb s hs)
theorem iW {k : Int} {b : List Stm} (hb : ∀ s ∈ b, s ∈ S8) {ar : Str → Option Nat} {D : Str → Prop} : ∀ s ∈ beF k b, s.Ok ar D := fun s hs => by
 rcases List.mem_append.mp hs with hs | hs
 ·exact (UO hs).2
 ·exact cJ (hb s hs)
theorem VT {k : Int} {ar : Str → Option Nat} {D : Str → Prop} : ∀ s ∈ [Stm.back k, .go (.int 1)], s.Ok ar D := fun s hs => by
 simp only [List.mem_cons, List.not_mem_nil, or_false] at hs
 rcases hs with rfl | rfl <;> (rw [Stm.Ok]; trivial)
theorem mY {l : List Stm} (h : ∀ {ar : Str → Option Nat} {D : Str → Prop}, ∀ s ∈ l, s.Ok ar D) : POk [] l := ⟨by simp, fun _ => none, (fun x n h => by cases h), OW h⟩
theorem kM {k : Int} {b : List Stm} (hb : ∀ s ∈ b, s ∈ S8) : POk [] (m1F k b) := mY fun s hs => by
 rcases List.mem_append.mp hs with hs | hs
 ·exact iW hb s hs
 ·exact VT s hs
theorem kH {k : Int} {b : List Stm} (hb : ∀ s ∈ b, s ∈ S8) : POk [] (m2F k b) := mY fun s hs => by
 rcases List.mem_append.mp hs with hs | hs
 ·rcases List.mem_cons.mp hs with rfl | hs
  ·rw [Stm.Ok]; trivial
  ·exact iW hb s hs
 ·exact VT s hs
theorem lM {k : Int} (hk : k ≠ 9) {b : List Stm} (hb : ∀ s ∈ b, s ∈ S8) : (∃ m, wk (CU []) (beF k b).length (ms0 (m1F k b)) = .ok m) ∧ wk (CU []) ((beF k b).length + 1) (ms0 (m1F k b)) = .error true := by
 obtain ⟨y, ry, my⟩ := MP (beF k b) hd0 (iR hk hb)
 obtain ⟨ac, q⟩ := JE (ws := CU []) (beF k b) [.back k, .go (.int 1)] ⟨m1F k b, [], 0, 0, 0, true⟩ [] hd0 y [] rfl ry
 have q0 := q 0
 have q1 := q 1
 rw [ms0]
 refine ⟨⟨_, q0.trans rfl⟩, q1.trans ?_⟩
 have hs : ({ (⟨m1F k b, [], 0, 0, 0, true⟩ : Lv) with i := 0 + (beF k b).length }).body[({ (⟨m1F k b, [], 0, 0, 0, true⟩ : Lv) with i := 0 + (beF k b).length }).i]? = some (.back k) := by
  show (beF k b ++ [.back k, .go (.int 1)])[0 + (beF k b).length]? = _
  rw [Nat.zero_add, List.getElem?_append_right (Nat.le_refl _), Nat.sub_self]; rfl
 rw [show (1 : Nat) = 0 + 1 from rfl, ON 0 hs, bgn]
 unfold IF
 dsimp only
 have : stp y (.back k) = none := by
  show (lkA y.ms k).map _ = none
  rw [my]; rfl
 rw [this]
theorem lA {k : Int} (hk : k ≠ 9) {b : List Stm} (hb : ∀ s ∈ b, s ∈ S8) (hl : b.length ≤ 4) : ∃ (z : Hd) (ac : List Ac) (l : List Pl) (e : Pl), wk (CU []) 4000 (ms0 (m2F k b)) = .ok ⟨[], z, ac⟩ ∧ z.co = l ++ [p0, e] := by
 have r0 : HG [.mark k] hd0 = some { hd0 with ms := ptA [] k (p0, 0) } := rfl
 obtain ⟨y, ry, my⟩ := MP (beF k b) { hd0 with ms := ptA [] k (p0, 0) } (iR hk hb)
 have hm : lkA y.ms k = some (p0, 0) := my.trans (by show lkA (ptA [] k (p0, (0 : Int))) k = _; rw [JL, if_pos rfl])
 have r1 : HG ([.mark k] ++ (beF k b)) hd0 = some y := by rw [OR _ _ _ _ r0, ry]
 have hst : stp y (.back k) = some { y with p := p0, h := 0, co := y.co ++ [p0] } := by
  show (lkA y.ms k).map _ = _
  rw [hm]; rfl
 obtain ⟨y2, ey2⟩ : ∃ y2 : Hd, y2 = { y with p := p0, h := 0, co := y.co ++ [p0] } := ⟨_, rfl⟩
 rw [← ey2] at hst
 obtain ⟨z, zs, ez⟩ : ∃ z, stp y2 (.go 1) = some z ∧ z.co = y.co ++ [p0] ++ [z.p] := ⟨_, rfl, by rw [ey2]⟩
 have rz : HG [.back k, .go (.int 1)] y = some z := by
  rw [HG]
  dsimp only [NH]
  rw [hst]
  dsimp only
  rw [HG]
  have : NH (.go (.int 1)) = some (.go 1) := rfl
  rw [this]
  dsimp only
  rw [zs]
  rfl
 have r2 : HG (m2F k b) hd0 = some z := by
  show HG ([.mark k] ++ beF k b ++ [.back k, .go (.int 1)]) hd0 = _
  rw [OR _ _ _ _ r1, rz]
 obtain ⟨ac, q⟩ := JE (ws := CU []) (m2F k b) [] ⟨m2F k b, [], 0, 0, 0, true⟩ [] hd0 z [] (by rw [List.append_nil]; rfl) r2
 have ll : (m2F k b).length ≤ 20 := by
  have := KZ (k := k) 10
  unfold m2F beF
  simp only [List.length_append, List.length_cons, List.length_nil]
  omega
 obtain ⟨n, en⟩ : ∃ n, 4000 = (m2F k b).length + (n + 1) := ⟨4000 - (m2F k b).length - 1, by omega⟩
 refine ⟨z, ac, y.co, z.p, ?_, by rw [ez, List.append_assoc]; rfl⟩
 rw [en, ms0, q (n + 1), wk]
 have : cln ⟨[{ (⟨m2F k b, [], 0, 0, 0, true⟩ : Lv) with i := 0 + (m2F k b).length }], z, ac⟩ = ⟨[], z, ac⟩ := by
  unfold cln
  have t : Lv.thr { (⟨m2F k b, [], 0, 0, 0, true⟩ : Lv) with i := 0 + (m2F k b).length } = true := by
   unfold Lv.thr
   simp
  simp only [List.dropWhile_cons, t]
  rfl
 rw [this]
section
variable {P : Program} {w : World} {K : PySem.W.Frag} {mg : Str → Option Value} {base : Heap} {t : Adr}
def bI : Sp := fun vs H Q _ => ∃ z : Int, vs = [.int z] ∧ 0 ≤ z ∧ ∀ H', AI H H' → Q (.bl true) H'
def lQ (z : Int) (pb pi : Addr) (ah : Nat) (vl v5 : V) (H : Hp) (_ : Nat) (σ : L2.St) (H2 : Hp) : Prop := ∃ o6 : Option V, σ = [some (.int z), some (.ref pb), some (.ref pi), some (.int ah), some vl, some v5, o6] ∧ AI H H2
theorem NB (T : Txt K mg t) : BJ P w K mg base CX0 11 t.a_Lofamounts t.d_Lofamounts ["_law_cell_here"] bI := by
 refine T.Lofamounts.F.ok BZ (fun vs H Q E h => ?_) (fun cdv A outer s H vs Q E hr h => ?_)
 ·obtain ⟨z, rfl, _⟩ := h; rfl
 ·obtain ⟨z, rfl, z0, q⟩ := h
  refine ⟨_, s!"1{BZ.nd}{Or.inl rfl}{MT T}{hr.mono (by decide)}{T.Lsome.m}{T.Lsome.F.kp}{T.Lsome.b}{BY}0ACBMI2{BZ.nd}{Or.inl rfl}{MT T}{hr.mono (by decide)}{T.Lsome.m}{T.Lsome.F.kp}{T.Lsome.b}{BY}{DC}0ADGCBMI3{BZ.nd}{Or.inl rfl}{CO}{CO}{CO}{BN}{T.z_len}{PySem.boot_len}1ACBXDG{BN}{T.z_len}{PySem.boot_len}2ACBXG{CK}D{XT}{T.z_int}{boot_int}{CT}{CL}{DC}0ADGDGDfCB%GGI4{BZ.nd}{Or.inl rfl}{SX T}{hr.mono (by decide)}{T.Llast.m}{T.Llast.F.kp}{T.Llast.b}{BY}{DC}0ADG{MH T}{hr.mono (by decide)}{T.Lamount.m}{T.Lamount.F.kp}{T.Lamount.b}{BY}{DC}0ADGeCBBMCBBMI5{BZ.nd}{Or.inl rfl}{KB T}{hr.mono (by decide)}{T.Lprogram.m}{T.Lprogram.F.kp}{T.Lprogram.b}{BY}1A2A4A{GO}DDGCBBBBMI3A{MA rfl}{T.z_max}{boot_max}D{PF}3ADGCBBXDCBBBd&6{BZ.nd}U{HH}{CQ T}{hr.mono (by decide)}{T.Lrefused.m}{T.Lrefused.F.kp}{T.Lrefused.b}{BY}5A6ACBBMH{BE _}QeLEYPEr{@PW.pt _ _ _ s!"{HH}{CQ T}{hr.mono (by decide)}{T.Lrefused.m}{T.Lrefused.F.kp}{T.Lrefused.b}{BY}5A{CO}3ADGCBBMH{BE _}Q{HH}{CQ T}{hr.mono (by decide)}{T.Lrefused.m}{T.Lrefused.F.kp}{T.Lrefused.b}{BY}5ADCBBMH{BE _}Qvu"}eLEYP4{BZ.nd}{Or.inl rfl}{SX T}{hr.mono (by decide)}{T.Llast.m}{T.Llast.F.kp}{T.Llast.b}{BY}{DC}0ADG{MH T}{hr.mono (by decide)}{T.Lamount.m}{T.Lamount.F.kp}{T.Lamount.b}{BY}{DC}0ADGeCBBMCBBMI5{BZ.nd}{Or.inl rfl}{KB T}{hr.mono (by decide)}{T.Lprogram.m}{T.Lprogram.F.kp}{T.Lprogram.b}{BY}1A2A4A{GO}DDGCBBBBMI{CT}{CQ T}{hr.mono (by decide)}{T.Lrefused.m}{T.Lrefused.F.kp}{T.Lrefused.b}{BY}5ADCBBMHf{CT}{CQ T}{hr.mono (by decide)}{T.Lrefused.m}{T.Lrefused.F.kp}{T.Lrefused.b}{BY}5A{CO}3ADGCBBMHf$#LEaaaaaaaaa", ?_⟩
  walk_at "rh"
  refine ⟨z, rfl, fun v1 b H1 s1 r1 hb lb => ?_⟩
  walk_at "rh"
  refine ⟨by decide, by decide, z / 1000003, rfl, fun v2 i H2 s2 r2 hi li => ?_⟩
  have r1 := r1.same s2
  have S := s1.trans s2
  clear s1 s2
  walk_at "rh"
  obtain ⟨pb, xb, rfl, hpb, rlb, lxb⟩ := HQ r1
  obtain ⟨pi, xi, rfl, hpi, rli, lxi⟩ := HQ r2
  obtain ⟨k, ek, k8⟩ : ∃ k : Nat, z / 512 % 8 = (k : Int) ∧ k < 8 := ⟨(z / 512 % 8).toNat, by omega, by omega⟩
  obtain ⟨ah, eah⟩ : ∃ ah : Nat, ah = b.length + 1 + i.length + exF k := ⟨_, rfl⟩
  have eI : (xb.length : Int) + 1 + (xi.length : Int) + 2 * (if z / 512 % 8 = 7 then 1 else 0) = (ah : Int) := by
   rw [ek, eah, lxb, lxi]
   unfold exF
   by_cases c : k = 7
   ·rw [if_pos (by omega), if_pos c]; omega
   ·rw [if_neg (by omega), if_neg c]; omega
  have ah11 : ah ≤ 11 := by
   rw [eah]
   unfold exF
   split <;> omega
  dsimp only
  refine ⟨xb, .inr hpb, ?_⟩
  refine ⟨xi, .inr hpi, by decide, by decide, by decide, ?_, ?_⟩
  ·split
   ·exact EZ (by decide) (by decide)
   ·exact EZ (by decide) (by decide)
  rw [eI]
  walk_at "rh"
  refine ⟨by decide, by decide, by decide, by decide, z / 4096, true, rfl, fun va j H3 j4 s3 r3 => ?_⟩
  refine ⟨z / 512, va, amF true j, rfl, r3, fun vl H4 s4 r4 => ?_⟩
  rw [ek, Int.toNat_natCast] at r4
  have s34 := s3.trans s4
  have r1 := r1.same s34
  have r2 := r2.same s34
  have S := S.trans s34
  clear s3 s4 s34 r3 hpb hpi rlb rli eI
  walk_at "rh"
  refine ⟨cp6, _, _, vl, b, i, CZ k (amF true j), rfl, r1, r2, r4, by omega, by omega, fun v5 H5 s5 r5 => ?_⟩
  have ok5 := nG hb hi true j4 k8
  obtain ⟨⟨mA, eA⟩, eB⟩ := aC hb hi k8 j4
  rw [← eah] at eA eB
  have r1 := r1.same s5
  have r2 := r2.same s5
  have S := S.trans s5
  clear s5 r4
  walk_at "rh"
  obtain ⟨mx, emx, lmx⟩ : ∃ mx : Nat, (if (ah : Int) - 1 > 0 then (ah : Int) - 1 else 0) = (mx : Int) ∧ mx ≤ ah := by
   by_cases c : (ah : Int) - 1 > 0
   ·exact ⟨ah - 1, by rw [if_pos c]; omega, by omega⟩
   ·exact ⟨0, by rw [if_neg c]; rfl, Nat.zero_le _⟩
  rw [emx]
  refine ⟨by decide, fun p hp => ⟨⟨_, SqL.of AB⟩, ?_⟩⟩
  have u := AI.upd (o := .lst [.int ah, .int mx, .int 0]) hp
  have hP := AB (H := H5) (a := p) (o := .lst [.int ah, .int mx, .int 0])
  have r1 := r1.same u
  have r2 := r2.same u
  have r5 := r5.same u
  have S := S.trans u
  generalize upd H5 p (.lst [.int ah, .int mx, .int 0]) = H6 at hP r1 r2 r5 S ⊢
  clear u hp
  refine WN (xs := [.int ah, .int mx, .int 0]) (lQ z pb pi ah vl v5 H6) ⟨none, rfl, AI.refl _⟩ (fun i σ H7 _ z => by obtain ⟨_, rfl, s7⟩ := z; exact SqL.of (s7 _ _ hP)) ?_ ?_
  ·rintro i1 x σ H7 hx ⟨o6, rfl, s7⟩
   obtain ⟨n, rfl, ln⟩ : ∃ n : Nat, x = .int n ∧ n ≤ ah := by
    match i1, hx with
    | 0, hx => cases hx; exact ⟨ah, rfl, Nat.le_refl _⟩
    | 1, hx => cases hx; exact ⟨mx, rfl, lmx⟩
    | 2, hx => cases hx; exact ⟨0, rfl, Nat.zero_le _⟩
    | n + 3, hx => cases hx
   walk_at "rd"
   refine ⟨v5, n, _, _, rfl, r5.same s7, by omega, ok5, fun H8 s8 => ?_⟩
   obtain ⟨m2, e2⟩ := QM n (ah - n) _ _ (by rw [show n + (ah - n) = ah by omega]; exact eA)
   rw [e2]
   dsimp only [rW]
   rw [if_neg (by simp)]
   exact ⟨_, rfl, s7.trans s8⟩
  rintro σ H7 ⟨o6, rfl, s7⟩
  have r1 := r1.same s7
  have r2 := r2.same s7
  have r5 := r5.same s7
  have S := S.trans s7
  clear s7 hP
  walk_at "rh"
  refine ⟨v5, ah + 1, _, _, by simp, r5, by omega, ok5, fun H8 s8 => ?_⟩
  rw [eB]
  dsimp only [rW]
  walk_at "rh"
  refine ⟨v5, 4000, _, _, rfl, r5.same s8, by omega, ok5, fun H9 s9 => ?_⟩
  have e4 := PB (ah + 1) (3999 - ah) _ eB
  rw [show ah + 1 + (3999 - ah) = 4000 by omega] at e4
  rw [e4]
  dsimp only [rW]
  walk_at "rh"
  have s89 := s8.trans s9
  have r1 := r1.same s89
  have r2 := r2.same s89
  have S := S.trans s89
  clear s8 s9 s89 r5 ok5 eA eB e4
  walk_at "rh"
  refine ⟨by decide, by decide, by decide, by decide, z / 4096, false, rfl, fun va j H3 j4 s3 r3 => ?_⟩
  refine ⟨z / 512, va, amF false j, rfl, r3, fun vl H4 s4 r4 => ?_⟩
  rw [ek, Int.toNat_natCast] at r4
  have s34 := s3.trans s4
  have r1 := r1.same s34
  have r2 := r2.same s34
  have S := S.trans s34
  clear s3 s4 s34 r3
  walk_at "rh"
  refine ⟨cp6, _, _, vl, b, i, CZ k (amF false j), rfl, r1, r2, r4, by omega, by omega, fun v5 H5 s5 r5 => ?_⟩
  have ok5 := nG hb hi false j4 k8
  have S := S.trans s5
  walk_at "rh"
  refine ⟨v5, 4000, _, _, rfl, r5, by omega, ok5, fun H8 s8 => ?_⟩
  obtain ⟨m1, e1⟩ := WC hb hi k8 j4 4000
  rw [e1]
  dsimp only [rW]
  walk_at "rh"
  refine ⟨v5, ah + 1, _, _, by simp, r5.same s8, by omega, ok5, fun H9 s9 => ?_⟩
  obtain ⟨m2, e2⟩ := WC hb hi k8 j4 (ah + 1)
  rw [e2]
  exact q _ (S.trans (s8.trans s9))
end
theorem gE {α : Type} (xs : List α) (v u : α) : atI (xs ++ [v, u]) (-2) = some v := by
 have hl : (xs ++ [v, u]).length = xs.length + 2 := by simp
 have e : ixN (xs ++ [v, u]).length (-2) = some xs.length := by
  unfold ixN
  rw [hl, if_neg (by decide), if_pos (by omega)]
  congr 1
  omega
 unfold atI
 rw [e]
 show (xs ++ [v, u])[xs.length]? = some v
 rw [List.getElem?_append_right (Nat.le_refl _), Nat.sub_self]
 rfl
section
variable {P : Program} {w : World} {K : PySem.W.Frag} {mg : Str → Option Value} {base : Heap} {t : Adr}
def lT (K : PySem.W.Frag) (p : Addr) (k : Int) (H : Hp) (i : Nat) (σ : L2.St) (H2 : Hp) : Prop := ∃ (us : List V) (o1 : Option V), σ = [some (.int k), o1] ∧ AI H H2 ∧ H2 p = some (.lst us) ∧ RpL K H2 ((JM k i).map Stm.D) us
def mB (z k : Int) (v2 : V) (pb : Addr) (v4 : V) (H : Hp) (_ : Nat) (σ : L2.St) (H2 : Hp) : Prop := ∃ o5 : Option V, σ = [some (.int z), some (.int k), some v2, some (.ref pb), some v4, o5, none] ∧ AI H H2
theorem SH (T : Txt K mg t) : BJ P w K mg base CX0 11 t.a_Lofmarks t.d_Lofmarks ["_law_cell_here"] bI := by
 refine T.Lofmarks.F.ok DH (fun vs H Q E h => ?_) (fun cdv A outer s H vs Q E hr h => ?_)
 ·obtain ⟨z, rfl, _⟩ := h; rfl
 ·obtain ⟨z, rfl, z0, q⟩ := h
  have hu := hr.units
  refine ⟨_, s!"1{DH.nd}{Or.inr rfl}{CL}0ADGI2{DH.nd}{Or.inl rfl}{GR}{T.z_tuple}{boot_tuple}{AD DQ}{["_law_cell_here", "_law_mark", "_law_marks", "_law_begin", "_law_program_here", "_law_most", "_law_other"]}{["_law_mark", "_law_k"]}{["_law_k"]}{[1]}DCBs{fun _ _ _ _ => s!"1{show List.Nodup (["_law_mark", "_law_k"] : List Str) by decide +kernel}U"}{fun _ _ _ _ => (@aJ _ _ _ s!"{HH}1A0A{BE _}Q")}{fun _ _ _ _ => s!"H1ACBBK"}wCB%I3{DH.nd}{Or.inl rfl}{FX}2A{MT T}{hr.mono (by decide)}{T.Lsome.m}{T.Lsome.F.kp}{T.Lsome.b}{BY}{DC}0ADGCBMGI4{DH.nd}{Or.inl rfl}SR{FX}3AH1ACBBKSWVRCNNKGCBNKI{BN}{T.z_len}{PySem.boot_len}3ACBX{PF}{BN}{T.z_len}{PySem.boot_len}3ACBXDGDCBBBd&5{DH.nd}U{HH}{CQ T}{hr.mono (by decide)}{T.Lrefused.m}{T.Lrefused.F.kp}{T.Lrefused.b}{BY}4A5ACBBMH{BE _}QeLEYPEr{@PW.pt _ _ _ s!"{HH}{CQ T}{hr.mono (by decide)}{T.Lrefused.m}{T.Lrefused.F.kp}{T.Lrefused.b}{BY}4A{CO}{BN}{T.z_len}{PySem.boot_len}3ACBXDGCBBMH{BE _}Q{HH}{CQ T}{hr.mono (by decide)}{T.Lrefused.m}{T.Lrefused.F.kp}{T.Lrefused.b}{BY}4ADCBBMH{BE _}Qvu"}eLEYP6{DH.nd}{Or.inl rfl}SR{FX}{FX}H1ACBBKCNK3AGH1ACBBKSWVRCNNKGCBNKI{CT}{CQ T}{hr.mono (by decide)}{T.Lrefused.m}{T.Lrefused.F.kp}{T.Lrefused.b}{BY}6ADCBBMHf{kS hu}{DP}{BP}{BJ.downR (UM T)}{hr.mono (by decide)}{T.run.m}{T.run.F.kp}{T.run.b}{BY}6ADCBBMDODnOSWWRSWWRSqqRf$#LEaaaaaaa", ?_⟩
  walk_at "rh"
  obtain ⟨k, ek, k8⟩ : ∃ k : Int, z % 9 = k ∧ 0 ≤ k ∧ k ≤ 8 := ⟨_, rfl, by omega, by omega⟩
  rw [ek]
  refine ⟨by decide, ?_⟩
  walk_at "rh"
  refine ⟨by decide, by decide, fun p hp => ?_⟩
  have u := AI.upd (o := .lst []) hp
  refine RV (lT K p k H) ⟨[], none, rfl, u, AB, RpL.nil⟩ ?_ ?_
  ·rintro i σ H2 hi ⟨us, o1, rfl, s2, h2, r2⟩
   have lus : us.length ≤ 5000 := by rw [r2.length, List.length_map]; have := KZ (k := k) i; have : i < 10 := hi; omega
   walk_at "rd"
   rw [Int.zero_add]
   by_cases c : (i : Int) = k
   ·rw [if_neg (by simpa using c)]
    refine nx hi ⟨us, _, rfl, s2, h2, ?_⟩
    rw [JM, if_neg (by simpa using c), List.append_nil]
    exact r2
   ·rw [if_pos c]
    refine ⟨by decide, fun p1 hp1 => ?_⟩
    have u1 := AI.upd (o := .tup [.str (Str.ofString "mark"), .int i]) hp1
    have h3 := u1 _ _ h2
    have t4 : AU (upd H2 p1 (.tup [.str (Str.ofString "mark"), .int i])) (upd (upd H2 p1 (.tup [.str (Str.ofString "mark"), .int i])) p (.lst (us ++ [.ref p1]))) := (AU.refl _).upd (FN h3)
    refine ⟨us, h3, EY lus, nx hi ⟨us ++ [.ref p1], _, rfl, (s2.trans u1).upd2 hp, AB, ?_⟩⟩
    rw [JM, if_pos c, List.map_append]
    refine RpL.t t4 ((r2.same u1).app (RpL.one ?_))
    rw [Stm.D]
    exact DZ (SqT.of AB) (AZ (FK _) (RpL.one (IK _)))
  ·rintro σ H2 ⟨us, o1, rfl, s2, h2, r2⟩
   walk_at "rh"
   have r2 : RpL K H2 ((JM k 10).map Stm.D) us := r2
   refine ⟨_, SqL.of h2, fun p1 hp1 => ?_⟩
   have u1 := AI.upd (o := .tup us) hp1
   have rm : Rp K (upd H2 p1 (.tup us)) (.tup ((JM k 10).map Stm.D)) (.ref p1) := DZ (SqT.of AB) (r2.same u1)
   have S := s2.trans u1
   generalize upd H2 p1 (.tup us) = H3 at rm S ⊢
   clear u1 hp1 s2 h2 r2 u hp
   walk_at "rh"
   refine ⟨by decide, by decide, z / 9, rfl, fun vs b H4 s4 rs hb lb => ?_⟩
   have l9 := KZ (k := k) 10
   refine ⟨_, rm.same s4, _, rs, ?_, fun vb H5 s5 rb => ?_⟩
   ·rw [List.length_map, List.length_map]; exact Nat.le_of_lt (EY (by omega))
   have rb : Rp K H5 (bD (beF k b)) vb := by rw [beF, bD, List.map_append]; exact rb
   have S := S.trans (s4.trans s5)
   have lL : (beF k b).length ≤ 14 := by rw [beF, List.length_append]; omega
   have lL1 : 1 ≤ (beF k b).length := by
    rw [beF, List.length_append]
    have : 1 ≤ (JM k (9 + 1)).length := by rw [JM, if_pos (show ((9 : Nat) : Int) ≠ k by omega), List.length_append]; simp
    have : 1 ≤ (JM k 10).length := this
    omega
   obtain ⟨L, eL⟩ : ∃ L : Nat, L = (beF k b).length := ⟨_, rfl⟩
   have k9 : k ≠ 9 := by omega
   clear rm rs s4 s5
   walk_at "rh"
   intro ve H6 s6 re
   refine ⟨by decide, fun p2 hp2 v7 H7 s7 r7 => ⟨by decide, fun p3 hp3 => ?_⟩⟩
   have u2 := AI.upd (o := .tup [.str (Str.ofString "back"), .int k]) hp2
   have u3 := AI.upd (o := .tup [.ref p2, v7]) hp3
   have s27 := u2.trans s7
   have s273 := s27.trans u3
   refine ⟨_, rb.same (s6.trans s273), [(Stm.back k).D, (Stm.go (.int 1)).D], ?_, ?_, fun vt H8 s8 r8 => ⟨by decide, fun p4 hp4 => ?_⟩⟩
   ·refine DZ (SqT.of AB) (AZ ?_ (RpL.one ?_))
    ·rw [Stm.D]; exact DZ ((s7.trans u3).tup (SqT.of AB)) (AZ (FK _) (RpL.one (IK _)))
    ·rw [Stm.D, Am.D]; exact r7.same u3
   ·rw [List.length_map]; exact Nat.le_of_lt (EY (by simp only [List.length_cons, List.length_nil]; omega))
   have u4 := AI.upd (o := .tup [ve, vt]) hp4
   have rP : Rp K (upd H8 p4 (.tup [ve, vt])) (pD [] (m1F k b)) (.ref p4) := by
    refine DM.mpr ⟨p4, _, _, rfl, SqT.of AB, ((re.same s273).same s8).same u4, ?_⟩
    have := r8.same u4
    rw [m1F, bD, List.map_append]
    exact this
   have s64 := (s6.trans s273).trans (s8.trans u4)
   have rb := rb.same s64
   have S := S.trans s64
   generalize upd H8 p4 (.tup [ve, vt]) = H9 at rP rb S ⊢
   clear s6 re hp2 s7 r7 hp3 u2 u3 s27 s273 s8 r8 hp4 u4 s64
   have ok1 := kM (k := k) hb
   obtain ⟨⟨mA, eA⟩, eB⟩ := lM k9 hb
   obtain ⟨pb, xb, rfl, hpb, rlb, lxb⟩ := HQ rb
   rw [← eL] at eA eB lxb lL lL1
   walk_at "rh"
   refine ⟨xb, .inr hpb, xb, .inr hpb, by decide, fun p5 hp5 => ⟨⟨_, SqL.of AB⟩, ?_⟩⟩
   rw [lxb]
   have u5 := AI.upd (o := .lst [.int L, .int ((L : Int) - 1), .int 0]) hp5
   have hP := AB (H := H9) (a := p5) (o := .lst [.int L, .int ((L : Int) - 1), .int 0])
   have hpb := u5.tup hpb
   have rP := rP.same u5
   have rb := rb.same u5
   have S := S.trans u5
   generalize upd H9 p5 (.lst [.int L, .int ((L : Int) - 1), .int 0]) = Ha at hP hpb rP rb S ⊢
   clear u5 hp5
   refine WN (xs := [.int L, .int ((L : Int) - 1), .int 0]) (mB z k _ pb (.ref p4) Ha) ⟨none, rfl, AI.refl _⟩ (fun i σ H7 _ z => by obtain ⟨_, rfl, s7⟩ := z; exact SqL.of (s7 _ _ hP)) ?_ ?_
   ·rintro i1 x σ Hb hx ⟨o6, rfl, s7⟩
    obtain ⟨n, rfl, ln⟩ : ∃ n : Nat, x = .int n ∧ n ≤ L := by
     match i1, hx with
     | 0, hx => cases hx; exact ⟨L, rfl, Nat.le_refl _⟩
     | 1, hx => cases hx; exact ⟨L - 1, by congr 1; omega, by omega⟩
     | 2, hx => cases hx; exact ⟨0, rfl, Nat.zero_le _⟩
     | n + 3, hx => cases hx
    walk_at "rd"
    refine ⟨.ref p4, n, _, _, rfl, rP.same s7, by omega, ok1, fun Hc s8 => ?_⟩
    obtain ⟨m2, e2⟩ := QM n (L - n) _ _ (by rw [show n + (L - n) = L by omega]; exact eA)
    rw [e2]
    dsimp only [rW]
    rw [if_neg (by simp)]
    exact ⟨_, rfl, s7.trans s8⟩
   rintro σ Hb ⟨o6, rfl, s7⟩
   have hpb := s7.tup hpb
   have rP := rP.same s7
   have rb := rb.same s7
   have S := S.trans s7
   clear s7 hP
   walk_at "rh"
   refine ⟨xb, .inr hpb, .ref p4, L + 1, _, _, by rw [lxb]; simp, rP, by omega, ok1, fun Hc s8 => ?_⟩
   rw [eB]
   dsimp only [rW]
   walk_at "rh"
   refine ⟨.ref p4, 4000, _, _, rfl, rP.same s8, by omega, ok1, fun Hd s9 => ?_⟩
   have e4 := PB (L + 1) (3999 - L) _ eB
   rw [show L + 1 + (3999 - L) = 4000 by omega] at e4
   rw [e4]
   dsimp only [rW]
   walk_at "rh"
   have s89 := s8.trans s9
   have rb := rb.same s89
   have S := S.trans s89
   clear s8 s9 s89 rP ok1 eA eB e4 hpb
   walk_at "rh"
   intro ve H6 s6 re
   refine ⟨by decide, fun p1 hp1 => ⟨by decide, fun p2 hp2 => ?_⟩⟩
   have u1 := AI.upd (o := .tup [.str (Str.ofString "mark"), .int k]) hp1
   have u2 := AI.upd (o := .tup [.ref p1]) hp2
   have u12 := u1.trans u2
   refine ⟨[(Stm.mark k).D], DZ (SqT.of AB) (RpL.one ?_), _, rb.same (s6.trans u12), ?_, fun v1 H7 s7 r7 => ⟨by decide, fun p3 hp3 v8 H8 s8 r8 => ⟨by decide, fun p4 hp4 => ?_⟩⟩⟩
   ·rw [Stm.D]; exact DZ (u2.tup (SqT.of AB)) (AZ (FK _) (RpL.one (IK _)))
   ·rw [List.length_map, ← eL]; exact Nat.le_of_lt (EY (by simp only [List.length_cons, List.length_nil]; omega))
   have u3 := AI.upd (o := .tup [.str (Str.ofString "back"), .int k]) hp3
   have u4 := AI.upd (o := .tup [.ref p3, v8]) hp4
   have s34 := (u3.trans s8).trans u4
   refine ⟨_, r7.same s34, [(Stm.back k).D, (Stm.go (.int 1)).D], ?_, ?_, fun vt Hb sb r9 => ⟨by decide, fun p6 hp6 => ?_⟩⟩
   ·refine DZ (SqT.of AB) (AZ ?_ (RpL.one ?_))
    ·rw [Stm.D]; exact DZ ((s8.trans u4).tup (SqT.of AB)) (AZ (FK _) (RpL.one (IK _)))
    ·rw [Stm.D, Am.D]; exact r8.same u4
   ·rw [List.length_append, List.length_map, ← eL]; exact Nat.le_of_lt (EY (by simp only [List.length_cons, List.length_nil]; omega))
   have u6 := AI.upd (o := .tup [ve, vt]) hp6
   have rP : Rp K (upd Hb p6 (.tup [ve, vt])) (pD [] (m2F k b)) (.ref p6) := by
    refine DM.mpr ⟨p6, _, _, rfl, SqT.of AB, (((re.same u12).same s7).same s34).same (sb.trans u6), ?_⟩
    have := r9.same u6
    rw [m2F, bD, List.map_append]
    exact this
   have S := S.trans (((s6.trans u12).trans s7).trans (s34.trans (sb.trans u6)))
   generalize upd Hb p6 (.tup [ve, vt]) = H9 at rP S ⊢
   clear s6 re hp1 hp2 u1 u2 u12 s7 r7 hp3 s8 r8 hp4 u3 u4 s34 sb r9 hp6 u6 rb
   have ok2 := kH (k := k) hb
   obtain ⟨z2, ac2, l2, e2, eW, eC⟩ := lA k9 hb lb
   walk_at "rh"
   refine ⟨.ref p6, 4000, _, _, rfl, rP, by omega, ok2, fun Hf sf => ?_⟩
   rw [eW]
   dsimp only [rW]
   walk_at "rh"
   refine ⟨.ref p6, 4000, _, _, rfl, rP.same sf, by omega, ok2, ?_⟩
   rw [eW]
   intro rr ls lc ae vp vs1 vs2 H1 s1 fls flc nlc hrr frr hls rs hlc rc hae rp
   have rc : RpL K H1 (z2.co.map Pl.D) vs2 := rc
   rw [eC, List.map_append] at rc
   obtain ⟨us, y, y2, rfl, ry⟩ : ∃ us y y2, vs2 = us ++ [y, y2] ∧ Rp K H1 p0.D y := by
    have key : ∀ (ds : List L2.D) (xs : List V), RpL K H1 (ds ++ [p0.D, e2.D]) xs → ∃ us y y2, xs = us ++ [y, y2] ∧ Rp K H1 p0.D y := by
     intro ds
     induction ds with
     | nil =>
      intro xs h
      rw [List.nil_append] at h
      obtain ⟨a, b, rfl, h1, _⟩ := UB h
      exact ⟨[], a, b, rfl, h1⟩
     | cons d ds ih =>
      intro xs h
      rw [List.cons_append, RpL] at h
      obtain ⟨v, r, rfl, _, h2⟩ := h
      obtain ⟨us, y, y2, rfl, hy⟩ := ih r h2
      exact ⟨v :: us, y, y2, rfl, hy⟩
    exact key _ _ rc
   refine ⟨_, SqT.of hrr, _, rfl, ?_⟩
   refine ⟨_, SqL.of hlc, y, gE us y y2, fun v2 H2 s2 r2 => ⟨jQ (ry.same s2) r2 (by simp [depL, dep]), ?_⟩⟩
   exact q _ ((S.trans sf).trans (s1.trans s2))
end
section
variable {P : Program} {w : World} {K : PySem.W.Frag} {mg : Str → Option Value} {base : Heap} {t : Adr}
def PV (K : PySem.W.Frag) : Sp := fun vs H Q _ => ∃ (a : Addr) (ns : List Int), vs = [.ref a] ∧ SqL K H a (ns.map V.int) ∧ ns.length ≤ 63 ∧ ∀ H', Q (.bl true) H'
def lP (a : Addr) (H : Hp) (_ : Nat) (σ : L2.St) (H2 : Hp) : Prop := ∃ o1 o2 : Option V, σ = [some (.ref a), o1, o2] ∧ AI H H2
theorem jB (T : Txt K mg t) : BJ P w K mg base CX0 12 t.a_law t.d_law ["_law_script"] (PV K) := by
 refine T.law.F.ok VG (fun vs H Q E h => ?_) (fun cdv A outer s H vs Q E hr h => ?_)
 ·obtain ⟨a, ns, rfl, _⟩ := h; rfl
 ·obtain ⟨a, ns, rfl, hS, hl, q⟩ := h
  refine ⟨_, s!"{MA rfl}{T.z_max}{boot_max}D{UU rfl}{T.z_min}{boot_min}D{BN}{T.z_len}{PySem.boot_len}0ACBXCBBXCBBXCBs1{VG.nd}U2{VG.nd}{Or.inl rfl}{DP}{WE T}{hr.mono (by decide)}{T.Lrow.m}{T.Lrow.F.kp}{T.Lrow.b}{BY}{aM T}{hr.mono (by decide)}{T.Lcell.m}{T.Lcell.F.kp}{T.Lcell.b}{BY}0A1ACBBM{GO}DDGDCBBBMDOI{@PW.pt _ _ _ s!"{NB T}{hr.mono (by decide)}{T.Lofamounts.m}{T.Lofamounts.F.kp}{T.Lofamounts.b}{BY}2ACBMht{SH T}{hr.mono (by decide)}{T.Lofmarks.m}{T.Lofmarks.F.kp}{T.Lofmarks.b}{BY}2ACBMhtvu"}eLEYPEFreLEF", ?_⟩
  walk_at "ro"
  obtain ⟨c, ec, c0, c8⟩ : ∃ c : Int, (if (if ((ns.map V.int).length : Int) < 8 then ((ns.map V.int).length : Int) else 8) > 1 then if ((ns.map V.int).length : Int) < 8 then ((ns.map V.int).length : Int) else 8 else 1) = c ∧ 0 ≤ c ∧ c ≤ 8 := by
   refine ⟨_, rfl, ?_, ?_⟩ <;> (split <;> (try split) <;> omega)
  refine ⟨_, .inl hS, ?_⟩
  rw [ec]
  refine ⟨by omega, by omega, ?_⟩
  refine RG (lP a H) ⟨none, none, rfl, AI.refl H⟩ ?_ ?_
  ·rintro i σ H2 hi ⟨o1, o2, rfl, s2⟩
   have hi8 : i < 8 := by omega
   walk_at "ro"
   refine ⟨a, ns, 0 + (i : Int), rfl, s2.seq hS, hl, by omega, by omega, fun zc => ⟨⟨by decide, by decide, by decide⟩, ?_⟩⟩
   refine ⟨zc, 10 ^ Int.toNat 15, 2, rfl, by decide, by decide, by decide, by decide, fun l xs H3 s3 fl h3 lx hx => ?_⟩
   obtain ⟨x, y, rfl⟩ : ∃ x y, xs = [x, y] := by
    match xs, lx with
    | [x, y], _ => exact ⟨x, y, rfl⟩
   have hx0 := hx x (by simp)
   walk_at "ro"
   refine ⟨_, SqL.of h3, _, rfl, ?_⟩
   refine ⟨x, rfl, hx0.1, fun H4 s4 => ?_⟩
   dsimp only
   rw [if_neg (by decide)]
   refine ⟨x, rfl, hx0.1, fun H5 s5 => ?_⟩
   dsimp only
   rw [if_neg (by decide)]
   exact ⟨_, _, rfl, (s2.trans s3).trans (s4.trans s5)⟩
  ·rintro σ H2 ⟨o1, o2, rfl, s2⟩
   exact q _
end
@[elab_as_elim] theorem KO {α : Type} {Pr : List α → Prop} (us : List α) (hl : us.length = 1) (h : ∀ a, Pr [a]) : Pr us := by
 match us, hl with
 | [a], _ => exact h a
@[elab_as_elim] theorem HI {α : Type} {Pr : List α → Prop} (us : List α) (hl : us.length = 2) (h : ∀ a b, Pr [a, b]) : Pr us := by
 match us, hl with
 | [a, b], _ => exact h a b
@[elab_as_elim] theorem aP {α : Type} {Pr : List α → Prop} (us : List α) (hl : us.length = 3) (h : ∀ a b c, Pr [a, b, c]) : Pr us := by
 match us, hl with
 | [a, b, c], _ => exact h a b c
@[elab_as_elim] theorem len4 {α : Type} {Pr : List α → Prop} (us : List α) (hl : us.length = 4) (h : ∀ a b c d, Pr [a, b, c, d]) : Pr us := by
 match us, hl with
 | [a, b, c, d], _ => exact h a b c d
theorem all_mk {l : PySem.W.OpenLaw} {w : World} {K : PySem.W.Frag} {h : Heap} {mg : Str → Option Value} {fa : Addr} (X : K.In h) (G : h.Ns mainGlobals mg) (hfa : mg "law" = some (.ref fa))
  {c_Hand : Addr}
  {c_Level : Addr}
  {c_Walk : Addr}
  {f0 : Addr} {od0 an0 : Option Addr} {sl0 : Array (Option Value)} {oc0 kV0 dc0 pm0 cd0 ct0 : Value}
  {f1 : Addr} {od1 an1 : Option Addr} {sl1 : Array (Option Value)} {oc1 kV1 dc1 pm1 cd1 ct1 : Value}
  {f2 : Addr} {od2 an2 : Option Addr} {sl2 : Array (Option Value)} {oc2 kV2 dc2 pm2 cd2 ct2 : Value}
  {f3 : Addr} {od3 an3 : Option Addr} {sl3 : Array (Option Value)} {oc3 kV3 dc3 pm3 cd3 ct3 : Value}
  {f4 : Addr} {od4 an4 : Option Addr} {sl4 : Array (Option Value)} {oc4 kV4 dc4 pm4 cd4 ct4 : Value}
  {f5 : Addr} {od5 an5 : Option Addr} {sl5 : Array (Option Value)} {oc5 kV5 dc5 pm5 cd5 ct5 : Value}
  {f6 : Addr} {od6 an6 : Option Addr} {sl6 : Array (Option Value)} {oc6 kV6 dc6 pm6 cd6 ct6 : Value}
  {f7 : Addr} {od7 an7 : Option Addr} {sl7 : Array (Option Value)} {oc7 kV7 dc7 pm7 cd7 ct7 : Value}
  {f8 : Addr} {od8 an8 : Option Addr} {sl8 : Array (Option Value)} {oc8 kV8 dc8 pm8 cd8 ct8 : Value}
  {f9 : Addr} {od9 an9 : Option Addr} {sl9 : Array (Option Value)} {oc9 kV9 dc9 pm9 cd9 ct9 : Value}
  {f10 : Addr} {od10 an10 : Option Addr} {sl10 : Array (Option Value)} {oc10 kV10 dc10 pm10 cd10 ct10 : Value}
  {f11 : Addr} {od11 an11 : Option Addr} {sl11 : Array (Option Value)} {oc11 kV11 dc11 pm11 cd11 ct11 : Value}
  {f12 : Addr} {od12 an12 : Option Addr} {sl12 : Array (Option Value)} {oc12 kV12 dc12 pm12 cd12 ct12 : Value}
  {f13 : Addr} {od13 an13 : Option Addr} {sl13 : Array (Option Value)} {oc13 kV13 dc13 pm13 cd13 ct13 : Value}
  {f14 : Addr} {od14 an14 : Option Addr} {sl14 : Array (Option Value)} {oc14 kV14 dc14 pm14 cd14 ct14 : Value}
  {f15 : Addr} {od15 an15 : Option Addr} {sl15 : Array (Option Value)} {oc15 kV15 dc15 pm15 cd15 ct15 : Value}
  {f16 : Addr} {od16 an16 : Option Addr} {sl16 : Array (Option Value)} {oc16 kV16 dc16 pm16 cd16 ct16 : Value}
  {f17 : Addr} {od17 an17 : Option Addr} {sl17 : Array (Option Value)} {oc17 kV17 dc17 pm17 cd17 ct17 : Value}
  {f18 : Addr} {od18 an18 : Option Addr} {sl18 : Array (Option Value)} {oc18 kV18 dc18 pm18 cd18 ct18 : Value}
  {f19 : Addr} {od19 an19 : Option Addr} {sl19 : Array (Option Value)} {oc19 kV19 dc19 pm19 cd19 ct19 : Value}
  {f20 : Addr} {od20 an20 : Option Addr} {sl20 : Array (Option Value)} {oc20 kV20 dc20 pm20 cd20 ct20 : Value}
  {f21 : Addr} {od21 an21 : Option Addr} {sl21 : Array (Option Value)} {oc21 kV21 dc21 pm21 cd21 ct21 : Value}
  {f22 : Addr} {od22 an22 : Option Addr} {sl22 : Array (Option Value)} {oc22 kV22 dc22 pm22 cd22 ct22 : Value}
  {f23 : Addr} {od23 an23 : Option Addr} {sl23 : Array (Option Value)} {oc23 kV23 dc23 pm23 cd23 ct23 : Value}
  {f24 : Addr} {od24 an24 : Option Addr} {sl24 : Array (Option Value)} {oc24 kV24 dc24 pm24 cd24 ct24 : Value}
  {f25 : Addr} {od25 an25 : Option Addr} {sl25 : Array (Option Value)} {oc25 kV25 dc25 pm25 cd25 ct25 : Value}
  {f26 : Addr} {od26 an26 : Option Addr} {sl26 : Array (Option Value)} {oc26 kV26 dc26 pm26 cd26 ct26 : Value}
  {f27 : Addr} {od27 an27 : Option Addr} {sl27 : Array (Option Value)} {oc27 kV27 dc27 pm27 cd27 ct27 : Value}
  {f28 : Addr} {od28 an28 : Option Addr} {sl28 : Array (Option Value)} {oc28 kV28 dc28 pm28 cd28 ct28 : Value}
  {f29 : Addr} {od29 an29 : Option Addr} {sl29 : Array (Option Value)} {oc29 kV29 dc29 pm29 cd29 ct29 : Value}
  {f30 : Addr} {od30 an30 : Option Addr} {sl30 : Array (Option Value)} {oc30 kV30 dc30 pm30 cd30 ct30 : Value}
  {f31 : Addr} {od31 an31 : Option Addr} {sl31 : Array (Option Value)} {oc31 kV31 dc31 pm31 cd31 ct31 : Value}
  {f32 : Addr} {od32 an32 : Option Addr} {sl32 : Array (Option Value)} {oc32 kV32 dc32 pm32 cd32 ct32 : Value}
  {f33 : Addr} {od33 an33 : Option Addr} {sl33 : Array (Option Value)} {oc33 kV33 dc33 pm33 cd33 ct33 : Value}
  {f34 : Addr} {od34 an34 : Option Addr} {sl34 : Array (Option Value)} {oc34 kV34 dc34 pm34 cd34 ct34 : Value}
  (aC_Hand : PySem.W.nsIn K mainGlobals "Hand" = some (some (.ref c_Hand))) (pg_Hand : PySem.W.plainGet K c_Hand Str.empty = true) (hd_Hand : PySem.W.hasDictIn K c_Hand = true) (po_Hand : PySem.W.plainOver K c_Hand = true) (sa_Hand : PySem.W.findIn K (.ref c_Hand) "__setattr__" = some (some (.builtin "object.__setattr__"))) (mk_Hand : PySem.W.makesIn K c_Hand = true) (kc_Hand : PySem.W.keepIn K (.ref c_Hand) = true)
  (n_Hand_spot : PySem.W.findIn K (.ref c_Hand) "spot" = some none)
  (n_Hand_heading : PySem.W.findIn K (.ref c_Hand) "heading" = some none)
  (n_Hand_down : PySem.W.findIn K (.ref c_Hand) "down" = some none)
  (n_Hand_ink : PySem.W.findIn K (.ref c_Hand) "ink" = some none)
  (n_Hand_turned : PySem.W.findIn K (.ref c_Hand) "turned" = some none)
  (n_Hand_marks : PySem.W.findIn K (.ref c_Hand) "marks" = some none)
  (n_Hand_strokes : PySem.W.findIn K (.ref c_Hand) "strokes" = some none)
  (n_Hand_corners : PySem.W.findIn K (.ref c_Hand) "corners" = some none)
  (aC_Level : PySem.W.nsIn K mainGlobals "Level" = some (some (.ref c_Level))) (pg_Level : PySem.W.plainGet K c_Level Str.empty = true) (hd_Level : PySem.W.hasDictIn K c_Level = true) (po_Level : PySem.W.plainOver K c_Level = true) (sa_Level : PySem.W.findIn K (.ref c_Level) "__setattr__" = some (some (.builtin "object.__setattr__"))) (mk_Level : PySem.W.makesIn K c_Level = true) (kc_Level : PySem.W.keepIn K (.ref c_Level) = true)
  (n_Level_body : PySem.W.findIn K (.ref c_Level) "body" = some none)
  (n_Level_sources : PySem.W.findIn K (.ref c_Level) "sources" = some none)
  (n_Level_at : PySem.W.findIn K (.ref c_Level) "at" = some none)
  (n_Level_begun : PySem.W.findIn K (.ref c_Level) "begun" = some none)
  (n_Level_rounds : PySem.W.findIn K (.ref c_Level) "rounds" = some none)
  (aC_Walk : PySem.W.nsIn K mainGlobals "Walk" = some (some (.ref c_Walk))) (pg_Walk : PySem.W.plainGet K c_Walk Str.empty = true) (hd_Walk : PySem.W.hasDictIn K c_Walk = true) (po_Walk : PySem.W.plainOver K c_Walk = true) (sa_Walk : PySem.W.findIn K (.ref c_Walk) "__setattr__" = some (some (.builtin "object.__setattr__"))) (mk_Walk : PySem.W.makesIn K c_Walk = true) (kc_Walk : PySem.W.keepIn K (.ref c_Walk) = true)
  (n_Walk_bodies : PySem.W.findIn K (.ref c_Walk) "bodies" = some none)
  (n_Walk_levels : PySem.W.findIn K (.ref c_Walk) "levels" = some none)
  (n_Walk_hand : PySem.W.findIn K (.ref c_Walk) "hand" = some none)
  (n_Walk_acts : PySem.W.findIn K (.ref c_Walk) "acts" = some none)
  (a0 : PySem.W.nsIn K mainGlobals "plus" = some (some (.ref f0))) (l0 : K.lookup f0 = some ⟨oc0, od0, .func (PySem.W.fnOf "plus" "plus" (AO JO) (AM JO) (AD JO) .none kV0 dc0 pm0 an0 cd0 ct0), sl0⟩) (c0 : PySem.W.codeIn K cd0 "plus" = true) (k0 : PySem.W.keepIn K (.ref f0) = true)
  (a1 : PySem.W.nsIn K mainGlobals "times" = some (some (.ref f1))) (l1 : K.lookup f1 = some ⟨oc1, od1, .func (PySem.W.fnOf "times" "times" (AO HK) (AM HK) (AD HK) .none kV1 dc1 pm1 an1 cd1 ct1), sl1⟩) (c1 : PySem.W.codeIn K cd1 "times" = true) (k1 : PySem.W.keepIn K (.ref f1) = true)
  (a2 : PySem.W.nsIn K mainGlobals "moved" = some (some (.ref f2))) (l2 : K.lookup f2 = some ⟨oc2, od2, .func (PySem.W.fnOf "moved" "moved" (AO HS) (AM HS) (AD HS) .none kV2 dc2 pm2 an2 cd2 ct2), sl2⟩) (c2 : PySem.W.codeIn K cd2 "moved" = true) (k2 : PySem.W.keepIn K (.ref f2) = true)
  (a3 : PySem.W.findIn K (.ref c_Hand) "__init__" = some (some (.ref f3))) (i3 : PySem.W.isFn K (.ref f3) = true) (l3 : K.lookup f3 = some ⟨oc3, od3, .func (PySem.W.fnOf "__init__" "Hand.__init__" (AO DU) (AM DU) (AD DU) .none kV3 dc3 pm3 an3 cd3 ct3), sl3⟩) (c3 : PySem.W.codeIn K cd3 "Hand.__init__" = true) (k3 : PySem.W.keepIn K (.ref f3) = true)
  (a4 : PySem.W.findIn K (.ref c_Hand) "come_to" = some (some (.ref f4))) (i4 : PySem.W.isFn K (.ref f4) = true) (l4 : K.lookup f4 = some ⟨oc4, od4, .func (PySem.W.fnOf "come_to" "Hand.come_to" (AO DB) (AM DB) (AD DB) .none kV4 dc4 pm4 an4 cd4 ct4), sl4⟩) (c4 : PySem.W.codeIn K cd4 "Hand.come_to" = true) (k4 : PySem.W.keepIn K (.ref f4) = true)
  (a5 : PySem.W.findIn K (.ref c_Hand) "go" = some (some (.ref f5))) (i5 : PySem.W.isFn K (.ref f5) = true) (l5 : K.lookup f5 = some ⟨oc5, od5, .func (PySem.W.fnOf "go" "Hand.go" (AO FD) (AM FD) (AD FD) .none kV5 dc5 pm5 an5 cd5 ct5), sl5⟩) (c5 : PySem.W.codeIn K cd5 "Hand.go" = true) (k5 : PySem.W.keepIn K (.ref f5) = true)
  (a6 : PySem.W.findIn K (.ref c_Hand) "turn" = some (some (.ref f6))) (i6 : PySem.W.isFn K (.ref f6) = true) (l6 : K.lookup f6 = some ⟨oc6, od6, .func (PySem.W.fnOf "turn" "Hand.turn" (AO DW) (AM DW) (AD DW) .none kV6 dc6 pm6 an6 cd6 ct6), sl6⟩) (c6 : PySem.W.codeIn K cd6 "Hand.turn" = true) (k6 : PySem.W.keepIn K (.ref f6) = true)
  (a7 : PySem.W.findIn K (.ref c_Hand) "back" = some (some (.ref f7))) (i7 : PySem.W.isFn K (.ref f7) = true) (l7 : K.lookup f7 = some ⟨oc7, od7, .func (PySem.W.fnOf "back" "Hand.back" (AO DV) (AM DV) (AD DV) .none kV7 dc7 pm7 an7 cd7 ct7), sl7⟩) (c7 : PySem.W.codeIn K cd7 "Hand.back" = true) (k7 : PySem.W.keepIn K (.ref f7) = true)
  (a8 : PySem.W.findIn K (.ref c_Hand) "act" = some (some (.ref f8))) (i8 : PySem.W.isFn K (.ref f8) = true) (l8 : K.lookup f8 = some ⟨oc8, od8, .func (PySem.W.fnOf "act" "Hand.act" (AO EQ) (AM EQ) (AD EQ) .none kV8 dc8 pm8 an8 cd8 ct8), sl8⟩) (c8 : PySem.W.codeIn K cd8 "Hand.act" = true) (k8 : PySem.W.keepIn K (.ref f8) = true)
  (a9 : PySem.W.findIn K (.ref c_Hand) "end" = some (some (.ref f9))) (i9 : PySem.W.isFn K (.ref f9) = true) (l9 : K.lookup f9 = some ⟨oc9, od9, .func (PySem.W.fnOf "end" "Hand.end" (AO EO) (AM EO) (AD EO) .none kV9 dc9 pm9 an9 cd9 ct9), sl9⟩) (c9 : PySem.W.codeIn K cd9 "Hand.end" = true) (k9 : PySem.W.keepIn K (.ref f9) = true)
  (a10 : PySem.W.nsIn K mainGlobals "worth" = some (some (.ref f10))) (l10 : K.lookup f10 = some ⟨oc10, od10, .func (PySem.W.fnOf "worth" "worth" (AO HR) (AM HR) (AD HR) .none kV10 dc10 pm10 an10 cd10 ct10), sl10⟩) (c10 : PySem.W.codeIn K cd10 "worth" = true) (k10 : PySem.W.keepIn K (.ref f10) = true)
  (a11 : PySem.W.findIn K (.ref c_Level) "__init__" = some (some (.ref f11))) (i11 : PySem.W.isFn K (.ref f11) = true) (l11 : K.lookup f11 = some ⟨oc11, od11, .func (PySem.W.fnOf "__init__" "Level.__init__" (AO DJ) (AM DJ) (AD DJ) .none kV11 dc11 pm11 an11 cd11 ct11), sl11⟩) (c11 : PySem.W.codeIn K cd11 "Level.__init__" = true) (k11 : PySem.W.keepIn K (.ref f11) = true)
  (a12 : PySem.W.findIn K (.ref c_Level) "is_at_end" = some (some (.ref f12))) (i12 : PySem.W.isFn K (.ref f12) = true) (l12 : K.lookup f12 = some ⟨oc12, od12, .func (PySem.W.fnOf "is_at_end" "Level.is_at_end" (AO CM) (AM CM) (AD CM) .none kV12 dc12 pm12 an12 cd12 ct12), sl12⟩) (c12 : PySem.W.codeIn K cd12 "Level.is_at_end" = true) (k12 : PySem.W.keepIn K (.ref f12) = true)
  (a13 : PySem.W.findIn K (.ref c_Level) "is_through" = some (some (.ref f13))) (i13 : PySem.W.isFn K (.ref f13) = true) (l13 : K.lookup f13 = some ⟨oc13, od13, .func (PySem.W.fnOf "is_through" "Level.is_through" (AO CB) (AM CB) (AD CB) .none kV13 dc13 pm13 an13 cd13 ct13), sl13⟩) (c13 : PySem.W.codeIn K cd13 "Level.is_through" = true) (k13 : PySem.W.keepIn K (.ref f13) = true)
  (a14 : PySem.W.findIn K (.ref c_Level) "begin_round" = some (some (.ref f14))) (i14 : PySem.W.isFn K (.ref f14) = true) (l14 : K.lookup f14 = some ⟨oc14, od14, .func (PySem.W.fnOf "begin_round" "Level.begin_round" (AO BX) (AM BX) (AD BX) .none kV14 dc14 pm14 an14 cd14 ct14), sl14⟩) (c14 : PySem.W.codeIn K cd14 "Level.begin_round" = true) (k14 : PySem.W.keepIn K (.ref f14) = true)
  (a15 : PySem.W.findIn K (.ref c_Level) "next_statement" = some (some (.ref f15))) (i15 : PySem.W.isFn K (.ref f15) = true) (l15 : K.lookup f15 = some ⟨oc15, od15, .func (PySem.W.fnOf "next_statement" "Level.next_statement" (AO BM) (AM BM) (AD BM) .none kV15 dc15 pm15 an15 cd15 ct15), sl15⟩) (c15 : PySem.W.codeIn K cd15 "Level.next_statement" = true) (k15 : PySem.W.keepIn K (.ref f15) = true)
  (a16 : PySem.W.nsIn K mainGlobals "again_level" = some (some (.ref f16))) (l16 : K.lookup f16 = some ⟨oc16, od16, .func (PySem.W.fnOf "again_level" "again_level" (AO DL) (AM DL) (AD DL) .none kV16 dc16 pm16 an16 cd16 ct16), sl16⟩) (c16 : PySem.W.codeIn K cd16 "again_level" = true) (k16 : PySem.W.keepIn K (.ref f16) = true)
  (a17 : PySem.W.findIn K (.ref c_Walk) "__init__" = some (some (.ref f17))) (i17 : PySem.W.isFn K (.ref f17) = true) (l17 : K.lookup f17 = some ⟨oc17, od17, .func (PySem.W.fnOf "__init__" "Walk.__init__" (AO DE) (AM DE) (AD DE) .none kV17 dc17 pm17 an17 cd17 ct17), sl17⟩) (c17 : PySem.W.codeIn K cd17 "Walk.__init__" = true) (k17 : PySem.W.keepIn K (.ref f17) = true)
  (a18 : PySem.W.findIn K (.ref c_Walk) "is_done" = some (some (.ref f18))) (i18 : PySem.W.isFn K (.ref f18) = true) (l18 : K.lookup f18 = some ⟨oc18, od18, .func (PySem.W.fnOf "is_done" "Walk.is_done" (AO DA) (AM DA) (AD DA) .none kV18 dc18 pm18 an18 cd18 ct18), sl18⟩) (c18 : PySem.W.codeIn K cd18 "Walk.is_done" = true) (k18 : PySem.W.keepIn K (.ref f18) = true)
  (a19 : PySem.W.findIn K (.ref c_Walk) "do_deed" = some (some (.ref f19))) (i19 : PySem.W.isFn K (.ref f19) = true) (l19 : K.lookup f19 = some ⟨oc19, od19, .func (PySem.W.fnOf "do_deed" "Walk.do_deed" (AO DD) (AM DD) (AD DD) .none kV19 dc19 pm19 an19 cd19 ct19), sl19⟩) (c19 : PySem.W.codeIn K cd19 "Walk.do_deed" = true) (k19 : PySem.W.keepIn K (.ref f19) = true)
  (a20 : PySem.W.findIn K (.ref c_Walk) "begin" = some (some (.ref f20))) (i20 : PySem.W.isFn K (.ref f20) = true) (l20 : K.lookup f20 = some ⟨oc20, od20, .func (PySem.W.fnOf "begin" "Walk.begin" (AO CY) (AM CY) (AD CY) .none kV20 dc20 pm20 an20 cd20 ct20), sl20⟩) (c20 : PySem.W.codeIn K cd20 "Walk.begin" = true) (k20 : PySem.W.keepIn K (.ref f20) = true)
  (a21 : PySem.W.findIn K (.ref c_Walk) "act" = some (some (.ref f21))) (i21 : PySem.W.isFn K (.ref f21) = true) (l21 : K.lookup f21 = some ⟨oc21, od21, .func (PySem.W.fnOf "act" "Walk.act" (AO EK) (AM EK) (AD EK) .none kV21 dc21 pm21 an21 cd21 ct21), sl21⟩) (c21 : PySem.W.codeIn K cd21 "Walk.act" = true) (k21 : PySem.W.keepIn K (.ref f21) = true)
  (a22 : PySem.W.nsIn K mainGlobals "walked" = some (some (.ref f22))) (l22 : K.lookup f22 = some ⟨oc22, od22, .func (PySem.W.fnOf "walked" "walked" (AO FU) (AM FU) (AD FU) .none kV22 dc22 pm22 an22 cd22 ct22), sl22⟩) (c22 : PySem.W.codeIn K cd22 "walked" = true) (k22 : PySem.W.keepIn K (.ref f22) = true)
  (a23 : PySem.W.nsIn K mainGlobals "run" = some (some (.ref f23))) (l23 : K.lookup f23 = some ⟨oc23, od23, .func (PySem.W.fnOf "run" "run" (AO OF) (AM OF) (AD OF) .none kV23 dc23 pm23 an23 cd23 ct23), sl23⟩) (c23 : PySem.W.codeIn K cd23 "run" = true) (k23 : PySem.W.keepIn K (.ref f23) = true)
  (a24 : PySem.W.nsIn K mainGlobals "_law_cell" = some (some (.ref f24))) (l24 : K.lookup f24 = some ⟨oc24, od24, .func (PySem.W.fnOf "_law_cell" "_law_cell" (AO HZ) (AM HZ) (AD HZ) .none kV24 dc24 pm24 an24 cd24 ct24), sl24⟩) (c24 : PySem.W.codeIn K cd24 "_law_cell" = true) (k24 : PySem.W.keepIn K (.ref f24) = true)
  (a25 : PySem.W.nsIn K mainGlobals "_law_mixed" = some (some (.ref f25))) (l25 : K.lookup f25 = some ⟨oc25, od25, .func (PySem.W.fnOf "_law_mixed" "_law_mixed" (AO FZ) (AM FZ) (AD FZ) .none kV25 dc25 pm25 an25 cd25 ct25), sl25⟩) (c25 : PySem.W.codeIn K cd25 "_law_mixed" = true) (k25 : PySem.W.keepIn K (.ref f25) = true)
  (a26 : PySem.W.nsIn K mainGlobals "_law_row" = some (some (.ref f26))) (l26 : K.lookup f26 = some ⟨oc26, od26, .func (PySem.W.fnOf "_law_row" "_law_row" (AO IQ) (AM IQ) (AD IQ) .none kV26 dc26 pm26 an26 cd26 ct26), sl26⟩) (c26 : PySem.W.codeIn K cd26 "_law_row" = true) (k26 : PySem.W.keepIn K (.ref f26) = true)
  (a27 : PySem.W.nsIn K mainGlobals "_law_refused" = some (some (.ref f27))) (l27 : K.lookup f27 = some ⟨oc27, od27, .func (PySem.W.fnOf "_law_refused" "_law_refused" (AO ES) (AM ES) (AD ES) .none kV27 dc27 pm27 an27 cd27 ct27), sl27⟩) (c27 : PySem.W.codeIn K cd27 "_law_refused" = true) (k27 : PySem.W.keepIn K (.ref f27) = true)
  (a28 : PySem.W.nsIn K mainGlobals "_law_some" = some (some (.ref f28))) (l28 : K.lookup f28 = some ⟨oc28, od28, .func (PySem.W.fnOf "_law_some" "_law_some" (AO GQ) (AM GQ) (AD GQ) .none kV28 dc28 pm28 an28 cd28 ct28), sl28⟩) (c28 : PySem.W.codeIn K cd28 "_law_some" = true) (k28 : PySem.W.keepIn K (.ref f28) = true)
  (a29 : PySem.W.nsIn K mainGlobals "_law_amount" = some (some (.ref f29))) (l29 : K.lookup f29 = some ⟨oc29, od29, .func (PySem.W.fnOf "_law_amount" "_law_amount" (AO FE) (AM FE) (AD FE) .none kV29 dc29 pm29 an29 cd29 ct29), sl29⟩) (c29 : PySem.W.codeIn K cd29 "_law_amount" = true) (k29 : PySem.W.keepIn K (.ref f29) = true)
  (a30 : PySem.W.nsIn K mainGlobals "_law_last" = some (some (.ref f30))) (l30 : K.lookup f30 = some ⟨oc30, od30, .func (PySem.W.fnOf "_law_last" "_law_last" (AO HP) (AM HP) (AD HP) .none kV30 dc30 pm30 an30 cd30 ct30), sl30⟩) (c30 : PySem.W.codeIn K cd30 "_law_last" = true) (k30 : PySem.W.keepIn K (.ref f30) = true)
  (a31 : PySem.W.nsIn K mainGlobals "_law_program" = some (some (.ref f31))) (l31 : K.lookup f31 = some ⟨oc31, od31, .func (PySem.W.fnOf "_law_program" "_law_program" (AO ER) (AM ER) (AD ER) .none kV31 dc31 pm31 an31 cd31 ct31), sl31⟩) (c31 : PySem.W.codeIn K cd31 "_law_program" = true) (k31 : PySem.W.keepIn K (.ref f31) = true)
  (a32 : PySem.W.nsIn K mainGlobals "_law_of_amounts" = some (some (.ref f32))) (l32 : K.lookup f32 = some ⟨oc32, od32, .func (PySem.W.fnOf "_law_of_amounts" "_law_of_amounts" (AO DK) (AM DK) (AD DK) .none kV32 dc32 pm32 an32 cd32 ct32), sl32⟩) (c32 : PySem.W.codeIn K cd32 "_law_of_amounts" = true) (k32 : PySem.W.keepIn K (.ref f32) = true)
  (a33 : PySem.W.nsIn K mainGlobals "_law_of_marks" = some (some (.ref f33))) (l33 : K.lookup f33 = some ⟨oc33, od33, .func (PySem.W.fnOf "_law_of_marks" "_law_of_marks" (AO DQ) (AM DQ) (AD DQ) .none kV33 dc33 pm33 an33 cd33 ct33), sl33⟩) (c33 : PySem.W.codeIn K cd33 "_law_of_marks" = true) (k33 : PySem.W.keepIn K (.ref f33) = true)
  (a34 : PySem.W.nsIn K mainGlobals "law" = some (some (.ref f34))) (l34 : K.lookup f34 = some ⟨oc34, od34, .func (PySem.W.fnOf "law" "law" (AO OH) (AM OH) (AD OH) .none kV34 dc34 pm34 an34 cd34 ct34), sl34⟩) (c34 : PySem.W.codeIn K cd34 "law" = true) (k34 : PySem.W.keepIn K (.ref f34) = true)
  (z_ValueError : PySem.W.nsIn K mainGlobals "ValueError" = some none)
  (z_dict : PySem.W.nsIn K mainGlobals "dict" = some none)
  (z_int : PySem.W.nsIn K mainGlobals "int" = some none)
  (z_isinstance : PySem.W.nsIn K mainGlobals "isinstance" = some none)
  (z_len : PySem.W.nsIn K mainGlobals "len" = some none)
  (z_max : PySem.W.nsIn K mainGlobals "max" = some none)
  (z_min : PySem.W.nsIn K mainGlobals "min" = some none)
  (z_range : PySem.W.nsIn K mainGlobals "range" = some none)
  (z_tuple : PySem.W.nsIn K mainGlobals "tuple" = some none)
  (z_zip : PySem.W.nsIn K mainGlobals "zip" = some none)
  {u_ROUND : Value} (g_ROUND : PySem.W.nsIn K mainGlobals "ROUND" = some (some u_ROUND)) (k_ROUND : IR K KU u_ROUND = true)
  {u_BEGINNING : Value} (g_BEGINNING : PySem.W.nsIn K mainGlobals "BEGINNING" = some (some u_BEGINNING)) (k_BEGINNING : IR K KF u_BEGINNING = true)
  {u_STEPS : Value} (g_STEPS : PySem.W.nsIn K mainGlobals "STEPS" = some (some u_STEPS)) (k_STEPS : IR K JK u_STEPS = true)
  {u_INKS : Value} (g_INKS : PySem.W.nsIn K mainGlobals "INKS" = some (some u_INKS)) (k_INKS : IR K UT u_INKS = true)
  {u_MOST_AMOUNT : Value} (g_MOST_AMOUNT : PySem.W.nsIn K mainGlobals "MOST_AMOUNT" = some (some u_MOST_AMOUNT)) (k_MOST_AMOUNT : IR K FJ u_MOST_AMOUNT = true)
  {u_NUMBERS : Value} (g_NUMBERS : PySem.W.nsIn K mainGlobals "NUMBERS" = some (some u_NUMBERS)) (k_NUMBERS : IR K JV u_NUMBERS = true)
  {c_HouseError : Addr} (aE_HouseError : PySem.W.nsIn K mainGlobals "HouseError" = some (some (.ref c_HouseError)))
  {c_NoProgram : Addr} (aE_NoProgram : PySem.W.nsIn K mainGlobals "NoProgram" = some (some (.ref c_NoProgram)))
  {c_NoText : Addr} (aE_NoText : PySem.W.nsIn K mainGlobals "NoText" = some (some (.ref c_NoText)))
  {c_NoMark : Addr} (aE_NoMark : PySem.W.nsIn K mainGlobals "NoMark" = some (some (.ref c_NoMark)))
  {c_TooGreat : Addr} (aE_TooGreat : PySem.W.nsIn K mainGlobals "TooGreat" = some (some (.ref c_TooGreat)))
  {c_TooLong : Addr} (aE_TooLong : PySem.W.nsIn K mainGlobals "TooLong" = some (some (.ref c_TooLong)))
  {c_NotWhole : Addr} (aE_NotWhole : PySem.W.nsIn K mainGlobals "NotWhole" = some (some (.ref c_NotWhole)))
  (xE_NoProgram : CI K c_HouseError c_NoProgram = true)
  (xE_NoText : CI K c_HouseError c_NoText = true)
  (xE_NoMark : CI K c_HouseError c_NoMark = true)
  (xE_TooGreat : CI K c_HouseError c_TooGreat = true)
  (xE_TooLong : CI K c_HouseError c_TooLong = true)
  (xE_NotWhole : CI K c_HouseError c_NotWhole = true)
  (hE : NC K c_HouseError = true)
  (kE : exK K c_HouseError [c_NoProgram, c_NoText, c_NoMark, c_TooGreat, c_TooLong, c_NotWhole] = true)
  (nE : decide ([c_NoProgram, c_NoText, c_NoMark, c_TooGreat, c_TooLong, c_NotWhole].Nodup) = true)
  : ∃ fd : FuncData, (∀ (s : Shared) (v : Value), BindsTo s fd ⟨[v], []⟩ [("_law_script", v)]) ∧ ∀ base : Heap, K.In base → base.Ns mainGlobals mg → BJ l.prog w K mg base CX0 12 fa fd ["_law_script"] (PV K) := by
 have e := hfa.symm.trans (PySem.W.mg_of X G a34)
 cases e
 have F0 := BI (st := JO) l0 c0 k0
 have b0 := F0.binds (ps := ["one", "other"]) fun _ _ _ _ _ _ us hl => HI us hl (fun _ _ => rfl)
 have F1 := BI (st := HK) l1 c1 k1
 have b1 := F1.binds (ps := ["number", "factor"]) fun _ _ _ _ _ _ us hl => HI us hl (fun _ _ => rfl)
 have F2 := BI (st := HS) l2 c2 k2
 have b2 := F2.binds (ps := ["place", "heading", "steps"]) fun _ _ _ _ _ _ us hl => aP us hl (fun _ _ _ => rfl)
 have F3 := BI (st := DU) l3 c3 k3
 have b3 := F3.binds (ps := ["self"]) fun _ _ _ _ _ _ us hl => KO us hl (fun _ => rfl)
 have F4 := BI (st := DB) l4 c4 k4
 have b4 := F4.binds (ps := ["self", "spot"]) fun _ _ _ _ _ _ us hl => HI us hl (fun _ _ => rfl)
 have F5 := BI (st := FD) l5 c5 k5
 have b5 := F5.binds (ps := ["self", "steps"]) fun _ _ _ _ _ _ us hl => HI us hl (fun _ _ => rfl)
 have F6 := BI (st := DW) l6 c6 k6
 have b6 := F6.binds (ps := ["self", "eighths"]) fun _ _ _ _ _ _ us hl => HI us hl (fun _ _ => rfl)
 have F7 := BI (st := DV) l7 c7 k7
 have b7 := F7.binds (ps := ["self", "number"]) fun _ _ _ _ _ _ us hl => HI us hl (fun _ _ => rfl)
 have F8 := BI (st := EQ) l8 c8 k8
 have b8 := F8.binds (ps := ["self", "statement"]) fun _ _ _ _ _ _ us hl => HI us hl (fun _ _ => rfl)
 have F9 := BI (st := EO) l9 c9 k9
 have b9 := F9.binds (ps := ["self"]) fun _ _ _ _ _ _ us hl => KO us hl (fun _ => rfl)
 have F10 := BI (st := HR) l10 c10 k10
 have b10 := F10.binds (ps := ["amount", "sources"]) fun _ _ _ _ _ _ us hl => HI us hl (fun _ _ => rfl)
 have F11 := BI (st := DJ) l11 c11 k11
 have b11 := F11.binds (ps := ["self", "body", "sources"]) fun _ _ _ _ _ _ us hl => aP us hl (fun _ _ _ => rfl)
 have F12 := BI (st := CM) l12 c12 k12
 have b12 := F12.binds (ps := ["self"]) fun _ _ _ _ _ _ us hl => KO us hl (fun _ => rfl)
 have F13 := BI (st := CB) l13 c13 k13
 have b13 := F13.binds (ps := ["self"]) fun _ _ _ _ _ _ us hl => KO us hl (fun _ => rfl)
 have F14 := BI (st := BX) l14 c14 k14
 have b14 := F14.binds (ps := ["self"]) fun _ _ _ _ _ _ us hl => KO us hl (fun _ => rfl)
 have F15 := BI (st := BM) l15 c15 k15
 have b15 := F15.binds (ps := ["self"]) fun _ _ _ _ _ _ us hl => KO us hl (fun _ => rfl)
 have F16 := BI (st := DL) l16 c16 k16
 have b16 := F16.binds (ps := ["body", "sources", "rounds"]) fun _ _ _ _ _ _ us hl => aP us hl (fun _ _ _ => rfl)
 have F17 := BI (st := DE) l17 c17 k17
 have b17 := F17.binds (ps := ["self", "program"]) fun _ _ _ _ _ _ us hl => HI us hl (fun _ _ => rfl)
 have F18 := BI (st := DA) l18 c18 k18
 have b18 := F18.binds (ps := ["self"]) fun _ _ _ _ _ _ us hl => KO us hl (fun _ => rfl)
 have F19 := BI (st := DD) l19 c19 k19
 have b19 := F19.binds (ps := ["self"]) fun _ _ _ _ _ _ us hl => KO us hl (fun _ => rfl)
 have F20 := BI (st := CY) l20 c20 k20
 have b20 := F20.binds (ps := ["self", "statement", "sources"]) fun _ _ _ _ _ _ us hl => aP us hl (fun _ _ _ => rfl)
 have F21 := BI (st := EK) l21 c21 k21
 have b21 := F21.binds (ps := ["self", "statement"]) fun _ _ _ _ _ _ us hl => HI us hl (fun _ _ => rfl)
 have F22 := BI (st := FU) l22 c22 k22
 have b22 := F22.binds (ps := ["program", "most"]) fun _ _ _ _ _ _ us hl => HI us hl (fun _ _ => rfl)
 have F23 := BI (st := OF) l23 c23 k23
 have b23 := F23.binds (ps := ["program", "most"]) fun _ _ _ _ _ _ us hl => HI us hl (fun _ _ => rfl)
 have F24 := BI (st := HZ) l24 c24 k24
 have b24 := F24.binds (ps := ["_law_script", "_law_k"]) fun _ _ _ _ _ _ us hl => HI us hl (fun _ _ => rfl)
 have F25 := BI (st := FZ) l25 c25 k25
 have b25 := F25.binds (ps := ["_law_cell_here", "_law_k"]) fun _ _ _ _ _ _ us hl => HI us hl (fun _ _ => rfl)
 have F26 := BI (st := IQ) l26 c26 k26
 have b26 := F26.binds (ps := ["_law_cell_here", "_law_most", "_law_many"]) fun _ _ _ _ _ _ us hl => aP us hl (fun _ _ _ => rfl)
 have F27 := BI (st := ES) l27 c27 k27
 have b27 := F27.binds (ps := ["_law_program_here", "_law_most"]) fun _ _ _ _ _ _ us hl => HI us hl (fun _ _ => rfl)
 have F28 := BI (st := GQ) l28 c28 k28
 have b28 := F28.binds (ps := ["_law_cell_here"]) fun _ _ _ _ _ _ us hl => KO us hl (fun _ => rfl)
 have F29 := BI (st := FE) l29 c29 k29
 have b29 := F29.binds (ps := ["_law_cell_here", "_law_over"]) fun _ _ _ _ _ _ us hl => HI us hl (fun _ _ => rfl)
 have F30 := BI (st := HP) l30 c30 k30
 have b30 := F30.binds (ps := ["_law_cell_here", "_law_amount_here"]) fun _ _ _ _ _ _ us hl => HI us hl (fun _ _ => rfl)
 have F31 := BI (st := ER) l31 c31 k31
 have b31 := F31.binds (ps := ["_law_begin", "_law_inside", "_law_last_here", "_law_size"]) fun _ _ _ _ _ _ us hl => len4 us hl (fun _ _ _ _ => rfl)
 have F32 := BI (st := DK) l32 c32 k32
 have b32 := F32.binds (ps := ["_law_cell_here"]) fun _ _ _ _ _ _ us hl => KO us hl (fun _ => rfl)
 have F33 := BI (st := DQ) l33 c33 k33
 have b33 := F33.binds (ps := ["_law_cell_here"]) fun _ _ _ _ _ _ us hl => KO us hl (fun _ => rfl)
 have F34 := BI (st := OH) l34 c34 k34
 have b34 := F34.binds (ps := ["_law_script"]) fun _ _ _ _ _ _ us hl => KO us hl (fun _ => rfl)
 obtain ⟨v_ROUND, r_ROUND, p_ROUND⟩ := LM k_ROUND
 obtain ⟨v_BEGINNING, r_BEGINNING, p_BEGINNING⟩ := LM k_BEGINNING
 obtain ⟨v_STEPS, r_STEPS, p_STEPS⟩ := LM k_STEPS
 obtain ⟨v_INKS, r_INKS, p_INKS⟩ := LM k_INKS
 obtain ⟨v_MOST_AMOUNT, r_MOST_AMOUNT, p_MOST_AMOUNT⟩ := LM k_MOST_AMOUNT
 obtain ⟨v_NUMBERS, r_NUMBERS, p_NUMBERS⟩ := LM k_NUMBERS
 have T : Txt K mg ⟨_, _, _, _, _, _, _, _, _, _, _, _, _, _, _, _, _, _, _, _, _, _, _, _, _, _, _, _, _, _, _, _, _, _, _, _, _, _, _, _, _, _, _, _, _, _, _, _, _, _, _, _, _, _, _, _, _, _, _, _, _, _, _, _, _, _, _, _, _, _, _, _, _, _, _, _, _, _, _, _, _, _, _, _, _, c_HouseError, c_NoProgram, c_NoText, c_NoMark, c_TooGreat, c_TooLong, c_NotWhole⟩ := ⟨⟨F0, b0, PySem.W.mg_of X G a0⟩, ⟨F1, b1, PySem.W.mg_of X G a1⟩, ⟨F2, b2, PySem.W.mg_of X G a2⟩, ⟨F3, b3, ⟨mk_Hand, a3, i3, kc_Hand⟩⟩, ⟨F4, b4, ⟨a4, i4, k4⟩⟩, ⟨F5, b5, ⟨a5, i5, k5⟩⟩, ⟨F6, b6, ⟨a6, i6, k6⟩⟩, ⟨F7, b7, ⟨a7, i7, k7⟩⟩, ⟨F8, b8, ⟨a8, i8, k8⟩⟩, ⟨F9, b9, ⟨a9, i9, k9⟩⟩, ⟨F10, b10, PySem.W.mg_of X G a10⟩, ⟨F11, b11, ⟨mk_Level, a11, i11, kc_Level⟩⟩, ⟨F12, b12, ⟨a12, i12, k12⟩⟩, ⟨F13, b13, ⟨a13, i13, k13⟩⟩, ⟨F14, b14, ⟨a14, i14, k14⟩⟩, ⟨F15, b15, ⟨a15, i15, k15⟩⟩, ⟨F16, b16, PySem.W.mg_of X G a16⟩, ⟨F17, b17, ⟨mk_Walk, a17, i17, kc_Walk⟩⟩, ⟨F18, b18, ⟨a18, i18, k18⟩⟩, ⟨F19, b19, ⟨a19, i19, k19⟩⟩, ⟨F20, b20, ⟨a20, i20, k20⟩⟩, ⟨F21, b21, ⟨a21, i21, k21⟩⟩, ⟨F22, b22, PySem.W.mg_of X G a22⟩, ⟨F23, b23, PySem.W.mg_of X G a23⟩, ⟨F24, b24, PySem.W.mg_of X G a24⟩, ⟨F25, b25, PySem.W.mg_of X G a25⟩, ⟨F26, b26, PySem.W.mg_of X G a26⟩, ⟨F27, b27, PySem.W.mg_of X G a27⟩, ⟨F28, b28, PySem.W.mg_of X G a28⟩, ⟨F29, b29, PySem.W.mg_of X G a29⟩, ⟨F30, b30, PySem.W.mg_of X G a30⟩, ⟨F31, b31, PySem.W.mg_of X G a31⟩, ⟨F32, b32, PySem.W.mg_of X G a32⟩, ⟨F33, b33, PySem.W.mg_of X G a33⟩, ⟨F34, b34, PySem.W.mg_of X G a34⟩, ⟨pg_Hand, hd_Hand, po_Hand, sa_Hand⟩, PySem.W.mg_of X G aC_Hand, n_Hand_spot, n_Hand_heading, n_Hand_down, n_Hand_ink, n_Hand_turned, n_Hand_marks, n_Hand_strokes, n_Hand_corners, ⟨pg_Level, hd_Level, po_Level, sa_Level⟩, PySem.W.mg_of X G aC_Level, n_Level_body, n_Level_sources, n_Level_at, n_Level_begun, n_Level_rounds, ⟨pg_Walk, hd_Walk, po_Walk, sa_Walk⟩, PySem.W.mg_of X G aC_Walk, n_Walk_bodies, n_Walk_levels, n_Walk_hand, n_Walk_acts, PySem.W.mg_none_of X G z_ValueError, PySem.W.mg_none_of X G z_dict, PySem.W.mg_none_of X G z_int, PySem.W.mg_none_of X G z_isinstance, PySem.W.mg_none_of X G z_len, PySem.W.mg_none_of X G z_max, PySem.W.mg_none_of X G z_min, PySem.W.mg_none_of X G z_range, PySem.W.mg_none_of X G z_tuple, PySem.W.mg_none_of X G z_zip, PySem.W.mg_of X G g_ROUND, r_ROUND, p_ROUND, PySem.W.mg_of X G g_BEGINNING, r_BEGINNING, p_BEGINNING, PySem.W.mg_of X G g_STEPS, r_STEPS, p_STEPS, PySem.W.mg_of X G g_INKS, r_INKS, p_INKS, PySem.W.mg_of X G g_MOST_AMOUNT, r_MOST_AMOUNT, p_MOST_AMOUNT, PySem.W.mg_of X G g_NUMBERS, r_NUMBERS, p_NUMBERS, PySem.W.mg_of X G aE_NoProgram, xE_NoProgram, PySem.W.mg_of X G aE_NoText, xE_NoText, PySem.W.mg_of X G aE_NoMark, xE_NoMark, PySem.W.mg_of X G aE_TooGreat, xE_TooGreat, PySem.W.mg_of X G aE_TooLong, xE_TooLong, PySem.W.mg_of X G aE_NotWhole, xE_NotWhole, PySem.W.mg_of X G aE_HouseError, hE, kE, of_decide_eq_true nE⟩
 exact ⟨_, fun s v => .of_eq rfl, fun base _ _ => jB T⟩
theorem walk {l : PySem.W.OpenLaw} {q : Program} {loose : List Str} {XP : (Str → Option Value) → Heap → Prop} {YP : World → Heap → Prop} {d : DefRec} {K : Params → PySem.W.Frag} (hn : l.most = some 63) (hdf : d.params.defaults = [])
  (hY : ∀ (w : World) (h : Heap), YP w h → (K w.params).In h)
  (F : ∀ (w : World) (mg : Str → Option Value) (fa : Addr) (h : Heap), (K w.params).In h → h.Ns mainGlobals mg → mg d.name = some (.ref fa) →
   ∃ fd : FuncData, (∀ (s : Shared) (u : Value), BindsTo s fd ⟨[u], []⟩ [("_law_script", u)]) ∧ ∀ base : Heap, (K w.params).In base → base.Ns mainGlobals mg → BJ l.prog w (K w.params) mg base CX0 12 fa fd ["_law_script"] (PV (K w.params))) :
  PySem.W.WalkO q loose XP YP l.row.toRowW d [] (fun f vs => PySem.call f vs) :=
 L2.walk_of (n := 63) (k := 12) (x := "_law_script") (CX := fun _ => CX0) (sp := fun w => PV (K w.params)) hn (by decide) hdf ⟨rfl, by decide, by decide⟩ hY F (fun _ _ a ns hl _ hS => ⟨a, ns, rfl, hS, hl, fun _ => rfl⟩) fun _ _ _ _ _ z => z
end My
namespace Hd
open PySem PySem.Spec PyProof.Rows L2
noncomputable def la : List Str := List.map Str.ofString ["_law_last", "_law_cell_here", "_law_amount_here", "_law_way", "go", "turn", "ink", "again", "if", "do", "near", "_law_program", "_law_begin", "_law_inside", "_law_last_here", "_law_size", "_law_near", "_law_far", "far", "_law_of_amounts", "_law_some", "_law_ahead", "len", "int", "_law_amount", "_law_program_here", "_law_most", "max", "_law_refused", "", "great", "_law_of_marks", "_law_mark", "_law_marks", "tuple", "mark", "_law_k", "range", ".0", "back", "_law_other", "run", "fast", "law", "_law_script", "min", "_law_row", "_law_cell", "_law_mixed", "_law_number", "_law_many", "_law_found", "_law_rest", "append", "NoMark", "TooGreat", "HouseError", "error", "_law_some_here", "isinstance", "ValueError", "_law_others", "NoProgram", "NoText", "NotWhole", "TooLong", "other", "up", "down", "_law_over", "n0", "Walk", "__init__", "self", "program", "words", "body", "bodies", "name", "inner", "many", "levels", "Level", "hand", "Hand", "acts", "is_done", "is_through", "pop", "do_deed", "level", "is_at_end", "begin_round", "begin", "next_statement", "sources", "statement", "first", "again_level", "worth", "chosen", "handed", "amount", "dict", "zip", "NUMBERS", "act", "walked", "most", "walk", "deeds", "strokes", "corners", "end", "turned", "__name__", "law_turtlehouse_k24_refused", "n1", "n2", "n3", "turtlehouse.runs", "value", "factor", "source", "more", "MOST_AMOUNT", "an amount comes to more than is allowed", "at", "begun", "rounds", "count", "moved", "place", "heading", "steps", "x", "y", "east", "north", "STEPS", "ROUND", "plus", "times", "turtlehouse.hands", "INKS", "spot", "BEGINNING", "marks", "come_to", "start", "eighths", "number", "that mark was not made", "one", "turtlehouse.floor", "turtlehouse.errors", "/claim/cut.py", "__doc__", "__package__", "__loader__", "__spec__", "__annotations__", "__builtins__", "__file__", "__cached__", "__module__", "__firstlineno__", "__static_attributes__", "__weakref__", "Hand.__init__", "Hand.come_to", "Hand.go", "Hand.turn", "Hand.back", "Hand.act", "Hand.end", "__dict__", "Level.__init__", "Level.is_at_end", "Level.is_through", "Level.begin_round", "Level.next_statement", "Walk.__init__", "Walk.is_done", "Walk.do_deed", "Walk.begin", "Walk.act"]
noncomputable def lb : List Str := [⟨⟨[95,108,97,119,95,108,97,115,116]⟩⟩, ⟨⟨[95,108,97,119,95,99,101,108,108,95,104,101,114,101]⟩⟩, ⟨⟨[95,108,97,119,95,97,109,111,117,110,116,95,104,101,114,101]⟩⟩, ⟨⟨[95,108,97,119,95,119,97,121]⟩⟩, ⟨⟨[103,111]⟩⟩, ⟨⟨[116,117,114,110]⟩⟩, ⟨⟨[105,110,107]⟩⟩, ⟨⟨[97,103,97,105,110]⟩⟩, ⟨⟨[105,102]⟩⟩, ⟨⟨[100,111]⟩⟩, ⟨⟨[110,101,97,114]⟩⟩, ⟨⟨[95,108,97,119,95,112,114,111,103,114,97,109]⟩⟩, ⟨⟨[95,108,97,119,95,98,101,103,105,110]⟩⟩, ⟨⟨[95,108,97,119,95,105,110,115,105,100,101]⟩⟩, ⟨⟨[95,108,97,119,95,108,97,115,116,95,104,101,114,101]⟩⟩, ⟨⟨[95,108,97,119,95,115,105,122,101]⟩⟩, ⟨⟨[95,108,97,119,95,110,101,97,114]⟩⟩, ⟨⟨[95,108,97,119,95,102,97,114]⟩⟩, ⟨⟨[102,97,114]⟩⟩, ⟨⟨[95,108,97,119,95,111,102,95,97,109,111,117,110,116,115]⟩⟩, ⟨⟨[95,108,97,119,95,115,111,109,101]⟩⟩, ⟨⟨[95,108,97,119,95,97,104,101,97,100]⟩⟩, ⟨⟨[108,101,110]⟩⟩, ⟨⟨[105,110,116]⟩⟩, ⟨⟨[95,108,97,119,95,97,109,111,117,110,116]⟩⟩, ⟨⟨[95,108,97,119,95,112,114,111,103,114,97,109,95,104,101,114,101]⟩⟩, ⟨⟨[95,108,97,119,95,109,111,115,116]⟩⟩, ⟨⟨[109,97,120]⟩⟩, ⟨⟨[95,108,97,119,95,114,101,102,117,115,101,100]⟩⟩, ⟨⟨[]⟩⟩, ⟨⟨[103,114,101,97,116]⟩⟩, ⟨⟨[95,108,97,119,95,111,102,95,109,97,114,107,115]⟩⟩, ⟨⟨[95,108,97,119,95,109,97,114,107]⟩⟩, ⟨⟨[95,108,97,119,95,109,97,114,107,115]⟩⟩, ⟨⟨[116,117,112,108,101]⟩⟩, ⟨⟨[109,97,114,107]⟩⟩, ⟨⟨[95,108,97,119,95,107]⟩⟩, ⟨⟨[114,97,110,103,101]⟩⟩, ⟨⟨[46,48]⟩⟩, ⟨⟨[98,97,99,107]⟩⟩, ⟨⟨[95,108,97,119,95,111,116,104,101,114]⟩⟩, ⟨⟨[114,117,110]⟩⟩, ⟨⟨[102,97,115,116]⟩⟩, ⟨⟨[108,97,119]⟩⟩, ⟨⟨[95,108,97,119,95,115,99,114,105,112,116]⟩⟩, ⟨⟨[109,105,110]⟩⟩, ⟨⟨[95,108,97,119,95,114,111,119]⟩⟩, ⟨⟨[95,108,97,119,95,99,101,108,108]⟩⟩, ⟨⟨[95,108,97,119,95,109,105,120,101,100]⟩⟩, ⟨⟨[95,108,97,119,95,110,117,109,98,101,114]⟩⟩, ⟨⟨[95,108,97,119,95,109,97,110,121]⟩⟩, ⟨⟨[95,108,97,119,95,102,111,117,110,100]⟩⟩, ⟨⟨[95,108,97,119,95,114,101,115,116]⟩⟩, ⟨⟨[97,112,112,101,110,100]⟩⟩, ⟨⟨[78,111,77,97,114,107]⟩⟩, ⟨⟨[84,111,111,71,114,101,97,116]⟩⟩, ⟨⟨[72,111,117,115,101,69,114,114,111,114]⟩⟩, ⟨⟨[101,114,114,111,114]⟩⟩, ⟨⟨[95,108,97,119,95,115,111,109,101,95,104,101,114,101]⟩⟩, ⟨⟨[105,115,105,110,115,116,97,110,99,101]⟩⟩, ⟨⟨[86,97,108,117,101,69,114,114,111,114]⟩⟩, ⟨⟨[95,108,97,119,95,111,116,104,101,114,115]⟩⟩, ⟨⟨[78,111,80,114,111,103,114,97,109]⟩⟩, ⟨⟨[78,111,84,101,120,116]⟩⟩, ⟨⟨[78,111,116,87,104,111,108,101]⟩⟩, ⟨⟨[84,111,111,76,111,110,103]⟩⟩, ⟨⟨[111,116,104,101,114]⟩⟩, ⟨⟨[117,112]⟩⟩, ⟨⟨[100,111,119,110]⟩⟩, ⟨⟨[95,108,97,119,95,111,118,101,114]⟩⟩, ⟨⟨[110,48]⟩⟩, ⟨⟨[87,97,108,107]⟩⟩, ⟨⟨[95,95,105,110,105,116,95,95]⟩⟩, ⟨⟨[115,101,108,102]⟩⟩, ⟨⟨[112,114,111,103,114,97,109]⟩⟩, ⟨⟨[119,111,114,100,115]⟩⟩, ⟨⟨[98,111,100,121]⟩⟩, ⟨⟨[98,111,100,105,101,115]⟩⟩, ⟨⟨[110,97,109,101]⟩⟩, ⟨⟨[105,110,110,101,114]⟩⟩, ⟨⟨[109,97,110,121]⟩⟩, ⟨⟨[108,101,118,101,108,115]⟩⟩, ⟨⟨[76,101,118,101,108]⟩⟩, ⟨⟨[104,97,110,100]⟩⟩, ⟨⟨[72,97,110,100]⟩⟩, ⟨⟨[97,99,116,115]⟩⟩, ⟨⟨[105,115,95,100,111,110,101]⟩⟩, ⟨⟨[105,115,95,116,104,114,111,117,103,104]⟩⟩, ⟨⟨[112,111,112]⟩⟩, ⟨⟨[100,111,95,100,101,101,100]⟩⟩, ⟨⟨[108,101,118,101,108]⟩⟩, ⟨⟨[105,115,95,97,116,95,101,110,100]⟩⟩, ⟨⟨[98,101,103,105,110,95,114,111,117,110,100]⟩⟩, ⟨⟨[98,101,103,105,110]⟩⟩, ⟨⟨[110,101,120,116,95,115,116,97,116,101,109,101,110,116]⟩⟩, ⟨⟨[115,111,117,114,99,101,115]⟩⟩, ⟨⟨[115,116,97,116,101,109,101,110,116]⟩⟩, ⟨⟨[102,105,114,115,116]⟩⟩, ⟨⟨[97,103,97,105,110,95,108,101,118,101,108]⟩⟩, ⟨⟨[119,111,114,116,104]⟩⟩, ⟨⟨[99,104,111,115,101,110]⟩⟩, ⟨⟨[104,97,110,100,101,100]⟩⟩, ⟨⟨[97,109,111,117,110,116]⟩⟩, ⟨⟨[100,105,99,116]⟩⟩, ⟨⟨[122,105,112]⟩⟩, ⟨⟨[78,85,77,66,69,82,83]⟩⟩, ⟨⟨[97,99,116]⟩⟩, ⟨⟨[119,97,108,107,101,100]⟩⟩, ⟨⟨[109,111,115,116]⟩⟩, ⟨⟨[119,97,108,107]⟩⟩, ⟨⟨[100,101,101,100,115]⟩⟩, ⟨⟨[115,116,114,111,107,101,115]⟩⟩, ⟨⟨[99,111,114,110,101,114,115]⟩⟩, ⟨⟨[101,110,100]⟩⟩, ⟨⟨[116,117,114,110,101,100]⟩⟩, ⟨⟨[95,95,110,97,109,101,95,95]⟩⟩, ⟨⟨[108,97,119,95,116,117,114,116,108,101,104,111,117,115,101,95,107,50,52,95,114,101,102,117,115,101,100]⟩⟩, ⟨⟨[110,49]⟩⟩, ⟨⟨[110,50]⟩⟩, ⟨⟨[110,51]⟩⟩, ⟨⟨[116,117,114,116,108,101,104,111,117,115,101,46,114,117,110,115]⟩⟩, ⟨⟨[118,97,108,117,101]⟩⟩, ⟨⟨[102,97,99,116,111,114]⟩⟩, ⟨⟨[115,111,117,114,99,101]⟩⟩, ⟨⟨[109,111,114,101]⟩⟩, ⟨⟨[77,79,83,84,95,65,77,79,85,78,84]⟩⟩, ⟨⟨[97,110,32,97,109,111,117,110,116,32,99,111,109,101,115,32,116,111,32,109,111,114,101,32,116,104,97,110,32,105,115,32,97,108,108,111,119,101,100]⟩⟩, ⟨⟨[97,116]⟩⟩, ⟨⟨[98,101,103,117,110]⟩⟩, ⟨⟨[114,111,117,110,100,115]⟩⟩, ⟨⟨[99,111,117,110,116]⟩⟩, ⟨⟨[109,111,118,101,100]⟩⟩, ⟨⟨[112,108,97,99,101]⟩⟩, ⟨⟨[104,101,97,100,105,110,103]⟩⟩, ⟨⟨[115,116,101,112,115]⟩⟩, ⟨⟨[120]⟩⟩, ⟨⟨[121]⟩⟩, ⟨⟨[101,97,115,116]⟩⟩, ⟨⟨[110,111,114,116,104]⟩⟩, ⟨⟨[83,84,69,80,83]⟩⟩, ⟨⟨[82,79,85,78,68]⟩⟩, ⟨⟨[112,108,117,115]⟩⟩, ⟨⟨[116,105,109,101,115]⟩⟩, ⟨⟨[116,117,114,116,108,101,104,111,117,115,101,46,104,97,110,100,115]⟩⟩, ⟨⟨[73,78,75,83]⟩⟩, ⟨⟨[115,112,111,116]⟩⟩, ⟨⟨[66,69,71,73,78,78,73,78,71]⟩⟩, ⟨⟨[109,97,114,107,115]⟩⟩, ⟨⟨[99,111,109,101,95,116,111]⟩⟩, ⟨⟨[115,116,97,114,116]⟩⟩, ⟨⟨[101,105,103,104,116,104,115]⟩⟩, ⟨⟨[110,117,109,98,101,114]⟩⟩, ⟨⟨[116,104,97,116,32,109,97,114,107,32,119,97,115,32,110,111,116,32,109,97,100,101]⟩⟩, ⟨⟨[111,110,101]⟩⟩, ⟨⟨[116,117,114,116,108,101,104,111,117,115,101,46,102,108,111,111,114]⟩⟩, ⟨⟨[116,117,114,116,108,101,104,111,117,115,101,46,101,114,114,111,114,115]⟩⟩, ⟨⟨[47,99,108,97,105,109,47,99,117,116,46,112,121]⟩⟩, ⟨⟨[95,95,100,111,99,95,95]⟩⟩, ⟨⟨[95,95,112,97,99,107,97,103,101,95,95]⟩⟩, ⟨⟨[95,95,108,111,97,100,101,114,95,95]⟩⟩, ⟨⟨[95,95,115,112,101,99,95,95]⟩⟩, ⟨⟨[95,95,97,110,110,111,116,97,116,105,111,110,115,95,95]⟩⟩, ⟨⟨[95,95,98,117,105,108,116,105,110,115,95,95]⟩⟩, ⟨⟨[95,95,102,105,108,101,95,95]⟩⟩, ⟨⟨[95,95,99,97,99,104,101,100,95,95]⟩⟩, ⟨⟨[95,95,109,111,100,117,108,101,95,95]⟩⟩, ⟨⟨[95,95,102,105,114,115,116,108,105,110,101,110,111,95,95]⟩⟩, ⟨⟨[95,95,115,116,97,116,105,99,95,97,116,116,114,105,98,117,116,101,115,95,95]⟩⟩, ⟨⟨[95,95,119,101,97,107,114,101,102,95,95]⟩⟩, ⟨⟨[72,97,110,100,46,95,95,105,110,105,116,95,95]⟩⟩, ⟨⟨[72,97,110,100,46,99,111,109,101,95,116,111]⟩⟩, ⟨⟨[72,97,110,100,46,103,111]⟩⟩, ⟨⟨[72,97,110,100,46,116,117,114,110]⟩⟩, ⟨⟨[72,97,110,100,46,98,97,99,107]⟩⟩, ⟨⟨[72,97,110,100,46,97,99,116]⟩⟩, ⟨⟨[72,97,110,100,46,101,110,100]⟩⟩, ⟨⟨[95,95,100,105,99,116,95,95]⟩⟩, ⟨⟨[76,101,118,101,108,46,95,95,105,110,105,116,95,95]⟩⟩, ⟨⟨[76,101,118,101,108,46,105,115,95,97,116,95,101,110,100]⟩⟩, ⟨⟨[76,101,118,101,108,46,105,115,95,116,104,114,111,117,103,104]⟩⟩, ⟨⟨[76,101,118,101,108,46,98,101,103,105,110,95,114,111,117,110,100]⟩⟩, ⟨⟨[76,101,118,101,108,46,110,101,120,116,95,115,116,97,116,101,109,101,110,116]⟩⟩, ⟨⟨[87,97,108,107,46,95,95,105,110,105,116,95,95]⟩⟩, ⟨⟨[87,97,108,107,46,105,115,95,100,111,110,101]⟩⟩, ⟨⟨[87,97,108,107,46,100,111,95,100,101,101,100]⟩⟩, ⟨⟨[87,97,108,107,46,98,101,103,105,110]⟩⟩, ⟨⟨[87,97,108,107,46,97,99,116]⟩⟩]
theorem hl : la = lb := by
 unfold la lb
 iterate 187 (refine nA (atom _ _ (by kernel_rfl) (by kernel_rfl)) ?_)
 rfl
noncomputable def Gp : { G : Str → Str → Str → Str → Str → Str → Str → Str → Str → Str → Str → Str → Str → Str → Str → Str → Str → Str → Str → Str → Str → Str → Str → Str → Str → Str → Str → Str → Str → Str → Str → Str → Str → Str → Str → Str → Str → Str → Str → Str → Str → Str → Str → Str → Str → Str → Str → Str → Str → Str → Str → Str → Str → Str → Str → Str → Str → Str → Str → Str → Str → Str → Str → Str → Str → Str → Str → Str → Str → Str → Str → Str → Str → Str → Str → Str → Str → Str → Str → Str → Str → Str → Str → Str → Str → Str → Str → Str → Str → Str → Str → Str → Str → Str → Str → Str → Str → Str → Str → Str → Str → Str → Str → Str → Str → Str → Str → Str → Str → Str → Str → Str → Str → Str → Str → Str → Str → Str → Str → Str → Str → Str → Str → Str → Str → Str → Str → Str → Str → Str → Str → Str → Str → Str → Str → Str → Str → Str → Str → Str → Str → Str → Str → Str → Str → Str → Str → Str → Str → Str → Str → Str → Str → Str → Str → Str → Str → Program // PySem.Challenge.pw_turtlehouse_k24_refused = G (Str.ofString "_law_last") (Str.ofString "_law_cell_here") (Str.ofString "_law_amount_here") (Str.ofString "_law_way") (Str.ofString "go") (Str.ofString "turn") (Str.ofString "ink") (Str.ofString "again") (Str.ofString "if") (Str.ofString "do") (Str.ofString "near") (Str.ofString "_law_program") (Str.ofString "_law_begin") (Str.ofString "_law_inside") (Str.ofString "_law_last_here") (Str.ofString "_law_size") (Str.ofString "_law_near") (Str.ofString "_law_far") (Str.ofString "far") (Str.ofString "_law_of_amounts") (Str.ofString "_law_some") (Str.ofString "_law_ahead") (Str.ofString "len") (Str.ofString "int") (Str.ofString "_law_amount") (Str.ofString "_law_program_here") (Str.ofString "_law_most") (Str.ofString "max") (Str.ofString "_law_refused") (Str.ofString "") (Str.ofString "great") (Str.ofString "_law_of_marks") (Str.ofString "_law_mark") (Str.ofString "_law_marks") (Str.ofString "tuple") (Str.ofString "mark") (Str.ofString "_law_k") (Str.ofString "range") (Str.ofString ".0") (Str.ofString "back") (Str.ofString "_law_other") (Str.ofString "run") (Str.ofString "fast") (Str.ofString "law") (Str.ofString "_law_script") (Str.ofString "min") (Str.ofString "_law_row") (Str.ofString "_law_cell") (Str.ofString "_law_mixed") (Str.ofString "_law_number") (Str.ofString "_law_many") (Str.ofString "_law_found") (Str.ofString "_law_rest") (Str.ofString "append") (Str.ofString "NoMark") (Str.ofString "TooGreat") (Str.ofString "HouseError") (Str.ofString "error") (Str.ofString "_law_some_here") (Str.ofString "isinstance") (Str.ofString "ValueError") (Str.ofString "_law_others") (Str.ofString "NoProgram") (Str.ofString "NoText") (Str.ofString "NotWhole") (Str.ofString "TooLong") (Str.ofString "other") (Str.ofString "up") (Str.ofString "down") (Str.ofString "_law_over") (Str.ofString "n0") (Str.ofString "Walk") (Str.ofString "__init__") (Str.ofString "self") (Str.ofString "program") (Str.ofString "words") (Str.ofString "body") (Str.ofString "bodies") (Str.ofString "name") (Str.ofString "inner") (Str.ofString "many") (Str.ofString "levels") (Str.ofString "Level") (Str.ofString "hand") (Str.ofString "Hand") (Str.ofString "acts") (Str.ofString "is_done") (Str.ofString "is_through") (Str.ofString "pop") (Str.ofString "do_deed") (Str.ofString "level") (Str.ofString "is_at_end") (Str.ofString "begin_round") (Str.ofString "begin") (Str.ofString "next_statement") (Str.ofString "sources") (Str.ofString "statement") (Str.ofString "first") (Str.ofString "again_level") (Str.ofString "worth") (Str.ofString "chosen") (Str.ofString "handed") (Str.ofString "amount") (Str.ofString "dict") (Str.ofString "zip") (Str.ofString "NUMBERS") (Str.ofString "act") (Str.ofString "walked") (Str.ofString "most") (Str.ofString "walk") (Str.ofString "deeds") (Str.ofString "strokes") (Str.ofString "corners") (Str.ofString "end") (Str.ofString "turned") (Str.ofString "__name__") (Str.ofString "law_turtlehouse_k24_refused") (Str.ofString "n1") (Str.ofString "n2") (Str.ofString "n3") (Str.ofString "turtlehouse.runs") (Str.ofString "value") (Str.ofString "factor") (Str.ofString "source") (Str.ofString "more") (Str.ofString "MOST_AMOUNT") (Str.ofString "an amount comes to more than is allowed") (Str.ofString "at") (Str.ofString "begun") (Str.ofString "rounds") (Str.ofString "count") (Str.ofString "moved") (Str.ofString "place") (Str.ofString "heading") (Str.ofString "steps") (Str.ofString "x") (Str.ofString "y") (Str.ofString "east") (Str.ofString "north") (Str.ofString "STEPS") (Str.ofString "ROUND") (Str.ofString "plus") (Str.ofString "times") (Str.ofString "turtlehouse.hands") (Str.ofString "INKS") (Str.ofString "spot") (Str.ofString "BEGINNING") (Str.ofString "marks") (Str.ofString "come_to") (Str.ofString "start") (Str.ofString "eighths") (Str.ofString "number") (Str.ofString "that mark was not made") (Str.ofString "one") (Str.ofString "turtlehouse.floor") (Str.ofString "turtlehouse.errors") (Str.ofString "/claim/cut.py") } := ⟨_, by
 unfold PySem.Challenge.pw_turtlehouse_k24_refused
 generalize Str.ofString "_law_last" = s0
 generalize Str.ofString "_law_cell_here" = s1
 generalize Str.ofString "_law_amount_here" = s2
 generalize Str.ofString "_law_way" = s3
 generalize Str.ofString "go" = s4
 generalize Str.ofString "turn" = s5
 generalize Str.ofString "ink" = s6
 generalize Str.ofString "again" = s7
 generalize Str.ofString "if" = s8
 generalize Str.ofString "do" = s9
 generalize Str.ofString "near" = s10
 generalize Str.ofString "_law_program" = s11
 generalize Str.ofString "_law_begin" = s12
 generalize Str.ofString "_law_inside" = s13
 generalize Str.ofString "_law_last_here" = s14
 generalize Str.ofString "_law_size" = s15
 generalize Str.ofString "_law_near" = s16
 generalize Str.ofString "_law_far" = s17
 generalize Str.ofString "far" = s18
 generalize Str.ofString "_law_of_amounts" = s19
 generalize Str.ofString "_law_some" = s20
 generalize Str.ofString "_law_ahead" = s21
 generalize Str.ofString "len" = s22
 generalize Str.ofString "int" = s23
 generalize Str.ofString "_law_amount" = s24
 generalize Str.ofString "_law_program_here" = s25
 generalize Str.ofString "_law_most" = s26
 generalize Str.ofString "max" = s27
 generalize Str.ofString "_law_refused" = s28
 generalize Str.ofString "" = s29
 generalize Str.ofString "great" = s30
 generalize Str.ofString "_law_of_marks" = s31
 generalize Str.ofString "_law_mark" = s32
 generalize Str.ofString "_law_marks" = s33
 generalize Str.ofString "tuple" = s34
 generalize Str.ofString "mark" = s35
 generalize Str.ofString "_law_k" = s36
 generalize Str.ofString "range" = s37
 generalize Str.ofString ".0" = s38
 generalize Str.ofString "back" = s39
 generalize Str.ofString "_law_other" = s40
 generalize Str.ofString "run" = s41
 generalize Str.ofString "fast" = s42
 generalize Str.ofString "law" = s43
 generalize Str.ofString "_law_script" = s44
 generalize Str.ofString "min" = s45
 generalize Str.ofString "_law_row" = s46
 generalize Str.ofString "_law_cell" = s47
 generalize Str.ofString "_law_mixed" = s48
 generalize Str.ofString "_law_number" = s49
 generalize Str.ofString "_law_many" = s50
 generalize Str.ofString "_law_found" = s51
 generalize Str.ofString "_law_rest" = s52
 generalize Str.ofString "append" = s53
 generalize Str.ofString "NoMark" = s54
 generalize Str.ofString "TooGreat" = s55
 generalize Str.ofString "HouseError" = s56
 generalize Str.ofString "error" = s57
 generalize Str.ofString "_law_some_here" = s58
 generalize Str.ofString "isinstance" = s59
 generalize Str.ofString "ValueError" = s60
 generalize Str.ofString "_law_others" = s61
 generalize Str.ofString "NoProgram" = s62
 generalize Str.ofString "NoText" = s63
 generalize Str.ofString "NotWhole" = s64
 generalize Str.ofString "TooLong" = s65
 generalize Str.ofString "other" = s66
 generalize Str.ofString "up" = s67
 generalize Str.ofString "down" = s68
 generalize Str.ofString "_law_over" = s69
 generalize Str.ofString "n0" = s70
 generalize Str.ofString "Walk" = s71
 generalize Str.ofString "__init__" = s72
 generalize Str.ofString "self" = s73
 generalize Str.ofString "program" = s74
 generalize Str.ofString "words" = s75
 generalize Str.ofString "body" = s76
 generalize Str.ofString "bodies" = s77
 generalize Str.ofString "name" = s78
 generalize Str.ofString "inner" = s79
 generalize Str.ofString "many" = s80
 generalize Str.ofString "levels" = s81
 generalize Str.ofString "Level" = s82
 generalize Str.ofString "hand" = s83
 generalize Str.ofString "Hand" = s84
 generalize Str.ofString "acts" = s85
 generalize Str.ofString "is_done" = s86
 generalize Str.ofString "is_through" = s87
 generalize Str.ofString "pop" = s88
 generalize Str.ofString "do_deed" = s89
 generalize Str.ofString "level" = s90
 generalize Str.ofString "is_at_end" = s91
 generalize Str.ofString "begin_round" = s92
 generalize Str.ofString "begin" = s93
 generalize Str.ofString "next_statement" = s94
 generalize Str.ofString "sources" = s95
 generalize Str.ofString "statement" = s96
 generalize Str.ofString "first" = s97
 generalize Str.ofString "again_level" = s98
 generalize Str.ofString "worth" = s99
 generalize Str.ofString "chosen" = s100
 generalize Str.ofString "handed" = s101
 generalize Str.ofString "amount" = s102
 generalize Str.ofString "dict" = s103
 generalize Str.ofString "zip" = s104
 generalize Str.ofString "NUMBERS" = s105
 generalize Str.ofString "act" = s106
 generalize Str.ofString "walked" = s107
 generalize Str.ofString "most" = s108
 generalize Str.ofString "walk" = s109
 generalize Str.ofString "deeds" = s110
 generalize Str.ofString "strokes" = s111
 generalize Str.ofString "corners" = s112
 generalize Str.ofString "end" = s113
 generalize Str.ofString "turned" = s114
 generalize Str.ofString "__name__" = s115
 generalize Str.ofString "law_turtlehouse_k24_refused" = s116
 generalize Str.ofString "n1" = s117
 generalize Str.ofString "n2" = s118
 generalize Str.ofString "n3" = s119
 generalize Str.ofString "turtlehouse.runs" = s120
 generalize Str.ofString "value" = s121
 generalize Str.ofString "factor" = s122
 generalize Str.ofString "source" = s123
 generalize Str.ofString "more" = s124
 generalize Str.ofString "MOST_AMOUNT" = s125
 generalize Str.ofString "an amount comes to more than is allowed" = s126
 generalize Str.ofString "at" = s127
 generalize Str.ofString "begun" = s128
 generalize Str.ofString "rounds" = s129
 generalize Str.ofString "count" = s130
 generalize Str.ofString "moved" = s131
 generalize Str.ofString "place" = s132
 generalize Str.ofString "heading" = s133
 generalize Str.ofString "steps" = s134
 generalize Str.ofString "x" = s135
 generalize Str.ofString "y" = s136
 generalize Str.ofString "east" = s137
 generalize Str.ofString "north" = s138
 generalize Str.ofString "STEPS" = s139
 generalize Str.ofString "ROUND" = s140
 generalize Str.ofString "plus" = s141
 generalize Str.ofString "times" = s142
 generalize Str.ofString "turtlehouse.hands" = s143
 generalize Str.ofString "INKS" = s144
 generalize Str.ofString "spot" = s145
 generalize Str.ofString "BEGINNING" = s146
 generalize Str.ofString "marks" = s147
 generalize Str.ofString "come_to" = s148
 generalize Str.ofString "start" = s149
 generalize Str.ofString "eighths" = s150
 generalize Str.ofString "number" = s151
 generalize Str.ofString "that mark was not made" = s152
 generalize Str.ofString "one" = s153
 generalize Str.ofString "turtlehouse.floor" = s154
 generalize Str.ofString "turtlehouse.errors" = s155
 generalize Str.ofString "/claim/cut.py" = s156
 exact rfl⟩
noncomputable def GL (l : List Str) : Program := Gp.1 (nm l 0) (nm l 1) (nm l 2) (nm l 3) (nm l 4) (nm l 5) (nm l 6) (nm l 7) (nm l 8) (nm l 9) (nm l 10) (nm l 11) (nm l 12) (nm l 13) (nm l 14) (nm l 15) (nm l 16) (nm l 17) (nm l 18) (nm l 19) (nm l 20) (nm l 21) (nm l 22) (nm l 23) (nm l 24) (nm l 25) (nm l 26) (nm l 27) (nm l 28) (nm l 29) (nm l 30) (nm l 31) (nm l 32) (nm l 33) (nm l 34) (nm l 35) (nm l 36) (nm l 37) (nm l 38) (nm l 39) (nm l 40) (nm l 41) (nm l 42) (nm l 43) (nm l 44) (nm l 45) (nm l 46) (nm l 47) (nm l 48) (nm l 49) (nm l 50) (nm l 51) (nm l 52) (nm l 53) (nm l 54) (nm l 55) (nm l 56) (nm l 57) (nm l 58) (nm l 59) (nm l 60) (nm l 61) (nm l 62) (nm l 63) (nm l 64) (nm l 65) (nm l 66) (nm l 67) (nm l 68) (nm l 69) (nm l 70) (nm l 71) (nm l 72) (nm l 73) (nm l 74) (nm l 75) (nm l 76) (nm l 77) (nm l 78) (nm l 79) (nm l 80) (nm l 81) (nm l 82) (nm l 83) (nm l 84) (nm l 85) (nm l 86) (nm l 87) (nm l 88) (nm l 89) (nm l 90) (nm l 91) (nm l 92) (nm l 93) (nm l 94) (nm l 95) (nm l 96) (nm l 97) (nm l 98) (nm l 99) (nm l 100) (nm l 101) (nm l 102) (nm l 103) (nm l 104) (nm l 105) (nm l 106) (nm l 107) (nm l 108) (nm l 109) (nm l 110) (nm l 111) (nm l 112) (nm l 113) (nm l 114) (nm l 115) (nm l 116) (nm l 117) (nm l 118) (nm l 119) (nm l 120) (nm l 121) (nm l 122) (nm l 123) (nm l 124) (nm l 125) (nm l 126) (nm l 127) (nm l 128) (nm l 129) (nm l 130) (nm l 131) (nm l 132) (nm l 133) (nm l 134) (nm l 135) (nm l 136) (nm l 137) (nm l 138) (nm l 139) (nm l 140) (nm l 141) (nm l 142) (nm l 143) (nm l 144) (nm l 145) (nm l 146) (nm l 147) (nm l 148) (nm l 149) (nm l 150) (nm l 151) (nm l 152) (nm l 153) (nm l 154) (nm l 155) (nm l 156)
theorem hp : PySem.Challenge.pw_turtlehouse_k24_refused = GL lb := Gp.2.trans (congrArg GL hl)
noncomputable def _root_.PySem.W.Fast.tw8009268338657031006 : Program := GL lb
theorem _root_.PySem.W.Fast.te8009268338657031006 : PySem.Challenge.pw_turtlehouse_k24_refused = PySem.W.Fast.tw8009268338657031006 := hp
noncomputable def KL (p : Program) (l : List Str) (P : Params) : PySem.W.Frag := [
 (3, ⟨(.type "dict"), none, .dict ⟨[de P (nm l 115) 165 (.str (nm l 116) 642), de P (nm l 157) 166 .none, de P (nm l 158) 167 .none, de P (nm l 159) 168 (.builtin "__main__.__loader__#opaque"), de P (nm l 160) 169 .none, de P (nm l 161) 170 (.ref 6), de P (nm l 162) 171 (.ref 4), de P (nm l 163) 173 (.str (nm l 156) 172), de P (nm l 164) 174 .none, de P (nm l 56) 206 (.ref 24), de P (nm l 62) 222 (.ref 37), de P (nm l 63) 238 (.ref 49), de P (nm l 54) 254 (.ref 61), de P (nm l 55) 270 (.ref 73), de P (nm l 65) 286 (.ref 85), de P (nm l 64) 302 (.ref 97), de P (nm l 140) 306 (.int (8) 305), de P (nm l 146) 311 (.ref 102), de P (nm l 139) 350 (.ref 127), de P (nm l 141) 358 (.ref 134), de P (nm l 142) 366 (.ref 141), de P (nm l 131) 379 (.ref 148), de P (nm l 144) 383 (.int (8) 382), de P (nm l 84) 469 (.ref 207), de P (nm l 125) 471 (.int (1000000) 470), de P (nm l 105) 476 (.ref 212), de P (nm l 99) 490 (.ref 219), de P (nm l 82) 552 (.ref 264), de P (nm l 98) 562 (.ref 275), de P (nm l 71) 621 (.ref 316), de P (nm l 107) 631 (.ref 327), de P (nm l 41) 641 (.ref 334), de P (nm l 47) 652 (.ref 341), de P (nm l 48) 661 (.ref 348), de P (nm l 46) 667 (.ref 353), de P (nm l 28) 679 (.ref 360), de P (nm l 20) 685 (.ref 365), de P (nm l 24) 694 (.ref 372), de P (nm l 0) 703 (.ref 379), de P (nm l 11) 715 (.ref 386), de P (nm l 19) 728 (.ref 393), de P (nm l 31) 734 (.ref 398), de P (nm l 43) 743 (.ref 405)]⟩ 43, ⟨[]⟩⟩),
 (22, ⟨(.type "tuple"), none, .seq ⟨[]⟩ 0, ⟨[]⟩⟩),
 (23, ⟨(.type "dict"), none, .dict ⟨[de P (nm l 165) 196 (.str (nm l 155) 187), de P (nm l 166) 200 (.int (2) 199), de P (nm l 167) 201 (.ref 22), de P (nm l 168) 203 (.ref 25), de P (nm l 157) 204 .none]⟩ 3, ⟨[]⟩⟩),
 (24, ⟨(.type "type"), none, .cls { name := nm l 56, bases := [(.type "ValueError")], mro := [(.ref 24), (.type "ValueError"), (.type "Exception"), (.type "BaseException"), (.type "object")], ns := 23, qualname := nm l 56, hasDict := true, slotNames := [], subclasses := [(.ref 37), (.ref 49), (.ref 61), (.ref 73), (.ref 85), (.ref 97)], abstract := false, collection := none, hasDel := false }, ⟨[(some (.ref 15)), none, (some (.str (nm l 56) 189)), (some (.str (nm l 56) 197)), (some (.builtin "ValueError.__new__")), (some (.bool true))]⟩⟩),
 (25, ⟨(.type "getset_descriptor"), none, .fields ⟨[(.str (nm l 168) 202), (.ref 24), (.builtin "ExceptionGroup.__weakref__"), .none]⟩, ⟨[]⟩⟩),
 (35, ⟨(.type "tuple"), none, .seq ⟨[]⟩ 0, ⟨[]⟩⟩),
 (36, ⟨(.type "dict"), none, .dict ⟨[de P (nm l 165) 214 (.str (nm l 155) 187), de P (nm l 166) 218 (.int (4) 217), de P (nm l 167) 219 (.ref 35), de P (nm l 157) 220 .none]⟩ 2, ⟨[]⟩⟩),
 (37, ⟨(.type "type"), none, .cls { name := nm l 62, bases := [(.ref 24)], mro := [(.ref 37), (.ref 24), (.type "ValueError"), (.type "Exception"), (.type "BaseException"), (.type "object")], ns := 36, qualname := nm l 62, hasDict := true, slotNames := [], subclasses := [], abstract := false, collection := none, hasDel := false }, ⟨[(some (.ref 28)), none, (some (.str (nm l 62) 207)), (some (.str (nm l 62) 215)), (some (.builtin "ValueError.__new__")), (some (.bool true))]⟩⟩),
 (47, ⟨(.type "tuple"), none, .seq ⟨[]⟩ 0, ⟨[]⟩⟩),
 (48, ⟨(.type "dict"), none, .dict ⟨[de P (nm l 165) 230 (.str (nm l 155) 187), de P (nm l 166) 234 (.int (6) 233), de P (nm l 167) 235 (.ref 47), de P (nm l 157) 236 .none]⟩ 2, ⟨[]⟩⟩),
 (49, ⟨(.type "type"), none, .cls { name := nm l 63, bases := [(.ref 24)], mro := [(.ref 49), (.ref 24), (.type "ValueError"), (.type "Exception"), (.type "BaseException"), (.type "object")], ns := 48, qualname := nm l 63, hasDict := true, slotNames := [], subclasses := [], abstract := false, collection := none, hasDel := false }, ⟨[(some (.ref 40)), none, (some (.str (nm l 63) 223)), (some (.str (nm l 63) 231)), (some (.builtin "ValueError.__new__")), (some (.bool true))]⟩⟩),
 (59, ⟨(.type "tuple"), none, .seq ⟨[]⟩ 0, ⟨[]⟩⟩),
 (60, ⟨(.type "dict"), none, .dict ⟨[de P (nm l 165) 246 (.str (nm l 155) 187), de P (nm l 166) 250 (.int (8) 249), de P (nm l 167) 251 (.ref 59), de P (nm l 157) 252 .none]⟩ 2, ⟨[]⟩⟩),
 (61, ⟨(.type "type"), none, .cls { name := nm l 54, bases := [(.ref 24)], mro := [(.ref 61), (.ref 24), (.type "ValueError"), (.type "Exception"), (.type "BaseException"), (.type "object")], ns := 60, qualname := nm l 54, hasDict := true, slotNames := [], subclasses := [], abstract := false, collection := none, hasDel := false }, ⟨[(some (.ref 52)), none, (some (.str (nm l 54) 239)), (some (.str (nm l 54) 247)), (some (.builtin "ValueError.__new__")), (some (.bool true))]⟩⟩),
 (71, ⟨(.type "tuple"), none, .seq ⟨[]⟩ 0, ⟨[]⟩⟩),
 (72, ⟨(.type "dict"), none, .dict ⟨[de P (nm l 165) 262 (.str (nm l 155) 187), de P (nm l 166) 266 (.int (10) 265), de P (nm l 167) 267 (.ref 71), de P (nm l 157) 268 .none]⟩ 2, ⟨[]⟩⟩),
 (73, ⟨(.type "type"), none, .cls { name := nm l 55, bases := [(.ref 24)], mro := [(.ref 73), (.ref 24), (.type "ValueError"), (.type "Exception"), (.type "BaseException"), (.type "object")], ns := 72, qualname := nm l 55, hasDict := true, slotNames := [], subclasses := [], abstract := false, collection := none, hasDel := false }, ⟨[(some (.ref 64)), none, (some (.str (nm l 55) 255)), (some (.str (nm l 55) 263)), (some (.builtin "ValueError.__new__")), (some (.bool true))]⟩⟩),
 (83, ⟨(.type "tuple"), none, .seq ⟨[]⟩ 0, ⟨[]⟩⟩),
 (84, ⟨(.type "dict"), none, .dict ⟨[de P (nm l 165) 278 (.str (nm l 155) 187), de P (nm l 166) 282 (.int (12) 281), de P (nm l 167) 283 (.ref 83), de P (nm l 157) 284 .none]⟩ 2, ⟨[]⟩⟩),
 (85, ⟨(.type "type"), none, .cls { name := nm l 65, bases := [(.ref 24)], mro := [(.ref 85), (.ref 24), (.type "ValueError"), (.type "Exception"), (.type "BaseException"), (.type "object")], ns := 84, qualname := nm l 65, hasDict := true, slotNames := [], subclasses := [], abstract := false, collection := none, hasDel := false }, ⟨[(some (.ref 76)), none, (some (.str (nm l 65) 271)), (some (.str (nm l 65) 279)), (some (.builtin "ValueError.__new__")), (some (.bool true))]⟩⟩),
 (95, ⟨(.type "tuple"), none, .seq ⟨[]⟩ 0, ⟨[]⟩⟩),
 (96, ⟨(.type "dict"), none, .dict ⟨[de P (nm l 165) 294 (.str (nm l 155) 187), de P (nm l 166) 298 (.int (14) 297), de P (nm l 167) 299 (.ref 95), de P (nm l 157) 300 .none]⟩ 2, ⟨[]⟩⟩),
 (97, ⟨(.type "type"), none, .cls { name := nm l 64, bases := [(.ref 24)], mro := [(.ref 97), (.ref 24), (.type "ValueError"), (.type "Exception"), (.type "BaseException"), (.type "object")], ns := 96, qualname := nm l 64, hasDict := true, slotNames := [], subclasses := [], abstract := false, collection := none, hasDel := false }, ⟨[(some (.ref 88)), none, (some (.str (nm l 64) 287)), (some (.str (nm l 64) 295)), (some (.builtin "ValueError.__new__")), (some (.bool true))]⟩⟩),
 (100, ⟨(.type "tuple"), none, .seq ⟨[(.int (0) 307), (.int (0) 308)]⟩ 0, ⟨[]⟩⟩),
 (101, ⟨(.type "tuple"), none, .seq ⟨[(.int (0) 309), (.int (0) 310)]⟩ 0, ⟨[]⟩⟩),
 (102, ⟨(.type "tuple"), none, .seq ⟨[(.ref 100), (.ref 101)]⟩ 0, ⟨[]⟩⟩),
 (103, ⟨(.type "tuple"), none, .seq ⟨[(.int (1) 312), (.int (0) 313)]⟩ 0, ⟨[]⟩⟩),
 (104, ⟨(.type "tuple"), none, .seq ⟨[(.int (0) 314), (.int (0) 315)]⟩ 0, ⟨[]⟩⟩),
 (105, ⟨(.type "tuple"), none, .seq ⟨[(.ref 103), (.ref 104)]⟩ 0, ⟨[]⟩⟩),
 (106, ⟨(.type "tuple"), none, .seq ⟨[(.int (0) 316), (.int (1) 317)]⟩ 0, ⟨[]⟩⟩),
 (107, ⟨(.type "tuple"), none, .seq ⟨[(.int (0) 318), (.int (1) 319)]⟩ 0, ⟨[]⟩⟩),
 (108, ⟨(.type "tuple"), none, .seq ⟨[(.ref 106), (.ref 107)]⟩ 0, ⟨[]⟩⟩),
 (109, ⟨(.type "tuple"), none, .seq ⟨[(.int (0) 320), (.int (0) 321)]⟩ 0, ⟨[]⟩⟩),
 (110, ⟨(.type "tuple"), none, .seq ⟨[(.int (1) 322), (.int (0) 323)]⟩ 0, ⟨[]⟩⟩),
 (111, ⟨(.type "tuple"), none, .seq ⟨[(.ref 109), (.ref 110)]⟩ 0, ⟨[]⟩⟩),
 (112, ⟨(.type "tuple"), none, .seq ⟨[(.int (0) 324), (.int (-1) 326)]⟩ 0, ⟨[]⟩⟩),
 (113, ⟨(.type "tuple"), none, .seq ⟨[(.int (0) 327), (.int (1) 328)]⟩ 0, ⟨[]⟩⟩),
 (114, ⟨(.type "tuple"), none, .seq ⟨[(.ref 112), (.ref 113)]⟩ 0, ⟨[]⟩⟩),
 (115, ⟨(.type "tuple"), none, .seq ⟨[(.int (-1) 330), (.int (0) 331)]⟩ 0, ⟨[]⟩⟩),
 (116, ⟨(.type "tuple"), none, .seq ⟨[(.int (0) 332), (.int (0) 333)]⟩ 0, ⟨[]⟩⟩),
 (117, ⟨(.type "tuple"), none, .seq ⟨[(.ref 115), (.ref 116)]⟩ 0, ⟨[]⟩⟩),
 (118, ⟨(.type "tuple"), none, .seq ⟨[(.int (0) 334), (.int (-1) 336)]⟩ 0, ⟨[]⟩⟩),
 (119, ⟨(.type "tuple"), none, .seq ⟨[(.int (0) 337), (.int (-1) 339)]⟩ 0, ⟨[]⟩⟩),
 (120, ⟨(.type "tuple"), none, .seq ⟨[(.ref 118), (.ref 119)]⟩ 0, ⟨[]⟩⟩),
 (121, ⟨(.type "tuple"), none, .seq ⟨[(.int (0) 340), (.int (0) 341)]⟩ 0, ⟨[]⟩⟩),
 (122, ⟨(.type "tuple"), none, .seq ⟨[(.int (-1) 343), (.int (0) 344)]⟩ 0, ⟨[]⟩⟩),
 (123, ⟨(.type "tuple"), none, .seq ⟨[(.ref 121), (.ref 122)]⟩ 0, ⟨[]⟩⟩),
 (124, ⟨(.type "tuple"), none, .seq ⟨[(.int (0) 345), (.int (1) 346)]⟩ 0, ⟨[]⟩⟩),
 (125, ⟨(.type "tuple"), none, .seq ⟨[(.int (0) 347), (.int (-1) 349)]⟩ 0, ⟨[]⟩⟩),
 (126, ⟨(.type "tuple"), none, .seq ⟨[(.ref 124), (.ref 125)]⟩ 0, ⟨[]⟩⟩),
 (127, ⟨(.type "tuple"), none, .seq ⟨[(.ref 105), (.ref 108), (.ref 111), (.ref 114), (.ref 117), (.ref 120), (.ref 123), (.ref 126)]⟩ 0, ⟨[]⟩⟩),
 (133, ⟨(.type "code"), none, .fields ⟨[(.str (nm l 141) 351), (.str (nm l 141) 352), (.str (nm l 156) 353), (.int (20) 0), (.int (2) 0), (.int (0) 0), (.int (0) 0), (.int (3) 0), (.ref 128), (.bool true), (.int (181) 0), (.ref 129), .none, (.ref 130), (.ref 131), (.ref 132), (.int (356) 0), (.int (20) 0), (.str (nm l 156) 357)]⟩, ⟨[]⟩⟩),
 (134, fnO p (nm l 141) 12 .none .none (.str (nm l 154) 303) none (.ref 133) .none),
 (140, ⟨(.type "code"), none, .fields ⟨[(.str (nm l 142) 359), (.str (nm l 142) 360), (.str (nm l 156) 361), (.int (22) 0), (.int (2) 0), (.int (0) 0), (.int (0) 0), (.int (3) 0), (.ref 135), (.bool true), (.int (181) 0), (.ref 136), .none, (.ref 137), (.ref 138), (.ref 139), (.int (364) 0), (.int (22) 0), (.str (nm l 156) 365)]⟩, ⟨[]⟩⟩),
 (141, fnO p (nm l 142) 13 .none .none (.str (nm l 154) 303) none (.ref 140) .none),
 (147, ⟨(.type "code"), none, .fields ⟨[(.str (nm l 131) 367), (.str (nm l 131) 368), (.str (nm l 156) 369), (.int (24) 0), (.int (3) 0), (.int (0) 0), (.int (0) 0), (.int (3) 0), (.ref 142), (.bool true), (.int (181) 0), (.ref 143), .none, (.ref 144), (.ref 145), (.ref 146), (.int (377) 0), (.int (24) 0), (.str (nm l 156) 378)]⟩, ⟨[]⟩⟩),
 (148, fnO p (nm l 131) 14 .none .none (.str (nm l 154) 303) none (.ref 147) .none),
 (161, ⟨(.type "code"), none, .fields ⟨[(.str (nm l 72) 396), (.str (nm l 169) 397), (.str (nm l 156) 398), (.int (32) 0), (.int (1) 0), (.int (0) 0), (.int (0) 0), (.int (3) 0), (.ref 156), (.bool true), (.int (181) 0), (.ref 157), .none, (.ref 158), (.ref 159), (.ref 160), (.int (400) 0), (.int (32) 0), (.str (nm l 156) 401)]⟩, ⟨[]⟩⟩),
 (162, fnM p (nm l 72) (nm l 169) 17 0 .none .none (.str (nm l 143) 380) none (.ref 161) .none),
 (168, ⟨(.type "code"), none, .fields ⟨[(.str (nm l 148) 403), (.str (nm l 170) 404), (.str (nm l 156) 405), (.int (42) 0), (.int (2) 0), (.int (0) 0), (.int (0) 0), (.int (3) 0), (.ref 163), (.bool true), (.int (181) 0), (.ref 164), .none, (.ref 165), (.ref 166), (.ref 167), (.int (408) 0), (.int (42) 0), (.str (nm l 156) 409)]⟩, ⟨[]⟩⟩),
 (169, fnM p (nm l 148) (nm l 170) 17 1 .none .none (.str (nm l 143) 380) none (.ref 168) .none),
 (175, ⟨(.type "code"), none, .fields ⟨[(.str (nm l 4) 411), (.str (nm l 171) 412), (.str (nm l 156) 413), (.int (46) 0), (.int (2) 0), (.int (0) 0), (.int (0) 0), (.int (3) 0), (.ref 170), (.bool true), (.int (181) 0), (.ref 171), .none, (.ref 172), (.ref 173), (.ref 174), (.int (417) 0), (.int (46) 0), (.str (nm l 156) 418)]⟩, ⟨[]⟩⟩),
 (176, fnM p (nm l 4) (nm l 171) 17 2 .none .none (.str (nm l 143) 380) none (.ref 175) .none),
 (182, ⟨(.type "code"), none, .fields ⟨[(.str (nm l 5) 420), (.str (nm l 172) 421), (.str (nm l 156) 422), (.int (52) 0), (.int (2) 0), (.int (0) 0), (.int (0) 0), (.int (3) 0), (.ref 177), (.bool true), (.int (181) 0), (.ref 178), .none, (.ref 179), (.ref 180), (.ref 181), (.int (425) 0), (.int (52) 0), (.str (nm l 156) 426)]⟩, ⟨[]⟩⟩),
 (183, fnM p (nm l 5) (nm l 172) 17 3 .none .none (.str (nm l 143) 380) none (.ref 182) .none),
 (189, ⟨(.type "code"), none, .fields ⟨[(.str (nm l 39) 428), (.str (nm l 173) 429), (.str (nm l 156) 430), (.int (56) 0), (.int (2) 0), (.int (0) 0), (.int (0) 0), (.int (3) 0), (.ref 184), (.bool true), (.int (181) 0), (.ref 185), .none, (.ref 186), (.ref 187), (.ref 188), (.int (435) 0), (.int (56) 0), (.str (nm l 156) 436)]⟩, ⟨[]⟩⟩),
 (190, fnM p (nm l 39) (nm l 173) 17 4 .none .none (.str (nm l 143) 380) none (.ref 189) .none),
 (196, ⟨(.type "code"), none, .fields ⟨[(.str (nm l 106) 438), (.str (nm l 174) 439), (.str (nm l 156) 440), (.int (63) 0), (.int (2) 0), (.int (0) 0), (.int (0) 0), (.int (3) 0), (.ref 191), (.bool true), (.int (181) 0), (.ref 192), .none, (.ref 193), (.ref 194), (.ref 195), (.int (444) 0), (.int (63) 0), (.str (nm l 156) 445)]⟩, ⟨[]⟩⟩),
 (197, fnM p (nm l 106) (nm l 174) 17 5 .none .none (.str (nm l 143) 380) none (.ref 196) .none),
 (203, ⟨(.type "code"), none, .fields ⟨[(.str (nm l 113) 447), (.str (nm l 175) 448), (.str (nm l 156) 449), (.int (78) 0), (.int (1) 0), (.int (0) 0), (.int (0) 0), (.int (3) 0), (.ref 198), (.bool true), (.int (181) 0), (.ref 199), .none, (.ref 200), (.ref 201), (.ref 202), (.int (451) 0), (.int (78) 0), (.str (nm l 156) 452)]⟩, ⟨[]⟩⟩),
 (204, fnM p (nm l 113) (nm l 175) 17 6 .none .none (.str (nm l 143) 380) none (.ref 203) .none),
 (205, ⟨(.type "tuple"), none, .seq ⟨[(.str (nm l 112) 454), (.str (nm l 68) 455), (.str (nm l 133) 456), (.str (nm l 6) 457), (.str (nm l 147) 458), (.str (nm l 145) 459), (.str (nm l 111) 460), (.str (nm l 114) 461)]⟩ 0, ⟨[]⟩⟩),
 (206, ⟨(.type "dict"), none, .dict ⟨[de P (nm l 165) 391 (.str (nm l 143) 380), de P (nm l 166) 395 (.int (30) 394), de P (nm l 72) 402 (.ref 162), de P (nm l 148) 410 (.ref 169), de P (nm l 4) 419 (.ref 176), de P (nm l 5) 427 (.ref 183), de P (nm l 39) 437 (.ref 190), de P (nm l 106) 446 (.ref 197), de P (nm l 113) 453 (.ref 204), de P (nm l 167) 462 (.ref 205), de P (nm l 176) 464 (.ref 208), de P (nm l 168) 466 (.ref 209), de P (nm l 157) 467 .none]⟩ 4, ⟨[]⟩⟩),
 (207, ⟨(.type "type"), none, .cls { name := nm l 84, bases := [(.type "object")], mro := [(.ref 207), (.type "object")], ns := 206, qualname := nm l 84, hasDict := true, slotNames := [], subclasses := [], abstract := false, collection := none, hasDel := false }, ⟨[none, none, (some (.str (nm l 84) 384)), (some (.str (nm l 84) 392)), (some (.builtin "object.__new__")), (some (.bool true))]⟩⟩),
 (208, ⟨(.type "getset_descriptor"), none, .fields ⟨[(.str (nm l 176) 463), (.ref 207), (.builtin "function.__dict__"), (.builtin "function.__dict__#set")]⟩, ⟨[]⟩⟩),
 (209, ⟨(.type "getset_descriptor"), none, .fields ⟨[(.str (nm l 168) 465), (.ref 207), (.builtin "ExceptionGroup.__weakref__"), .none]⟩, ⟨[]⟩⟩),
 (212, ⟨(.type "tuple"), none, .seq ⟨[(.str (nm l 70) 472), (.str (nm l 117) 473), (.str (nm l 118) 474), (.str (nm l 119) 475)]⟩ 0, ⟨[]⟩⟩),
 (218, ⟨(.type "code"), none, .fields ⟨[(.str (nm l 99) 479), (.str (nm l 99) 480), (.str (nm l 156) 481), (.int (83) 0), (.int (2) 0), (.int (0) 0), (.int (0) 0), (.int (3) 0), (.ref 213), (.bool true), (.int (181) 0), (.ref 214), .none, (.ref 215), (.ref 216), (.ref 217), (.int (488) 0), (.int (83) 0), (.str (nm l 156) 489)]⟩, ⟨[]⟩⟩),
 (219, fnO p (nm l 99) 21 .none .none (.str (nm l 120) 477) none (.ref 218) .none),
 (232, ⟨(.type "code"), none, .fields ⟨[(.str (nm l 72) 503), (.str (nm l 177) 504), (.str (nm l 156) 505), (.int (93) 0), (.int (3) 0), (.int (0) 0), (.int (0) 0), (.int (3) 0), (.ref 227), (.bool true), (.int (181) 0), (.ref 228), .none, (.ref 229), (.ref 230), (.ref 231), (.int (509) 0), (.int (93) 0), (.str (nm l 156) 510)]⟩, ⟨[]⟩⟩),
 (233, fnM p (nm l 72) (nm l 177) 22 0 .none .none (.str (nm l 120) 477) none (.ref 232) .none),
 (239, ⟨(.type "code"), none, .fields ⟨[(.str (nm l 91) 512), (.str (nm l 178) 513), (.str (nm l 156) 514), (.int (100) 0), (.int (1) 0), (.int (0) 0), (.int (0) 0), (.int (3) 0), (.ref 234), (.bool true), (.int (181) 0), (.ref 235), .none, (.ref 236), (.ref 237), (.ref 238), (.int (516) 0), (.int (100) 0), (.str (nm l 156) 517)]⟩, ⟨[]⟩⟩),
 (240, fnM p (nm l 91) (nm l 178) 22 1 .none .none (.str (nm l 120) 477) none (.ref 239) .none),
 (246, ⟨(.type "code"), none, .fields ⟨[(.str (nm l 87) 519), (.str (nm l 179) 520), (.str (nm l 156) 521), (.int (103) 0), (.int (1) 0), (.int (0) 0), (.int (0) 0), (.int (3) 0), (.ref 241), (.bool true), (.int (181) 0), (.ref 242), .none, (.ref 243), (.ref 244), (.ref 245), (.int (523) 0), (.int (103) 0), (.str (nm l 156) 524)]⟩, ⟨[]⟩⟩),
 (247, fnM p (nm l 87) (nm l 179) 22 2 .none .none (.str (nm l 120) 477) none (.ref 246) .none),
 (253, ⟨(.type "code"), none, .fields ⟨[(.str (nm l 92) 526), (.str (nm l 180) 527), (.str (nm l 156) 528), (.int (106) 0), (.int (1) 0), (.int (0) 0), (.int (0) 0), (.int (3) 0), (.ref 248), (.bool true), (.int (181) 0), (.ref 249), .none, (.ref 250), (.ref 251), (.ref 252), (.int (530) 0), (.int (106) 0), (.str (nm l 156) 531)]⟩, ⟨[]⟩⟩),
 (254, fnM p (nm l 92) (nm l 180) 22 3 .none .none (.str (nm l 120) 477) none (.ref 253) .none),
 (260, ⟨(.type "code"), none, .fields ⟨[(.str (nm l 94) 533), (.str (nm l 181) 534), (.str (nm l 156) 535), (.int (111) 0), (.int (1) 0), (.int (0) 0), (.int (0) 0), (.int (3) 0), (.ref 255), (.bool true), (.int (181) 0), (.ref 256), .none, (.ref 257), (.ref 258), (.ref 259), (.int (537) 0), (.int (111) 0), (.str (nm l 156) 538)]⟩, ⟨[]⟩⟩),
 (261, fnM p (nm l 94) (nm l 181) 22 4 .none .none (.str (nm l 120) 477) none (.ref 260) .none),
 (262, ⟨(.type "tuple"), none, .seq ⟨[(.str (nm l 127) 540), (.str (nm l 128) 541), (.str (nm l 76) 542), (.str (nm l 129) 543), (.str (nm l 95) 544)]⟩ 0, ⟨[]⟩⟩),
 (263, ⟨(.type "dict"), none, .dict ⟨[de P (nm l 165) 498 (.str (nm l 120) 477), de P (nm l 166) 502 (.int (91) 501), de P (nm l 72) 511 (.ref 233), de P (nm l 91) 518 (.ref 240), de P (nm l 87) 525 (.ref 247), de P (nm l 92) 532 (.ref 254), de P (nm l 94) 539 (.ref 261), de P (nm l 167) 545 (.ref 262), de P (nm l 176) 547 (.ref 265), de P (nm l 168) 549 (.ref 266), de P (nm l 157) 550 .none]⟩ 4, ⟨[]⟩⟩),
 (264, ⟨(.type "type"), none, .cls { name := nm l 82, bases := [(.type "object")], mro := [(.ref 264), (.type "object")], ns := 263, qualname := nm l 82, hasDict := true, slotNames := [], subclasses := [], abstract := false, collection := none, hasDel := false }, ⟨[none, none, (some (.str (nm l 82) 491)), (some (.str (nm l 82) 499)), (some (.builtin "object.__new__")), (some (.bool true))]⟩⟩),
 (265, ⟨(.type "getset_descriptor"), none, .fields ⟨[(.str (nm l 176) 546), (.ref 264), (.builtin "function.__dict__"), (.builtin "function.__dict__#set")]⟩, ⟨[]⟩⟩),
 (266, ⟨(.type "getset_descriptor"), none, .fields ⟨[(.str (nm l 168) 548), (.ref 264), (.builtin "ExceptionGroup.__weakref__"), .none]⟩, ⟨[]⟩⟩),
 (274, ⟨(.type "code"), none, .fields ⟨[(.str (nm l 98) 553), (.str (nm l 98) 554), (.str (nm l 156) 555), (.int (114) 0), (.int (3) 0), (.int (0) 0), (.int (0) 0), (.int (3) 0), (.ref 269), (.bool true), (.int (181) 0), (.ref 270), .none, (.ref 271), (.ref 272), (.ref 273), (.int (560) 0), (.int (114) 0), (.str (nm l 156) 561)]⟩, ⟨[]⟩⟩),
 (275, fnO p (nm l 98) 23 .none .none (.str (nm l 120) 477) none (.ref 274) .none),
 (286, ⟨(.type "code"), none, .fields ⟨[(.str (nm l 72) 575), (.str (nm l 182) 576), (.str (nm l 156) 577), (.int (121) 0), (.int (2) 0), (.int (0) 0), (.int (0) 0), (.int (3) 0), (.ref 283), (.bool true), (.int (181) 0), (.ref 284), .none, .none, .none, (.ref 285), (.int (578) 0), (.int (121) 0), (.str (nm l 156) 579)]⟩, ⟨[]⟩⟩),
 (287, fnM p (nm l 72) (nm l 182) 24 0 .none .none (.str (nm l 120) 477) none (.ref 286) .none),
 (293, ⟨(.type "code"), none, .fields ⟨[(.str (nm l 86) 581), (.str (nm l 183) 582), (.str (nm l 156) 583), (.int (128) 0), (.int (1) 0), (.int (0) 0), (.int (0) 0), (.int (3) 0), (.ref 288), (.bool true), (.int (181) 0), (.ref 289), .none, (.ref 290), (.ref 291), (.ref 292), (.int (585) 0), (.int (128) 0), (.str (nm l 156) 586)]⟩, ⟨[]⟩⟩),
 (294, fnM p (nm l 86) (nm l 183) 24 1 .none .none (.str (nm l 120) 477) none (.ref 293) .none),
 (300, ⟨(.type "code"), none, .fields ⟨[(.str (nm l 89) 588), (.str (nm l 184) 589), (.str (nm l 156) 590), (.int (133) 0), (.int (1) 0), (.int (0) 0), (.int (0) 0), (.int (3) 0), (.ref 295), (.bool true), (.int (181) 0), (.ref 296), .none, (.ref 297), (.ref 298), (.ref 299), (.int (593) 0), (.int (133) 0), (.str (nm l 156) 594)]⟩, ⟨[]⟩⟩),
 (301, fnM p (nm l 89) (nm l 184) 24 2 .none .none (.str (nm l 120) 477) none (.ref 300) .none),
 (305, ⟨(.type "code"), none, .fields ⟨[(.str (nm l 93) 596), (.str (nm l 185) 597), (.str (nm l 156) 598), (.int (140) 0), (.int (3) 0), (.int (0) 0), (.int (0) 0), (.int (3) 0), (.ref 302), (.bool true), (.int (181) 0), (.ref 303), .none, .none, .none, (.ref 304), (.int (599) 0), (.int (140) 0), (.str (nm l 156) 600)]⟩, ⟨[]⟩⟩),
 (306, fnM p (nm l 93) (nm l 185) 24 3 .none .none (.str (nm l 120) 477) none (.ref 305) .none),
 (312, ⟨(.type "code"), none, .fields ⟨[(.str (nm l 106) 602), (.str (nm l 186) 603), (.str (nm l 156) 604), (.int (155) 0), (.int (2) 0), (.int (0) 0), (.int (0) 0), (.int (3) 0), (.ref 307), (.bool true), (.int (181) 0), (.ref 308), .none, (.ref 309), (.ref 310), (.ref 311), (.int (607) 0), (.int (155) 0), (.str (nm l 156) 608)]⟩, ⟨[]⟩⟩),
 (313, fnM p (nm l 106) (nm l 186) 24 4 .none .none (.str (nm l 120) 477) none (.ref 312) .none),
 (314, ⟨(.type "tuple"), none, .seq ⟨[(.str (nm l 85) 610), (.str (nm l 77) 611), (.str (nm l 83) 612), (.str (nm l 81) 613)]⟩ 0, ⟨[]⟩⟩),
 (315, ⟨(.type "dict"), none, .dict ⟨[de P (nm l 165) 570 (.str (nm l 120) 477), de P (nm l 166) 574 (.int (119) 573), de P (nm l 72) 580 (.ref 287), de P (nm l 86) 587 (.ref 294), de P (nm l 89) 595 (.ref 301), de P (nm l 93) 601 (.ref 306), de P (nm l 106) 609 (.ref 313), de P (nm l 167) 614 (.ref 314), de P (nm l 176) 616 (.ref 317), de P (nm l 168) 618 (.ref 318), de P (nm l 157) 619 .none]⟩ 4, ⟨[]⟩⟩),
 (316, ⟨(.type "type"), none, .cls { name := nm l 71, bases := [(.type "object")], mro := [(.ref 316), (.type "object")], ns := 315, qualname := nm l 71, hasDict := true, slotNames := [], subclasses := [], abstract := false, collection := none, hasDel := false }, ⟨[none, none, (some (.str (nm l 71) 563)), (some (.str (nm l 71) 571)), (some (.builtin "object.__new__")), (some (.bool true))]⟩⟩),
 (317, ⟨(.type "getset_descriptor"), none, .fields ⟨[(.str (nm l 176) 615), (.ref 316), (.builtin "function.__dict__"), (.builtin "function.__dict__#set")]⟩, ⟨[]⟩⟩),
 (318, ⟨(.type "getset_descriptor"), none, .fields ⟨[(.str (nm l 168) 617), (.ref 316), (.builtin "ExceptionGroup.__weakref__"), .none]⟩, ⟨[]⟩⟩),
 (326, ⟨(.type "code"), none, .fields ⟨[(.str (nm l 107) 622), (.str (nm l 107) 623), (.str (nm l 156) 624), (.int (158) 0), (.int (2) 0), (.int (0) 0), (.int (0) 0), (.int (3) 0), (.ref 321), (.bool true), (.int (181) 0), (.ref 322), .none, (.ref 323), (.ref 324), (.ref 325), (.int (629) 0), (.int (158) 0), (.str (nm l 156) 630)]⟩, ⟨[]⟩⟩),
 (327, fnO p (nm l 107) 25 .none .none (.str (nm l 120) 477) none (.ref 326) .none),
 (333, ⟨(.type "code"), none, .fields ⟨[(.str (nm l 41) 632), (.str (nm l 41) 633), (.str (nm l 156) 634), (.int (165) 0), (.int (2) 0), (.int (0) 0), (.int (0) 0), (.int (3) 0), (.ref 328), (.bool true), (.int (181) 0), (.ref 329), .none, (.ref 330), (.ref 331), (.ref 332), (.int (639) 0), (.int (165) 0), (.str (nm l 156) 640)]⟩, ⟨[]⟩⟩),
 (334, fnO p (nm l 41) 26 .none .none (.str (nm l 120) 477) none (.ref 333) .none),
 (340, ⟨(.type "code"), none, .fields ⟨[(.str (nm l 47) 644), (.str (nm l 47) 645), (.str (nm l 156) 646), (.int (170) 0), (.int (2) 0), (.int (0) 0), (.int (0) 0), (.int (3) 0), (.ref 335), (.bool true), (.int (181) 0), (.ref 336), .none, (.ref 337), (.ref 338), (.ref 339), (.int (650) 0), (.int (170) 0), (.str (nm l 156) 651)]⟩, ⟨[]⟩⟩),
 (341, fnO p (nm l 47) 28 .none .none (.str (nm l 116) 642) none (.ref 340) .none),
 (347, ⟨(.type "code"), none, .fields ⟨[(.str (nm l 48) 653), (.str (nm l 48) 654), (.str (nm l 156) 655), (.int (177) 0), (.int (2) 0), (.int (0) 0), (.int (0) 0), (.int (3) 0), (.ref 342), (.bool true), (.int (181) 0), (.ref 343), .none, (.ref 344), (.ref 345), (.ref 346), (.int (659) 0), (.int (177) 0), (.str (nm l 156) 660)]⟩, ⟨[]⟩⟩),
 (348, fnO p (nm l 48) 29 .none .none (.str (nm l 116) 642) none (.ref 347) .none),
 (352, ⟨(.type "code"), none, .fields ⟨[(.str (nm l 46) 662), (.str (nm l 46) 663), (.str (nm l 156) 664), (.int (182) 0), (.int (3) 0), (.int (0) 0), (.int (0) 0), (.int (3) 0), (.ref 349), (.bool true), (.int (181) 0), (.ref 350), .none, .none, .none, (.ref 351), (.int (665) 0), (.int (182) 0), (.str (nm l 156) 666)]⟩, ⟨[]⟩⟩),
 (353, fnO p (nm l 46) 30 .none .none (.str (nm l 116) 642) none (.ref 352) .none),
 (359, ⟨(.type "code"), none, .fields ⟨[(.str (nm l 28) 668), (.str (nm l 28) 669), (.str (nm l 156) 670), (.int (191) 0), (.int (2) 0), (.int (0) 0), (.int (0) 0), (.int (3) 0), (.ref 354), (.bool true), (.int (181) 0), (.ref 355), .none, (.ref 356), (.ref 357), (.ref 358), (.int (677) 0), (.int (191) 0), (.str (nm l 156) 678)]⟩, ⟨[]⟩⟩),
 (360, fnO p (nm l 28) 31 .none .none (.str (nm l 116) 642) none (.ref 359) .none),
 (364, ⟨(.type "code"), none, .fields ⟨[(.str (nm l 20) 680), (.str (nm l 20) 681), (.str (nm l 156) 682), (.int (207) 0), (.int (1) 0), (.int (0) 0), (.int (0) 0), (.int (3) 0), (.ref 361), (.bool true), (.int (181) 0), (.ref 362), .none, .none, .none, (.ref 363), (.int (683) 0), (.int (207) 0), (.str (nm l 156) 684)]⟩, ⟨[]⟩⟩),
 (365, fnO p (nm l 20) 32 .none .none (.str (nm l 116) 642) none (.ref 364) .none),
 (371, ⟨(.type "code"), none, .fields ⟨[(.str (nm l 24) 686), (.str (nm l 24) 687), (.str (nm l 156) 688), (.int (210) 0), (.int (2) 0), (.int (0) 0), (.int (0) 0), (.int (3) 0), (.ref 366), (.bool true), (.int (181) 0), (.ref 367), .none, (.ref 368), (.ref 369), (.ref 370), (.int (692) 0), (.int (210) 0), (.str (nm l 156) 693)]⟩, ⟨[]⟩⟩),
 (372, fnO p (nm l 24) 33 .none .none (.str (nm l 116) 642) none (.ref 371) .none),
 (378, ⟨(.type "code"), none, .fields ⟨[(.str (nm l 0) 695), (.str (nm l 0) 696), (.str (nm l 156) 697), (.int (215) 0), (.int (2) 0), (.int (0) 0), (.int (0) 0), (.int (3) 0), (.ref 373), (.bool true), (.int (181) 0), (.ref 374), .none, (.ref 375), (.ref 376), (.ref 377), (.int (701) 0), (.int (215) 0), (.str (nm l 156) 702)]⟩, ⟨[]⟩⟩),
 (379, fnO p (nm l 0) 34 .none .none (.str (nm l 116) 642) none (.ref 378) .none),
 (385, ⟨(.type "code"), none, .fields ⟨[(.str (nm l 11) 704), (.str (nm l 11) 705), (.str (nm l 156) 706), (.int (228) 0), (.int (4) 0), (.int (0) 0), (.int (0) 0), (.int (3) 0), (.ref 380), (.bool true), (.int (181) 0), (.ref 381), .none, (.ref 382), (.ref 383), (.ref 384), (.int (713) 0), (.int (228) 0), (.str (nm l 156) 714)]⟩, ⟨[]⟩⟩),
 (386, fnO p (nm l 11) 35 .none .none (.str (nm l 116) 642) none (.ref 385) .none),
 (392, ⟨(.type "code"), none, .fields ⟨[(.str (nm l 19) 716), (.str (nm l 19) 717), (.str (nm l 156) 718), (.int (232) 0), (.int (1) 0), (.int (0) 0), (.int (0) 0), (.int (3) 0), (.ref 387), (.bool true), (.int (181) 0), (.ref 388), .none, (.ref 389), (.ref 390), (.ref 391), (.int (726) 0), (.int (232) 0), (.str (nm l 156) 727)]⟩, ⟨[]⟩⟩),
 (393, fnO p (nm l 19) 36 .none .none (.str (nm l 116) 642) none (.ref 392) .none),
 (397, ⟨(.type "code"), none, .fields ⟨[(.str (nm l 31) 729), (.str (nm l 31) 730), (.str (nm l 156) 731), (.int (246) 0), (.int (1) 0), (.int (0) 0), (.int (0) 0), (.int (3) 0), (.ref 394), (.bool true), (.int (181) 0), (.ref 395), .none, .none, .none, (.ref 396), (.int (732) 0), (.int (246) 0), (.str (nm l 156) 733)]⟩, ⟨[]⟩⟩),
 (398, fnO p (nm l 31) 37 .none .none (.str (nm l 116) 642) none (.ref 397) .none),
 (404, ⟨(.type "code"), none, .fields ⟨[(.str (nm l 43) 735), (.str (nm l 43) 736), (.str (nm l 156) 737), (.int (258) 0), (.int (1) 0), (.int (0) 0), (.int (0) 0), (.int (3) 0), (.ref 399), (.bool true), (.int (181) 0), (.ref 400), .none, (.ref 401), (.ref 402), (.ref 403), (.int (741) 0), (.int (258) 0), (.str (nm l 156) 742)]⟩, ⟨[]⟩⟩),
 (405, fnO p (nm l 43) 38 .none .none (.str (nm l 116) 642) none (.ref 404) .none)]
noncomputable def loose (l : List Str) : List Str := [nm l 56, nm l 62, nm l 63, nm l 54, nm l 55, nm l 65, nm l 64, nm l 140, nm l 146, nm l 139, nm l 141, nm l 142, nm l 131, nm l 144, nm l 84, nm l 125, nm l 105, nm l 99, nm l 82, nm l 98, nm l 71, nm l 107, nm l 41, nm l 47, nm l 48, nm l 46, nm l 28, nm l 20, nm l 24, nm l 0, nm l 11, nm l 19, nm l 31]
noncomputable def vw (p : Program) : Program := PySem.W.view p [38]
noncomputable def ad : List Addr := [3, 22, 23, 24, 25, 35, 36, 37, 47, 48, 49, 59, 60, 61, 71, 72, 73, 83, 84, 85, 95, 96, 97, 100, 101, 102, 103, 104, 105, 106, 107, 108, 109, 110, 111, 112, 113, 114, 115, 116, 117, 118, 119, 120, 121, 122, 123, 124, 125, 126, 127, 133, 134, 140, 141, 147, 148, 161, 162, 168, 169, 175, 176, 182, 183, 189, 190, 196, 197, 203, 204, 205, 206, 207, 208, 209, 212, 218, 219, 232, 233, 239, 240, 246, 247, 253, 254, 260, 261, 262, 263, 264, 265, 266, 274, 275, 286, 287, 293, 294, 300, 301, 305, 306, 312, 313, 314, 315, 316, 317, 318, 326, 327, 333, 334, 340, 341, 347, 348, 352, 353, 359, 360, 364, 365, 371, 372, 378, 379, 385, 386, 392, 393, 397, 398, 404, 405]
noncomputable abbrev yf (s : Shared) : List (Option Obj) := ad.map s.heap.get?
noncomputable abbrev ya (p : Program) (l : List Str) (w : World) : List (Option Obj) := (KL p l w.params).map fun x => some x.2
abbrev mZ (p : Program) (l : List Str) (w : World) : Prop := ZW p (vw p) (loose l) (fun s => PySem.W.recOk [] s) yf (ya p l) 6860 w
theorem run0 (w : World) : mZ (GL lb) lb w := by unfold mZ ZW; kernel_rfl
theorem left : PySem.W.LeftO PySem.Challenge.pw_turtlehouse_k24_refused (vw PySem.Challenge.pw_turtlehouse_k24_refused) (loose la) (fun s => PySem.W.recOk [] s) yf (ya PySem.Challenge.pw_turtlehouse_k24_refused la) 6860 :=
 tr2 (C := fun p l => PySem.W.LeftO p (vw p) (loose l) (fun s => PySem.W.recOk [] s) yf (ya p l) 6860) hp hl
  (ZB (by kernel_rfl) (by kernel_rfl) (fun s => by kernel_rfl) run0)
def FM (p : Program) (l : List Str) (P : Params) (x i f c m t : Nat) : Prop := PySem.W.nsIn (KL p l P) mainGlobals (nm l x) = some (some (.ref f)) ∧ (KL p l P).lookup f = some (fnO p (nm l x) i .none .none (.str (nm l m) t) none (.ref c) .none) ∧ PySem.W.codeIn (KL p l P) (.ref c) (nm l x) = true ∧ PySem.W.keepIn (KL p l P) (.ref f) = true
theorem EJ {P : Params} (x i f c m t : Nat) (h : FM (GL lb) lb P x i f c m t) : FM PySem.Challenge.pw_turtlehouse_k24_refused la P x i f c m t := tr2 (C := fun p l => FM p l P x i f c m t) hp hl h
theorem ns_in {P : Params} (x : Nat) (v : Option Value) (h : PySem.W.nsIn (KL (GL lb) lb P) mainGlobals (nm lb x) = some v) : PySem.W.nsIn (KL PySem.Challenge.pw_turtlehouse_k24_refused la P) mainGlobals (nm la x) = some v := tr2 (C := fun p l => PySem.W.nsIn (KL p l P) mainGlobals (nm l x) = some v) hp hl h
def FT (p : Program) (l : List Str) (P : Params) (a x q i j f c m t : Nat) : Prop := PySem.W.findIn (KL p l P) (.ref a) (nm l x) = some (some (.ref f)) ∧ PySem.W.isFn (KL p l P) (.ref f) = true ∧ (KL p l P).lookup f = some (fnM p (nm l x) (nm l q) i j .none .none (.str (nm l m) t) none (.ref c) .none) ∧ PySem.W.codeIn (KL p l P) (.ref c) (nm l q) = true ∧ PySem.W.keepIn (KL p l P) (.ref f) = true
theorem EW {P : Params} (a x q i j f c m t : Nat) (h : FT (GL lb) lb P a x q i j f c m t) : FT PySem.Challenge.pw_turtlehouse_k24_refused la P a x q i j f c m t := tr2 (C := fun p l => FT p l P a x q i j f c m t) hp hl h
theorem ff0 (P : Params) : FM PySem.Challenge.pw_turtlehouse_k24_refused la P 141 12 134 133 154 303 := EJ 141 12 134 133 154 303 ⟨by kernel_rfl, by kernel_rfl, by kernel_rfl, by kernel_rfl⟩
theorem ff1 (P : Params) : FM PySem.Challenge.pw_turtlehouse_k24_refused la P 142 13 141 140 154 303 := EJ 142 13 141 140 154 303 ⟨by kernel_rfl, by kernel_rfl, by kernel_rfl, by kernel_rfl⟩
theorem ff2 (P : Params) : FM PySem.Challenge.pw_turtlehouse_k24_refused la P 131 14 148 147 154 303 := EJ 131 14 148 147 154 303 ⟨by kernel_rfl, by kernel_rfl, by kernel_rfl, by kernel_rfl⟩
theorem mm3 (P : Params) : FT PySem.Challenge.pw_turtlehouse_k24_refused la P 207 72 169 17 0 162 161 143 380 := EW 207 72 169 17 0 162 161 143 380 ⟨by kernel_rfl, by kernel_rfl, by kernel_rfl, by kernel_rfl, by kernel_rfl⟩
theorem mm4 (P : Params) : FT PySem.Challenge.pw_turtlehouse_k24_refused la P 207 148 170 17 1 169 168 143 380 := EW 207 148 170 17 1 169 168 143 380 ⟨by kernel_rfl, by kernel_rfl, by kernel_rfl, by kernel_rfl, by kernel_rfl⟩
theorem mm5 (P : Params) : FT PySem.Challenge.pw_turtlehouse_k24_refused la P 207 4 171 17 2 176 175 143 380 := EW 207 4 171 17 2 176 175 143 380 ⟨by kernel_rfl, by kernel_rfl, by kernel_rfl, by kernel_rfl, by kernel_rfl⟩
theorem mm6 (P : Params) : FT PySem.Challenge.pw_turtlehouse_k24_refused la P 207 5 172 17 3 183 182 143 380 := EW 207 5 172 17 3 183 182 143 380 ⟨by kernel_rfl, by kernel_rfl, by kernel_rfl, by kernel_rfl, by kernel_rfl⟩
theorem mm7 (P : Params) : FT PySem.Challenge.pw_turtlehouse_k24_refused la P 207 39 173 17 4 190 189 143 380 := EW 207 39 173 17 4 190 189 143 380 ⟨by kernel_rfl, by kernel_rfl, by kernel_rfl, by kernel_rfl, by kernel_rfl⟩
theorem mm8 (P : Params) : FT PySem.Challenge.pw_turtlehouse_k24_refused la P 207 106 174 17 5 197 196 143 380 := EW 207 106 174 17 5 197 196 143 380 ⟨by kernel_rfl, by kernel_rfl, by kernel_rfl, by kernel_rfl, by kernel_rfl⟩
theorem mm9 (P : Params) : FT PySem.Challenge.pw_turtlehouse_k24_refused la P 207 113 175 17 6 204 203 143 380 := EW 207 113 175 17 6 204 203 143 380 ⟨by kernel_rfl, by kernel_rfl, by kernel_rfl, by kernel_rfl, by kernel_rfl⟩
theorem ff10 (P : Params) : FM PySem.Challenge.pw_turtlehouse_k24_refused la P 99 21 219 218 120 477 := EJ 99 21 219 218 120 477 ⟨by kernel_rfl, by kernel_rfl, by kernel_rfl, by kernel_rfl⟩
theorem mm11 (P : Params) : FT PySem.Challenge.pw_turtlehouse_k24_refused la P 264 72 177 22 0 233 232 120 477 := EW 264 72 177 22 0 233 232 120 477 ⟨by kernel_rfl, by kernel_rfl, by kernel_rfl, by kernel_rfl, by kernel_rfl⟩
theorem mm12 (P : Params) : FT PySem.Challenge.pw_turtlehouse_k24_refused la P 264 91 178 22 1 240 239 120 477 := EW 264 91 178 22 1 240 239 120 477 ⟨by kernel_rfl, by kernel_rfl, by kernel_rfl, by kernel_rfl, by kernel_rfl⟩
theorem mm13 (P : Params) : FT PySem.Challenge.pw_turtlehouse_k24_refused la P 264 87 179 22 2 247 246 120 477 := EW 264 87 179 22 2 247 246 120 477 ⟨by kernel_rfl, by kernel_rfl, by kernel_rfl, by kernel_rfl, by kernel_rfl⟩
theorem mm14 (P : Params) : FT PySem.Challenge.pw_turtlehouse_k24_refused la P 264 92 180 22 3 254 253 120 477 := EW 264 92 180 22 3 254 253 120 477 ⟨by kernel_rfl, by kernel_rfl, by kernel_rfl, by kernel_rfl, by kernel_rfl⟩
theorem mm15 (P : Params) : FT PySem.Challenge.pw_turtlehouse_k24_refused la P 264 94 181 22 4 261 260 120 477 := EW 264 94 181 22 4 261 260 120 477 ⟨by kernel_rfl, by kernel_rfl, by kernel_rfl, by kernel_rfl, by kernel_rfl⟩
theorem ff16 (P : Params) : FM PySem.Challenge.pw_turtlehouse_k24_refused la P 98 23 275 274 120 477 := EJ 98 23 275 274 120 477 ⟨by kernel_rfl, by kernel_rfl, by kernel_rfl, by kernel_rfl⟩
theorem mm17 (P : Params) : FT PySem.Challenge.pw_turtlehouse_k24_refused la P 316 72 182 24 0 287 286 120 477 := EW 316 72 182 24 0 287 286 120 477 ⟨by kernel_rfl, by kernel_rfl, by kernel_rfl, by kernel_rfl, by kernel_rfl⟩
theorem mm18 (P : Params) : FT PySem.Challenge.pw_turtlehouse_k24_refused la P 316 86 183 24 1 294 293 120 477 := EW 316 86 183 24 1 294 293 120 477 ⟨by kernel_rfl, by kernel_rfl, by kernel_rfl, by kernel_rfl, by kernel_rfl⟩
theorem mm19 (P : Params) : FT PySem.Challenge.pw_turtlehouse_k24_refused la P 316 89 184 24 2 301 300 120 477 := EW 316 89 184 24 2 301 300 120 477 ⟨by kernel_rfl, by kernel_rfl, by kernel_rfl, by kernel_rfl, by kernel_rfl⟩
theorem mm20 (P : Params) : FT PySem.Challenge.pw_turtlehouse_k24_refused la P 316 93 185 24 3 306 305 120 477 := EW 316 93 185 24 3 306 305 120 477 ⟨by kernel_rfl, by kernel_rfl, by kernel_rfl, by kernel_rfl, by kernel_rfl⟩
theorem mm21 (P : Params) : FT PySem.Challenge.pw_turtlehouse_k24_refused la P 316 106 186 24 4 313 312 120 477 := EW 316 106 186 24 4 313 312 120 477 ⟨by kernel_rfl, by kernel_rfl, by kernel_rfl, by kernel_rfl, by kernel_rfl⟩
theorem ff22 (P : Params) : FM PySem.Challenge.pw_turtlehouse_k24_refused la P 107 25 327 326 120 477 := EJ 107 25 327 326 120 477 ⟨by kernel_rfl, by kernel_rfl, by kernel_rfl, by kernel_rfl⟩
theorem ff23 (P : Params) : FM PySem.Challenge.pw_turtlehouse_k24_refused la P 41 26 334 333 120 477 := EJ 41 26 334 333 120 477 ⟨by kernel_rfl, by kernel_rfl, by kernel_rfl, by kernel_rfl⟩
theorem ff24 (P : Params) : FM PySem.Challenge.pw_turtlehouse_k24_refused la P 47 28 341 340 116 642 := EJ 47 28 341 340 116 642 ⟨by kernel_rfl, by kernel_rfl, by kernel_rfl, by kernel_rfl⟩
theorem ff25 (P : Params) : FM PySem.Challenge.pw_turtlehouse_k24_refused la P 48 29 348 347 116 642 := EJ 48 29 348 347 116 642 ⟨by kernel_rfl, by kernel_rfl, by kernel_rfl, by kernel_rfl⟩
theorem ff26 (P : Params) : FM PySem.Challenge.pw_turtlehouse_k24_refused la P 46 30 353 352 116 642 := EJ 46 30 353 352 116 642 ⟨by kernel_rfl, by kernel_rfl, by kernel_rfl, by kernel_rfl⟩
theorem ff27 (P : Params) : FM PySem.Challenge.pw_turtlehouse_k24_refused la P 28 31 360 359 116 642 := EJ 28 31 360 359 116 642 ⟨by kernel_rfl, by kernel_rfl, by kernel_rfl, by kernel_rfl⟩
theorem ff28 (P : Params) : FM PySem.Challenge.pw_turtlehouse_k24_refused la P 20 32 365 364 116 642 := EJ 20 32 365 364 116 642 ⟨by kernel_rfl, by kernel_rfl, by kernel_rfl, by kernel_rfl⟩
theorem ff29 (P : Params) : FM PySem.Challenge.pw_turtlehouse_k24_refused la P 24 33 372 371 116 642 := EJ 24 33 372 371 116 642 ⟨by kernel_rfl, by kernel_rfl, by kernel_rfl, by kernel_rfl⟩
theorem ff30 (P : Params) : FM PySem.Challenge.pw_turtlehouse_k24_refused la P 0 34 379 378 116 642 := EJ 0 34 379 378 116 642 ⟨by kernel_rfl, by kernel_rfl, by kernel_rfl, by kernel_rfl⟩
theorem ff31 (P : Params) : FM PySem.Challenge.pw_turtlehouse_k24_refused la P 11 35 386 385 116 642 := EJ 11 35 386 385 116 642 ⟨by kernel_rfl, by kernel_rfl, by kernel_rfl, by kernel_rfl⟩
theorem ff32 (P : Params) : FM PySem.Challenge.pw_turtlehouse_k24_refused la P 19 36 393 392 116 642 := EJ 19 36 393 392 116 642 ⟨by kernel_rfl, by kernel_rfl, by kernel_rfl, by kernel_rfl⟩
theorem ff33 (P : Params) : FM PySem.Challenge.pw_turtlehouse_k24_refused la P 31 37 398 397 116 642 := EJ 31 37 398 397 116 642 ⟨by kernel_rfl, by kernel_rfl, by kernel_rfl, by kernel_rfl⟩
theorem ff34 (P : Params) : FM PySem.Challenge.pw_turtlehouse_k24_refused la P 43 38 405 404 116 642 := EJ 43 38 405 404 116 642 ⟨by kernel_rfl, by kernel_rfl, by kernel_rfl, by kernel_rfl⟩
theorem ex_NoProgram (P : Params) : CI (KL PySem.Challenge.pw_turtlehouse_k24_refused la P) 24 37 = true := tr2 (C := fun p l => CI (KL p l P) 24 37 = true) hp hl (by kernel_rfl)
theorem ex_NoText (P : Params) : CI (KL PySem.Challenge.pw_turtlehouse_k24_refused la P) 24 49 = true := tr2 (C := fun p l => CI (KL p l P) 24 49 = true) hp hl (by kernel_rfl)
theorem ex_NoMark (P : Params) : CI (KL PySem.Challenge.pw_turtlehouse_k24_refused la P) 24 61 = true := tr2 (C := fun p l => CI (KL p l P) 24 61 = true) hp hl (by kernel_rfl)
theorem ex_TooGreat (P : Params) : CI (KL PySem.Challenge.pw_turtlehouse_k24_refused la P) 24 73 = true := tr2 (C := fun p l => CI (KL p l P) 24 73 = true) hp hl (by kernel_rfl)
theorem ex_TooLong (P : Params) : CI (KL PySem.Challenge.pw_turtlehouse_k24_refused la P) 24 85 = true := tr2 (C := fun p l => CI (KL p l P) 24 85 = true) hp hl (by kernel_rfl)
theorem ex_NotWhole (P : Params) : CI (KL PySem.Challenge.pw_turtlehouse_k24_refused la P) 24 97 = true := tr2 (C := fun p l => CI (KL p l P) 24 97 = true) hp hl (by kernel_rfl)
theorem hE_x (P : Params) : NC (KL PySem.Challenge.pw_turtlehouse_k24_refused la P) 24 = true := tr2 (C := fun p l => NC (KL p l P) 24 = true) hp hl (by kernel_rfl)
theorem kE_x (P : Params) : exK (KL PySem.Challenge.pw_turtlehouse_k24_refused la P) 24 [37, 49, 61, 73, 85, 97] = true := tr2 (C := fun p l => exK (KL p l P) 24 [37, 49, 61, 73, 85, 97] = true) hp hl (by kernel_rfl)
end Hd
open PySem PySem.W PyProof.Rows
set_option maxRecDepth 100000 in
set_option maxHeartbeats 0 in
theorem PySem.Challenge.cw_turtlehouse_k24_refused_holds : PySem.Challenge.rw_turtlehouse_k24_refused.Holds := by
 w_on; o_law
 refine PySem.W.holds_open (r := PySem.Challenge.rw_turtlehouse_k24_refused.row) (q := Hd.vw PySem.Challenge.pw_turtlehouse_k24_refused) (loose := Hd.loose Hd.la) (Xt := fun s => recOk [] s) (XP := fun _ _ => True) (Yf := Hd.yf) (Ya := Hd.ya PySem.Challenge.pw_turtlehouse_k24_refused Hd.la) (YP := InK (Hd.KL PySem.Challenge.pw_turtlehouse_k24_refused Hd.la)) (N := 6860) Hd.left (InK.of fun P => by kernel_rfl) InK.keeps (fun _ _ => trivial) (fun _ _ _ _ _ => trivial) (by rfl) (by rfl) (by rfl) (fun _ e => recFacts_of e) (by rfl) (by assumption) (by decide +kernel) ⟨rfl, rfl, rfl, rfl, rfl, by decide +kernel⟩ ?hw ?hc
 case hw => w_witness2
 case hc =>
  refine My.walk (l := PySem.Challenge.rw_turtlehouse_k24_refused) rfl rfl (fun w h Y => Y) ?F
  intro w mg fa h KX G hmg
  exact My.all_mk KX G hmg (Hd.ns_in 84 (some (.ref 207)) (by kernel_rfl)) (by kernel_rfl) (by kernel_rfl) (by kernel_rfl) (by kernel_rfl) (by kernel_rfl) (by kernel_rfl) (by kernel_rfl) (by kernel_rfl) (by kernel_rfl) (by kernel_rfl) (by kernel_rfl) (by kernel_rfl) (by kernel_rfl) (by kernel_rfl) (Hd.ns_in 82 (some (.ref 264)) (by kernel_rfl)) (by kernel_rfl) (by kernel_rfl) (by kernel_rfl) (by kernel_rfl) (by kernel_rfl) (by kernel_rfl) (by kernel_rfl) (by kernel_rfl) (by kernel_rfl) (by kernel_rfl) (by kernel_rfl) (Hd.ns_in 71 (some (.ref 316)) (by kernel_rfl)) (by kernel_rfl) (by kernel_rfl) (by kernel_rfl) (by kernel_rfl) (by kernel_rfl) (by kernel_rfl) (by kernel_rfl) (by kernel_rfl) (by kernel_rfl) (by kernel_rfl) (Hd.ff0 _).1 (Hd.ff0 _).2.1 (Hd.ff0 _).2.2.1 (Hd.ff0 _).2.2.2 (Hd.ff1 _).1 (Hd.ff1 _).2.1 (Hd.ff1 _).2.2.1 (Hd.ff1 _).2.2.2 (Hd.ff2 _).1 (Hd.ff2 _).2.1 (Hd.ff2 _).2.2.1 (Hd.ff2 _).2.2.2 (Hd.mm3 _).1 (Hd.mm3 _).2.1 (Hd.mm3 _).2.2.1 (Hd.mm3 _).2.2.2.1 (Hd.mm3 _).2.2.2.2 (Hd.mm4 _).1 (Hd.mm4 _).2.1 (Hd.mm4 _).2.2.1 (Hd.mm4 _).2.2.2.1 (Hd.mm4 _).2.2.2.2 (Hd.mm5 _).1 (Hd.mm5 _).2.1 (Hd.mm5 _).2.2.1 (Hd.mm5 _).2.2.2.1 (Hd.mm5 _).2.2.2.2 (Hd.mm6 _).1 (Hd.mm6 _).2.1 (Hd.mm6 _).2.2.1 (Hd.mm6 _).2.2.2.1 (Hd.mm6 _).2.2.2.2 (Hd.mm7 _).1 (Hd.mm7 _).2.1 (Hd.mm7 _).2.2.1 (Hd.mm7 _).2.2.2.1 (Hd.mm7 _).2.2.2.2 (Hd.mm8 _).1 (Hd.mm8 _).2.1 (Hd.mm8 _).2.2.1 (Hd.mm8 _).2.2.2.1 (Hd.mm8 _).2.2.2.2 (Hd.mm9 _).1 (Hd.mm9 _).2.1 (Hd.mm9 _).2.2.1 (Hd.mm9 _).2.2.2.1 (Hd.mm9 _).2.2.2.2 (Hd.ff10 _).1 (Hd.ff10 _).2.1 (Hd.ff10 _).2.2.1 (Hd.ff10 _).2.2.2 (Hd.mm11 _).1 (Hd.mm11 _).2.1 (Hd.mm11 _).2.2.1 (Hd.mm11 _).2.2.2.1 (Hd.mm11 _).2.2.2.2 (Hd.mm12 _).1 (Hd.mm12 _).2.1 (Hd.mm12 _).2.2.1 (Hd.mm12 _).2.2.2.1 (Hd.mm12 _).2.2.2.2 (Hd.mm13 _).1 (Hd.mm13 _).2.1 (Hd.mm13 _).2.2.1 (Hd.mm13 _).2.2.2.1 (Hd.mm13 _).2.2.2.2 (Hd.mm14 _).1 (Hd.mm14 _).2.1 (Hd.mm14 _).2.2.1 (Hd.mm14 _).2.2.2.1 (Hd.mm14 _).2.2.2.2 (Hd.mm15 _).1 (Hd.mm15 _).2.1 (Hd.mm15 _).2.2.1 (Hd.mm15 _).2.2.2.1 (Hd.mm15 _).2.2.2.2 (Hd.ff16 _).1 (Hd.ff16 _).2.1 (Hd.ff16 _).2.2.1 (Hd.ff16 _).2.2.2 (Hd.mm17 _).1 (Hd.mm17 _).2.1 (Hd.mm17 _).2.2.1 (Hd.mm17 _).2.2.2.1 (Hd.mm17 _).2.2.2.2 (Hd.mm18 _).1 (Hd.mm18 _).2.1 (Hd.mm18 _).2.2.1 (Hd.mm18 _).2.2.2.1 (Hd.mm18 _).2.2.2.2 (Hd.mm19 _).1 (Hd.mm19 _).2.1 (Hd.mm19 _).2.2.1 (Hd.mm19 _).2.2.2.1 (Hd.mm19 _).2.2.2.2 (Hd.mm20 _).1 (Hd.mm20 _).2.1 (Hd.mm20 _).2.2.1 (Hd.mm20 _).2.2.2.1 (Hd.mm20 _).2.2.2.2 (Hd.mm21 _).1 (Hd.mm21 _).2.1 (Hd.mm21 _).2.2.1 (Hd.mm21 _).2.2.2.1 (Hd.mm21 _).2.2.2.2 (Hd.ff22 _).1 (Hd.ff22 _).2.1 (Hd.ff22 _).2.2.1 (Hd.ff22 _).2.2.2 (Hd.ff23 _).1 (Hd.ff23 _).2.1 (Hd.ff23 _).2.2.1 (Hd.ff23 _).2.2.2 (Hd.ff24 _).1 (Hd.ff24 _).2.1 (Hd.ff24 _).2.2.1 (Hd.ff24 _).2.2.2 (Hd.ff25 _).1 (Hd.ff25 _).2.1 (Hd.ff25 _).2.2.1 (Hd.ff25 _).2.2.2 (Hd.ff26 _).1 (Hd.ff26 _).2.1 (Hd.ff26 _).2.2.1 (Hd.ff26 _).2.2.2 (Hd.ff27 _).1 (Hd.ff27 _).2.1 (Hd.ff27 _).2.2.1 (Hd.ff27 _).2.2.2 (Hd.ff28 _).1 (Hd.ff28 _).2.1 (Hd.ff28 _).2.2.1 (Hd.ff28 _).2.2.2 (Hd.ff29 _).1 (Hd.ff29 _).2.1 (Hd.ff29 _).2.2.1 (Hd.ff29 _).2.2.2 (Hd.ff30 _).1 (Hd.ff30 _).2.1 (Hd.ff30 _).2.2.1 (Hd.ff30 _).2.2.2 (Hd.ff31 _).1 (Hd.ff31 _).2.1 (Hd.ff31 _).2.2.1 (Hd.ff31 _).2.2.2 (Hd.ff32 _).1 (Hd.ff32 _).2.1 (Hd.ff32 _).2.2.1 (Hd.ff32 _).2.2.2 (Hd.ff33 _).1 (Hd.ff33 _).2.1 (Hd.ff33 _).2.2.1 (Hd.ff33 _).2.2.2 (Hd.ff34 _).1 (Hd.ff34 _).2.1 (Hd.ff34 _).2.2.1 (Hd.ff34 _).2.2.2 (Hd.ns_in 60 none (by kernel_rfl)) (Hd.ns_in 103 none (by kernel_rfl)) (Hd.ns_in 23 none (by kernel_rfl)) (Hd.ns_in 59 none (by kernel_rfl)) (Hd.ns_in 22 none (by kernel_rfl)) (Hd.ns_in 27 none (by kernel_rfl)) (Hd.ns_in 45 none (by kernel_rfl)) (Hd.ns_in 37 none (by kernel_rfl)) (Hd.ns_in 34 none (by kernel_rfl)) (Hd.ns_in 104 none (by kernel_rfl)) (Hd.ns_in 140 (some (.int (8) 305)) (by kernel_rfl)) (by kernel_rfl) (Hd.ns_in 146 (some (.ref 102)) (by kernel_rfl)) (by kernel_rfl) (Hd.ns_in 139 (some (.ref 127)) (by kernel_rfl)) (by kernel_rfl) (Hd.ns_in 144 (some (.int (8) 382)) (by kernel_rfl)) (by kernel_rfl) (Hd.ns_in 125 (some (.int (1000000) 470)) (by kernel_rfl)) (by kernel_rfl) (Hd.ns_in 105 (some (.ref 212)) (by kernel_rfl)) (by kernel_rfl) (Hd.ns_in 56 (some (.ref 24)) (by kernel_rfl)) (Hd.ns_in 62 (some (.ref 37)) (by kernel_rfl)) (Hd.ns_in 63 (some (.ref 49)) (by kernel_rfl)) (Hd.ns_in 54 (some (.ref 61)) (by kernel_rfl)) (Hd.ns_in 55 (some (.ref 73)) (by kernel_rfl)) (Hd.ns_in 65 (some (.ref 85)) (by kernel_rfl)) (Hd.ns_in 64 (some (.ref 97)) (by kernel_rfl)) (Hd.ex_NoProgram _) (Hd.ex_NoText _) (Hd.ex_NoMark _) (Hd.ex_TooGreat _) (Hd.ex_TooLong _) (Hd.ex_NotWhole _) (Hd.hE_x _) (Hd.kE_x _) (by kernel_rfl)
