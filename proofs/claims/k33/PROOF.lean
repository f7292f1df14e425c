import PyProof.Rows.All
import Wide.All
import OpenK.AllK
import Wide.FinOn
import Lean
import PyProof.EqAt
import PyProof.EqKinds
import PyProof.TupleCall
import PyProof.NeKinds
import KE.KRevIter
import PyProof.ZipIter
import PyProof.DictItems
import PyProof.DictWalks
import KE.KPairComp
import KE.KSortTup
import PyProof.Rows.SetFrom
import PyProof.WalksMore
import PyProof.MeetsDict
import PySem.Challenge.RW_turtlehouse_k33_whole_unlike
set_option Elab.async false
set_option linter.all false
set_option maxRecDepth 100000
set_option maxHeartbeats 4000000
namespace L2
open PySem PySem.Spec PyProof.Rows
abbrev Key := Sum Int Str
def jG : Key → Value → Bool
 | .inl k, v => Value.isInt k v
 | .inr x, v => Value.isStrOf x v
def keyH (w : World) : Key → Int
 | .inl k => hashInt k
 | .inr x => hashStr w x
theorem CP : ∀ {k : Key} {v : Value}, jG k v = true → (∃ i t, k = Sum.inl i ∧ v = Value.int i t) ∨ (∃ x t, k = Sum.inr x ∧ v = Value.str x t)
 | .inl i, v, h => by
  obtain ⟨t, e⟩ := Value.isInt_shape (k := i) (v := v) h
  exact .inl ⟨i, t, rfl, e⟩
 | .inr x, v, h => by
  obtain ⟨t, e⟩ := Value.isStrOf_shape (x := x) (v := v) h
  exact .inr ⟨x, t, rfl, e⟩
theorem mQ (a b : Int) : decide ((Sum.inl a : Key) = Sum.inl b) = (a == b) := by
 by_cases e : a = b
 ·subst e; simp
 ·have h : ¬ (Sum.inl a : Key) = Sum.inl b := fun q => e (Sum.inl.inj q)
  rw [decide_eq_false h]
  exact (beq_eq_false_iff_ne.mpr e).symm
theorem lF (a b : Str) : decide ((Sum.inr a : Key) = Sum.inr b) = decide (a = b) := by
 by_cases e : a = b
 ·subst e; simp
 ·have h : ¬ (Sum.inr a : Key) = Sum.inr b := fun q => e (Sum.inr.inj q)
  rw [decide_eq_false h, decide_eq_false e]
theorem mD (a : Int) (b : Str) : decide ((Sum.inl a : Key) = Sum.inr b) = false := decide_eq_false (fun q => nomatch q)
theorem lI (a : Str) (b : Int) : decide ((Sum.inr a : Key) = Sum.inl b) = false := decide_eq_false (fun q => nomatch q)
def QD (prog : Program) (w : World) : PySem.KeyKind prog w Key where
 is := jG
 hash := keyH w
 inj := fun v a b ha hb => by
  rcases CP ha with ⟨i, t, rfl, rfl⟩ | ⟨x, t, rfl, rfl⟩
  ·rcases CP hb with ⟨j, u, rfl, e⟩ | ⟨y, u, rfl, e⟩
   ·injection e with e1 _; rw [e1]
   ·exact nomatch e
  ·rcases CP hb with ⟨j, u, rfl, e⟩ | ⟨y, u, rfl, e⟩
   ·exact nomatch e
   ·injection e with e1 _; rw [e1]
 byValue := fun k v h => by
  rcases CP h with ⟨i, t, rfl, rfl⟩ | ⟨x, t, rfl, rfl⟩ <;> rfl
 pyHash := fun hv h => by
  rcases CP hv with ⟨i, t, rfl, rfl⟩ | ⟨x, t, rfl, rfl⟩
  ·exact wpAny_pyHash_int h
  ·exact wpAny_pyHash_str h
 eqBool := fun hu hv h => by
  rcases CP hu with ⟨i, t, rfl, rfl⟩ | ⟨x, t, rfl, rfl⟩
  ·rcases CP hv with ⟨j, u, rfl, rfl⟩ | ⟨y, u, rfl, rfl⟩
   ·rw [mQ] at h; exact wpAny_eqBool_int h
   ·rw [mD] at h; exact SeqAt.EqAt.int_str i t y u _ _ _ _ h
  ·rcases CP hv with ⟨j, u, rfl, rfl⟩ | ⟨y, u, rfl, rfl⟩
   ·rw [lI] at h; exact SeqAt.EqAt.str_int x t j u _ _ _ _ h
   ·rw [lF] at h; exact wpAny_eqBool_str h
 «strs» := fun k x t v h => by
  rcases CP h with ⟨i, u, rfl, e⟩ | ⟨y, u, rfl, e⟩
  ·exact nomatch e
  ·injection e with e1 _
   subst e1
   cases v <;> rfl
inductive V where
 | non | bl (b : Bool) | int (i : Int) | str (x : Str) | byt (b : Array UInt8) | flt (b : UInt64) | ref (a : Addr) | ty (n : String)
 deriving DecidableEq
def BF : V → Value → Prop
 | .non, u => u = Value.none
 | .bl b, u => u = Value.bool b
 | .int i, u => ∃ t, u = Value.int i t
 | .str x, u => ∃ t, u = Value.str x t
 | .byt b, u => ∃ t, u = Value.bytes b t
 | .flt b, u => ∃ t, u = Value.float b t
 | .ref a, u => u = Value.ref a
 | .ty n, u => u = Value.type n
abbrev BH : List V → List Value → Prop := Paired BF
theorem BH.length {xs : List V} {us : List Value} (r : BH xs us) : xs.length = us.length := Paired.length r
theorem BH.get : ∀ {xs : List V} {us : List Value} {i : Nat} {x : V}, BH xs us → xs[i]? = some x → ∃ u, us[i]? = some u ∧ BF x u
 | _, _, _, _, .nil, e => by simp at e
 | _, _, 0, _, .cons r _, e => by simp at e; subst e; exact ⟨_, rfl, r⟩
 | _, _, i + 1, x, .cons _ t, e => by
  obtain ⟨u, h1, h2⟩ := BH.get (i := i) (x := x) t (by simpa using e)
  exact ⟨u, by simpa using h1, h2⟩
theorem BH.set {x : V} {u : Value} (r : BF x u) : ∀ {xs : List V} {us : List Value} (i : Nat), BH xs us → BH (xs.set i x) (us.set i u)
 | _, _, _, .nil => .nil
 | _, _, 0, .cons _ t => .cons r t
 | _, _, i + 1, .cons q t => .cons q (BH.set r i t)
theorem BH.append : ∀ {xs ys : List V} {us ws : List Value}, BH xs us → BH ys ws → BH (xs ++ ys) (us ++ ws)
 | _, _, _, _, .nil, s => s
 | _, _, _, _, .cons r t, s => .cons r (BH.append t s)
theorem BH.take : ∀ {xs : List V} {us : List Value} (n : Nat), BH xs us → BH (xs.take n) (us.take n)
 | _, _, 0, _ => .nil
 | _, _, _ + 1, .nil => .nil
 | _, _, n + 1, .cons r t => .cons r (BH.take n t)
theorem BH.drop : ∀ {xs : List V} {us : List Value} (n : Nat), BH xs us → BH (xs.drop n) (us.drop n)
 | _, _, 0, r => r
 | _, _, _ + 1, .nil => .nil
 | _, _, n + 1, .cons _ t => BH.drop n t
theorem BH.none_of : ∀ {xs : List V} {us : List Value} {i : Nat}, BH xs us → xs[i]? = none → us[i]? = none := fun {xs us i} r e => by
 have h1 := r.length
 have h2 : xs.length ≤ i := List.getElem?_eq_none_iff.mp e
 exact List.getElem?_eq_none_iff.mpr (by omega)
def eT : Option V → Option Value → Prop
 | some v, some u => BF v u
 | none, none => True
 | _, _ => False
def KV {κ : Type} : List (κ × V) → List (κ × Value) → Prop := Paired fun (p : κ × V) (q : κ × Value) => p.1 = q.1 ∧ BF p.2 q.2
def kV : Key → V
 | .inl i => .int i
 | .inr x => .str x
inductive HO where
 | lst (xs : List V)
 | tup (xs : List V)
 | dK (kvs : List (Key × V)) | dT (kvs : List (List Key × V))
 | set (S : Int → Bool) (n : Nat)
 | ins (C dx : Addr) (fs : List (Str × V))
 | own (x : Addr)
 | xd (fs : List (Str × V))
 | met (f x : Addr)
 | rng (lo hi : Int)
 | frz (o : Obj) (u : HO)
 | tbl (ps : Array Value)
 | ext (φ : Heap → Prop)
abbrev Hp := Addr → Option HO
def upd (H : Hp) (a : Addr) (o : HO) : Hp := fun b => if b = a then some o else H b
theorem AD {H : Hp} {a : Addr} {o : HO} : upd H a o a = some o := by unfold upd; rw [if_pos rfl]
theorem BM {H : Hp} {a b : Addr} {o : HO} (h : b ≠ a) : upd H a o b = H b := by unfold upd; rw [if_neg h]
theorem gO {H : Hp} {a : Addr} {o u : HO} : upd (upd H a o) a u = upd H a u := by
 funext b; unfold upd; split <;> rfl
theorem CG {H : Hp} {a b : Addr} {o : HO} (h : H a = some o) (h' : H b = none) : a ≠ b := by
 intro e; subst e; rw [h] at h'; cases h'
section
variable (P : Program) (w : World)
def DF (H : Hp) (h : Heap) (a : Addr) : HO → Prop
 | .lst xs => xs.length ≤ sizeLine ∧ ∃ (its : List Value) (n : Nat), BH xs its ∧ h.get? a = some { cls := .type "list", data := .seq its.toArray n }
 | .tup xs => xs.length ≤ sizeLine ∧ ∃ its : List Value, BH xs its ∧ IsTup h a its.toArray
 | .dK kvs => kvs.length ≤ sizeLine ∧ (a == sysModules) = false ∧ ∃ vs, KV kvs vs ∧ h.DictOf (QD P w) a vs
 | .dT kvs => kvs.length ≤ sizeLine ∧ (a == sysModules) = false ∧ ∃ xs : List (List Key × Addr × Value),
   Paired (fun (p : List Key × V) (q : List Key × Addr × Value) => p.1 = q.1 ∧ H q.2.1 = some (.tup (p.1.map kV)) ∧ BF p.2 q.2.2) kvs xs ∧
   ∃ o es ep, h.get? a = some o ∧ o.ExactDict ∧ o.data = .dict es ep ∧ es.toList = xs.map (entryOfKey (tupleKind (QD P w))) ∧ (xs.map (·.1)).Nodup
 | .set S n => h.SetOf (intKind P w) a S n
 | .ins C dx fs => H dx = some (.own a) ∧ fs.length ≤ 1000 ∧ dx ≠ a ∧ h.get? a = some (PySem.W.instObj C dx) ∧
   ∃ mA, h.Ns1 dx mA ∧ (∀ f, eT (fs.lookup f) (mA f)) ∧ PySem.Within mA (fs.map (·.1))
 | .own _ => ∃ o, h.get? a = some o
 | .xd fs => ∃ mA, h.Ns1 a mA ∧ ∀ f, eT (fs.lookup f) (mA f)
 | .rng lo hi => ∃ t u v, h.get? a = some { cls := .type "range", data := .fields #[.int lo t, .int hi u, .int 1 v] }
 | .frz o u => h.get? a = some o ∧ DF H h a u
 | .tbl ps => h.get? a = some { cls := .none, data := .fields ps }
 | .met f x => h.get? a = some (PySem.W.methodObj (.ref f) (.ref x))
 | .ext φ => φ h ∧ (∃ o, h.get? a = some o) ∧ ∀ h1 h2 : Heap, φ h1 → (∀ o, h1.get? a = some o → h2.get? a = some o) → φ h2
def HOk (H : Hp) (h : Heap) : Prop := ∀ a o, H a = some o → DF P w H h a o
end
section
variable {P : Program} {w : World} {H H' : Hp} {h h' : Heap} {a : Addr} {o : HO}
theorem DF.lt (x : DF P w H h a o) : a < h.objs.size := by
 cases o with
 | lst xs => obtain ⟨_, _, _, _, e⟩ := x; exact Heap.lt_size e
 | tup xs => obtain ⟨_, _, _, p⟩ := x; exact p.lt
 | dK kvs => obtain ⟨_, _, _, _, o, _, _, e, _⟩ := x; exact Heap.lt_size e
 | dT kvs => obtain ⟨_, _, _, _, o, _, _, e, _⟩ := x; exact Heap.lt_size e
 | set S n => obtain ⟨o, _, _, _, e, _⟩ := x; exact Heap.lt_size e
 | ins C dx fs => obtain ⟨_, _, _, e, _⟩ := x; exact Heap.lt_size e
 | own y => obtain ⟨_, e⟩ := x; exact Heap.lt_size e
 | xd fs => obtain ⟨_, ⟨_, _, _, e, _⟩, _⟩ := x; exact Heap.lt_size e
 | rng lo hi => obtain ⟨_, _, _, e⟩ := x; exact Heap.lt_size e
 | frz ob u => obtain ⟨e, _⟩ := x; exact Heap.lt_size e
 | tbl ps => exact Heap.lt_size (show h.get? a = some _ from x)
 | met f y => exact Heap.lt_size (show h.get? a = some _ from x)
 | ext φ => obtain ⟨_, ⟨_, e⟩, _⟩ := x; exact Heap.lt_size e
theorem Paired.mapP {α β : Type} {F G : α → β → Prop} : ∀ {l₁ : List α} {l₂ : List β}, Paired F l₁ l₂ → (∀ a b, F a b → G a b) → Paired G l₁ l₂
 | _, _, .nil, _ => .nil
 | _, _, .cons r t, f => .cons (f _ _ r) (Paired.mapP t f)
theorem DF.stay (x : DF P w H h a o) (k : ∀ b u, (b = a ∨ H b = some (.own a)) → h.get? b = some u → h'.get? b = some u)
  (ho : ∀ b, H b = some (.own a) → H' b = some (.own a)) (ht : ∀ b xs, H b = some (.tup xs) → H' b = some (.tup xs)) : DF P w H' h' a o := by
 induction o with
 | lst xs => obtain ⟨z, its, n, r, e⟩ := x; exact ⟨z, its, n, r, k _ _ (.inl rfl) e⟩
 | tup xs => obtain ⟨z, its, r, ob, e, c⟩ := x; exact ⟨z, its, r, ob, k _ _ (.inl rfl) e, c⟩
 | dK kvs => obtain ⟨z, y, vs, r, ob, es, ep, e, c⟩ := x; exact ⟨z, y, vs, r, ob, es, ep, k _ _ (.inl rfl) e, c⟩
 | dT kvs =>
  obtain ⟨z, y, xs, r, ob, es, ep, e, c⟩ := x
  exact ⟨z, y, xs, Paired.mapP r fun p q z => ⟨z.1, ht _ _ z.2.1, z.2.2⟩, ob, es, ep, k _ _ (.inl rfl) e, c⟩
 | set S n => obtain ⟨ob, es, ep, t, e, c⟩ := x; exact ⟨ob, es, ep, t, k _ _ (.inl rfl) e, c⟩
 | ins C dx fs =>
  obtain ⟨d, z, ne, e, mA, ⟨od, es, ep, e2, c⟩, r⟩ := x
  exact ⟨ho _ d, z, ne, k _ _ (.inl rfl) e, mA, ⟨od, es, ep, k _ _ (.inr d) e2, c⟩, r⟩
 | own y => obtain ⟨ob, e⟩ := x; exact ⟨ob, k _ _ (.inl rfl) e⟩
 | xd fs => obtain ⟨mA, ⟨od, es, ep, e, c⟩, r⟩ := x; exact ⟨mA, ⟨od, es, ep, k _ _ (.inl rfl) e, c⟩, r⟩
 | rng lo hi => obtain ⟨t, u, v, e⟩ := x; exact ⟨t, u, v, k _ _ (.inl rfl) e⟩
 | frz ob u ih => obtain ⟨e, q⟩ := x; exact ⟨k _ _ (.inl rfl) e, ih q⟩
 | tbl ps =>
  have e : h.get? a = some { cls := .none, data := .fields ps } := x
  show h'.get? a = some { cls := .none, data := .fields ps }
  exact k a _ (.inl rfl) e
 | met f y =>
  have e : h.get? a = some (PySem.W.methodObj (.ref f) (.ref y)) := x
  show h'.get? a = some (PySem.W.methodObj (.ref f) (.ref y))
  exact k a _ (.inl rfl) e
 | ext φ => obtain ⟨p, ⟨o, e⟩, st⟩ := x; exact ⟨st _ _ p fun o q => k _ _ (.inl rfl) q, ⟨o, k _ _ (.inl rfl) e⟩, st⟩
theorem HOk.lt (x : HOk P w H h) (e : H a = some o) : a < h.objs.size := (x a o e).lt
theorem HOk.fresh (x : HOk P w H h) (e : h.objs.size ≤ a) : H a = none := by
 cases q : H a with
 | none => rfl
 | some u => exact absurd (Nat.lt_of_lt_of_le (x.lt q) e) (Nat.lt_irrefl _)
theorem HOk.kept (x : HOk P w H h) (k : ∀ b u, h.get? b = some u → h'.get? b = some u) : HOk P w H h' := fun a o e =>
 (x a o e).stay (fun b u _ q => k b u q) (fun _ q => q) fun _ _ q => q
theorem HOk.laid (x : HOk P w H h) (k : ∀ b u, h.get? b = some u → h'.get? b = some u) (hp : h.objs.size ≤ a) (new : DF P w (upd H a o) h' a o) : HOk P w (upd H a o) h' := fun b u e => by
 have hn := x.fresh hp
 by_cases hb : b = a
 ·subst hb; rw [AD] at e; cases e; exact new
 ·rw [BM hb] at e
  exact (x b u e).stay (fun c v _ q => k c v q) (fun c q => by rw [BM (CG q hn)]; exact q) fun c xs q => by rw [BM (CG q hn)]; exact q
end
def Rd (H : Hp) (a : Addr) (u : HO) : Prop := H a = some u ∨ ∃ o, H a = some (.frz o u)
theorem Rd.ok {P : Program} {w : World} {H : Hp} {h : Heap} {a : Addr} {u : HO} (r : Rd H a u) (x : HOk P w H h) : DF P w H h a u := by
 rcases r with r | ⟨o, r⟩
 ·exact x a u r
 ·obtain ⟨_, q⟩ := x a _ r
  exact q
def Mut : Option HO → Prop
 | some (.lst _) => True
 | some (.dK _) => True
 | some (.dT _) => True
 | some (.set _ _) => True
 | some (.ins _ _ _) => True
 | some (.ext _) => True
 | _ => False
section
variable {P : Program} {w : World} {H : Hp} {h h' : Heap} {x e : Addr} {o' : HO}
theorem HOk.write (ok : HOk P w H h) (mu : Mut (H x)) (he : e = x ∨ H e = some (.own x)) (k : ∀ b u, b ≠ e → h.get? b = some u → h'.get? b = some u) (heo : ∃ u, h'.get? e = some u)
  (new : DF P w (upd H x o') h' x o') : HOk P w (upd H x o') h' := fun b u q => by
 have nown : ∀ c y, H c = some (.own y) → c ≠ x := fun c y r z => by subst z; rw [r] at mu; exact mu
 have ntup : ∀ c xs, H c = some (.tup xs) → c ≠ x := fun c xs r z => by subst z; rw [r] at mu; exact mu
 by_cases hb : b = x
 ·subst hb; rw [AD] at q; cases q; exact new
 ·rw [BM hb] at q
  by_cases hbe : b = e
  ·have q' : H b = some (.own x) := by
    rcases he with z | z
    ·exact absurd (hbe.trans z) hb
    ·rw [hbe]; exact z
   rw [q] at q'; cases q'
   obtain ⟨v, hv⟩ := heo
   exact ⟨v, by rw [hbe]; exact hv⟩
  ·refine (ok b u q).stay (fun c v hc r => k c v ?_ r) (fun c r => by rw [BM (nown c b r)]; exact r) fun c xs r => by rw [BM (ntup c xs r)]; exact r
   rcases hc with rfl | hc
   ·exact hbe
   ·rintro rfl
    rcases he with z | z
    ·exact nown c b hc z
    ·rw [hc] at z; cases z; exact hb rfl
end
structure Un (fs ex : List Addr) (H H' : Hp) (h h' : Heap) : Prop where
 keep : ∀ b o, h.get? b = some o → H b = none → b ∉ fs → b ∉ ex → h'.get? b = some o
 slot : ∀ b o, h.get? b = some o → H b = none → b ∈ fs → b ∉ ex → ∃ sl, h'.get? b = some { o with slots := sl }
 free : ∀ b o, h.get? b = some o → H b = none → b ∉ ex → H' b = none
 there : ∀ b o, h.get? b = some o → b ∉ ex → ∃ o', h'.get? b = some o'
 tups : ∀ b xs, H b = some (.tup xs) → H' b = some (.tup xs)
 frzs : ∀ b o u, H b = some (.frz o u) → H' b = some (.frz o u)
 tbls : ∀ b ps, H b = some (.tbl ps) → ∃ more, H' b = some (.tbl (ps ++ more))
section
variable {fs fs' ex ex' : List Addr} {H H1 H2 : Hp} {h h1 h2 h' : Heap} {a x e : Addr} {o : HO}
theorem Un.any (u : Un fs ex H H1 h h1) {b : Addr} {ob : Obj} (q : h.get? b = some ob) (n : H b = none) (hx : b ∉ ex) : ∃ sl, h1.get? b = some { ob with slots := sl } := by
 by_cases hb : b ∈ fs
 ·exact u.slot b ob q n hb hx
 ·exact ⟨ob.slots, u.keep b ob q n hb hx⟩
theorem Un.kept (k : ∀ b u, h.get? b = some u → h'.get? b = some u) : Un fs ex H H h h' :=
 ⟨fun b ob q _ _ _ => k b ob q, fun b ob q _ _ _ => ⟨ob.slots, k b ob q⟩, fun _ _ _ n _ => n, fun b ob q _ => ⟨ob, k b ob q⟩, fun _ _ q => q, fun _ _ _ q => q, fun _ ps q => ⟨#[], by rw [q]; simp⟩⟩
theorem Un.refl : Un fs ex H H h h := Un.kept fun _ _ q => q
theorem Un.laid (k : ∀ b u, h.get? b = some u → h'.get? b = some u) (hp : h.objs.size ≤ a) (hn : H a = none) : Un fs ex H (upd H a o) h h' where
 keep := fun b u q _ _ _ => k b u q
 slot := fun b u q _ _ _ => ⟨u.slots, k b u q⟩
 free := fun b u q n _ => by rw [BM (Nat.ne_of_lt (Nat.lt_of_lt_of_le (Heap.lt_size q) hp))]; exact n
 there := fun b u q _ => ⟨u, k b u q⟩
 tups := fun b xs q => by rw [BM (CG q hn)]; exact q
 frzs := fun b u xs q => by rw [BM (CG q hn)]; exact q
 tbls := fun b ps q => ⟨#[], by rw [BM (CG q hn), q]; simp⟩
theorem Un.write (mu : Mut (H x)) (he : e = x ∨ H e = some (.own x)) (k : ∀ b u, b ≠ e → h.get? b = some u → h'.get? b = some u) (heo : ∃ u, h'.get? e = some u) : Un fs ex H (upd H x o) h h' := by
 have hx : ∀ b, H b = none → b ≠ x := fun b n z => by subst z; rw [n] at mu; exact mu
 have hb : ∀ b, H b = none → b ≠ e := fun b n z => by
  subst z
  rcases he with r | r
  ·exact hx b n r
  ·rw [n] at r; cases r
 have hm : ∀ b u, H b = some u → ¬ Mut (some u) → b ≠ x := fun b u q nm z => by subst z; rw [q] at mu; exact nm mu
 refine ⟨fun b u q n _ _ => k b u (hb b n) q, fun b u q n _ _ => ⟨u.slots, k b u (hb b n) q⟩, fun b u q n _ => by rw [BM (hx b n)]; exact n, fun b u q _ => ?_,
  fun b xs q => by rw [BM (hm b _ q fun z => z)]; exact q, fun b u xs q => by rw [BM (hm b _ q fun z => z)]; exact q, fun b ps q => ⟨#[], by rw [BM (hm b _ q fun z => z), q]; simp⟩⟩
 by_cases hbe : b = e
 ·subst hbe; exact heo
 ·exact ⟨u, k b u hbe q⟩
end
def trk (h : Heap) (H : Hp) : List Addr := (List.range h.objs.size).filter fun a => (H a).isSome
def QF (h : Heap) (H : Hp) : Heap := PySem.W.hideAll h (trk h H)
theorem ZK (h : Heap) (H : Hp) : (QF h H).objs.size = h.objs.size := PySem.W.hideAll_size _ _
theorem bL {h : Heap} {H : Hp} {b : Addr} {o : Obj} (e : h.get? b = some o) (n : H b = none) : (QF h H).get? b = some o :=
 PySem.W.hideAll_get _ e fun hm => by
  have q : (H b).isSome = true := (List.mem_filter.mp hm).2
  rw [n] at q; simp at q
theorem iQ {h : Heap} {H : Hp} {b : Addr} {o : Obj} (e : (QF h H).get? b = some o) : h.get? b = some o ∧ H b = none := by
 have e' : h.get? b = some o := PySem.W.of_hideAll (trk h H) e
 refine ⟨e', ?_⟩
 cases q : H b with
 | none => rfl
 | some x =>
  have hm : b ∈ trk h H := List.mem_filter.mpr ⟨List.mem_range.mpr (Heap.lt_size e'), by simp [q]⟩
  have z : (QF h H).get? b = none := PySem.W.hideAll_none (trk h H) hm
  rw [z] at e; cases e
def hZ (g h : Heap) (L : Addr) : List (Addr × Obj) := (List.range h.objs.size).filterMap fun a => if a = L ∨ (g.get? a).isSome = true then none else (h.get? a).map fun o => (a, o)
def HS (g h : Heap) (L d : Addr) : List (Addr × Obj) := (hZ g h L).filter fun p => decide (p.1 ≠ d)
structure Mod (K : PySem.W.Frag) (mg : Str → Option Value) (base : Heap) : Prop where
 kin : K.In base
 glob : base.Ns mainGlobals mg
 blt : ∃ mb, base.Ns builtinsNs mb ∧ ∀ x : Str, x ≠ "__name__" → mb x = bootBuiltins x
 nolimit : base.NoLimit
structure Cx where
 prog : Program
 w : World
 K : PySem.W.Frag
 mg : Str → Option Value
 base : Heap
 A : Around
 N : List Str
 s₀ : Shared
 H₀ : Hp
 env : Env
 outer : List Env
 stack : List Env
 ex : List Addr
 fn : Str → Bool
 calm : Bool
 pn : List (Addr × Obj)
 xe : Value → Shared → Prop
def frs (l : List Env) : List Addr := l.filterMap (·.frame)
abbrev Cx.fs (X : Cx) : List Addr := frs X.outer
def Vis (sc : Scope) (x : Str) : Prop := sc.names.lookup x = some .local ∨ sc.names.lookup x = some .cell ∨ sc.names.lookup x = some .free
def Loc (sc : Scope) (x : Str) : Prop := sc.names.lookup x = some .local ∨ sc.names.lookup x = some .cell
def Look (env : Env) (h : Heap) (m : Str → Option Value) (x : Str) (u : Value) : Prop :=
 (env.kindOf x = some .local ∧ m x = some u) ∨ ((env.kindOf x = some .cell ∨ env.kindOf x = some .free) ∧ ∃ c, env.cells.lookup x = some c ∧ h.IsCell c (some u))
structure Cx.Ok (X : Cx) : Prop where
 mod : Mod X.K X.mg X.base
 kind : X.env.scope.kind = .function
 glob : X.env.globals = mainGlobals
 blt : X.env.builtins = builtinsNs
 above : X.s₀.heap.objs.size ≤ X.env.locals
 inj : ∀ x y c, X.env.cells.lookup x = some c → X.env.cells.lookup y = some c → x = y
 has : ∀ x, (X.env.kindOf x = some .cell ∨ X.env.kindOf x = some .free) → ∃ c, X.env.cells.lookup x = some c
 cab : ∀ x c, X.fn x = true → X.env.cells.lookup x = some c → X.s₀.heap.objs.size ≤ c
 hd : X.calm = true → X.A.handled = none
 frames : X.A.frames = some X.stack
 stk : X.stack = X.outer ∨ (X.stack = X.env :: X.outer ∧ X.env.frame = some X.env.locals)
 exf : ∀ b ∈ X.ex, b ≠ X.env.locals ∧ ∀ x c, X.env.cells.lookup x = some c → c ≠ b
 bs : ∀ b o, X.base.get? b = some o → X.s₀.heap.get? b = some o ∧ X.H₀ b = none
 bsz : X.base.objs.size ≤ X.s₀.heap.objs.size
 noex : ∀ b o, X.base.get? b = some o → b ∉ X.ex
 exfs : ∀ b ∈ X.ex, b ∉ X.fs
 funs : X.s₀.heap.FunFrames X.base X.outer
 frf : ∀ b ∈ X.fs, X.H₀ b = none
structure Inv (X : Cx) (pins : List (Addr × Obj)) (σ : List (Option V)) (H : Hp) (s : Shared) : Prop where
 ok : X.Ok
 os : s.os = X.s₀.os
 bare : AllBare s.gens
 base : Un X.fs X.ex X.H₀ H X.s₀.heap s.heap
 loc : ∃ m, s.heap.Ns X.env.locals m ∧ ∀ (i : Nat) (x : Str) (v : V), X.N[i]? = some x → σ[i]? = some (some v) → Vis X.env.scope x → ∃ u, BF v u ∧ Look X.env s.heap m x u
 cell : ∀ x c, X.env.cells.lookup x = some c → ∃ v, s.heap.IsCell c v
 free : H X.env.locals = none
 freeC : ∀ x c, X.env.cells.lookup x = some c → H c = none
 pin : ∀ p ∈ X.pn ++ pins, s.heap.get? p.1 = some p.2 ∧ H p.1 = none ∧ p.1 ≠ X.env.locals ∧ p.1 ∉ X.fs ∧ ∀ v, p.2.data ≠ .cell v
 hok : HOk X.prog X.w H s.heap
 len : σ.length = X.N.length
section
variable {X : Cx} {pins : List (Addr × Obj)} {σ : List (Option V)} {H H' : Hp} {s : Shared} {h' : Heap}
theorem Cx.Ok.nofr (ok : X.Ok) {b : Addr} {o : Obj} (e : X.base.get? b = some o) : b ∉ X.fs := fun hb => by
 have := (ok.funs.mem hb).1
 rw [e] at this; cases this
theorem Inv.bs (I : Inv X pins σ H s) : ∀ b o, X.base.get? b = some o → s.heap.get? b = some o ∧ H b = none := fun b o e =>
 ⟨I.base.keep b o (I.ok.bs b o e).1 (I.ok.bs b o e).2 (I.ok.nofr e) (I.ok.noex b o e), I.base.free b o (I.ok.bs b o e).1 (I.ok.bs b o e).2 (I.ok.noex b o e)⟩
theorem Inv.bk (I : Inv X pins σ H s) : ∀ b o, X.base.get? b = some o → s.heap.get? b = some o := fun b o e => (I.bs b o e).1
theorem Inv.mod (I : Inv X pins σ H s) : Mod X.K X.mg X.base := I.ok.mod
theorem Inv.kIn (I : Inv X pins σ H s) : X.K.In s.heap := I.ok.mod.kin.keeps I.bk
theorem Inv.fr (I : Inv X pins σ H s) : ∃ m, Fr X.base X.env.locals s.heap m :=
 let ⟨m, hn, _⟩ := I.loc
 ⟨m, hn, I.bk, Nat.le_trans I.ok.bsz I.ok.above⟩
theorem Inv.lt (I : Inv X pins σ H s) : X.env.locals < s.heap.objs.size := let ⟨_, hn, _⟩ := I.loc; hn.lt
theorem Inv.sz (I : Inv X pins σ H s) : X.s₀.heap.objs.size ≤ s.heap.objs.size := Nat.le_trans I.ok.above (Nat.le_of_lt I.lt)
theorem Inv.nofs (I : Inv X pins σ H s) {a : Addr} (h : s.heap.objs.size ≤ a) : a ∉ X.fs := fun hb => by
 obtain ⟨_, o, ho, _⟩ := I.ok.funs.mem hb
 exact absurd (Nat.lt_of_lt_of_le (Heap.lt_size ho) (Nat.le_trans I.sz h)) (Nat.lt_irrefl _)
theorem Inv.cne (I : Inv X pins σ H s) : ∀ x c, X.env.cells.lookup x = some c → c ≠ X.env.locals := fun x c e z => by
 obtain ⟨v, o, ho, hd⟩ := I.cell x c e
 obtain ⟨m, ⟨o', es, ep, ho', hd', _⟩, _⟩ := I.loc
 rw [z, ho'] at ho; cases ho; rw [hd'] at hd; cases hd
theorem Inv.funs (I : Inv X pins σ H s) : s.heap.FunFrames X.base X.outer := by
 have all : ∀ (l : List Env), (∀ b ∈ frs l, b ∈ X.fs) → X.s₀.heap.FunFrames X.base l → s.heap.FunFrames X.base l := by
  intro l
  induction l with
  | nil => intro _ _; trivial
  | cons env r ih =>
   intro hs hl
   obtain ⟨hk, ⟨L, o, hf, hn, ho, hd⟩, hr⟩ := hl
   have hL : L ∈ X.fs := hs L (by unfold frs; rw [List.filterMap_cons, hf]; exact List.mem_cons_self)
   obtain ⟨sl, e⟩ := I.base.slot L o ho (I.ok.frf L hL) hL fun z => I.ok.exfs L z hL
   exact ⟨hk, ⟨L, _, hf, hn, e, hd⟩, ih (fun b hb => hs b (by unfold frs; rw [List.filterMap_cons, hf]; exact List.mem_cons_of_mem _ hb)) hr⟩
 exact all X.outer (fun _ hb => hb) I.ok.funs
theorem Inv.stack (I : Inv X pins σ H s) : s.heap.FunFrames X.base X.stack := by
 rcases I.ok.stk with e | ⟨e, hf⟩
 ·rw [e]; exact I.funs
 ·rw [e]
  obtain ⟨m, hn, _⟩ := I.loc
  refine .cons (by rw [I.ok.kind]; decide) hf hn ?_ I.funs
  exact Heap.get?_none_of_le (Nat.le_trans I.ok.bsz I.ok.above)
theorem Inv.stkSub (I : Inv X pins σ H s) : ∀ b ∈ frs X.stack, b ∈ X.env.locals :: X.fs := fun b hb => by
 rcases I.ok.stk with e | ⟨e, hf⟩
 ·rw [e] at hb; exact List.mem_cons_of_mem _ hb
 ·rw [e] at hb
  unfold frs at hb
  rw [List.filterMap_cons, hf] at hb
  exact hb
theorem Inv.stkFree (I : Inv X pins σ H s) : ∀ b ∈ frs X.stack, H b = none := fun b hb => by
 rcases List.mem_cons.mp (I.stkSub b hb) with e | hb
 ·rw [e]; exact I.free
 ·obtain ⟨_, o, ho, _⟩ := I.ok.funs.mem hb
  exact I.base.free b o ho (I.ok.frf b hb) fun z => I.ok.exfs b z hb
theorem Inv.step {g' : Array GenState} {t' : Nat} {d' : Drawn} {ch : List Addr} (I : Inv X pins σ H s)
  (hch : ∀ b ∈ ch, (b ∈ X.ex ∨ X.s₀.heap.objs.size ≤ b) ∧ b ≠ X.env.locals ∧ (∀ x c, X.env.cells.lookup x = some c → c ≠ b) ∧ ∀ p ∈ X.pn ++ pins, p.1 ≠ b)
  (keep : ∀ b o, b ≠ X.env.locals → b ∉ X.fs → b ∉ ch → s.heap.get? b = some o → H b = none → h'.get? b = some o)
  (slot : ∀ b o, b ≠ X.env.locals → b ∈ X.fs → b ∉ ch → s.heap.get? b = some o → H b = none → ∃ sl, h'.get? b = some { o with slots := sl }) (free : ∀ b o, b ∉ ch → s.heap.get? b = some o → H b = none → H' b = none)
  (there : ∀ b o, b ∉ ch → s.heap.get? b = some o → ∃ o', h'.get? b = some o')
  (tups : ∀ b xs, H b = some (.tup xs) → H' b = some (.tup xs)) (frzs : ∀ b o u, H b = some (.frz o u) → H' b = some (.frz o u)) (tbls : ∀ b ps, H b = some (.tbl ps) → ∃ more, H' b = some (.tbl (ps ++ more)))
  (ns : ∀ m, s.heap.Ns X.env.locals m → h'.Ns X.env.locals m) (hok : HOk X.prog X.w H' h') (hg : AllBare g') :
  Inv X pins σ H' { s with heap := h', gens := g', drawn := d', toks := t' } := by
 have neL : ∀ b o, X.s₀.heap.get? b = some o → b ≠ X.env.locals := fun b o e => Nat.ne_of_lt (Nat.lt_of_lt_of_le (Heap.lt_size e) I.ok.above)
 have neC : ∀ b o, X.s₀.heap.get? b = some o → b ∉ X.ex → b ∉ ch := fun b o e hx hb => by
  rcases (hch b hb).1 with z | z
  ·exact hx z
  ·exact absurd (Nat.lt_of_lt_of_le (Heap.lt_size e) z) (Nat.lt_irrefl _)
 have cellK : ∀ x c, X.env.cells.lookup x = some c → ∀ v, s.heap.IsCell c v → h'.IsCell c v := fun x c e v ⟨o, ho, hd⟩ => by
  have nch : c ∉ ch := fun z => (hch c z).2.2.1 x c e rfl
  by_cases hc : c ∈ X.fs
  ·obtain ⟨sl, q⟩ := slot c o (I.cne x c e) hc nch ho (I.freeC x c e)
   exact ⟨_, q, hd⟩
  ·exact ⟨o, keep c o (I.cne x c e) hc nch ho (I.freeC x c e), hd⟩
 refine ⟨I.ok, I.os, hg, ⟨fun b o e n hb hx => ?_, fun b o e n hb hx => ?_, fun b o e n hx => ?_, fun b o e hx => ?_, fun b xs e => tups b xs (I.base.tups b xs e), fun b o xs e => frzs b o xs (I.base.frzs b o xs e), fun b ps e => ?_⟩, ?_, fun x c e => ?_, ?_, fun x c e => ?_, fun p hp => ?_, hok, I.len⟩
 ·exact keep b o (neL b o e) hb (neC b o e hx) (I.base.keep b o e n hb hx) (I.base.free b o e n hx)
 ·obtain ⟨sl, e1⟩ := I.base.slot b o e n hb hx
  obtain ⟨sl', e2⟩ := slot b _ (neL b o e) hb (neC b o e hx) e1 (I.base.free b o e n hx)
  exact ⟨sl', e2⟩
 ·obtain ⟨o', e1⟩ := I.base.there b o e hx
  exact free b o' (neC b o e hx) e1 (I.base.free b o e n hx)
 ·obtain ⟨o', e1⟩ := I.base.there b o e hx
  exact there b o' (neC b o e hx) e1
 ·obtain ⟨m1, e1⟩ := I.base.tbls b ps e
  obtain ⟨m2, e2⟩ := tbls b _ e1
  exact ⟨m1 ++ m2, by rw [e2, Array.append_assoc]⟩
 ·obtain ⟨m, hn, hl⟩ := I.loc
  refine ⟨m, ns m hn, fun i x v e1 e2 e3 => ?_⟩
  obtain ⟨u, r, l⟩ := hl i x v e1 e2 e3
  refine ⟨u, r, ?_⟩
  rcases l with l | ⟨k, c, e, z⟩
  ·exact .inl l
  ·exact .inr ⟨k, c, e, cellK x c e _ z⟩
 ·obtain ⟨v, z⟩ := I.cell x c e
  exact ⟨v, cellK x c e v z⟩
 ·obtain ⟨m, ⟨o, _, _, ho, _⟩, _⟩ := I.loc
  exact free _ o (fun z => (hch _ z).2.1 rfl) ho I.free
 ·obtain ⟨v, o, ho, hd⟩ := I.cell x c e
  exact free c o (fun z => (hch c z).2.2.1 x c e rfl) ho (I.freeC x c e)
 ·obtain ⟨e, n, ne, nf, d⟩ := I.pin p hp
  have nch : p.1 ∉ ch := fun z => (hch p.1 z).2.2.2 p hp rfl
  exact ⟨keep p.1 p.2 ne nf nch e n, free p.1 p.2 nch e n, ne, nf, d⟩
theorem Inv.un {t' : Nat} (I : Inv X pins σ H s) (u : Un X.fs [] H H' s.heap h') (hok : HOk X.prog X.w H' h') : Inv X pins σ H' { s with heap := h', toks := t' } := by
 obtain ⟨m, ⟨o, es, ep, ho, r⟩, _⟩ := id I.loc
 obtain ⟨sl, hL⟩ := u.any ho I.free (by simp)
 exact I.step (g' := s.gens) (d' := s.drawn) (ch := []) (fun _ z => nomatch z) (fun b o _ hb _ e n => u.keep b o e n hb (by simp)) (fun b o _ hb _ e n => u.slot b o e n hb (by simp)) (fun b o _ e n => u.free b o e n (by simp)) (fun b o _ e => u.there b o e (by simp)) u.tups u.frzs u.tbls (fun m' hm => by
  obtain ⟨o', es', ep', ho', r'⟩ := hm
  rw [ho] at ho'; cases ho'
  exact ⟨_, es', ep', hL, r'⟩) hok I.bare
theorem Inv.call {g' : Array GenState} {t' : Nat} {d' : Drawn} {ch : List Addr} (I : Inv X pins σ H s) (u : Un (frs X.stack) ch H H' s.heap h') (hok : HOk X.prog X.w H' h') (hg : AllBare g')
  (hch : ∀ b ∈ ch, (b ∈ X.ex ∨ X.s₀.heap.objs.size ≤ b) ∧ b ≠ X.env.locals ∧ (∀ x c, X.env.cells.lookup x = some c → c ≠ b) ∧ ∀ p ∈ X.pn ++ pins, p.1 ≠ b) :
  Inv X pins σ H' { s with heap := h', gens := g', drawn := d', toks := t' } := by
 obtain ⟨m, ⟨o, es, ep, ho, r⟩, _⟩ := id I.loc
 obtain ⟨sl, hL⟩ := u.any ho I.free fun z => (hch _ z).2.1 rfl
 exact I.step (ch := ch) hch (fun b o hL hb hc e n => u.keep b o e n (fun z => (List.mem_cons.mp (I.stkSub b z)).elim hL hb) hc) (fun b o _ _ hc e n => u.any e n hc) (fun b o hc e n => u.free b o e n hc) (fun b o hc e => u.there b o e hc) u.tups u.frzs u.tbls (fun m' hm => by
  obtain ⟨o', es', ep', ho', r'⟩ := hm
  rw [ho] at ho'; cases ho'
  exact ⟨_, es', ep', hL, r'⟩) hok hg
theorem Inv.turned {t' : Nat} {it : Addr} (I : Inv X pins σ H s) (k : ∀ b o, b ≠ it → s.heap.get? b = some o → h'.get? b = some o) (hn : H it = none) (hL : it ≠ X.env.locals)
  (h1 : it ∈ X.ex ∨ X.s₀.heap.objs.size ≤ it) (h2 : ∀ x c, X.env.cells.lookup x = some c → c ≠ it) (h3 : ∀ p ∈ X.pn ++ pins, p.1 ≠ it) : Inv X pins σ H { s with heap := h', toks := t' } := by
 have nit : ∀ b u, H b = some u → b ≠ it := fun b u e z => by rw [z, hn] at e; cases e
 refine I.step (g' := s.gens) (d' := s.drawn) (ch := [it]) (fun b hb => ?_) (fun b o _ _ hc e _ => k b o (fun z => hc (by simp [z])) e) (fun b o _ _ hc e _ => ⟨o.slots, k b o (fun z => hc (by simp [z])) e⟩) (fun _ _ _ _ n => n)
  (fun b o hc e => ⟨o, k b o (fun z => hc (by simp [z])) e⟩) (fun _ _ e => e) (fun _ _ _ e => e) (fun b ps e => ⟨#[], by rw [e]; simp⟩) (fun m hm => ?_) (fun b u e => ?_) I.bare
 ·have e : b = it := by simpa using hb
  subst e
  exact ⟨h1, hL, h2, h3⟩
 ·obtain ⟨o, es, ep, ho, r⟩ := hm
  exact ⟨o, es, ep, k _ o (Ne.symm hL) ho, r⟩
 ·refine (I.hok b u e).stay (fun c v hc q => k c v ?_ q) (fun _ q => q) fun _ _ q => q
  rcases hc with z | z
  ·rw [z]; exact nit b u e
  ·exact nit c _ z
theorem Inv.tok (I : Inv X pins σ H s) (t : Nat) : Inv X pins σ H { s with toks := t } := I.un (h' := s.heap) (t' := t) Un.refl I.hok
theorem Inv.kept {t' : Nat} (I : Inv X pins σ H s) (k : ∀ b u, s.heap.get? b = some u → h'.get? b = some u) : Inv X pins σ H { s with heap := h', toks := t' } := I.un (Un.kept k) (I.hok.kept k)
theorem Inv.laid {a : Addr} {o : HO} {t' : Nat} (I : Inv X pins σ H s) (k : ∀ b u, s.heap.get? b = some u → h'.get? b = some u) (hp : s.heap.objs.size ≤ a) (new : DF X.prog X.w (upd H a o) h' a o) :
  Inv X pins σ (upd H a o) { s with heap := h', toks := t' } := I.un (Un.laid k hp (I.hok.fresh hp)) (I.hok.laid k hp new)
theorem Inv.write {x e : Addr} {o : HO} {t' : Nat} (I : Inv X pins σ H s) (mu : Mut (H x)) (he : e = x ∨ H e = some (.own x)) (k : ∀ b u, b ≠ e → s.heap.get? b = some u → h'.get? b = some u) (heo : ∃ u, h'.get? e = some u)
  (new : DF X.prog X.w (upd H x o) h' x o) : Inv X pins σ (upd H x o) { s with heap := h', toks := t' } := I.un (Un.write mu he k heo) (I.hok.write mu he k heo new)
theorem Inv.pins_of {pins' : List (Addr × Obj)} (I : Inv X pins σ H s) (h : ∀ p ∈ pins', s.heap.get? p.1 = some p.2 ∧ H p.1 = none ∧ p.1 ≠ X.env.locals ∧ p.1 ∉ X.fs ∧ ∀ v, p.2.data ≠ .cell v) : Inv X pins' σ H s :=
 ⟨I.ok, I.os, I.bare, I.base, I.loc, I.cell, I.free, I.freeC, fun p hp => (List.mem_append.mp hp).elim (fun z => I.pin p (List.mem_append_left _ z)) (h p), I.hok, I.len⟩
theorem RW {N : List Str} (hN : N.Nodup) {i j : Nat} {x : Str} (a : N[i]? = some x) (b : N[j]? = some x) : i = j := by
 obtain ⟨h1, e1⟩ := List.getElem?_eq_some_iff.mp a
 obtain ⟨h2, e2⟩ := List.getElem?_eq_some_iff.mp b
 exact (List.getElem_inj hN).mp (e1.trans e2.symm)
theorem PB {M : Model} {A : Around} {E : Value → Shared → Prop} {i : Nat} {x : Str} {v : V} {u : Value} {Q : Unit → Shared → Prop} (I : Inv X pins σ H s) (hN : X.N.Nodup) (hi : X.N[i]? = some x) (hx : Loc X.env.scope x) (r : BF v u)
  (h : ∀ s', Inv X pins (σ.set i (some v)) H s' → (∃ a, Heap.SameBut a s.heap s'.heap ∧ (a = X.env.locals ∨ X.env.cells.lookup x = some a)) → Q () s') (hf : X.fn x = true ∨ X.env.scope.names.lookup x = some .local := by first | exact .inl rfl | exact .inr rfl | assumption) : wpAny M A (storeName X.env x u) Q E s := by
 obtain ⟨m, hn, hl⟩ := id I.loc
 have hcls : (X.env.scope.kind == .class || (X.env.scope.kind == .module && X.env.locals != X.env.globals)) = false := by rw [I.ok.kind]; rfl
 have hiσ : i < σ.length := by rw [I.len]; exact (List.getElem?_eq_some_iff.mp hi).1
 have cne := I.cne
 have tracked : ∀ {a : Addr} {h' : Heap}, (∃ o, s.heap.get? a = some o ∧ H a = none) → Heap.SameBut a s.heap h' → HOk X.prog X.w H h' := fun {a h'} ha hs b ob e => by
  obtain ⟨_, _, hfree⟩ := ha
  refine (I.hok b ob e).stay (fun c w' hc q => (hs.2 c ?_).trans q) (fun _ q => q) fun _ _ q => q
  rintro rfl
  rcases hc with rfl | hc
  ·rw [hfree] at e; cases e
  ·rw [hfree] at hc; cases hc
 rcases hx with hk | hk
 ·refine wpAny_storeName_local hk hn (fun h' hn' hs => ?_) hcls
  obtain ⟨oL, _, _, hoL, _⟩ := id hn
  refine h _ ⟨I.ok, I.os, I.bare, ⟨fun b o e n hb hx => ?_, fun b o e n hb hx => ?_, I.base.free, fun b o e hx => ?_, I.base.tups, I.base.frzs, I.base.tbls⟩, ⟨_, hn', fun j y v' e1 e2 e3 => ?_⟩, fun y c e => ?_, I.free, I.freeC, fun p hp => ?_, tracked ⟨oL, hoL, I.free⟩ hs, by simpa using I.len⟩ ⟨_, hs, .inl rfl⟩
  ·exact (hs.2 b (Nat.ne_of_lt (Nat.lt_of_lt_of_le (Heap.lt_size e) I.ok.above))).trans (I.base.keep b o e n hb hx)
  ·obtain ⟨sl, e1⟩ := I.base.slot b o e n hb hx
   exact ⟨sl, (hs.2 b (Nat.ne_of_lt (Nat.lt_of_lt_of_le (Heap.lt_size e) I.ok.above))).trans e1⟩
  ·obtain ⟨o', e1⟩ := I.base.there b o e hx
   exact ⟨o', (hs.2 b (Nat.ne_of_lt (Nat.lt_of_lt_of_le (Heap.lt_size e) I.ok.above))).trans e1⟩
  ·by_cases hj : j = i
   ·subst hj
    rw [hi] at e1; cases e1
    rw [List.getElem?_set_self hiσ] at e2
    cases e2
    exact ⟨u, r, .inl ⟨hk, by simp⟩⟩
   ·rw [List.getElem?_set_ne (Ne.symm hj)] at e2
    obtain ⟨u', r', q⟩ := hl j y v' e1 e2 e3
    refine ⟨u', r', ?_⟩
    rcases q with ⟨k, e⟩ | ⟨k, c, e, z⟩
    ·refine .inl ⟨k, ?_⟩
     have : y ≠ x := fun e => hj (RW hN e1 (e ▸ hi))
     simp [this, e]
    ·exact .inr ⟨k, c, e, z.sameBut hs (cne y c e)⟩
  ·obtain ⟨w', z⟩ := I.cell y c e
   exact ⟨w', z.sameBut hs (cne y c e)⟩
  ·obtain ⟨e, n, ne, nf, d⟩ := I.pin p hp
   exact ⟨(hs.2 p.1 ne).trans e, n, ne, nf, d⟩
 ·have hfn : X.fn x = true := by
   rcases hf with z | z
   ·exact z
   ·rw [z] at hk; cases hk
  obtain ⟨c, hc⟩ := I.ok.has x (.inl hk)
  obtain ⟨w', z⟩ := I.cell x c hc
  refine wpAny_storeName_cell I.ok.kind hk hc z (fun h' hc' hs => ?_)
  obtain ⟨oc, hoc, hocd⟩ := id z
  refine h { s with heap := h' } ⟨I.ok, I.os, I.bare, ⟨fun b o e n hb hx => ?_, fun b o e n hb hx => ?_, I.base.free, fun b o e hx => ?_, I.base.tups, I.base.frzs, I.base.tbls⟩, ⟨m, hn.sameBut hs (Ne.symm (cne x c hc)), fun j y v' e1 e2 e3 => ?_⟩, fun y c' e => ?_, I.free, I.freeC, fun p hp => ?_, tracked ⟨oc, hoc, I.freeC x c hc⟩ hs, by simpa using I.len⟩ ⟨c, hs, .inr hc⟩
  ·exact (hs.2 b (Nat.ne_of_lt (Nat.lt_of_lt_of_le (Heap.lt_size e) (I.ok.cab x c hfn hc)))).trans (I.base.keep b o e n hb hx)
  ·obtain ⟨sl, e1⟩ := I.base.slot b o e n hb hx
   exact ⟨sl, (hs.2 b (Nat.ne_of_lt (Nat.lt_of_lt_of_le (Heap.lt_size e) (I.ok.cab x c hfn hc)))).trans e1⟩
  ·obtain ⟨o', e1⟩ := I.base.there b o e hx
   exact ⟨o', (hs.2 b (Nat.ne_of_lt (Nat.lt_of_lt_of_le (Heap.lt_size e) (I.ok.cab x c hfn hc)))).trans e1⟩
  ·by_cases hj : j = i
   ·subst hj
    rw [hi] at e1; cases e1
    rw [List.getElem?_set_self hiσ] at e2
    cases e2
    exact ⟨u, r, .inr ⟨.inl hk, c, hc, hc'⟩⟩
   ·rw [List.getElem?_set_ne (Ne.symm hj)] at e2
    obtain ⟨u', r', q⟩ := hl j y v' e1 e2 e3
    refine ⟨u', r', ?_⟩
    rcases q with q | ⟨k, c', e, z'⟩
    ·exact .inl q
    ·refine .inr ⟨k, c', e, z'.sameBut hs ?_⟩
     rintro rfl
     exact hj (RW hN e1 (I.ok.inj _ _ _ e hc ▸ hi))
  ·by_cases hcc : c' = c
   ·subst hcc; exact ⟨_, hc'⟩
   ·obtain ⟨w2, z2⟩ := I.cell y c' e
    exact ⟨w2, z2.sameBut hs hcc⟩
  ·obtain ⟨e, n, ne, nf, d⟩ := I.pin p hp
   refine ⟨(hs.2 p.1 ?_).trans e, n, ne, nf, d⟩
   intro q
   rw [q, hoc] at e
   have q' : oc = p.2 := Option.some.inj e
   exact d w' (by rw [← q']; exact hocd)
theorem IJ {M : Model} {A : Around} {E : Value → Shared → Prop} {i : Nat} {x : Str} {v : V} {u : Value} {Q : Unit → Shared → Prop} (I : Inv X pins σ H s) (hN : X.N.Nodup) (hi : X.N[i]? = some x) (hx : Loc X.env.scope x) (r : BF v u)
  (h : ∀ s', Inv X pins (σ.set i (some v)) H s' → Q () s') (hf : X.fn x = true ∨ X.env.scope.names.lookup x = some .local := by first | exact .inl rfl | exact .inr rfl | assumption) : wpAny M A (storeName X.env x u) Q E s :=
 PB I hN hi hx r (fun s' I' _ => h s' I') hf
theorem Inv.call' {s' : Shared} {ch : List Addr} (I : Inv X pins σ H s) (ho : s'.os = s.os) (u : Un (frs X.stack) ch H H' s.heap s'.heap) (hok : HOk X.prog X.w H' s'.heap) (hg : AllBare s'.gens)
  (hch : ∀ b ∈ ch, (b ∈ X.ex ∨ X.s₀.heap.objs.size ≤ b) ∧ b ≠ X.env.locals ∧ (∀ x c, X.env.cells.lookup x = some c → c ≠ b) ∧ ∀ p ∈ X.pn ++ pins, p.1 ≠ b) : Inv X pins σ H' s' := by
 obtain ⟨h', g', d', t', o'⟩ := s'
 have e : o' = s.os := ho
 subst e
 exact I.call (g' := g') (t' := t') (d' := d') u hok hg hch
end
abbrev XK := Value → Option Addr → Hp → Prop
abbrev St := List (Option V)
abbrev VK := V → Hp → Prop
abbrev TE := St → Hp → VK → Prop
abbrev TT := St → Hp → (Bool → Hp → Prop) → Prop
abbrev TA := St → Hp → (List V → Hp → Prop) → Prop
structure JE where
 nx : St → Hp → Prop
 rt : VK
 bk : St → Hp → Prop := fun _ _ => False
 ct : St → Hp → Prop := fun _ _ => False
abbrev TS := JE → St → Hp → Prop
def EP (X : Cx) (pins : List (Addr × Obj)) (σ : St) (Q : VK) (u : Value) (s' : Shared) : Prop := ∃ v H', Inv X pins σ H' s' ∧ BF v u ∧ Q v H'
def TP (X : Cx) (pins : List (Addr × Obj)) (σ : St) (Q : Bool → Hp → Prop) (b : Bool) (s' : Shared) : Prop := ∃ H', Inv X pins σ H' s' ∧ Q b H'
def AP (X : Cx) (pins : List (Addr × Obj)) (σ : St) (Q : List V → Hp → Prop) (us : List Value) (s' : Shared) : Prop := ∃ vs H', Inv X pins σ H' s' ∧ BH vs us ∧ Q vs H'
def SP (X : Cx) (pins : List (Addr × Obj)) (D : JE) (f : Flow) (s' : Shared) : Prop :=
 match f with
 | .next => ∃ σ' H', Inv X pins σ' H' s' ∧ D.nx σ' H'
 | .brk => ∃ σ' H', Inv X pins σ' H' s' ∧ D.bk σ' H'
 | .cont => ∃ σ' H', Inv X pins σ' H' s' ∧ D.ct σ' H'
 | .ret u => ∃ v σ' H', Inv X pins σ' H' s' ∧ BF v u ∧ D.rt v H'
def PE (X : Cx) (e : Expr) (t : TE) : Prop :=
 ∀ (pins : List (Addr × Obj)) (s : Shared) (σ : St) (H : Hp) (Q : VK), Inv X pins σ H s → t σ H Q → wpAny (model X.prog X.w) X.A (eval e X.env) (EP X pins σ Q) X.xe s
def PT (X : Cx) (e : Expr) (t : TT) : Prop :=
 ∀ (pins : List (Addr × Obj)) (s : Shared) (σ : St) (H : Hp) (Q : Bool → Hp → Prop), Inv X pins σ H s → t σ H Q → wpAny (model X.prog X.w) X.A (isTrue e X.env (eval e X.env)) (TP X pins σ Q) X.xe s
def PW (X : Cx) (e : Expr) (t : TT) : Prop :=
 ∀ (whole : Sem Value) (pins : List (Addr × Obj)) (s : Shared) (σ : St) (H : Hp) (Q : Bool → Hp → Prop), Inv X pins σ H s → t σ H Q → wpAny (model X.prog X.w) X.A (isTrue e X.env whole) (TP X pins σ Q) X.xe s
theorem PW.pt {X : Cx} {e : Expr} {t : TT} (h : PW X e t) : PT X e t := h _
def PA (X : Cx) (es : List Expr) (t : TA) : Prop :=
 ∀ (pos : Pos) (pins : List (Addr × Obj)) (s : Shared) (σ : St) (H : Hp) (Q : List V → Hp → Prop), Inv X pins σ H s → t σ H Q → wpAny (model X.prog X.w) X.A (spliced (backTo pos (starEach es X.env))) (AP X pins σ Q) X.xe s
def PS (X : Cx) (st : Stmt) (t : TS) : Prop :=
 ∀ (pins : List (Addr × Obj)) (s : Shared) (σ : St) (H : Hp) (D : JE), Inv X pins σ H s → t D σ H → wpAny (model X.prog X.w) X.A (exec st X.env) (SP X pins D) X.xe s
def PSs (X : Cx) (st : List Stmt) (t : TS) : Prop :=
 ∀ (pins : List (Addr × Obj)) (s : Shared) (σ : St) (H : Hp) (D : JE), Inv X pins σ H s → t D σ H → wpAny (model X.prog X.w) X.A (execs st X.env) (SP X pins D) X.xe s
theorem thn {α : Type} {t : Sem α} {Q Q' : α → Shared → Prop} {M : Model} {A : Around} {E : Value → Shared → Prop} {s : Shared} (h : wpAny M A t Q E s) (hQ : ∀ a s, Q a s → Q' a s) : wpAny M A t Q' E s := wpAny_mono h hQ fun _ _ x => x
section
variable {X : Cx}
def fR (i : Nat) : TE := fun σ H Q => ∃ v, σ[i]? = some (some v) ∧ Q v H
def tC (v : V) : TE := fun _ H Q => Q v H
theorem mK {i : Nat} {x : Str} {pos : Pos} (hN : X.N[i]? = some x) (hv : Vis X.env.scope x) (hd : (x == ("__debug__" : Str)) = false := by decide) (hcd : (x == ("__classdict__" : Str)) = false := by decide) : PE X (.Name x pos) (fR i) := by
 intro pins s σ H Q I h
 obtain ⟨v, e, h⟩ := h
 obtain ⟨m, hn, hl⟩ := I.loc
 obtain ⟨u, r, l⟩ := hl i x v hN e hv
 have fin : EP X pins σ Q u s := ⟨v, H, I, r, h⟩
 rcases l with ⟨hk, hm⟩ | ⟨hk, c, hc, hcell⟩
 ·exact wpAny_Name (wpAny_loadName_local I.ok.kind hk hn hm fin) hd
 ·rcases hk with hk | hk
  ·exact wpAny_Name (wpAny_loadName_cell I.ok.kind hk hc hcell fin) hd
  ·exact wpAny_Name (wpAny_loadName_free I.ok.kind hk hc hcell fin hcd) hd
theorem AB {i j pos} : PE X (.Constant (.int i) j pos) (tC (.int i)) := fun _ _ _ H _ I h => wpAny_Constant_int ⟨.int i, H, I.tok _, ⟨_, rfl⟩, h⟩
theorem EJ {b j pos} : PE X (.Constant (.bool b) j pos) (tC (.bl b)) := fun _ _ _ H _ I h => Constant_bool ⟨.bl b, H, I, rfl, h⟩
theorem HY {j pos} : PE X (.Constant .none j pos) (tC .non) := fun _ _ _ H _ I h => Constant_none ⟨.non, H, I, rfl, h⟩
def Gl (X : Cx) (x : Str) : Prop := X.env.kindOf x = some .globalImplicit
theorem WE {E : Value → Shared → Prop} {pins : List (Addr × Obj)} {s : Shared} {σ : St} {H : Hp} {x : Str} {u : Value} {pos : Pos} {Q : Value → Shared → Prop} (I : Inv X pins σ H s) (hg : Gl X x) (hm : X.mg x = some u) (h : Q u s)
  (hd : (x == ("__debug__" : Str)) = false := by decide) : wpAny (model X.prog X.w) X.A (eval (.Name x pos) X.env) Q E s :=
 Calls.Name_function_global I.ok.kind hg (Calls.loadGlobal_global (by rw [I.ok.glob]; exact I.mod.glob.keeps I.bk) hm h) hd
theorem HU {E : Value → Shared → Prop} {pins : List (Addr × Obj)} {s : Shared} {σ : St} {H : Hp} {x : Str} {u : Value} {pos : Pos} {Q : Value → Shared → Prop} (I : Inv X pins σ H s) (hg : Gl X x) (hm : X.mg x = none) (hv : bootBuiltins x = some u) (h : Q u s)
  (hn : x ≠ "__name__" := by decide) (hd : (x == ("__debug__" : Str)) = false := by decide) : wpAny (model X.prog X.w) X.A (eval (.Name x pos) X.env) Q E s := by
 obtain ⟨mb, h1, h2⟩ := I.mod.blt
 exact Calls.Name_function_global I.ok.kind hg (Calls.loadGlobal_builtin (by rw [I.ok.glob]; exact I.mod.glob.keeps I.bk) hm (by rw [I.ok.blt]; exact h1.keeps I.bk) ((h2 x hn).trans hv) h) hd
theorem FK {x : Str} {v : V} {u : Value} {pos : Pos} (hg : Gl X x) (hm : X.mg x = some u) (r : BF v u) (hd : (x == ("__debug__" : Str)) = false := by decide) : PE X (.Name x pos) (tC v) :=
 fun _ _ _ H _ I h => WE I hg hm ⟨v, H, I, r, h⟩ hd
theorem HC {x : Str} {v : V} {u : Value} {pos : Pos} (hg : Gl X x) (hm : X.mg x = none) (hv : bootBuiltins x = some u) (r : BF v u) (hn : x ≠ "__name__" := by decide) (hd : (x == ("__debug__" : Str)) = false := by decide) : PE X (.Name x pos) (tC v) :=
 fun _ _ _ H _ I h => HU I hg hm hv ⟨v, H, I, r, h⟩ hn hd
variable {a b : Expr} {ta tb : TE} {pos : Pos}
def tB (t : TE) : TT := fun σ H Q => t σ H fun x H1 => ∃ c, x = .bl c ∧ Q c H1
theorem nC {e : Expr} {t : TE} (h : PE X e t) (he : ∀ whole, isTrue e X.env whole = (do let v ← whole; standAt e.pos; holding [v] (truthy v)) := by intro _; rfl) : PT X e (tB t) := by
 intro pins s σ H Q I hw
 refine isTrue_plain (thn (h pins s σ H _ I hw) fun v s1 ⟨x, H1, I1, r1, q1⟩ => ?_) (he _)
 obtain ⟨d, rfl, q⟩ := q1
 cases r1
 exact wpAny_truthy_bool ⟨H1, I1, q⟩
variable {tA tB' : TT} {HS : List Expr}
def lK (t u : TT) : TT := fun σ H Q => t σ H fun c H1 => if c = true then u σ H1 Q else Q false H1
def tOr (t u : TT) : TT := fun σ H Q => t σ H fun c H1 => if c = true then Q true H1 else u σ H1 Q
def lE (t : TT) : TT := fun σ H Q => t σ H fun c H1 => Q (!c) H1
theorem IK (ha : PT X a tA) : PW X (.BoolOp .And [a] pos) tA := by
 intro wh pins s σ H Q I h
 refine isTrue_and (thn (ha pins s σ H Q I h) fun c s1 e => ?_)
 cases c with
 | true => exact isTrue_and_nil e
 | false => exact e
theorem EE (ha : PT X a tA) : PW X (.BoolOp .Or [a] pos) tA := by
 intro wh pins s σ H Q I h
 refine isTrue_or (thn (ha pins s σ H Q I h) fun c s1 e => ?_)
 cases c with
 | false => exact isTrue_or_nil e
 | true => exact e
theorem KS (ha : PT X a tA) (hb : PW X (.BoolOp .And (b :: HS) pos) tB') : PW X (.BoolOp .And (a :: b :: HS) pos) (lK tA tB') := by
 intro wh pins s σ H Q I h
 refine isTrue_and (thn (ha pins s σ H _ I h) fun c s1 ⟨H1, I1, q1⟩ => ?_)
 cases c with
 | true => exact hb wh pins s1 σ H1 Q I1 q1
 | false => exact ⟨H1, I1, q1⟩
theorem EI (ha : PT X a tA) (hb : PW X (.BoolOp .Or (b :: HS) pos) tB') : PW X (.BoolOp .Or (a :: b :: HS) pos) (tOr tA tB') := by
 intro wh pins s σ H Q I h
 refine isTrue_or (thn (ha pins s σ H _ I h) fun c s1 ⟨H1, I1, q1⟩ => ?_)
 cases c with
 | true => exact ⟨H1, I1, q1⟩
 | false => exact hb wh pins s1 σ H1 Q I1 q1
theorem BX (ha : PT X a tA) : PT X (.UnaryOp .Not a pos) (lE tA) := by
 intro pins s σ H Q I h
 exact isTrue_not (ha pins s σ H (fun c H1 => Q (!c) H1) I h)
def cO (ta tb : TE) : TE := fun σ H Q => ta σ H fun x H1 => ∃ c, x = .bl c ∧ if c = true then tb σ H1 Q else Q (.bl false) H1
def aH (ta : TE) : TE := fun σ H Q => ta σ H fun x H1 => ∃ c, x = .bl c ∧ Q (.bl (!c)) H1
theorem UQ {op} {t : TE} (h : PE X a t) : PE X (.BoolOp op [a] pos) t := fun pins s σ H Q I hw => BoolOp_one (h pins s σ H Q I hw)
theorem kT (ha : PE X a ta) (hb : PE X (.BoolOp .And (b :: HS) pos) tb) : PE X (.BoolOp .And (a :: b :: HS) pos) (cO ta tb) := by
 intro pins s σ H Q I h
 refine BoolOp_and (thn (ha pins s σ H _ I h) fun v s1 ⟨x, H1, I1, r1, q1⟩ => ?_)
 obtain ⟨c, rfl, q1⟩ := q1
 cases r1
 refine wpAny_truthy_bool ?_
 cases c with
 | true => exact hb pins s1 σ H1 Q I1 q1
 | false => exact ⟨.bl false, H1, I1, rfl, q1⟩
theorem mV (ha : PE X a ta) : PE X (.UnaryOp .Not a pos) (aH ta) := by
 intro pins s σ H Q I h
 refine UnaryOp_ (thn (ha pins s σ H _ I h) fun v s1 ⟨x, H1, I1, r1, q1⟩ => ?_)
 obtain ⟨c, rfl, q1⟩ := q1
 cases r1
 exact not_of (wpAny_truthy_bool ⟨.bl (!c), H1, I1, rfl, q1⟩)
def tIf (t : TT) (ta tb : TE) : TE := fun σ H Q => t σ H fun c H1 => if c = true then ta σ H1 Q else tb σ H1 Q
theorem NL {c : Expr} (hc : PT X c tA) (ha : PE X a ta) (hb : PE X b tb) : PE X (.IfExp c a b pos) (tIf tA ta tb) := by
 intro pins s σ H Q I h
 refine wpAny_IfExp (thn (hc pins s σ H _ I h) fun d s1 ⟨H1, I1, q1⟩ => ?_)
 cases d with
 | true => exact ha pins s1 σ H1 Q I1 q1
 | false => exact hb pins s1 σ H1 Q I1 q1
end
def SqL (K : PySem.W.Frag) (H : Hp) (a : Addr) (xs : List V) : Prop :=
 Rd H a (.lst xs) ∨
  ∃ (o : Obj) (its : Array Value) (n : Nat), K.lookup a = some o ∧ o.cls = .type "list" ∧ o.dict = none ∧ o.data = .seq its n ∧ its.size ≤ sizeLine ∧ BH xs its.toList
def SqT (K : PySem.W.Frag) (H : Hp) (a : Addr) (xs : List V) : Prop :=
 Rd H a (.tup xs) ∨
  ∃ (o : Obj) (its : Array Value) (n : Nat), K.lookup a = some o ∧ o.cls = .type "tuple" ∧ o.data = .seq its n ∧ its.size ≤ sizeLine ∧ BH xs its.toList
def absV : Value → Option V
 | .none => some .non
 | .bool b => some (.bl b)
 | .int i _ => some (.int i)
 | .str x _ => some (.str x)
 | .bytes b _ => some (.byt b)
 | .float b _ => some (.flt b)
 | .ref a => some (.ref a)
 | .type n => some (.ty n)
 | _ => none
theorem BF.abs {x : V} {u : Value} (r : BF x u) : absV u = some x := by
 cases x with
 | non => cases r; rfl
 | bl _ => cases r; rfl
 | int _ => obtain ⟨t, rfl⟩ := r; rfl
 | str _ => obtain ⟨t, rfl⟩ := r; rfl
 | byt _ => obtain ⟨t, rfl⟩ := r; rfl
 | flt _ => obtain ⟨t, rfl⟩ := r; rfl
 | ref _ => cases r; rfl
 | ty _ => cases r; rfl
theorem BF.inj {x y : V} {u : Value} (r : BF x u) (q : BF y u) : x = y := Option.some.inj (r.abs.symm.trans q.abs)
theorem BH.inj : ∀ {xs ys : List V} {us : List Value}, BH xs us → BH ys us → xs = ys
 | _, _, _, .nil, .nil => rfl
 | _, _, _, .cons r t, .cons r' t' => by rw [r.inj r', BH.inj t t']
section
variable {X : Cx} {pins : List (Addr × Obj)} {σ : St} {H : Hp} {s : Shared} {a : Addr} {xs ys : List V}
theorem SqL.of {K : PySem.W.Frag} (h : H a = some (.lst xs)) : SqL K H a xs := .inl (.inl h)
theorem SqT.of {K : PySem.W.Frag} (h : H a = some (.tup xs)) : SqT K H a xs := .inl (.inl h)
theorem Inv.list (I : Inv X pins σ H s) (h : SqL X.K H a xs) : ∃ its : List Value, BH xs its ∧ PlainL s.heap a its.toArray ∧ xs.length ≤ sizeLine := by
 rcases h with h | ⟨o, its, n, hk, hc, hd, hs, hz, r⟩
 ·obtain ⟨z, its, n, r, e⟩ := h.ok I.hok
  exact ⟨its, r, ⟨_, n, e, rfl, rfl, rfl⟩, z⟩
 ·refine ⟨its.toList, r, ⟨o, n, I.kIn a o hk, hc, hd, by simpa using hs⟩, ?_⟩
  have e := r.length
  simp only [Array.length_toList] at e
  omega
theorem Inv.tuple (I : Inv X pins σ H s) (h : SqT X.K H a xs) : ∃ its : List Value, BH xs its ∧ IsTup s.heap a its.toArray ∧ xs.length ≤ sizeLine := by
 rcases h with h | ⟨o, its, n, hk, hc, hs, hz, r⟩
 ·obtain ⟨z, its, r, p⟩ := h.ok I.hok
  exact ⟨its, r, p, z⟩
 ·refine ⟨its.toList, r, ⟨o, I.kIn a o hk, hc, n, by simpa using hs⟩, ?_⟩
  have e := r.length
  simp only [Array.length_toList] at e
  omega
theorem Inv.list_inj (I : Inv X pins σ H s) (h : SqL X.K H a xs) (h' : SqL X.K H a ys) : xs = ys := by
 obtain ⟨its, r, ⟨o, n, e, _, _, d⟩, _⟩ := I.list h
 obtain ⟨its', r', ⟨o', n', e', _, _, d'⟩, _⟩ := I.list h'
 rw [e] at e'; cases e'
 rw [d] at d'
 injection d' with d1 _
 have : its = its' := by simpa using congrArg Array.toList d1
 subst this
 exact r.inj r'
theorem Inv.tuple_inj (I : Inv X pins σ H s) (h : SqT X.K H a xs) (h' : SqT X.K H a ys) : xs = ys := by
 obtain ⟨its, r, ⟨o, e, _, n, d⟩, _⟩ := I.tuple h
 obtain ⟨its', r', ⟨o', e', _, n', d'⟩, _⟩ := I.tuple h'
 rw [e] at e'; cases e'
 rw [d] at d'
 injection d' with d1 _
 have : its = its' := by simpa using congrArg Array.toList d1
 subst this
 exact r.inj r'
end
abbrev Cx.wish (X : Cx) (E : Value → Shared → Prop) : Cx := { X with xe := E }
abbrev Cx.nox (X : Cx) : Cx := X.wish fun _ _ => False
theorem Cx.Ok.wish {X : Cx} (ok : X.Ok) (E : Value → Shared → Prop) : (X.wish E).Ok :=
 ⟨ok.mod, ok.kind, ok.glob, ok.blt, ok.above, ok.inj, ok.has, ok.cab, ok.hd, ok.frames, ok.stk, ok.exf, ok.bs, ok.bsz, ok.noex, ok.exfs, ok.funs, ok.frf⟩
theorem Cx.Ok.unwish {X : Cx} {E : Value → Shared → Prop} (ok : (X.wish E).Ok) : X.Ok :=
 ⟨ok.mod, ok.kind, ok.glob, ok.blt, ok.above, ok.inj, ok.has, ok.cab, ok.hd, ok.frames, ok.stk, ok.exf, ok.bs, ok.bsz, ok.noex, ok.exfs, ok.funs, ok.frf⟩
section
variable {X : Cx} {pins : List (Addr × Obj)} {σ : St} {H : Hp} {s : Shared} {E : Value → Shared → Prop}
theorem Inv.wish (I : Inv X pins σ H s) (E : Value → Shared → Prop) : Inv (X.wish E) pins σ H s := ⟨I.ok.wish E, I.os, I.bare, I.base, I.loc, I.cell, I.free, I.freeC, I.pin, I.hok, I.len⟩
theorem Inv.unwish (I : Inv (X.wish E) pins σ H s) : Inv X pins σ H s := ⟨I.ok.unwish, I.os, I.bare, I.base, I.loc, I.cell, I.free, I.freeC, I.pin, I.hok, I.len⟩
theorem SP.unwish {D : JE} {f : Flow} {s' : Shared} (h : SP (X.wish E) pins D f s') : SP X pins D f s' := by
 cases f with
 | next => obtain ⟨σ', H', I, q⟩ := h; exact ⟨σ', H', I.unwish, q⟩
 | brk => obtain ⟨σ', H', I, q⟩ := h; exact ⟨σ', H', I.unwish, q⟩
 | cont => obtain ⟨σ', H', I, q⟩ := h; exact ⟨σ', H', I.unwish, q⟩
 | ret u => obtain ⟨v, σ', H', I, r, q⟩ := h; exact ⟨v, σ', H', I.unwish, r, q⟩
theorem PSs.nox {st : List Stmt} {t : TS} (h : PSs X.nox st t) : PSs X st t := fun pins s σ H D I hw =>
 wpAny_mono (h pins s σ H D (I.wish _) hw) (fun _ _ q => q.unwish) fun _ _ z => False.elim z
end
section
variable {X : Cx} {st : Stmt} {HS : List Stmt} {t u : TS} {e : Expr} {te : TE} {pos : Pos}
def bV : TS := fun D σ H => D.nx σ H
def nO (t u : TS) : TS := fun D σ H => t { D with nx := u D } σ H
theorem AT : PSs X [] bV := fun _ _ σ H _ I h => wpAny_execs_nil ⟨σ, H, I, h⟩
theorem AQ (h1 : PS X st t) (h2 : PSs X HS u) : PSs X (st :: HS) (nO t u) := by
 intro pins s σ H D I h
 refine wpAny_execs_cons (thn (h1 pins s σ H { D with nx := u D } I h) fun f s1 q => ?_)
 cases f with
 | next =>
  obtain ⟨σ', H', I', q⟩ := q
  exact h2 pins s1 σ' H' D I' q
 | ret v => exact q
 | brk => exact q
 | cont => exact q
theorem AH (h1 : PS X st t) : PSs X [st] t := by
 intro pins s σ H D I h
 refine wpAny_execs_cons (thn (h1 pins s σ H D I h) fun f s1 q => ?_)
 cases f with
 | next => exact wpAny_execs_nil q
 | ret v => exact q
 | brk => exact q
 | cont => exact q
theorem Inv.quiet {pins : List (Addr × Obj)} {σ : St} {H : Hp} {s : Shared} (I : Inv X pins σ H s) : interactive X.env = false := by simp [interactive, I.ok.kind]
def eZ (te : TE) : TS := fun D σ H => te σ H fun _ H1 => D.nx σ H1
theorem GZ (he : PE X e te) (hs : swapsWith e none pos.line X.env = pure false := by rfl) : PS X (.Expr e pos) (eZ te) := by
 intro pins s σ H D I h
 exact wpAny_Expr_any (thn (he pins s σ H _ I h) fun v s1 ⟨x, H1, I1, r1, q1⟩ => ⟨σ, H1, I1, q1⟩) I.quiet hs
def kF (te : TE) : TS := fun D σ H => te σ H D.rt
theorem AO (he : PE X e te) : PS X (.Return (some e) pos) (kF te) := by
 intro pins s σ H D I h
 exact wpAny_Return_some (thn (he pins s σ H _ I h) fun v s1 ⟨x, H1, I1, r1, q1⟩ => ⟨x, σ, H1, I1, r1, q1⟩)
def mR (c : TT) (t u : TS) : TS := fun D σ H => c σ H fun b H1 => if b = true then t D σ H1 else u D σ H1
theorem BG {c : Expr} {a b : List Stmt} {tc : TT} (hc : PT X c tc) (ha : PSs X a t) (hb : PSs X b u) : PS X (.If c a b pos) (mR tc t u) := by
 intro pins s σ H D I h
 refine wpAny_If (thn (hc pins s σ H _ I h) fun d s1 ⟨H1, I1, q1⟩ => ?_)
 cases d with
 | true => exact ha pins s1 σ H1 D I1 q1
 | false => exact hb pins s1 σ H1 D I1 q1
end
abbrev TG := V → St → Hp → (St → Hp → Prop) → Prop
abbrev TGs := List V → St → Hp → (St → Hp → Prop) → Prop
def PG (X : Cx) (target : Expr) (t : TG) : Prop :=
 ∀ (pins : List (Addr × Obj)) (s : Shared) (σ : St) (H : Hp) (v : V) (u : Value) (Q : St → Hp → Prop), Inv X pins σ H s → BF v u → t v σ H Q →
  wpAny (model X.prog X.w) X.A (assign target X.env u) (fun _ s' => ∃ σ' H', Inv X pins σ' H' s' ∧ Q σ' H') X.xe s
def PGs (X : Cx) (ts : List Expr) (t : TGs) : Prop :=
 ∀ (pins : List (Addr × Obj)) (s : Shared) (σ : St) (H : Hp) (vs : List V) (us : List Value) (Q : St → Hp → Prop), Inv X pins σ H s → BH vs us → t vs σ H Q →
  wpAny (model X.prog X.w) X.A (assignInOrder ((assignEach ts X.env).map (·.2)) us) (fun _ s' => ∃ σ' H', Inv X pins σ' H' s' ∧ Q σ' H') X.xe s
abbrev hE := V → V → V → Hp → (Hp → Prop) → Prop
def ZU (X : Cx) (t : hE) : Prop :=
 ∀ (pins : List (Addr × Obj)) (s : Shared) (σ : St) (H : Hp) (o i v : V) (ov iv u : Value) (Q : Hp → Prop), Inv X pins σ H s → BF o ov → BF i iv → BF v u → t o i v H Q →
  wpAny (model X.prog X.w) X.A (setItem ov iv u) (fun _ s' => ∃ H', Inv X pins σ H' s' ∧ Q H') X.xe s
abbrev TIp := V → V → Hp → VK → Prop
def PIp (X : Cx) (op : Operator) (t : TIp) : Prop :=
 ∀ (pins : List (Addr × Obj)) (s : Shared) (σ : St) (H : Hp) (x y : V) (v u : Value) (Q : VK), Inv X pins σ H s → BF x v → BF y u → t x y H Q →
  wpAny (model X.prog X.w) X.A (inplaceOp op v u) (EP X pins σ Q) X.xe s
section
variable {X : Cx} {pos : Pos}
def PV (i : Nat) : TG := fun v σ H Q => Q (σ.set i (some v)) H
theorem AU {i : Nat} {x : Str} (hN : X.N.Nodup) (hi : X.N[i]? = some x) (hx : Loc X.env.scope x) (hf : X.fn x = true ∨ X.env.scope.names.lookup x = some .local := by first | exact .inl rfl | exact .inr rfl | assumption) : PG X (.Name x pos) (PV i) := by
 intro pins s σ H v u Q I r h
 exact wpAny_assign_Name (IJ I hN hi hx r (fun s' I' => ⟨_, H, I', h⟩) hf)
def lM : TGs := fun vs σ H Q => vs = [] ∧ Q σ H
def cJ (t : TG) (u : TGs) : TGs := fun vs σ H Q => ∃ v r, vs = v :: r ∧ t v σ H fun σ' H' => u r σ' H' Q
theorem iI : PGs X [] lM := by
 intro pins s σ H vs us Q I r h
 obtain ⟨e, h⟩ := h
 subst e
 cases r
 exact assignInOrder_nil ⟨σ, H, I, h⟩
theorem aL {e : Expr} {es : List Expr} {t : TG} {u : TGs} (h1 : PG X e t) (h2 : PGs X es u)
  (hs : (assignEach (e :: es) X.env).map (·.2) = assign e X.env :: (assignEach es X.env).map (·.2) := by rfl) : PGs X (e :: es) (cJ t u) := by
 intro pins s σ H vs us Q I r h
 obtain ⟨v, vr, e1, h⟩ := h
 subst e1
 cases r with
 | cons r rr =>
  rw [hs]
  refine assignInOrder_cons (thn (h1 pins s σ H _ _ _ I r h) fun _ s1 ⟨σ1, H1, I1, q1⟩ => ?_)
  exact h2 pins s1 σ1 H1 _ _ Q I1 rr q1
def nV (K : PySem.W.Frag) (n : Nat) (t : TGs) : TG := fun v σ H Q => ∃ a xs, v = .ref a ∧ SqT K H a xs ∧ xs.length = n ∧ t xs σ H Q
theorem kB {es : List Expr} {k : Nat} {t : TGs} {n : Nat} (hc : X.calm = true) (h : PGs X es t)
  (hn : (assignEach es X.env).length = n := by rfl) (hst : (assignEach es X.env).findIdx? (·.1) = none := by rfl) : PG X (.Tuple es k pos) (nV X.K n t) := by
 intro pins s σ H v u Q I r hw
 obtain ⟨a, xs, e1, hq, hl, hw⟩ := hw
 subst e1
 cases r
 obtain ⟨its, rv, ht, hz⟩ := I.tuple hq
 refine assign_Tuple_tuple (I.ok.hd hc) ht (by simp [hn, ← hl, rv.length]) hst fun h' hx => ?_
 have I1 : Inv X pins σ H { s with heap := h' } := I.kept (t' := s.toks) fun b o e => hx b o (Nat.ne_of_lt (Heap.lt_size e)) e
 exact h pins _ σ H xs _ Q I1 (by simpa using rv) hw
def mW (to ti : TE) (t : hE) : TG := fun v σ H Q => to σ H fun o H1 => ti σ H1 fun i H2 => t o i v H2 fun H3 => Q σ H3
theorem lR {o i : Expr} {to ti : TE} {t : hE} (ho : PE X o to) (hi : PE X i ti) (hs : ZU X t)
  (ha : ∀ v, assign (.Subscript o i pos) X.env v = (do
   let ov ← holding [v] (eval o X.env)
   let iv ← holding [v, ov] (eval i X.env)
   standAt pos
   holding [v, ov, iv] (setItem ov iv v)
   release [v, ov, iv] []) := by intro _; rfl) : PG X (.Subscript o i pos) (mW to ti t) := by
 intro pins s σ H v u Q I r h
 rw [ha]
 refine wpAny_bind (wpAny_holding (thn (ho pins s σ H _ I h) fun ov s1 ⟨x, H1, I1, r1, q1⟩ => ?_))
 refine wpAny_bind (wpAny_holding (thn (hi pins s1 σ H1 _ I1 q1) fun iv s2 ⟨y, H2, I2, r2, q2⟩ => ?_))
 refine wpAny_bind (wpAny_standAt (wpAny_bind (wpAny_holding (thn (hs pins s2 σ H2 x y v ov iv u _ I2 r1 r2 r q2) fun _ s3 ⟨H3, I3, q3⟩ => ?_))))
 exact wpAny_release ⟨σ, H3, I3, q3⟩
def cS (te : TE) (g : TG) : TS := fun D σ H => te σ H fun x H1 => g x σ H1 D.nx
theorem HW {tg e : Expr} {te : TE} {g : TG} (he : PE X e te) (hg : PG X tg g) (hs : swapsWithSole [tg] e pos.line X.env = pure false := by rfl) (hw : swappedStores [tg] e X.env = pure none := by rfl)
  (h1 : (assignEach [tg] X.env).map (·.2) = [assign tg X.env] := by rfl) : PS X (.Assign [tg] e pos) (cS te g) := by
 intro pins s σ H D I h
 refine wpAny_Assign_stores (thn (he pins s σ H _ I h) fun v s1 ⟨x, H1, I1, r1, q1⟩ => ?_) hs hw
 rw [h1]
 exact thn (hg pins s1 σ H1 x v _ I1 r1 q1) fun _ s2 q => q
theorem AW {i : Nat} {x : Str} {e : Expr} {te : TE} {pos' : Pos} (hN : X.N.Nodup) (hi : X.N[i]? = some x) (hx : Loc X.env.scope x) (he : PE X e te) (hs : swapsWith e (some (.Name x pos')) pos.line X.env = pure false := by rfl) (hf : X.fn x = true ∨ X.env.scope.names.lookup x = some .local := by first | exact .inl rfl | exact .inr rfl | assumption) :
  PS X (.Assign [.Name x pos'] e pos) (cS te (PV i)) := by
 intro pins s σ H D I h
 refine wpAny_Assign_Name (thn (he pins s σ H _ I h) fun v s1 ⟨y, H1, I1, r1, q1⟩ => ?_) hs
 exact IJ I1 hN hi hx r1 (fun s2 I2 => ⟨_, H1, I2, q1⟩) hf
def nD (i j : Nat) (ta : TA) : TS := fun D σ H => ta σ H fun vs H1 => ∃ v w, vs = [v, w] ∧ D.nx ((σ.set i (some v)).set j (some w)) H1
theorem dX {i j : Nat} {x y : Str} {a b : Expr} {ta : TA} {px py pt : Pos} {kt k2 pt2} (hc : X.calm = true) (hN : X.N.Nodup) (hi : X.N[i]? = some x) (hj : X.N[j]? = some y) (hij : i ≠ j)
  (hx : X.env.scope.names.lookup x = some .local) (hy : X.env.scope.names.lookup y = some .local) (ha : PA X [a, b] ta)
  (hw : swappedStores [.Tuple [.Name x px, .Name y py] kt pt] (.Tuple [a, b] k2 pt2) X.env = pure (some [x, y]))
  (hs : swapsWithSole [.Tuple [.Name x px, .Name y py] kt pt] (.Tuple [a, b] k2 pt2) pos.line X.env = pure false := by rfl) :
  PS X (.Assign [.Tuple [.Name x px, .Name y py] kt pt] (.Tuple [a, b] k2 pt2) pos) (nD i j ta) := by
 intro pins s σ H D I h
 rw [exec_Assign_arm]
 refine wpAny_bind (wpAny_standAt ?_)
 rw [hs]
 refine wpAny_bind (wpAny_pure ?_)
 rw [if_neg (by decide)]
 refine wpAny_bind (Tuple_ (thn (ha _ pins s σ H _ I h) fun us s1 ⟨vs, H1, I1, r1, q1⟩ => ?_))
 obtain ⟨v, w, e1, q1⟩ := q1
 subst e1
 obtain ⟨u1, u2, rfl, rv, rw'⟩ : ∃ u1 u2, us = [u1, u2] ∧ BF v u1 ∧ BF w u2 := by
  cases r1 with
  | cons p q =>
   cases q with
   | cons p' q' =>
    cases q'
    exact ⟨_, _, rfl, p, p'⟩
 refine wpAny_newObj_type ?_ (by show 2 ≤ sizeLine; decide)
 have I2 : Inv X pins σ H1 { s1 with heap := s1.heap.push { cls := .type "tuple", data := .seq [u1, u2].toArray } } := I1.kept (t' := s1.toks) fun b o e => Heap.get?_push_of_some _ e
 rw [hw]
 refine wpAny_bind (wpAny_pure ?_)
 show wpAny (model X.prog X.w) X.A (do rule "assign.swapped-stores"; let items ← unpackItems (.ref s1.heap.objs.size) 2 none; assignInOrder [fun v => bindName X.env y v, fun v => bindName X.env x v] items.reverse; pure Flow.next) _ _ _
 refine wpAny_bind (wpAny_rule (wpAny_bind (unpackItems_tuple (items := #[u1, u2]) (I.ok.hd hc) (IsTup.new s1.heap _) fun h' hx' => ?_)))
 have I3 := I2.kept (h' := h') (t' := s1.toks) fun b o e => hx' b o (Nat.ne_of_lt (Heap.lt_size e)) e
 show wpAny _ _ (assignInOrder [fun v => bindName X.env y v, fun v => bindName X.env x v] [u2, u1] >>= fun _ => pure Flow.next) _ _ _
 refine wpAny_bind (assignInOrder_cons (wpAny_bindName (IJ I3 hN hj (.inl hy) rw' (fun s2 I4 => ?_) (.inr hy))))
 refine assignInOrder_cons (wpAny_bindName (IJ I4 hN hi (.inl hx) rv (fun s3 I5 => assignInOrder_nil (wpAny_pure ?_)) (.inr hx)))
 rw [List.set_comm _ _ (Ne.symm hij)] at I5
 exact ⟨_, H1, I5, q1⟩
def mH (i : Nat) (te : TE) (ti : TIp) : TS := fun D σ H => ∃ x, σ[i]? = some (some x) ∧ te σ H fun y H1 => ti x y H1 fun z H2 => D.nx (σ.set i (some z)) H2
theorem nU {i : Nat} {x : Str} {e : Expr} {te : TE} {op : Operator} {ti : TIp} {pos' : Pos} (hN : X.N.Nodup) (hi : X.N[i]? = some x) (hx : Loc X.env.scope x) (he : PE X e te) (ho : PIp X op ti) (hf : X.fn x = true ∨ X.env.scope.names.lookup x = some .local := by first | exact .inl rfl | exact .inr rfl | assumption) :
  PS X (.AugAssign (.Name x pos') op e pos) (mH i te ti) := by
 intro pins s σ H D I h
 obtain ⟨v, e1, h⟩ := h
 obtain ⟨m, hn, hl⟩ := I.loc
 have vis : Vis X.env.scope x := by rcases hx with k | k; exact .inl k; exact .inr (.inl k)
 obtain ⟨u, r, l⟩ := hl i x v hi e1 vis
 refine wpAny_AugAssign_Name ?_
 have go : wpAny (model X.prog X.w) X.A (eval e X.env) (fun w s₂ => wpAny (model X.prog X.w) X.A (inplaceOp op u w) (fun r s₃ => wpAny (model X.prog X.w) X.A (storeName X.env x r) (fun _ => SP X pins D .next) X.xe s₃) X.xe s₂) X.xe s := by
  refine thn (he pins s σ H _ I h) fun w s1 ⟨y, H1, I1, r1, q1⟩ => ?_
  refine thn (ho pins s1 σ H1 v y u w _ I1 r r1 q1) fun z s2 ⟨zv, H2, I2, r2, q2⟩ => ?_
  exact IJ I2 hN hi hx r2 (fun s3 I3 => ⟨_, H2, I3, q2⟩) hf
 rcases l with ⟨hk, hm⟩ | ⟨hk, c, hc, hcell⟩
 ·exact wpAny_loadName_local I.ok.kind hk hn hm go
 ·rcases hk with hk | hk
  ·exact wpAny_loadName_cell I.ok.kind hk hc hcell go
  ·rcases hx with k | k
   ·have : X.env.scope.names.lookup x = some .free := hk
    rw [k] at this; cases this
   ·have : X.env.scope.names.lookup x = some .free := hk
    rw [k] at this; cases this
def ipI (f : Int → Int → Int) : TIp := fun x y H Q => ∃ i j, x = .int i ∧ y = .int j ∧ Q (.int (f i j)) H
theorem lC : PIp X .Add (ipI fun i j => i + j) := by
 intro pins s σ H x y v u Q I r1 r2 h
 obtain ⟨i, j, e1, e2, q⟩ := h
 subst e1; subst e2
 obtain ⟨t, rfl⟩ := r1
 obtain ⟨t', rfl⟩ := r2
 exact iadd_int ⟨.int _, H, I.tok _, ⟨_, rfl⟩, q⟩
end
section
variable {X : Cx} {pos : Pos}
def dO (c : TT) (tb : TS) : TS := fun D σ H => ∃ W : Nat → St → Hp → Prop, (∃ m, W m σ H) ∧ ∀ m σ H, W m σ H →
 c σ H fun b H1 => if b = true then ∃ N : St → Hp → Prop, (∀ σ' H', N σ' H' → ∃ m', m' < m ∧ W m' σ' H') ∧ tb { D with nx := N, ct := N, bk := D.nx } σ H1 else D.nx σ H1
theorem SF {c : Expr} {body : List Stmt} {tc : TT} {tb : TS} (hp : PassesOwn (model X.prog X.w) X.A X.env X.xe) (hc : PT X c tc) (hb : PSs X body tb) : PS X (.While c body [] pos) (dO tc tb) := by
 intro pins s σ H D I h
 obtain ⟨W, ⟨m0, w0⟩, turn⟩ := h
 refine wpAny_While (codeAny_whileLoop (fun n s' => ∃ σ' H', Inv X pins σ' H' s' ∧ W n σ' H') ?_ m0 ⟨σ, H, I, w0⟩)
 rintro n s1 ⟨σ1, H1, I1, w1⟩
 refine wpAny_passesOwn hp (thn (hc pins s1 σ1 H1 _ I1 (turn n σ1 H1 w1)) fun b s2 ⟨H2, I2, q2⟩ => ?_)
 cases b with
 | true =>
  obtain ⟨N, hN, q2⟩ := q2
  rw [if_pos rfl]
  refine wpAny_passesOwn hp (thn (hb pins s2 σ1 H2 _ I2 q2) fun f s3 q3 => ?_)
  cases f with
  | next =>
   obtain ⟨σ3, H3, I3, n3⟩ := q3
   obtain ⟨m', hm, w3⟩ := hN σ3 H3 n3
   exact ⟨m', hm, σ3, H3, I3, w3⟩
  | cont =>
   obtain ⟨σ3, H3, I3, n3⟩ := q3
   obtain ⟨m', hm, w3⟩ := hN σ3 H3 n3
   exact ⟨m', hm, σ3, H3, I3, w3⟩
  | brk => exact q3
  | ret v => exact q3
 | false =>
  rw [if_neg Bool.false_ne_true]
  exact wpAny_execs_nil ⟨σ1, H2, I2, q2⟩
end
structure It where
 go : Nat → Hp → Prop
 yld : Nat → Hp → V → Hp → Prop
 stop : Nat → Hp → Prop
def HZ (X : Cx) (pins : List (Addr × Obj)) (H : Hp) (b : Addr) : Prop :=
 H b = none ∧ b ≠ X.env.locals ∧ b ∉ X.fs ∧ (b ∈ X.ex ∨ X.s₀.heap.objs.size ≤ b) ∧ (∀ x c, X.env.cells.lookup x = some c → c ≠ b) ∧ ∀ p ∈ X.pn ++ pins, p.1 ≠ b
theorem Inv.fpOk {X : Cx} {pins : List (Addr × Obj)} {σ : St} {H H' : Hp} {s : Shared} {b : Addr} (I : Inv X pins σ H s) (hb : s.heap.objs.size ≤ b) (hn : H' b = none) : HZ X pins H' b := by
 refine ⟨hn, Nat.ne_of_gt (Nat.lt_of_lt_of_le I.lt hb), I.nofs hb, .inr (Nat.le_trans I.sz hb), fun x c e z => ?_, fun p hp z => ?_⟩
 ·obtain ⟨v, q⟩ := I.cell x c e
  exact absurd (Nat.lt_of_lt_of_le q.lt (by rw [z]; exact hb)) (Nat.lt_irrefl _)
 ·exact absurd (Nat.lt_of_lt_of_le (Heap.lt_size (I.pin p hp).1) (by rw [z]; exact hb)) (Nat.lt_irrefl _)
structure TV (P : Program) (w : World) (K : PySem.W.Frag) (tg : Expr) (J : It) (fp : List Addr) (it : Addr) (tn : Nat → Heap → Prop) : Prop where
 mem : it ∈ fp
 obj : ∀ i h, tn i h → ∀ b ∈ fp, ∃ o, h.get? b = some o ∧ ∀ v, o.data ≠ .cell v
 keep : ∀ i h h', tn i h → (∀ b ∈ fp, ∀ o, h.get? b = some o → h'.get? b = some o) → tn i h'
 item : ∀ (X : Cx), X.prog = P → X.w = w → X.K = K → X.calm = true → ∀ (i : Nat) (pins : List (Addr × Obj)) (s : Shared) (σ : St) (H : Hp) (E : Value → Shared → Prop), Inv X pins σ H s → (∀ b ∈ fp, HZ X pins H b) → tn i s.heap → J.go i H →
  wpAny (model P w) X.A (pyNext (.ref it)) (fun r s1 => ∃ u, r = some u ∧
   wpAny (model P w) X.A (letOwnedTupleGo tg (.ref it) u) (fun _ s2 => ∃ x H', Inv X pins σ H' s2 ∧ BF x u ∧ J.yld i H x H' ∧ tn (i + 1) s2.heap ∧ ∀ b ∈ fp, H' b = none) E s1) E s
 done : ∀ (X : Cx), X.prog = P → X.w = w → X.K = K → X.calm = true → ∀ (i : Nat) (pins : List (Addr × Obj)) (s : Shared) (σ : St) (H : Hp) (E : Value → Shared → Prop), Inv X pins σ H s → (∀ b ∈ fp, HZ X pins H b) → tn i s.heap → J.stop i H →
  wpAny (model P w) X.A (pyNext (.ref it)) (fun r s1 => r = none ∧ Inv X pins σ H s1) E s
 self : ∀ (A : Around) (i : Nat) (s : Shared) (Q : Value → Shared → Prop) (E : Value → Shared → Prop), tn i s.heap → Q (.ref it) s → wpAny (model P w) A (pyIter (.ref it)) Q E s
abbrev TI := St → Hp → (It → Hp → Prop) → Prop
def PIE (X : Cx) (pins : List (Addr × Obj)) (σ : St) (tg : Expr) (R : It → Hp → Prop) (itv : Value) (s2 : Shared) : Prop :=
 ∃ (it : Addr) (fp : List Addr) (tn : Nat → Heap → Prop) (J : It) (H' : Hp), itv = .ref it ∧ Inv X pins σ H' s2 ∧ TV X.prog X.w X.K tg J fp it tn ∧ tn 0 s2.heap ∧ (∀ b ∈ fp, HZ X pins H' b) ∧ R J H'
def PI (X : Cx) (tg iter : Expr) (wi : TI) : Prop :=
 ∀ (pins : List (Addr × Obj)) (s : Shared) (σ : St) (H : Hp) (R : It → Hp → Prop), Inv X pins σ H s → wi σ H R →
  wpAny (model X.prog X.w) X.A (eval iter X.env) (fun v s1 => wpAny (model X.prog X.w) X.A (pyIter v) (PIE X pins σ tg R) X.xe s1) X.xe s
theorem TK {M : Model} {A : Around} {E : Value → Shared → Prop} {s : Shared} {tg : Expr} {it : Addr} {u : Value} {o : Obj} {n : String} {vs : Array Value} {Q : Unit → Shared → Prop} (ho : s.heap.get? it = some o) (hc : o.cls = .type n) (hd : o.data = .fields vs)
  (hn : ["enumerate", "zip", "dict_itemiterator", "dict_reverseitemiterator", "odict_iterator", "itertools.zip_longest", "itertools.pairwise"].contains n = false) (hQ : Q () s) : wpAny M A (letOwnedTupleGo tg (.ref it) u) Q E s := by
 unfold letOwnedTupleGo
 cases tg <;> first
  | exact wpAny_pure hQ
  | (cases u <;> first
    | exact wpAny_pure hQ
    | (refine wpAny_bind (wpAny_load ho ?_)
       rw [hc, hd]
       show wpAny M A (if (["enumerate", "zip", "dict_itemiterator", "dict_reverseitemiterator", "odict_iterator", "itertools.zip_longest", "itertools.pairwise"].contains n && vs[0]? == some (rawInt _)) = true then _ else _) Q E s
       rw [if_neg (by intro h; rw [hn, Bool.false_and] at h; cases h)]
       exact wpAny_pure hQ))
def Itl (K : PySem.W.Frag) (a : Addr) : It :=
 ⟨fun i H => ∃ xs x, SqL K H a xs ∧ xs[i]? = some x, fun i H x H' => H' = H ∧ ∀ xs, SqL K H a xs → xs[i]? = some x, fun i H => ∃ xs, SqL K H a xs ∧ xs.length ≤ i⟩
def Itt (K : PySem.W.Frag) (a : Addr) : It :=
 ⟨fun i H => ∃ xs x, SqT K H a xs ∧ xs[i]? = some x, fun i H x H' => H' = H ∧ ∀ xs, SqT K H a xs → xs[i]? = some x, fun i H => ∃ xs, SqT K H a xs ∧ xs.length ≤ i⟩
def Itr (lo : Int) (n : Nat) : It := ⟨fun i _ => i < n, fun i H x H' => H' = H ∧ x = .int (lo + i), fun i _ => n ≤ i⟩
theorem OV {P : Program} {w : World} {K : PySem.W.Frag} {tg : Expr} (a it : Addr) : TV P w K tg (Itl K a) [it] it (fun i h => h.IsListIter it a i) where
 mem := by simp
 obj := fun i h st b hb => by
  have e : b = it := by simpa using hb
  subst e
  obtain ⟨o, e, c, d⟩ := st
  exact ⟨o, e, fun v z => by rw [d] at z; cases z⟩
 keep := fun i h h' st k => st.at fun o e => k it (by simp) o e
 item := by
  intro X hP hw hK hc i pins s σ H E I hf st hg
  subst hP hw hK
  obtain ⟨xs, x, hq, hx⟩ := hg
  obtain ⟨its, rv, p, hz⟩ := I.list hq
  obtain ⟨u, hu, ru⟩ := rv.get hx
  obtain ⟨f0, f1, f2, f3, f4, f5⟩ := hf it (by simp)
  refine wpAny_pyNext_list_item st p.isList (x := u) (by simpa using hu) fun h' st' sb => ?_
  have I1 : Inv X pins σ H { s with heap := h' } := I.turned (t' := s.toks) (fun b o hb e => (sb.2 b hb).trans e) f0 f1 f3 f4 f5
  obtain ⟨o, e, c, d⟩ := id st'
  exact ⟨u, rfl, TK (s := { s with heap := h' }) e c d (by decide) ⟨x, H, I1, ru, ⟨rfl, fun ys hy => by rw [I.list_inj hy hq]; exact hx⟩, st', fun b hb => (hf b hb).1⟩⟩
 done := by
  intro X hP hw hK hc i pins s σ H E I hf st hg
  subst hP hw hK
  obtain ⟨xs, hq, hx⟩ := hg
  obtain ⟨its, rv, p, hz⟩ := I.list hq
  obtain ⟨f0, f1, f2, f3, f4, f5⟩ := hf it (by simp)
  have hl := rv.length
  exact wpAny_pyNext_list_end (I.ok.hd hc) st p.isList (by simp; omega) fun h' eb => ⟨rfl, I.turned (t' := s.toks) (fun b o hb e => eb b o hb e) f0 f1 f3 f4 f5⟩
 self := fun _ _ _ _ _ st h => wpAny_pyIter_listiter st h
theorem NV {P : Program} {w : World} {K : PySem.W.Frag} {tg : Expr} (a it : Addr) : TV P w K tg (Itt K a) [it] it (fun i h => h.IsTupleIter it a i) where
 mem := by simp
 obj := fun i h st b hb => by
  have e : b = it := by simpa using hb
  subst e
  obtain ⟨o, e, c, d⟩ := st
  exact ⟨o, e, fun v z => by rw [d] at z; cases z⟩
 keep := fun i h h' st k => st.at fun o e => k it (by simp) o e
 item := by
  intro X hP hw hK hc i pins s σ H E I hf st hg
  subst hP hw hK
  obtain ⟨xs, x, hq, hx⟩ := hg
  obtain ⟨its, rv, p, hz⟩ := I.tuple hq
  obtain ⟨u, hu, ru⟩ := rv.get hx
  obtain ⟨f0, f1, f2, f3, f4, f5⟩ := hf it (by simp)
  refine wpAny_pyNext_tuple_item st (show s.heap.IsTuple a its.toArray from p) (x := u) (by simpa using hu) fun h' st' sb => ?_
  have I1 : Inv X pins σ H { s with heap := h' } := I.turned (t' := s.toks) (fun b o hb e => (sb.2 b hb).trans e) f0 f1 f3 f4 f5
  obtain ⟨o, e, c, d⟩ := id st'
  exact ⟨u, rfl, TK (s := { s with heap := h' }) e c d (by decide) ⟨x, H, I1, ru, ⟨rfl, fun ys hy => by rw [I.tuple_inj hy hq]; exact hx⟩, st', fun b hb => (hf b hb).1⟩⟩
 done := by
  intro X hP hw hK hc i pins s σ H E I hf st hg
  subst hP hw hK
  obtain ⟨xs, hq, hx⟩ := hg
  obtain ⟨its, rv, p, hz⟩ := I.tuple hq
  obtain ⟨f0, f1, f2, f3, f4, f5⟩ := hf it (by simp)
  have hl := rv.length
  exact wpAny_pyNext_tuple_end (I.ok.hd hc) st (show s.heap.IsTuple a its.toArray from p) (by simp; omega) fun h' eb => ⟨rfl, I.turned (t' := s.toks) (fun b o hb e => eb b o hb e) f0 f1 f3 f4 f5⟩
 self := fun _ _ _ _ _ st h => wpAny_pyIter_tupleiter st h
theorem VS {P : Program} {w : World} {K : PySem.W.Frag} {tg : Expr} (it : Addr) (lo : Int) (n : Nat) : TV P w K tg (Itr lo n) [it] it (fun i h => IsRangeIter h it (lo + (i : Nat) * 1) ((n : Int) - (i : Nat)) 1) where
 mem := by simp
 obj := fun i h st b hb => by
  have e : b = it := by simpa using hb
  subst e
  exact ⟨_, st, fun v z => by
   have z' : Data.fields _ = Data.cell v := z
   cases z'⟩
 keep := fun i h h' st k => k it (by simp) _ st
 item := by
  intro X hP hw hK hc i pins s σ H E I hf st hg
  subst hP hw hK
  obtain ⟨f0, f1, f2, f3, f4, f5⟩ := hf it (by simp)
  have W := Walks.range (prog := X.prog) (w := X.w) (I.ok.hd hc) it lo 1 n
  refine W.item i s _ _ hg st fun v h' tk hv st' kk => ?_
  obtain ⟨t, rfl⟩ := hv
  have I1 : Inv X pins σ H { s with heap := h', toks := tk } := I.turned (fun b o hb e => kk b o (by simpa using hb) e) f0 f1 f3 f4 f5
  refine ⟨_, rfl, TK (s := { s with heap := h', toks := tk }) (n := "range_iterator") st' rfl rfl (by decide) ⟨.int (lo + i), H, I1, ⟨t, ?_⟩, ⟨rfl, rfl⟩, st', fun b hb => (hf b hb).1⟩⟩
  rw [Int.mul_one]
 done := by
  intro X hP hw hK hc i pins s σ H E I hf st hg
  subst hP hw hK
  obtain ⟨f0, f1, f2, f3, f4, f5⟩ := hf it (by simp)
  exact wpAny_pyNext_range_end (I.ok.hd hc) st (by have : n ≤ i := hg; omega) fun h' eb => ⟨rfl, I.turned (t' := s.toks) (fun b o hb e => eb b o hb e) f0 f1 f3 f4 f5⟩
 self := fun _ _ _ _ _ st h => wpAny_pyIter_rangeiter st h
section
variable {X : Cx} {tg : Expr}
def eI (K : PySem.W.Frag) (tl : TE) : TI := fun σ H R => tl σ H fun x H1 => ∃ a, x = .ref a ∧ (∃ xs, SqL K H1 a xs) ∧ R (Itl K a) H1
def kD (K : PySem.W.Frag) (tl : TE) : TI := fun σ H R => tl σ H fun x H1 => ∃ a, x = .ref a ∧ (∃ xs, SqT K H1 a xs) ∧ R (Itt K a) H1
theorem fQ {l : Expr} {tl : TE} (hl : PE X l tl) : PI X tg l (eI X.K tl) := by
 intro pins s σ H R I h
 refine thn (hl pins s σ H _ I h) fun v s1 ⟨x, H1, I1, r1, q1⟩ => ?_
 obtain ⟨a, e, ⟨xs, hq⟩, q⟩ := q1
 subst e
 cases r1
 obtain ⟨its, rv, p, hz⟩ := I1.list hq
 refine wpAny_pyIter_list p.isList ?_
 refine ⟨s1.heap.objs.size, [s1.heap.objs.size], _, _, H1, rfl, I1.kept (t' := s1.toks) fun b o e => Heap.get?_push_of_some _ e, OV a _, ⟨_, Heap.get?_push_size _ rfl, rfl, rfl⟩, fun b hb => ?_, q⟩
 have e : b = s1.heap.objs.size := by simpa using hb
 subst e
 exact I1.fpOk (Nat.le_refl _) (I1.hok.fresh (Nat.le_refl _))
theorem lX {l : Expr} {tl : TE} (hl : PE X l tl) : PI X tg l (kD X.K tl) := by
 intro pins s σ H R I h
 refine thn (hl pins s σ H _ I h) fun v s1 ⟨x, H1, I1, r1, q1⟩ => ?_
 obtain ⟨a, e, ⟨xs, hq⟩, q⟩ := q1
 subst e
 cases r1
 obtain ⟨its, rv, p, hz⟩ := I1.tuple hq
 refine wpAny_pyIter_tuple (show s1.heap.IsTuple a its.toArray from p) ?_
 refine ⟨s1.heap.objs.size, [s1.heap.objs.size], _, _, H1, rfl, I1.kept (t' := s1.toks) fun b o e => Heap.get?_push_of_some _ e, NV a _, ⟨_, Heap.get?_push_size _ rfl, rfl, rfl⟩, fun b hb => ?_, q⟩
 have e : b = s1.heap.objs.size := by simpa using hb
 subst e
 exact I1.fpOk (Nat.le_refl _) (I1.hok.fresh (Nat.le_refl _))
theorem SU {pins : List (Addr × Obj)} {σ : St} {H : Hp} {s : Shared} {R : It → Hp → Prop} {E : Value → Shared → Prop} {lo hi : Int} {t u v : Tok} {tk : Nat} (I : Inv X pins σ H s) (h1 : -(2 ^ 62) ≤ lo) (h2 : lo < 2 ^ 62) (h3 : -(2 ^ 62) ≤ hi) (h4 : hi < 2 ^ 62)
  (q : R (Itr lo (hi - lo).toNat) H) : wpAny (model X.prog X.w) X.A (pyIter (.ref s.heap.objs.size)) (PIE X pins σ tg R) E { s with heap := s.heap.push { cls := .type "range", data := .fields #[.int lo t, .int hi u, .int 1 v] }, toks := tk } := by
 refine wpAny_pyIter_range (IsRange.new ..) (small_one h1 h2 h3 h4) ?_
 have I1 : Inv X pins σ H { s with heap := s.heap.push { cls := .type "range", data := .fields #[.int lo t, .int hi u, .int 1 v] }, toks := tk } := I.kept fun b o e => Heap.get?_push_of_some _ e
 refine ⟨(s.heap.push { cls := .type "range", data := .fields #[.int lo t, .int hi u, .int 1 v] }).objs.size, [(s.heap.push { cls := .type "range", data := .fields #[.int lo t, .int hi u, .int 1 v] }).objs.size], _, _, H, rfl,
  I1.kept (t' := tk) fun b o e => Heap.get?_push_of_some _ e, VS _ lo (hi - lo).toNat, ?_, fun b hb => ?_, q⟩
 ·have e1 : lo + ((0 : Nat) : Int) * 1 = lo := by simp
  have e2 : (((hi - lo).toNat : Nat) : Int) - ((0 : Nat) : Int) = Builtin.Range.rangeSize lo hi 1 := by rw [rangeSize_one]; split <;> omega
  show IsRangeIter _ _ (lo + ((0 : Nat) : Int) * 1) ((((hi - lo).toNat : Nat) : Int) - ((0 : Nat) : Int)) 1
  rw [e1, e2]
  exact Heap.get?_push_size _ rfl
 ·have e : b = (s.heap.push { cls := .type "range", data := .fields #[.int lo t, .int hi u, .int 1 v] }).objs.size := by simpa using hb
  subst e
  exact I1.fpOk (Nat.le_refl _) (I1.hok.fresh (Nat.le_refl _))
def dP (ta : TA) : TI := fun σ H R => ta σ H fun vs H1 => ∃ j : Int, vs = [.int j] ∧ -(2 ^ 62) ≤ j ∧ j < 2 ^ 62 ∧ R (Itr 0 j.toNat) H1
def aP (ta : TA) : TI := fun σ H R => ta σ H fun vs H1 => ∃ i j : Int, vs = [.int i, .int j] ∧ (-(2 ^ 62) ≤ i ∧ i < 2 ^ 62 ∧ -(2 ^ 62) ≤ j ∧ j < 2 ^ 62) ∧ R (Itr i (j - i).toNat) H1
theorem LJ {a : Expr} {ta : TA} {p pos : Pos} (hg : Gl X "range") (hm : X.mg "range" = none) (ha : PA X [a] ta) (hs : starEach [a] X.env = [(false, eval a X.env)] := by rfl) : PI X tg (.Call (.Name "range" p) [a] [] pos) (dP ta) := by
 intro pins s σ H R I h
 refine Call_ (HU I hg hm boot_range (PyProof.Rows.callWith_type1 (thn (ha pos pins s σ H _ I h) fun us s1 ⟨vs, H1, I1, r1, q1⟩ => ?_) hs rfl))
 obtain ⟨j, e, q1, q2, q⟩ := q1
 subst e
 cases r1 with
 | cons r rr =>
  cases rr
  obtain ⟨t, rfl⟩ := r
  exact call_range_1 (SU I1 (by omega) (by omega) q1 q2 (by simpa using q))
theorem ZO {a b : Expr} {ta : TA} {p pos : Pos} (hg : Gl X "range") (hm : X.mg "range" = none) (ha : PA X [a, b] ta) (hs : starEach [a, b] X.env = [(false, eval a X.env), (false, eval b X.env)] := by rfl) (hs2 : starEach [b] X.env = [(false, eval b X.env)] := by rfl) :
  PI X tg (.Call (.Name "range" p) [a, b] [] pos) (aP ta) := by
 intro pins s σ H R I h
 refine Call_ (HU I hg hm boot_range (PyProof.Rows.callWith_type1 (thn (ha pos pins s σ H _ I h) fun us s1 ⟨vs, H1, I1, r1, q1⟩ => ?_) (by rw [hs, hs2]) (by rw [hs2]; rfl)))
 obtain ⟨i, j, e, ⟨q1, q2, q3, q4⟩, q⟩ := q1
 subst e
 cases r1 with
 | cons r rr =>
  cases rr with
  | cons r' rr =>
   cases rr
   obtain ⟨t, rfl⟩ := r
   obtain ⟨t', rfl⟩ := r'
   exact call_range_2 (SU I1 q1 q2 q3 q4 q)
def oT (wi : TI) (g : TG) (tb : TS) : TS := fun D σ H => wi σ H fun J H1 => ∃ W : Nat → Nat → St → Hp → Prop, (∃ m, W 0 m σ H1) ∧ ∀ i m σ H, W i m σ H →
 (J.stop i H ∧ D.nx σ H) ∨ (J.go i H ∧ ∃ N : St → Hp → Prop, (∀ σ' H', N σ' H' → ∃ m', m' < m ∧ W (i + 1) m' σ' H') ∧ ∀ x H', J.yld i H x H' → g x σ H' fun σ2 H2 => tb { D with nx := N, ct := N, bk := D.nx } σ2 H2)
def FG (fp : List Addr) (h : Heap) : List (Addr × Obj) := fp.filterMap fun b => (h.get? b).map fun o => (b, o)
theorem CH {fp : List Addr} {h : Heap} {b : Addr} {o : Obj} (hb : b ∈ fp) (e : h.get? b = some o) : (b, o) ∈ FG fp h := List.mem_filterMap.mpr ⟨b, hb, by rw [e]; rfl⟩
theorem ZP {fp : List Addr} {h : Heap} {p : Addr × Obj} (hp : p ∈ FG fp h) : p.1 ∈ fp ∧ h.get? p.1 = some p.2 := by
 obtain ⟨b, hb, e⟩ := List.mem_filterMap.mp hp
 cases q : h.get? b with
 | none => rw [q] at e; cases e
 | some o =>
  rw [q] at e
  have e' : (b, o) = p := Option.some.inj e
  subst e'
  exact ⟨hb, q⟩
theorem Inv.pinned {pins : List (Addr × Obj)} {σ : St} {H : Hp} {s : Shared} {fp : List Addr} (I : Inv X pins σ H s) (hf : ∀ b ∈ fp, HZ X pins H b) (ho : ∀ b ∈ fp, ∃ o, s.heap.get? b = some o ∧ ∀ v, o.data ≠ .cell v) : Inv X (pins ++ FG fp s.heap) σ H s :=
 I.pins_of fun p hp => (List.mem_append.mp hp).elim (fun z => I.pin p (List.mem_append_right _ z)) fun z => by
  obtain ⟨hb, e⟩ := ZP z
  obtain ⟨f0, f1, f2, _⟩ := hf p.1 hb
  obtain ⟨o, e', d⟩ := ho p.1 hb
  rw [e] at e'; cases e'
  exact ⟨e, f0, f1, f2, d⟩
theorem Inv.unpinned {pins pl : List (Addr × Obj)} {σ : St} {H : Hp} {s : Shared} (I : Inv X (pins ++ pl) σ H s) : Inv X pins σ H s := I.pins_of fun p hp => I.pin p (List.mem_append_right _ (List.mem_append_left _ hp))
theorem DL {iter : Expr} {body : List Stmt} {wi : TI} {g : TG} {tb : TS} {pos : Pos} (hp : PassesOwn (model X.prog X.w) X.A X.env X.xe) (hc : X.calm = true) (hi : PI X tg iter wi) (hg : PG X tg g) (hb : PSs X body tb)
  (hs : ∀ x, foldedSetIterable iter X.env x = pure x := by intro _; rfl) : PS X (.For tg iter body [] pos) (oT wi g tb) := by
 intro pins s σ H D I h
 refine wpAny_For (thn (hi pins s σ H _ I h) fun v s1 h1 => thn h1 fun itv s2 h2 => ?_) hs
 obtain ⟨it, fp, tn, J, H2, e, I2, T, st2, f2, W, ⟨m0, w0⟩, turn⟩ := h2
 subst e
 have stat : ∀ {H' : Hp}, (∀ b ∈ fp, H' b = none) → ∀ b ∈ fp, HZ X pins H' b := fun hn b hb => ⟨hn b hb, (f2 b hb).2⟩
 refine codeAny_forLoop_any (fun n s' => ∃ i σ' H', Inv X pins σ' H' s' ∧ tn i s'.heap ∧ (∀ b ∈ fp, H' b = none) ∧ W i n σ' H') ?_ m0 ⟨0, σ, H2, I2, st2, fun b hb => (f2 b hb).1, w0⟩
 rintro n s3 ⟨i, σ3, H3, I3, st3, fr3, w3⟩
 rcases turn i n σ3 H3 w3 with ⟨stop, qn⟩ | ⟨go, N, hN, step⟩
 ·refine wpAny_passesOwn hp (thn (T.done X rfl rfl rfl hc i pins s3 σ3 H3 X.xe I3 (stat fr3) st3 stop) fun r s4 ⟨hr, I4⟩ => ?_)
  subst hr
  exact wpAny_execs_nil ⟨σ3, H3, I4, qn⟩
 ·refine wpAny_passesOwn hp (thn (T.item X rfl rfl rfl hc i pins s3 σ3 H3 X.xe I3 (stat fr3) st3 go) fun r s4 ⟨u, hr, h4⟩ => ?_)
  subst hr
  refine wpAny_passesOwn hp (thn h4 fun _ s5 ⟨x, H5, I5, r5, y5, st5, fr5⟩ => ?_)
  have I5' := I5.pinned (stat fr5) (T.obj _ _ st5)
  refine wpAny_passesOwn hp (thn (hg _ s5 σ3 H5 x u _ I5' r5 (step x H5 y5)) fun _ s6 ⟨σ6, H6, I6, q6⟩ => ?_)
  refine wpAny_passesOwn hp (thn (hb _ s6 σ6 H6 _ I6 q6) fun f s7 q7 => ?_)
  have again : ∀ {σ7 : St} {H7 : Hp}, Inv X (pins ++ FG fp s5.heap) σ7 H7 s7 → N σ7 H7 → ∃ m, m < n ∧ ∃ i σ' H', Inv X pins σ' H' s7 ∧ tn i s7.heap ∧ (∀ b ∈ fp, H' b = none) ∧ W i m σ' H' := fun {σ7 H7} I7 n7 => by
   obtain ⟨m', hm, w7⟩ := hN σ7 H7 n7
   refine ⟨m', hm, i + 1, σ7, H7, I7.unpinned, T.keep _ _ _ st5 fun b hb o e => (I7.pin (b, o) (List.mem_append_right _ (List.mem_append_right _ (CH hb e)))).1, fun b hb => ?_, w7⟩
   obtain ⟨o, e, d⟩ := T.obj _ _ st5 b hb
   exact (I7.pin (b, o) (List.mem_append_right _ (List.mem_append_right _ (CH hb e)))).2.1
  cases f with
  | next => obtain ⟨σ7, H7, I7, n7⟩ := q7; exact again I7 n7
  | cont => obtain ⟨σ7, H7, I7, n7⟩ := q7; exact again I7 n7
  | brk => obtain ⟨σ7, H7, I7, q7⟩ := q7; exact ⟨σ7, H7, I7.unpinned, q7⟩
  | ret v => obtain ⟨x7, σ7, H7, I7, r7, q7⟩ := q7; exact ⟨x7, σ7, H7, I7.unpinned, r7, q7⟩
end
theorem cQ {K : PySem.W.Frag} {a : Addr} {xs : List V} {g : TG} {tb : TS} {D : JE} {σ : St} {H : Hp} (Pv : Nat → St → Hp → Prop) (h0 : Pv 0 σ H) (hl : ∀ i σ H, i ≤ xs.length → Pv i σ H → SqL K H a xs)
  (hs : ∀ i x σ H, xs[i]? = some x → Pv i σ H → g x σ H fun σ2 H2 => tb { D with nx := Pv (i + 1), ct := Pv (i + 1), bk := D.nx } σ2 H2) (hd : ∀ σ H, Pv xs.length σ H → D.nx σ H) :
  ∃ W : Nat → Nat → St → Hp → Prop, (∃ m, W 0 m σ H) ∧ ∀ i m σ H, W i m σ H →
   ((Itl K a).stop i H ∧ D.nx σ H) ∨ ((Itl K a).go i H ∧ ∃ N : St → Hp → Prop, (∀ σ' H', N σ' H' → ∃ m', m' < m ∧ W (i + 1) m' σ' H') ∧ ∀ x H', (Itl K a).yld i H x H' → g x σ H' fun σ2 H2 => tb { D with nx := N, ct := N, bk := D.nx } σ2 H2) := by
 refine ⟨fun i m σ H => m = xs.length - i ∧ i ≤ xs.length ∧ Pv i σ H, ⟨xs.length, by simp, Nat.zero_le _, h0⟩, ?_⟩
 rintro i m σ H ⟨rfl, hi, p⟩
 have q := hl i σ H hi p
 by_cases hlt : i < xs.length
 ·refine .inr ⟨⟨xs, xs[i], q, by simp [hlt]⟩, Pv (i + 1), fun σ' H' p' => ⟨xs.length - (i + 1), by omega, rfl, hlt, p'⟩, fun x H' y => ?_⟩
  obtain ⟨e, y⟩ := y
  subst e
  exact hs i x σ _ (y xs q) p
 ·have e : i = xs.length := by omega
  subst e
  exact .inl ⟨⟨xs, q, Nat.le_refl _⟩, hd σ H p⟩
theorem iU {K : PySem.W.Frag} {a : Addr} {xs : List V} {g : TG} {tb : TS} {D : JE} {σ : St} {H : Hp} (Pv : Nat → St → Hp → Prop) (h0 : Pv 0 σ H) (hl : ∀ i σ H, i ≤ xs.length → Pv i σ H → SqT K H a xs)
  (hs : ∀ i x σ H, xs[i]? = some x → Pv i σ H → g x σ H fun σ2 H2 => tb { D with nx := Pv (i + 1), ct := Pv (i + 1), bk := D.nx } σ2 H2) (hd : ∀ σ H, Pv xs.length σ H → D.nx σ H) :
  ∃ W : Nat → Nat → St → Hp → Prop, (∃ m, W 0 m σ H) ∧ ∀ i m σ H, W i m σ H →
   ((Itt K a).stop i H ∧ D.nx σ H) ∨ ((Itt K a).go i H ∧ ∃ N : St → Hp → Prop, (∀ σ' H', N σ' H' → ∃ m', m' < m ∧ W (i + 1) m' σ' H') ∧ ∀ x H', (Itt K a).yld i H x H' → g x σ H' fun σ2 H2 => tb { D with nx := N, ct := N, bk := D.nx } σ2 H2) := by
 refine ⟨fun i m σ H => m = xs.length - i ∧ i ≤ xs.length ∧ Pv i σ H, ⟨xs.length, by simp, Nat.zero_le _, h0⟩, ?_⟩
 rintro i m σ H ⟨rfl, hi, p⟩
 have q := hl i σ H hi p
 by_cases hlt : i < xs.length
 ·refine .inr ⟨⟨xs, xs[i], q, by simp [hlt]⟩, Pv (i + 1), fun σ' H' p' => ⟨xs.length - (i + 1), by omega, rfl, hlt, p'⟩, fun x H' y => ?_⟩
  obtain ⟨e, y⟩ := y
  subst e
  exact hs i x σ _ (y xs q) p
 ·have e : i = xs.length := by omega
  subst e
  exact .inl ⟨⟨xs, q, Nat.le_refl _⟩, hd σ H p⟩
theorem YB {lo : Int} {n : Nat} {g : TG} {tb : TS} {D : JE} {σ : St} {H : Hp} (Pv : Nat → St → Hp → Prop) (h0 : Pv 0 σ H)
  (hs : ∀ i σ H, i < n → Pv i σ H → g (.int (lo + i)) σ H fun σ2 H2 => tb { D with nx := Pv (i + 1), ct := Pv (i + 1), bk := D.nx } σ2 H2) (hd : ∀ σ H, Pv n σ H → D.nx σ H) :
  ∃ W : Nat → Nat → St → Hp → Prop, (∃ m, W 0 m σ H) ∧ ∀ i m σ H, W i m σ H →
   ((Itr lo n).stop i H ∧ D.nx σ H) ∨ ((Itr lo n).go i H ∧ ∃ N : St → Hp → Prop, (∀ σ' H', N σ' H' → ∃ m', m' < m ∧ W (i + 1) m' σ' H') ∧ ∀ x H', (Itr lo n).yld i H x H' → g x σ H' fun σ2 H2 => tb { D with nx := N, ct := N, bk := D.nx } σ2 H2) := by
 refine ⟨fun i m σ H => m = n - i ∧ i ≤ n ∧ Pv i σ H, ⟨n, by simp, Nat.zero_le _, h0⟩, ?_⟩
 rintro i m σ H ⟨rfl, hi, p⟩
 by_cases hlt : i < n
 ·refine .inr ⟨hlt, Pv (i + 1), fun σ' H' p' => ⟨n - (i + 1), by omega, rfl, hlt, p'⟩, fun x H' y => ?_⟩
  obtain ⟨e, y⟩ := y
  subst e y
  exact hs i σ _ hlt p
 ·have e : i = n := by omega
  subst e
  exact .inl ⟨Nat.le_refl _, hd σ H p⟩
abbrev R2 := V → V → Hp → VK → Prop
def OpR (X : Cx) (f : Value → Value → Sem Value) (r : R2) : Prop :=
 ∀ (pins : List (Addr × Obj)) (s : Shared) (σ : St) (H : Hp) (x y : V) (v u : Value) (Q : VK), Inv X pins σ H s → BF x v → BF y u → r x y H Q →
  wpAny (model X.prog X.w) X.A (f v u) (EP X pins σ Q) X.xe s
def UnR (X : Cx) (f : Value → Sem Value) (r : V → Hp → VK → Prop) : Prop :=
 ∀ (pins : List (Addr × Obj)) (s : Shared) (σ : St) (H : Hp) (x : V) (v : Value) (Q : VK), Inv X pins σ H s → BF x v → r x H Q →
  wpAny (model X.prog X.w) X.A (f v) (EP X pins σ Q) X.xe s
def DE (X : Cx) (f : Value) (r : List V → Hp → VK → Prop) : Prop :=
 ∀ (pins : List (Addr × Obj)) (s : Shared) (σ : St) (H : Hp) (xs : List V) (us : List Value) (Q : VK), Inv X pins σ H s → BH xs us → r xs H Q →
  wpAny (model X.prog X.w) X.A (call f us) (EP X pins σ Q) X.xe s
def TruR (X : Cx) (r : V → Hp → (Bool → Hp → Prop) → Prop) : Prop :=
 ∀ (pins : List (Addr × Obj)) (s : Shared) (σ : St) (H : Hp) (x : V) (v : Value) (Q : Bool → Hp → Prop), Inv X pins σ H s → BF x v → r x H Q →
  wpAny (model X.prog X.w) X.A (truthy v) (TP X pins σ Q) X.xe s
def tOp (r : R2) (ta tb : TE) : TE := fun σ H Q => ta σ H fun x H1 => tb σ H1 fun y H2 => r x y H2 Q
def tUn (r : V → Hp → VK → Prop) (ta : TE) : TE := fun σ H Q => ta σ H fun x H1 => r x H1 Q
def rI (C : Int → Int → Prop) (g : Int → Int → V) : R2 := fun x y H Q => ∃ i j, x = .int i ∧ y = .int j ∧ C i j ∧ Q (g i j) H
def rI0 (g : Int → Int → V) : R2 := fun x y H Q => ∃ i j, x = .int i ∧ y = .int j ∧ Q (g i j) H
def rU (g : Int → V) : V → Hp → VK → Prop := fun x H Q => ∃ i, x = .int i ∧ Q (g i) H
section
variable {X : Cx} {a b c : Expr} {ta tb tc : TE} {pos : Pos}
theorem mI (ha : PE X a ta) (hb : PE X b tb) {pins : List (Addr × Obj)} {s : Shared} {σ : St} {H : Hp} {R : V → V → Hp → Prop} (I : Inv X pins σ H s)
  (h : ta σ H fun x H1 => tb σ H1 fun y H2 => R x y H2) {Q : Value → Shared → Prop} {f : Value → Value → Sem Value}
  (hf : ∀ v u s2 x y H2, Inv X pins σ H2 s2 → BF x v → BF y u → R x y H2 → wpAny (model X.prog X.w) X.A (f v u) Q X.xe s2) :
  wpAny (model X.prog X.w) X.A (eval a X.env) (fun v s₁ => wpAny (model X.prog X.w) X.A (eval b X.env) (fun u s₂ => wpAny (model X.prog X.w) X.A (f v u) Q X.xe s₂) X.xe s₁) X.xe s := by
 refine thn (ha pins s σ H _ I h) fun v s1 ⟨x, H1, I1, r1, q1⟩ => ?_
 refine thn (hb pins s1 σ H1 _ I1 q1) fun u s2 ⟨y, H2, I2, r2, q2⟩ => ?_
 exact hf v u s2 x y H2 I2 r1 r2 q2
theorem AM {op : Operator} {r : R2} (ho : OpR X (binaryOp op) r) (ha : PE X a ta) (hb : PE X b tb) : PE X (.BinOp a op b pos) (tOp r ta tb) := by
 intro pins s σ H Q I h
 exact wpAny_BinOp (mI ha hb I h fun v u s2 x y H2 I2 rx ry q => ho pins s2 σ H2 x y v u Q I2 rx ry q)
theorem MU {op : UnaryOp} {r : V → Hp → VK → Prop} (ho : UnR X (unaryOp op) r) (ha : PE X a ta) : PE X (.UnaryOp op a pos) (tUn r ta) := by
 intro pins s σ H Q I h
 exact UnaryOp_ (thn (ha pins s σ H _ I h) fun v s1 ⟨x, H1, I1, r1, q1⟩ => ho pins s1 σ H1 x v Q I1 r1 q1)
theorem opI {f : Value → Value → Sem Value} {C : Int → Int → Prop} {g : Int → Int → Int}
  (rule : ∀ (i j : Int) (t u : Tok) (s : Shared) (Q : Value → Shared → Prop) (E : Value → Shared → Prop), C i j → Q (.int (g i j) s.toks) { s with toks := s.toks + 1 } → wpAny (model X.prog X.w) X.A (f (.int i t) (.int j u)) Q E s) :
  OpR X f (rI C fun i j => .int (g i j)) := by
 intro pins s σ H x y v u Q I rx ry h
 obtain ⟨i, j, rfl, rfl, hc, q⟩ := h
 obtain ⟨t, rfl⟩ := rx
 obtain ⟨t', rfl⟩ := ry
 exact rule i j t t' s _ _ hc ⟨.int (g i j), H, I.tok _, ⟨_, rfl⟩, q⟩
theorem pE {f : Value → Value → Sem Value} {g : Int → Int → Int}
  (rule : ∀ (i j : Int) (t u : Tok) (s : Shared) (Q : Value → Shared → Prop) (E : Value → Shared → Prop), Q (.int (g i j) s.toks) { s with toks := s.toks + 1 } → wpAny (model X.prog X.w) X.A (f (.int i t) (.int j u)) Q E s) :
  OpR X f (rI0 fun i j => .int (g i j)) := by
 intro pins s σ H x y v u Q I rx ry h
 obtain ⟨i, j, rfl, rfl, q⟩ := h
 obtain ⟨t, rfl⟩ := rx
 obtain ⟨t', rfl⟩ := ry
 exact rule i j t t' s _ _ ⟨.int (g i j), H, I.tok _, ⟨_, rfl⟩, q⟩
theorem iO {f : Value → Value → Sem Value} {g : Int → Int → Bool}
  (rule : ∀ (i j : Int) (t u : Tok) (s : Shared) (Q : Value → Shared → Prop) (E : Value → Shared → Prop), Q (.bool (g i j)) s → wpAny (model X.prog X.w) X.A (f (.int i t) (.int j u)) Q E s) :
  OpR X f (rI0 fun i j => .bl (g i j)) := by
 intro pins s σ H x y v u Q I rx ry h
 obtain ⟨i, j, rfl, rfl, q⟩ := h
 obtain ⟨t, rfl⟩ := rx
 obtain ⟨t', rfl⟩ := ry
 exact rule i j t t' s _ _ ⟨.bl (g i j), H, I, rfl, q⟩
def pX (i j : Int) : Prop := 0 ≤ j ∧ j ≤ 1000000 ∧ i.natAbs < 2 ^ 64
theorem lN : OpR X (binaryOp .Add) (rI0 fun i j => .int (i + j)) := pE fun _ _ _ _ _ _ _ q => add_int q
theorem mP : OpR X (binaryOp .Sub) (rI0 fun i j => .int (i - j)) := pE fun _ _ _ _ _ _ _ q => sub_int q
theorem lZ : OpR X (binaryOp .Mod) (rI (fun _ j => 0 < j) fun i j => .int (i % j)) := opI fun i j _ _ _ _ _ hc q => by
 have h1 : (0 : Int) < j := hc
 exact mod_int' (by omega) (by rw [Int.fmod_eq_emod_of_nonneg i (by omega)]; exact q)
theorem kK : OpR X (binaryOp .Pow) (rI pX fun i j => .int (i ^ j.toNat)) := opI fun _ _ _ _ _ _ _ hc q => pow_int_small hc.1 hc.2.1 hc.2.2 q
theorem unI {f : Value → Sem Value} {g : Int → Int}
  (rule : ∀ (i : Int) (t : Tok) (s : Shared) (Q : Value → Shared → Prop) (E : Value → Shared → Prop), Q (.int (g i) s.toks) { s with toks := s.toks + 1 } → wpAny (model X.prog X.w) X.A (f (.int i t)) Q E s) :
  UnR X f (rU fun i => .int (g i)) := by
 intro pins s σ H x v Q I rx h
 obtain ⟨i, rfl, q⟩ := h
 obtain ⟨t, rfl⟩ := rx
 exact rule i t s _ _ ⟨.int (g i), H, I.tok _, ⟨_, rfl⟩, q⟩
theorem eD : UnR X (unaryOp .USub) (rU fun i => .int (-i)) := unI fun _ _ _ _ _ q => neg_int q
end
def nM : V → V → Bool
 | .non, .non => true | .non, .int _ => true | .int _, .non => true | .non, .bl _ => true | .bl _, .non => true | .non, .str _ => true | .str _, .non => true
 | .int _, .int _ => true | .bl _, .bl _ => true | .str _, .str _ => true | .byt _, .byt _ => true
 | .int _, .str _ => true | .str _, .int _ => true | .bl _, .str _ => true | .str _, .bl _ => true
 | _, _ => false
def rEq : R2 := fun x y H Q => nM x y = true ∧ Q (.bl (decide (x = y))) H
def rNe : R2 := fun x y H Q => nM x y = true ∧ Q (.bl (!decide (x = y))) H
theorem XG {i j : Int} : decide (V.int i = V.int j) = (i == j) := by
 rw [Bool.eq_iff_iff]
 simp
theorem bC {i j : Bool} : decide (V.bl i = V.bl j) = (i == j) := by
 rw [Bool.eq_iff_iff]
 simp
theorem XW {i j : Str} : decide (V.str i = V.str j) = (i == j) := by
 rw [Bool.eq_iff_iff]
 simp
theorem XO {i j : Array UInt8} : decide (V.byt i = V.byt j) = (i.toList == j.toList) := by
 rw [Bool.eq_iff_iff]
 cases i
 cases j
 simp
section
variable {X : Cx} {a b c : Expr} {ta tb tc : TE} {pos : Pos}
theorem BP {pins : List (Addr × Obj)} {σ : St} {H : Hp} {s : Shared} {Q : VK} {k k' : Bool} (I : Inv X pins σ H s) (q : Q (.bl k) H) (e : k = k') : EP X pins σ Q (.bool k') s := by
 subst e
 exact ⟨.bl k, H, I, rfl, q⟩
theorem oS : OpR X (compareOp .Eq) rEq := by
 intro pins s σ H x y v u Q I rx ry h
 obtain ⟨hs, q⟩ := h
 cases x with
 | non =>
  cases rx
  cases y with
  | non => cases ry; exact PySem.EqNone.eq_none_none (BP I q (by simp))
  | bl j => cases ry; exact PySem.EqNone.eq_none_bool (BP I q (by simp))
  | int j => obtain ⟨t', rfl⟩ := ry; exact PySem.EqNone.eq_none_int (BP I q (by simp))
  | str j => obtain ⟨t', rfl⟩ := ry; exact PySem.EqNone.eq_none_str (BP I q (by simp))
  | _ => exact absurd (show false = true from hs) Bool.false_ne_true
 | bl i =>
  cases rx
  cases y with
  | non => cases ry; exact PySem.EqNone.eq_bool_none (BP I q (by simp))
  | bl j => cases ry; exact eq_bool (BP I q bC)
  | str j => obtain ⟨t', rfl⟩ := ry; exact PySem.EqMixed.eq_bool_str (BP I q (by simp))
  | _ => exact absurd (show false = true from hs) Bool.false_ne_true
 | int i =>
  obtain ⟨t, rfl⟩ := rx
  cases y with
  | non => cases ry; exact PySem.EqNone.eq_int_none (BP I q (by simp))
  | int j => obtain ⟨t', rfl⟩ := ry; exact eq_int (BP I q XG)
  | str j => obtain ⟨t', rfl⟩ := ry; exact PySem.EqMixed.eq_int_str (BP I q (by simp))
  | _ => exact absurd (show false = true from hs) Bool.false_ne_true
 | str i =>
  obtain ⟨t, rfl⟩ := rx
  cases y with
  | non => cases ry; exact PySem.EqNone.eq_str_none (BP I q (by simp))
  | bl j => cases ry; exact PySem.EqMixed.eq_str_bool (BP I q (by simp))
  | int j => obtain ⟨t', rfl⟩ := ry; exact PySem.EqMixed.eq_str_int (BP I q (by simp))
  | str j => obtain ⟨t', rfl⟩ := ry; exact eq_str (BP I q XW)
  | _ => exact absurd (show false = true from hs) Bool.false_ne_true
 | byt i =>
  obtain ⟨t, rfl⟩ := rx
  cases y with
  | byt j => obtain ⟨t', rfl⟩ := ry; exact PySem.W.eq_bytes (BP I q XO)
  | _ => exact absurd (show false = true from hs) Bool.false_ne_true
 | _ => cases y <;> exact absurd (show false = true from hs) Bool.false_ne_true
theorem qG : OpR X (compareOp .NotEq) rNe := by
 intro pins s σ H x y v u Q I rx ry h
 obtain ⟨hs, q⟩ := h
 cases x with
 | non =>
  cases rx
  cases y with
  | non => cases ry; exact PySem.EqNone.ne_none_none (BP I q (by simp))
  | bl j => cases ry; exact PySem.EqNone.ne_none_bool (BP I q (by simp))
  | int j => obtain ⟨t', rfl⟩ := ry; exact PySem.EqNone.ne_none_int (BP I q (by simp))
  | str j => obtain ⟨t', rfl⟩ := ry; exact PySem.EqNone.ne_none_str (BP I q (by simp))
  | _ => exact absurd (show false = true from hs) Bool.false_ne_true
 | bl i =>
  cases rx
  cases y with
  | non => cases ry; exact PySem.EqNone.ne_bool_none (BP I q (by simp))
  | bl j => cases ry; exact ne_bool (BP I q (congrArg not bC))
  | str j => obtain ⟨t', rfl⟩ := ry; exact PySem.EqMixed.ne_bool_str (BP I q (by simp))
  | _ => exact absurd (show false = true from hs) Bool.false_ne_true
 | int i =>
  obtain ⟨t, rfl⟩ := rx
  cases y with
  | non => cases ry; exact PySem.EqNone.ne_int_none (BP I q (by simp))
  | int j => obtain ⟨t', rfl⟩ := ry; exact ne_int (BP I q (congrArg not XG))
  | str j => obtain ⟨t', rfl⟩ := ry; exact PySem.EqMixed.ne_int_str (BP I q (by simp))
  | _ => exact absurd (show false = true from hs) Bool.false_ne_true
 | str i =>
  obtain ⟨t, rfl⟩ := rx
  cases y with
  | non => cases ry; exact PySem.EqNone.ne_str_none (BP I q (by simp))
  | bl j => cases ry; exact PySem.EqMixed.ne_str_bool (BP I q (by simp))
  | int j => obtain ⟨t', rfl⟩ := ry; exact PySem.EqMixed.ne_str_int (BP I q (by simp))
  | str j => obtain ⟨t', rfl⟩ := ry; exact ne_str (BP I q (congrArg not XW))
  | _ => exact absurd (show false = true from hs) Bool.false_ne_true
 | byt i =>
  obtain ⟨t, rfl⟩ := rx
  cases y with
  | byt j => obtain ⟨t', rfl⟩ := ry; exact PySem.W.ne_bytes (BP I q (congrArg not XO))
  | _ => exact absurd (show false = true from hs) Bool.false_ne_true
 | _ => cases y <;> exact absurd (show false = true from hs) Bool.false_ne_true
theorem pS : OpR X (compareOp .Lt) (rI0 fun i j => .bl (decide (i < j))) := iO fun _ _ _ _ _ _ _ q => lt_int q
theorem qA : OpR X (compareOp .LtE) (rI0 fun i j => .bl (decide (i ≤ j))) := iO fun _ _ _ _ _ _ _ q => le_int q
theorem pJ : OpR X (compareOp .Gt) (rI0 fun i j => .bl (decide (j < i))) := iO fun _ _ _ _ _ _ _ q => gt_int q
theorem qC : OpR X (compareOp .GtE) (rI0 fun i j => .bl (decide (j ≤ i))) := iO fun _ _ _ _ _ _ _ q => ge_int q
theorem lJ : OpR X (compareOp .Is) (fun x y H Q => y = .non ∧ Q (.bl (decide (x = .non))) H) := by
 intro pins s σ H x y v u Q I rx ry h
 obtain ⟨rfl, q⟩ := h
 cases ry
 refine is_none_gen (BP I q ?_)
 cases x <;> first
  | (cases rx; rfl)
  | (obtain ⟨t, rfl⟩ := rx; rfl)
theorem fY : OpR X (compareOp .IsNot) (fun x y H Q => y = .non ∧ Q (.bl (!decide (x = .non))) H) := by
 intro pins s σ H x y v u Q I rx ry h
 obtain ⟨rfl, q⟩ := h
 cases ry
 refine isnot_none_gen (BP I q ?_)
 cases x <;> first
  | (cases rx; rfl)
  | (obtain ⟨t, rfl⟩ := rx; rfl)
theorem AS (b : Expr) {op : CmpOp} (h : op ≠ .In := by decide) (h2 : op ≠ .NotIn := by decide) : behindInMarks op b = false := by
 have e1 : (op == CmpOp.In) = false := by cases op <;> first | rfl | exact absurd rfl h
 have e2 : (op == CmpOp.NotIn) = false := by cases op <;> first | rfl | exact absurd rfl h2
 cases b <;> simp [behindInMarks, e1, e2]
theorem CQ {op : CmpOp} {r : R2} (ho : OpR X (compareOp op) r) (ha : PE X a ta) (hb : PE X b tb) (hm : behindInMarks op b = false) : PE X (.Compare a [op] [b] pos) (tOp r ta tb) := by
 intro pins s σ H Q I h
 exact wpAny_Compare1 (mI ha hb I h fun v u s2 x y H2 I2 rx ry q => ho pins s2 σ H2 x y v u Q I2 rx ry q) hm
def WL (t : TE) : TT := fun σ H Q => t σ H fun x H' => ∃ k, x = .bl k ∧ Q k H'
theorem gR {op : CmpOp} {r : R2} (ho : OpR X (compareOp op) r) (ha : PE X a ta) (hb : PE X b tb) (hm : behindInMarks op b = false) : PT X (.Compare a [op] [b] pos) (WL (tOp r ta tb)) := by
 intro pins s σ H Q I h
 refine wpAny_isTrue_Compare1 (thn (ha pins s σ H _ I h) fun v s1 ⟨x, H1, I1, r1, q1⟩ => thn (hb pins s1 σ H1 _ I1 q1) fun u s2 ⟨y, H2, I2, r2, q2⟩ =>
  thn (ho pins s2 σ H2 x y v u _ I2 r1 r2 q2) fun c s3 ⟨z, H3, I3, r3, k, e, q3⟩ => ?_) hm
 subst e
 cases r3
 exact wpAny_truthy_bool ⟨H3, I3, q3⟩
def VI (r r' : R2) (ta tb tc : TE) : TE := fun σ H Q => ta σ H fun x H1 => tb σ H1 fun y H2 => r x y H2 fun z H3 => ∃ k, z = .bl k ∧
 (if k = true then tc σ H3 fun w' H4 => r' y w' H4 Q else Q (.bl false) H3)
theorem SG {op op' : CmpOp} {r r' : R2} (ho : OpR X (compareOp op) r) (ho' : OpR X (compareOp op') r') (ha : PE X a ta) (hb : PE X b tb) (hc : PE X c tc)
  (hm : lastMarks [op, op'] [b, c] = false := by with_unfolding_all rfl) : PT X (.Compare a [op, op'] [b, c] pos) (WL (VI r r' ta tb tc)) := by
 intro pins s σ H Q I h
 refine isTrue_chain (thn (ha pins s σ H _ I h) fun v s1 ⟨x, H1, I1, r1, q1⟩ => test_link (thn (hb pins s1 σ H1 _ I1 q1) fun u s2 ⟨y, H2, I2, r2, q2⟩ =>
  thn (ho pins s2 σ H2 x y v u _ I2 r1 r2 q2) fun d s3 ⟨z, H3, I3, r3, k, e, q3⟩ => ?_)) hm
 subst e
 cases r3
 refine wpAny_truthy_bool ?_
 cases k with
 | false =>
  obtain ⟨k', e', q'⟩ := q3
  cases e'
  exact ite_ff ⟨H3, I3, q'⟩
 | true =>
  refine ite_tt (test_last (thn (hc pins s3 σ H3 _ I3 q3) fun w' s4 ⟨z', H4, I4, r4, q4⟩ => thn (ho' pins s4 σ H4 y z' u w' _ I4 r2 r4 q4) fun d' s5 ⟨z2, H5, I5, r5, k2, e2, q5⟩ => ?_))
  subst e2
  cases r5
  exact wpAny_truthy_bool ⟨H5, I5, q5⟩
def pO (K : PySem.W.Frag) (x : V) (H : Hp) (k : Bool) : Prop :=
 match x with
 | .non => k = false
 | .bl b => k = b
 | .int i => k = (i != 0)
 | .str y => y.length ≤ sizeLine ∧ k = ((y.length : Int) != 0)
 | .byt y => y.size ≤ sizeLine ∧ k = ((y.size : Int) != 0)
 | .ref p => (∃ xs, SqL K H p xs ∧ k = !xs.isEmpty) ∨ (∃ xs, SqT K H p xs ∧ k = !xs.isEmpty) ∨ ∃ kvs, H p = some (.dK kvs) ∧ k = !kvs.isEmpty
 | _ => False
theorem UD {κ : Type} {kvs : List (κ × V)} {vs : List (κ × Value)} (r : KV kvs vs) : (!vs.isEmpty) = !kvs.isEmpty := by
 cases r <;> rfl
theorem MX {xs : List V} {its : List Value} (r : BH xs its) : (!its.toArray.isEmpty) = !xs.isEmpty := by
 cases r <;> simp
theorem MR : (sizeLine : Nat) < 2 ^ 63 := by rw [sizeLine_eq]; decide
theorem lY : TruR X (fun x H Q => ∃ k, pO X.K x H k ∧ Q k H) := by
 intro pins s σ H x v Q I rx h
 obtain ⟨k, e, q⟩ := h
 have hl := MR
 have hs : sizeLine = 16777216 := sizeLine_eq
 cases x with
 | non =>
  cases rx
  have e' : k = false := e
  subst e'
  exact truthy_none ⟨H, I, q⟩
 | bl b =>
  cases rx
  have e' : k = b := e
  subst e'
  exact wpAny_truthy_bool ⟨H, I, q⟩
 | int i =>
  obtain ⟨t, rfl⟩ := rx
  have e' : k = (i != 0) := e
  subst e'
  exact PySem.P.truthy_int ⟨H, I, q⟩
 | str y =>
  obtain ⟨t, rfl⟩ := rx
  obtain ⟨hy, e'⟩ : y.length ≤ sizeLine ∧ k = ((y.length : Int) != 0) := e
  subst e'
  exact PySem.P.truthy_str (by omega) ⟨H, I.tok _, q⟩
 | byt y =>
  obtain ⟨t, rfl⟩ := rx
  obtain ⟨hy, e'⟩ : y.size ≤ sizeLine ∧ k = ((y.size : Int) != 0) := e
  subst e'
  exact PySem.W.truthy_bytes (by omega) ⟨H, I.tok _, q⟩
 | ref p =>
  cases rx
  have e' : (∃ xs, SqL X.K H p xs ∧ k = !xs.isEmpty) ∨ (∃ xs, SqT X.K H p xs ∧ k = !xs.isEmpty) ∨ ∃ kvs, H p = some (.dK kvs) ∧ k = !kvs.isEmpty := e
  rcases e' with ⟨xs, hx, e'⟩ | ⟨xs, hx, e'⟩ | ⟨kvs, hx, e'⟩
  ·subst e'
   obtain ⟨its, r, pl, hz⟩ := I.list hx
   have hlen := r.length
   exact wpAny_truthy_list pl.isList (by simp only [List.size_toArray]; omega) ⟨H, I.tok _, by rw [MX r]; exact q⟩
  ·subst e'
   obtain ⟨its, r, pl, hz⟩ := I.tuple hx
   have hlen := r.length
   exact truthy_tuple pl (by simp only [List.size_toArray]; omega) ⟨H, I.tok _, by rw [MX r]; exact q⟩
  ·subst e'
   obtain ⟨hz, hS, vs, r, m⟩ : kvs.length ≤ sizeLine ∧ (p == sysModules) = false ∧ ∃ vs, KV kvs vs ∧ s.heap.DictOf (QD X.prog X.w) p vs := I.hok p _ hx
   have hlen : kvs.length = vs.length := Paired.length r
   exact wpAny_truthy_dict hS m (by omega) ⟨H, I.tok _, by rw [UD r]; exact q⟩
 | _ => exact (show False from e).elim
theorem SQ (ha : PE X a ta) (he : ∀ whole, isTrue a X.env whole = (do let v ← whole; standAt a.pos; holding [v] (truthy v))) :
  PT X a (fun σ H Q => ta σ H fun x H' => ∃ k, pO X.K x H' k ∧ Q k H') := by
 intro pins s σ H Q I h
 exact isTrue_plain (thn (ha pins s σ H _ I h) fun v s1 ⟨x, H1, I1, r1, q1⟩ => lY pins s1 σ H1 x v Q I1 r1 q1) (he _)
theorem JV {x : V} {us : List Value} (r : BH [x] us) : ∃ u, us = [u] ∧ BF x u := by
 cases r with
 | cons r1 r2 => cases r2; exact ⟨_, rfl, r1⟩
theorem HV {x y : V} {us : List Value} (r : BH [x, y] us) : ∃ u w', us = [u, w'] ∧ BF x u ∧ BF y w' := by
 cases r with
 | cons r1 r2 =>
  cases r2 with
  | cons r3 r4 => cases r4; exact ⟨_, _, rfl, r1, r3⟩
theorem ZL (hc : X.calm = true) : DE X (.builtin "max") (fun xs H Q => ∃ i j, xs = [.int i, .int j] ∧ Q (.int (if j > i then j else i)) H) := by
 intro pins s σ H xs us Q I r h
 obtain ⟨i, j, rfl, q⟩ := h
 obtain ⟨u, w', rfl, ⟨t, rfl⟩, ⟨t', rfl⟩⟩ := HV r
 refine max_two_ints (I.ok.hd hc) fun h' tk k => ⟨_, H, I.kept k, ?_, q⟩
 by_cases hj : j > i
 ·rw [if_pos hj, if_pos hj]; exact ⟨_, rfl⟩
 ·rw [if_neg hj, if_neg hj]; exact ⟨_, rfl⟩
theorem ZE (hc : X.calm = true) : DE X (.builtin "min") (fun xs H Q => ∃ i j, xs = [.int i, .int j] ∧ Q (.int (if j < i then j else i)) H) := by
 intro pins s σ H xs us Q I r h
 obtain ⟨i, j, rfl, q⟩ := h
 obtain ⟨u, w', rfl, ⟨t, rfl⟩, ⟨t', rfl⟩⟩ := HV r
 refine min_two_ints (I.ok.hd hc) fun h' tk k => ⟨_, H, I.kept k, ?_, q⟩
 by_cases hj : j < i
 ·rw [if_pos hj, if_pos hj]; exact ⟨_, rfl⟩
 ·rw [if_neg hj, if_neg hj]; exact ⟨_, rfl⟩
theorem EL : DE X (.type "int") (fun xs H Q => (∃ i, xs = [.int i] ∧ Q (.int i) H) ∨ ∃ k, xs = [.bl k] ∧ Q (.int (if k then 1 else 0)) H) := by
 intro pins s σ H xs us Q I r h
 rcases h with ⟨i, rfl, q⟩ | ⟨k, rfl, q⟩
 ·obtain ⟨u, rfl, t, rfl⟩ := JV r
  exact call_int_int ⟨.int i, H, I, ⟨_, rfl⟩, q⟩
 ·obtain ⟨u, rfl, r1⟩ := JV r
  cases r1
  exact call_int_bool ⟨.int (if k then 1 else 0), H, I.tok _, ⟨_, rfl⟩, q⟩
end
structure mC (h : Heap) (x dx C : Addr) (mA : Str → Option Value) : Prop where
 obj : h.get? x = some (PySem.W.instObj C dx)
 ns : h.Ns1 dx mA
 ne : dx ≠ x
theorem ZX {h : Heap} {dx : Addr} {mA : Str → Option Value} (n : h.Ns1 dx mA) : ∃ od, h.get? dx = some od ∧ ∀ name, PySem.W.lookIn name od = some (mA name) := by
 obtain ⟨o, es, ep, ho, hd, hk, _, hm⟩ := n
 refine ⟨o, ho, fun name => ?_⟩
 have e := hm name
 unfold nsFind findBy at e
 rw [← Array.find?_toList] at e
 unfold PySem.W.lookIn
 rw [hd]
 dsimp only
 split
 ·rename_i y q
  rw [q] at e
  exact congrArg some e
 ·rename_i q
  rw [q] at e
  have a : es.toList.any (·.refKey) = false := by
   rw [List.any_eq_false]
   intro y hy
   obtain ⟨z, t, hkey⟩ := hk y (Array.mem_toList_iff.mp hy)
   simp [DictEntry.refKey, hkey]
  have a' : ¬ es.toList.any (·.refKey) = true := by rw [a]; exact Bool.false_ne_true
  rw [if_neg a']
  exact congrArg some e
theorem mC.look {h : Heap} {x dx C : Addr} {mA : Str → Option Value} (I : mC h x dx C mA) : ∃ od, PySem.W.InstAt h x (PySem.W.instObj C dx) C (some od) ∧ ∀ name, PySem.W.lookIn name od = some (mA name) :=
 let ⟨od, ho, hl⟩ := ZX I.ns
 ⟨od, ⟨I.obj, rfl, rfl, ho⟩, hl⟩
section
variable {prog : Program} {w : World} {A : Around} {E : Value → Shared → Prop} {s : Shared} {K : PySem.W.Frag} {x dx C f : Addr} {mA : Str → Option Value} {name : Str} {v : Value}
end
theorem eT.none_of {o : Option Value} (r : eT none o) : o = none := by
 cases o with
 | none => rfl
 | some u => exact (show False from r).elim
section
variable {P : Program} {w : World} {H H' : Hp} {h h' : Heap} {a C dx : Addr} {fs fs' : List (Str × V)}
theorem fL (hok : HOk P w H h) (e : H a = some (.ins C dx fs)) : ∃ mA, mC h a dx C mA ∧ (∀ f, eT (fs.lookup f) (mA f)) ∧ PySem.Within mA (fs.map (·.1)) ∧ fs.length ≤ 1000 ∧ H dx = some (.own a) := by
 obtain ⟨d, z, ne, ob, mA, n, r, q⟩ := (show DF P w H h a (.ins C dx fs) from hok a _ e)
 exact ⟨mA, ⟨ob, n, ne⟩, r, q, z, d⟩
end
structure Cls (K : PySem.W.Frag) (C : Addr) : Prop where
 pg : PySem.W.plainGet K C Str.empty = true
 hd : PySem.W.hasDictIn K C = true
 po : PySem.W.plainOver K C = true
 sa : PySem.W.findIn K (.ref C) "__setattr__" = some (some (.builtin "object.__setattr__"))
theorem Cls.get {K : PySem.W.Frag} {C : Addr} (c : Cls K C) (f : Str) : PySem.W.plainGet K C f = true := c.pg
structure Con (K : PySem.W.Frag) (C : Addr) (f : Str) (v : V) (u : Value) : Prop where
 at_ : PySem.W.findIn K (.ref C) f = some (some u)
 rel : BF v u
 get : PySem.W.specialIn K u "__get__" = some none
 cp : PySem.W.copiedNames.contains f = false
structure Meth (K : PySem.W.Frag) (C : Addr) (m : Str) (f : Addr) : Prop where
 at_ : PySem.W.findIn K (.ref C) m = some (some (.ref f))
 fn : PySem.W.isFn K (.ref f) = true
 kp : PySem.W.keepIn K (.ref f) = true
section
variable {X : Cx} {pins : List (Addr × Obj)} {σ : St} {H : Hp} {s : Shared} {a C dx : Addr} {fs : List (Str × V)} {f : Str} {v : V} {A : Around} {E : Value → Shared → Prop}
end
section
variable {X : Cx} {o e value : Expr} {f : Str} {pos pos' tpos : Pos} {ta tv : TE}
end
section
variable {X : Cx} {pins : List (Addr × Obj)} {σ : St} {H : Hp} {s : Shared} {A : Around} {E : Value → Shared → Prop} {Q : Value → Shared → Prop} {c : Value} {b : Bool}
inductive JK (K : PySem.W.Frag) (H : Hp) : V → Value → Prop where
 | non : JK K H .non (.type "NoneType")
 | bl (x : Bool) : JK K H (.bl x) (.type "bool")
 | int (i : Int) : JK K H (.int i) (.type "int")
 | str (x : Str) : JK K H (.str x) (.type "str")
 | flt (x : UInt64) : JK K H (.flt x) (.type "float")
 | lst {a : Addr} {xs : List V} (e : H a = some (.lst xs)) : JK K H (.ref a) (.type "list")
 | frz {a : Addr} {o : Obj} {xs : List V} (e : H a = some (.frz o (.lst xs))) : JK K H (.ref a) (.type "list")
 | tup {a : Addr} {xs : List V} (e : H a = some (.tup xs)) : JK K H (.ref a) (.type "tuple")
 | dK {a : Addr} {kvs : List (Key × V)} (e : H a = some (.dK kvs)) : JK K H (.ref a) (.type "dict")
 | dT {a : Addr} {kvs : List (List Key × V)} (e : H a = some (.dT kvs)) : JK K H (.ref a) (.type "dict")
 | ins {a C dx : Addr} {fs : List (Str × V)} (e : H a = some (.ins C dx fs)) (cl : Cls K C) (ha : PySem.W.findIn K (.ref C) "__class__" = some (some (.builtin "object.__class__")))
   (hn : PySem.W.specialIn K (.builtin "object.__class__") "__get__" = some (some (.builtin "getset_descriptor.__get__"))) (htk : PySem.W.takesIn K (.builtin "object.__class__") = some true)
   (hm : PySem.W.mroIn K C (.type "object") = some true) : JK K H (.ref a) (.ref C)
theorem ZV {x : V} {u t : Value} (I : Inv X pins σ H s) (rx : BF x u) (ty : JK X.K H x t) (e : PySem.W.kitOne X.K t c = some b) (h : ∀ tk, Q (.bool b) { s with toks := tk }) :
  wpAny (model X.prog X.w) A (call (.builtin "isinstance") [u, c]) Q E s := by
 cases ty with
 | non => cases (show u = Value.none from rx); exact PySem.W.kia_one PySem.W.kitx_none I.kIn True.intro e (fun z => nomatch z) h
 | bl y => cases (show u = Value.bool y from rx); exact PySem.W.kia_one PySem.W.kitx_bool I.kIn True.intro e (fun z => nomatch z) h
 | int i => obtain ⟨t, q⟩ := (show ∃ t, u = Value.int i t from rx); cases q; exact PySem.W.kia_one PySem.W.kitx_int I.kIn True.intro e (fun z => nomatch z) h
 | str y => obtain ⟨t, q⟩ := (show ∃ t, u = Value.str y t from rx); cases q; exact PySem.W.kia_one PySem.W.kitx_str I.kIn True.intro e (fun z => nomatch z) h
 | flt y => obtain ⟨t, q⟩ := (show ∃ t, u = Value.float y t from rx); cases q; exact PySem.W.kia_one PySem.W.kitx_float I.kIn True.intro e (fun z => nomatch z) h
 | @lst a xs ea =>
  cases (show u = Value.ref a from rx)
  obtain ⟨_, _, n, _, h1⟩ := (show DF X.prog X.w H s.heap a (.lst xs) from I.hok a _ ea)
  exact PySem.W.kia_one PySem.W.kitx_list I.kIn ⟨_, h1, rfl⟩ e (fun z => nomatch z) h
 | @frz a ob xs ea =>
  cases (show u = Value.ref a from rx)
  obtain ⟨_, _, _, n, _, h1⟩ := (show DF X.prog X.w H s.heap a (.frz ob (.lst xs)) from I.hok a _ ea)
  exact PySem.W.kia_one PySem.W.kitx_list I.kIn ⟨_, h1, rfl⟩ e (fun z => nomatch z) h
 | @tup a xs ea =>
  cases (show u = Value.ref a from rx)
  obtain ⟨_, _, _, p⟩ := (show DF X.prog X.w H s.heap a (.tup xs) from I.hok a _ ea)
  obtain ⟨o, h1, h2, _⟩ := p
  exact PySem.W.kia_one PySem.W.kitx_tuple I.kIn ⟨o, h1, h2⟩ e (fun z => nomatch z) h
 | @dK a kvs ea =>
  cases (show u = Value.ref a from rx)
  obtain ⟨_, _, vs, _, p⟩ := (show DF X.prog X.w H s.heap a (.dK kvs) from I.hok a _ ea)
  obtain ⟨o, es, ep, h1, h2, _⟩ := p
  exact PySem.W.kia_one PySem.W.kitx_dict I.kIn ⟨o, h1, h2.1⟩ e (fun z => nomatch z) h
 | @dT a kvs ea =>
  cases (show u = Value.ref a from rx)
  obtain ⟨_, _, xs, _, o, es, ep, h1, h2, _⟩ := (show DF X.prog X.w H s.heap a (.dT kvs) from I.hok a _ ea)
  exact PySem.W.kia_one PySem.W.kitx_dict I.kIn ⟨o, h1, h2.1⟩ e (fun z => nomatch z) h
 | @ins a C dx fs ea cl ha hn htk hm =>
  cases (show u = Value.ref a from rx)
  obtain ⟨mA, O, _⟩ := fL I.hok ea
  obtain ⟨od, J, _⟩ := O.look
  exact PySem.W.kia_one (PySem.W.kitx_own (cl.get _) cl.hd ha hn htk hm) I.kIn J e (fun z => nomatch z) h
end
structure IC (k : Nat) (A : Around) : Prop where
 hd : A.handled = none
 dp : A.depth + 3 * k + 5 < recursionLimit
 un : A.units + 16 * k + 200 < cLine
theorem IC.mono {j k : Nat} {A : Around} (r : IC k A) (h : j ≤ k) : IC j A := ⟨r.hd, by have := r.dp; omega, by have := r.un; omega⟩
theorem IC.deeper {k : Nat} {A : Around} (r : IC (k + 1) A) (env : Env) : IC k (A.deeper env) :=
 ⟨r.hd, by have := r.dp; show A.depth + 1 + 3 * k + 5 < _; omega, by have := r.un; show A.units + 3 + 16 * k + 200 < _; omega⟩
theorem IC.depth {k : Nat} {A : Around} (r : IC k A) : A.depth < recursionLimit := by have := r.dp; omega
theorem IC.units {k : Nat} {A : Around} (r : IC k A) : A.units + 64 < cLine := by have := r.un; omega
def fP : TA := fun _ H Q => Q [] H
def PH (ta : TE) (tr : TA) : TA := fun σ H Q => ta σ H fun x H1 => tr σ H1 fun xs H2 => Q (x :: xs) H2
section
variable {X : Cx} {e : Expr} {es : List Expr} {te : TE} {t : TA} {pos : Pos}
theorem AC : PA X [] fP := fun _ _ _ _ H Q I h => Calls.spliced_nil ⟨[], H, I, .nil, h⟩
theorem AA (ha : PE X e te) (hr : PA X es t) (hs : starEach (e :: es) X.env = (false, eval e X.env) :: starEach es X.env := by rfl) : PA X (e :: es) (PH te t) := by
 intro pos pins s σ H Q I h
 rw [hs]
 show wpAny _ _ (spliced ((false, eval e X.env) :: backTo pos (starEach es X.env))) _ _ s
 refine Calls.spliced_cons (thn (ha pins s σ H _ I h) fun u s1 ⟨x, H1, I1, r1, q1⟩ => ?_)
 exact thn (hr pos pins s1 σ H1 _ I1 q1) fun us s2 ⟨xs, H2, I2, r2, q2⟩ => ⟨x :: xs, H2, I2, .cons r1 r2, q2⟩
def kC (t : TA) : TE := fun σ H Q => t σ H fun xs H1 => xs.length ≤ sizeLine ∧ ∀ p, H1 p = none → Q (.ref p) (upd H1 p (.tup xs))
def mX (t : TA) : TE := fun σ H Q => t σ H fun xs H1 => xs.length ≤ sizeLine ∧ ∀ p, H1 p = none → Q (.ref p) (upd H1 p (.lst xs))
theorem BR {x1} (h : PA X es t) : PE X (.Tuple es x1 pos) (kC t) := by
 intro pins s σ H Q I hq
 refine wpAny_Tuple_spliced (thn (h pos pins s σ H _ I hq) fun us s1 ⟨xs, H1, I1, r, z, q⟩ => ⟨by rw [← r.length]; exact z, ?_⟩)
 have hf : H1 s1.heap.objs.size = none := I1.hok.fresh (Nat.le_refl _)
 refine ⟨.ref s1.heap.objs.size, upd H1 s1.heap.objs.size (.tup xs), I1.laid (t' := s1.toks) (fun b u e => Heap.get?_push_of_some _ e) (Nat.le_refl _) ?_, rfl, q _ hf⟩
 exact ⟨z, us, r, ⟨_, Heap.get?_push_size _ rfl, rfl, _, rfl⟩⟩
theorem BV (h : PA X es t) : PE X (.List es pos) (mX t) := by
 intro pins s σ H Q I hq
 refine wpAny_List_spliced (thn (h pos pins s σ H _ I hq) fun us s1 ⟨xs, H1, I1, r, z, q⟩ => ⟨by rw [← r.length]; exact z, ?_⟩)
 have hf : H1 s1.heap.objs.size = none := I1.hok.fresh (Nat.le_refl _)
 refine ⟨.ref s1.heap.objs.size, upd H1 s1.heap.objs.size (.lst xs), I1.laid (t' := s1.toks) (fun b u e => Heap.get?_push_of_some _ e) (Nat.le_refl _) ?_, rfl, q _ hf⟩
 exact ⟨z, us, 0, r, Heap.get?_push_size _ rfl⟩
end
abbrev Sp := List V → Hp → VK → XK → Prop
abbrev CXT := List Env → Hp → Shared → XK → Value → Shared → Prop
structure iE (P : Program) (w : World) (K : PySem.W.Frag) (mg : Str → Option Value) (base : Heap) (A : Around) (outer : List Env) (s : Shared) (H : Hp) : Prop where
 frames : A.frames = some outer
 mod : Mod K mg base
 bs : ∀ b o, base.get? b = some o → s.heap.get? b = some o ∧ H b = none
 bsz : base.objs.size ≤ s.heap.objs.size
 funs : s.heap.FunFrames base outer
 frf : ∀ b ∈ frs outer, H b = none
 hok : HOk P w H s.heap
 bare : AllBare s.gens
def CE (outer : List Env) (P : Program) (w : World) (H : Hp) (s : Shared) (Q : VK) (u : Value) (s' : Shared) : Prop :=
 ∃ v H', s'.os = s.os ∧ AllBare s'.gens ∧ Un (frs outer) [] H H' s.heap s'.heap ∧ HOk P w H' s'.heap ∧ BF v u ∧ Q v H'
def CR (CX : CXT) (outer : List Env) (P : Program) (w : World) (H : Hp) (s : Shared) (Q : VK) (E : XK) (r : Result) (s' : Shared) : Prop :=
 match r with
 | .ok (.ret u) => CE outer P w H s Q u s'
 | .ok _ => False
 | .error e => CX outer H s E e s'
structure CL (P : Program) (w : World) (K : PySem.W.Frag) (mg : Str → Option Value) (base : Heap) (CX : CXT) (k : Nat) (f : Addr) (fd : FuncData) (ps : List Str) (sp : Sp) : Prop where
 len : ∀ vs H Q E, sp vs H Q E → vs.length = ps.length
 run : ∀ (A : Around) (outer : List Env) (s : Shared) (H : Hp) (args : Args) (us : List Value) (vs : List V) (Q : VK) (E : XK), IC k A → iE P w K mg base A outer s H → BindsTo s fd args (ps.zip us) → BH vs us → sp vs H Q E →
  codeAny (model P w) A (.call (.ref f) args) (CR CX outer P w H s Q E) s
section
variable {X : Cx} {pins : List (Addr × Obj)} {σ : St} {H : Hp} {s s' : Shared}
theorem Inv.env0 (I : Inv X pins σ H s) : iE X.prog X.w X.K X.mg X.base X.A X.stack s H :=
 ⟨I.ok.frames, I.ok.mod, I.bs, Nat.le_trans I.ok.bsz I.sz, I.stack, I.stkFree, I.hok, I.bare⟩
theorem Inv.after {Q : VK} {u : Value} (I : Inv X pins σ H s) (h : CE X.stack X.prog X.w H s Q u s') : EP X pins σ Q u s' := by
 obtain ⟨v, H', os, bare, un, hok, r, q⟩ := h
 obtain ⟨hh, g, d, t, os'⟩ := s'
 obtain rfl : os' = s.os := os
 exact ⟨v, H', I.call (h' := hh) (g' := g) (d' := d) (t' := t) (ch := []) un hok bare (fun b z => absurd z (by simp)), r, q⟩
end
def XM (sp : Sp) (dvs : List V) (E : XK) (t : TA) : TE := fun σ H Q => t σ H fun vs H1 => sp (vs ++ dvs) H1 Q E
def ME (K : PySem.W.Frag) (fd : FuncData) (ps : List Str) (ds : List Value) : Prop :=
 ∀ (s : Shared) (us : List Value), K.In s.heap → (us ++ ds).length = ps.length → BindsTo s fd ⟨us, []⟩ (ps.zip (us ++ ds))
theorem ME.all {K : PySem.W.Frag} {fd : FuncData} {ps : List Str} (h : ∀ us : List Value, us.length = ps.length → bindArgs fd ⟨us, []⟩ = pure (ps.zip us)) : ME K fd ps [] := fun s us _ hl => by
 rw [List.append_nil] at hl ⊢
 exact .of_eq (h us hl)
def UM (CX : CXT) (X : Cx) (E : XK) : Prop := ∀ (pins : List (Addr × Obj)) (σ : St) (H : Hp) (s : Shared) (e : Value) (s' : Shared), Inv X pins σ H s → CX X.stack H s E e s' → X.xe e s'
section
variable {X : Cx} {CX : CXT} {k : Nat} {f C : Addr} {fd : FuncData} {ps : List Str} {sp : Sp} {dvs : List V} {ds : List Value} {E : XK} {x m : Str} {p pos apos : Pos} {e o : Expr} {es : List Expr} {ta : TE} {t : TA}
theorem kG {pins : List (Addr × Obj)} {σ : St} {H : Hp} {s : Shared} {Q : VK} {us : List Value} {vs : List V} (F : CL X.prog X.w X.K X.mg X.base CX k f fd ps sp) (hr : IC k X.A) (hb : ME X.K fd ps ds) (hd : BH dvs ds) (hx : UM CX X E)
  (I : Inv X pins σ H s) (r : BH vs us) (h : sp (vs ++ dvs) H Q E) : wpAny (model X.prog X.w) X.A (call (.ref f) us) (EP X pins σ Q) X.xe s := by
 have r2 : BH (vs ++ dvs) (us ++ ds) := r.append hd
 have hl : (us ++ ds).length = ps.length := by rw [← r2.length]; exact F.len _ _ _ _ h
 refine wpAny_call (codeAny_mono (F.run X.A X.stack s H ⟨us, []⟩ (us ++ ds) (vs ++ dvs) Q E hr I.env0 (hb s us I.kIn hl) r2 h) fun r s' hq => ?_)
 cases r with
 | error e => exact hx pins σ H s e s' I hq
 | ok fl =>
  cases fl with
  | ret u => exact I.after hq
  | next => exact False.elim hq
  | brk => exact False.elim hq
  | cont => exact False.elim hq
theorem AK (F : CL X.prog X.w X.K X.mg X.base CX k f fd ps sp) (hr : IC k X.A) (hg : Gl X x) (hm : X.mg x = some (.ref f)) (hk : PySem.W.keepIn X.K (.ref f) = true) (hb : ME X.K fd ps ds) (hd : BH dvs ds) (hx : UM CX X E)
  (ha : PA X (e :: es) t) (hdb : (x == ("__debug__" : Str)) = false := by decide) (he : starEach (e :: es) X.env = (false, eval e X.env) :: starEach es X.env := by rfl) (hpl : (backTo pos (starEach es X.env)).any (·.1) = false := by rfl) :
  PE X (.Call (.Name x p) (e :: es) [] pos) (XM sp dvs E t) := by
 intro pins s σ H Q I h
 refine wpAny_Call_Name_kw (WE I hg hm ?_ hdb)
 refine PySem.W.callWith_K (h₀ := X.base) I.ok.mod.kin hk (thn (ha pos pins s σ H _ I h) fun us s1 ⟨vs, H1, I1, r, q⟩ => ⟨I1.kIn, ?_⟩) he hpl
 exact kG F hr hb hd hx I1 r q
structure Mk (K : PySem.W.Frag) (C f : Addr) : Prop where
 makes : PySem.W.makesIn K C = true
 init : PySem.W.findIn K (.ref C) "__init__" = some (some (.ref f))
 fn : PySem.W.isFn K (.ref f) = true
 kp : PySem.W.keepIn K (.ref C) = true
end
section
variable {X : Cx} {CX : CXT} {k : Nat} {f C : Addr} {fd : FuncData} {ps ks : List Str} {sp : Sp} {E : XK} {x m : Str} {p pos apos kpos : Pos} {e o : Expr} {es : List Expr} {kws : List Keyword} {te ta : TE} {t tk : TA} {nm : Option Str}
structure KBinds (K : PySem.W.Frag) (fd : FuncData) (ps ks : List Str) (g : List Value → List Value → List Value) (gV : List V → List V → List V) : Prop where
 to : ∀ (s : Shared) (us ws : List Value), K.In s.heap → (g us ws).length = ps.length → BindsTo s fd ⟨us, ks.zip ws⟩ (ps.zip (g us ws))
 rel : ∀ {vs : List V} {us : List Value} {zs : List V} {ws : List Value}, BH vs us → BH zs ws → BH (gV vs zs) (g us ws)
variable {g : List Value → List Value → List Value} {gV : List V → List V → List V}
end
structure BA (N P : List Str) (sc : Scope) : Prop where
 kind : sc.kind = .function
 co : sc.isCoroutine = false
 gen : sc.isGenerator = false
 nd : N.Nodup
 pre : N.take P.length = P
 par : ∀ x ∈ P, sc.names.lookup x = some .local ∨ sc.names.lookup x = some .cell
 nofree : ∀ y ∈ sc.names, y.2 ≠ .free
theorem PX {kindOf : Str → Option NameKind} {x : Str} : ∀ {binds : List (Str × Value)} {m : Str → Option Value}, (∀ v, (x, v) ∉ binds) → bindL kindOf binds m x = m x
 | [], _, _ => rfl
 | (n, v) :: r, m, h => by
  unfold bindL
  rw [PX fun w hw => h w (List.mem_cons_of_mem _ hw)]
  split
  ·have : x ≠ n := by rintro rfl; exact h v List.mem_cons_self
   simp [this]
  ·rfl
theorem PL {kindOf : Str → Option NameKind} {x : Str} : ∀ {binds : List (Str × Value)} {m : Str → Option Value}, (∀ v, (x, v) ∉ binds) → bindC kindOf binds m x = m x
 | [], _, _ => rfl
 | (n, v) :: r, m, h => by
  unfold bindC
  rw [PL fun w hw => h w (List.mem_cons_of_mem _ hw)]
  split
  ·rfl
  ·have : x ≠ n := by rintro rfl; exact h v List.mem_cons_self
   simp [this]
theorem PZ {kindOf : Str → Option NameKind} {x : Str} {v : Value} : ∀ {P : List Str} {vs : List Value} {i : Nat} {m : Str → Option Value}, P.Nodup → P[i]? = some x → vs[i]? = some v → kindOf x = some .local →
  bindL kindOf (P.zip vs) m x = some v
 | [], _, _, _, _, h, _, _ => by simp at h
 | _ :: _, [], _, _, _, _, h, _ => by simp at h
 | p :: P, w :: vs, 0, m, nd, h1, h2, hk => by
  simp at h1 h2; subst h1; subst h2
  show bindL kindOf ((p, w) :: P.zip vs) m p = _
  unfold bindL
  rw [PX fun v hv => (List.nodup_cons.mp nd).1 (List.of_mem_zip hv).1, if_pos hk]
  simp
 | p :: P, w :: vs, i + 1, m, nd, h1, h2, hk => by
  show bindL kindOf ((p, w) :: P.zip vs) m x = _
  unfold bindL
  exact PZ (i := i) (List.nodup_cons.mp nd).2 (by simpa using h1) (by simpa using h2) hk
theorem PD {kindOf : Str → Option NameKind} {x : Str} {v : Value} : ∀ {P : List Str} {vs : List Value} {i : Nat} {m : Str → Option Value}, P.Nodup → P[i]? = some x → vs[i]? = some v → kindOf x ≠ some .local →
  bindC kindOf (P.zip vs) m x = some v
 | [], _, _, _, _, h, _, _ => by simp at h
 | _ :: _, [], _, _, _, _, h, _ => by simp at h
 | p :: P, w :: vs, 0, m, nd, h1, h2, hk => by
  simp at h1 h2; subst h1; subst h2
  show bindC kindOf ((p, w) :: P.zip vs) m p = _
  unfold bindC
  rw [PL fun v hv => (List.nodup_cons.mp nd).1 (List.of_mem_zip hv).1, if_neg hk]
  simp
 | p :: P, w :: vs, i + 1, m, nd, h1, h2, hk => by
  show bindC kindOf ((p, w) :: P.zip vs) m x = _
  unfold bindC
  exact PD (i := i) (List.nodup_cons.mp nd).2 (by simpa using h1) (by simpa using h2) hk
def start (N : List Str) (vs : List V) : St := vs.map some ++ List.replicate (N.length - vs.length) none
def UZ (CX : CXT) (P : Program) (w : World) (K : PySem.W.Frag) (mg : Str → Option Value) (base : Heap) (N : List Str) (qual : Str) (scope : Scope) (f : Addr) (cd : Value) (A : Around) (outer : List Env) (s : Shared) (H : Hp) (E : XK) : Cx where
 prog := P
 w := w
 K := K
 mg := mg
 base := base
 A := A.deeper (envOfC qual scope s.heap.objs.size f cd)
 N := N
 s₀ := s
 H₀ := H
 env := envOfC qual scope s.heap.objs.size f cd
 outer := outer
 stack := envOfC qual scope s.heap.objs.size f cd :: outer
 ex := []
 calm := true
 fn := fun _ => true
 pn := []
 xe := fun e s' => wpAny (model P w) (A.deeper (envOfC qual scope s.heap.objs.size f cd)) (leaving (envOfC qual scope s.heap.objs.size f cd) e) (fun _ s'' => CX outer H s E e s'') (fun e' s'' => CX outer H s E e' s'') s'
theorem SY {sc : Scope} {n : Nat} {x : Str} (h : sc.names.lookup x = some .cell) : ∃ c, (cellsFrom n sc.names []).lookup x = some c := by
 have q := PySem.W.cellsFrom_some sc.names n [] (.inl h)
 exact Option.isSome_iff_exists.mp q
theorem ZH {CX : CXT} {P : Program} {w : World} {K : PySem.W.Frag} {mg : Str → Option Value} {base : Heap} {N ps : List Str} {qual : Str} {scope : Scope} {f : Addr} {cd : Value} {A : Around} {outer : List Env} {s s1 : Shared} {H : Hp} {E : XK} {us : List Value} {vs : List V}
  (S : BA N ps scope) (hd : A.handled = none) (e0 : iE P w K mg base A outer s H) (hl : vs.length = ps.length) (r : BH vs us)
  (x : InCallC s s.heap.objs.size (bindL (envOfC qual scope s.heap.objs.size f cd).kindOf (ps.zip us) fun _ => none) (cellsFrom (s.heap.objs.size + 1) scope.names []) (bindC (envOfC qual scope s.heap.objs.size f cd).kindOf (ps.zip us) fun _ => none) s1) :
  Inv (UZ CX P w K mg base N qual scope f cd A outer s H E) [] (start N vs) H s1 := by
 have hpl : ps.length ≤ N.length := by have := congrArg List.length S.pre; rw [List.length_take] at this; omega
 obtain ⟨h1, tk, rfl, hk⟩ := x.done
 have noA : ∀ b : Addr, b ∉ (UZ CX P w K mg base N qual scope f cd A outer s H E).ex := fun b z => absurd (show b ∈ ([] : List Addr) from z) (by simp)
 refine ⟨⟨e0.mod, S.kind, rfl, rfl, Nat.le_refl _, fun y z c h1 h2 => ?_, fun y hy => ?_, fun y c _ h => ?_, fun _ => hd, Around.frames_deeper e0.frames, .inr ⟨rfl, rfl⟩, fun b z => absurd z (noA b), e0.bs, e0.bsz, fun b _ _ => noA b, fun b z => absurd z (noA b), e0.funs, e0.frf⟩,
  rfl, e0.bare, Un.kept hk, ⟨_, x.toInCall.ns, fun i y v h1 h2 h3 => ?_⟩, fun y c h => ⟨_, x.cell y c h⟩, e0.hok.fresh (Nat.le_refl _), fun y c h => ?_, fun p hp => absurd (show p ∈ ([] : List (Addr × Obj)) from hp) (by simp), e0.hok.kept hk, ?_⟩
 ·exact name_of_addr x.apart (PySem.mem_of_lookup h1) (PySem.mem_of_lookup h2)
 ·have hy : scope.names.lookup y = some .cell ∨ scope.names.lookup y = some .free := hy
  rcases hy with hy | hy
  ·exact SY hy
  ·exact absurd rfl (S.nofree _ (PySem.mem_of_lookup hy))
 ·exact Nat.le_of_lt (x.above y c (PySem.mem_of_lookup h))
 ·have hi : i < vs.length := by
   unfold start at h2
   by_cases hi : i < vs.length
   ·exact hi
   ·rw [List.getElem?_append_right (by simpa using hi)] at h2
    rw [List.getElem?_replicate] at h2
    split at h2 <;> cases h2
  have ha : vs[i]? = some v := by
   unfold start at h2
   rw [List.getElem?_append_left (by simpa using hi), List.getElem?_map] at h2
   cases e : vs[i]? with
   | none => rw [e] at h2; cases h2
   | some a => rw [e] at h2; cases h2; rfl
  obtain ⟨u, hu, rv⟩ := r.get ha
  have hp : ps[i]? = some y := by
   rw [← S.pre, List.getElem?_take_of_lt (by omega)]; exact h1
  have ndP : ps.Nodup := by rw [← S.pre]; exact S.nd.sublist (List.take_sublist _ _)
  refine ⟨u, rv, ?_⟩
  rcases S.par y (List.mem_of_getElem? hp) with k | k
  ·exact .inl ⟨k, PZ ndP hp hu k⟩
  ·obtain ⟨c, e⟩ := SY (n := s.heap.objs.size + 1) k
   refine .inr ⟨.inl k, c, e, ?_⟩
   have q := x.cell y c e
   rw [PD ndP hp hu (by show scope.names.lookup y ≠ _; rw [k]; decide)] at q
   exact q
 ·exact e0.hok.fresh (Nat.le_of_lt (x.above y c (PySem.mem_of_lookup h)))
 ·unfold start
  show _ = N.length
  rw [List.length_append, List.length_map, List.length_replicate]
  omega
theorem qB {CX : CXT} {P : Program} {w : World} {K : PySem.W.Frag} {mg : Str → Option Value} {base : Heap} {k : Nat} {f : Addr} {name qual : Str} {params : Arguments} {body : List Stmt} {scope : Scope} {dV kV doc pm cdv ct oc : Value} {an od : Option Addr}
  {osl : Array (Option Value)} {N ps : List Str} {sp : Sp} (lk : K.lookup f = some ⟨oc, od, .func (PySem.W.fnOf name qual params body scope dV kV doc pm an cdv ct), osl⟩) (hcd : PySem.W.codeIn K cdv qual = true) (S : BA N ps scope)
  (len : ∀ vs H Q E, sp vs H Q E → vs.length = ps.length)
  (hbody : ∀ (A : Around) (outer : List Env) (s : Shared) (H : Hp) (vs : List V) (Q : VK) (E : XK), IC k (A.deeper (envOfC qual scope s.heap.objs.size f cdv)) → sp vs H Q E →
   ∃ t, PSs (UZ CX P w K mg base N qual scope f cdv A outer s H E) body t ∧ t { nx := fun _ H' => Q .non H', rt := Q } (start N vs) H) :
  CL P w K mg base CX (k + 1) f (PySem.W.fnOf name qual params body scope dV kV doc pm an cdv ct) ps sp := by
 refine ⟨len, fun A outer s H args us vs Q E hr e0 hb r hsp => ?_⟩
 have hl := len _ _ _ _ hsp
 have KX : K.In s.heap := e0.mod.kin.keeps fun b o e => (e0.bs b o e).1
 have lim : s.heap.NoLimit := e0.mod.nolimit.keeps fun b o e => (e0.bs b o e).1
 have hkind : ∀ y ∈ ps.zip us, scope.names.lookup y.1 = some .local ∨ (scope.names.lookup y.1 = some .cell ∧ ((cellsFrom (s.heap.objs.size + 1) scope.names []).lookup y.1).isSome = true) := fun ⟨n, v⟩ hy => by
  rcases S.par n (List.of_mem_zip hy).1 with q | q
  ·exact .inl q
  ·exact .inr ⟨q, PySem.W.cellsFrom_some _ _ _ (.inl q)⟩
 refine codeAny_call_function hr.depth (KX _ _ lk) rfl S.co S.gen rfl (PySem.W.codeRec_of KX hcd) (hb _ _ _ _ ?_)
 refine wpAny_newFunctionEnv_cells S.kind hkind fun env he s1 x => ?_
 subst he
 refine ⟨lim.keeps x.toInCall.keep, codeAny_func ?_⟩
 obtain ⟨t, ht, hq⟩ := hbody A outer s H vs Q E (hr.deeper _) hsp
 have I : Inv (UZ CX P w K mg base N qual scope f cdv A outer s H E) [] (start N vs) H s1 := ZH S hr.hd e0 hl r x
 refine wpAny_mono (ht [] s1 (start N vs) H _ I hq) (fun fl s' hs => ?_) fun e s' hs => hs
 have fin : ∀ {σ' : St} {H' : Hp} {v : V} {u : Value}, Inv (UZ CX P w K mg base N qual scope f cdv A outer s H E) [] σ' H' s' → BF v u → Q v H' → CE outer P w H s Q u s' :=
  fun {σ' H' v u} J rv q => ⟨v, H', J.os, J.bare, J.base, J.hok, rv, q⟩
 cases fl with
 | ret u =>
  obtain ⟨v, σ', H', J, rv, q⟩ := hs
  exact fin J rv q
 | next =>
  obtain ⟨σ', H', J, q⟩ := hs
  exact fin (v := V.non) (u := Value.none) J rfl q
 | brk =>
  obtain ⟨_, _, _, q⟩ := hs
  exact False.elim q
 | cont =>
  obtain ⟨_, _, _, q⟩ := hs
  exact False.elim q
section
variable {X : Cx} {x : Str} {p pos : Pos} {e : Expr} {es : List Expr} {t : TA} {id T : String} {r : List V → Hp → VK → Prop}
def tCB (r : List V → Hp → VK → Prop) (t : TA) : TE := fun σ H Q => t σ H fun vs H1 => r vs H1 Q
theorem BD (hc : DE X (.builtin id) r) (hg : Gl X x) (hm : X.mg x = none) (hv : bootBuiltins x = some (.builtin id)) (ha : PA X (e :: es) t) (hn : x ≠ "__name__" := by decide) (hdb : (x == ("__debug__" : Str)) = false := by decide)
  (he : starEach (e :: es) X.env = (false, eval e X.env) :: starEach es X.env := by rfl) (hpl : (backTo pos (starEach es X.env)).any (·.1) = false := by rfl) : PE X (.Call (.Name x p) (e :: es) [] pos) (tCB r t) := by
 intro pins s σ H Q I h
 refine wpAny_Call_Name_kw (HU I hg hm hv ?_ hn hdb)
 exact PyProof.Rows.callWith_builtin1 (thn (ha pos pins s σ H _ I h) fun us s1 ⟨vs, H1, I1, r1, q1⟩ => hc pins s1 σ H1 vs us Q I1 r1 q1) he hpl
theorem DC (hc : DE X (.type T) r) (hg : Gl X x) (hm : X.mg x = none) (hv : bootBuiltins x = some (.type T)) (ha : PA X (e :: es) t) (hn : x ≠ "__name__" := by decide) (hdb : (x == ("__debug__" : Str)) = false := by decide)
  (he : starEach (e :: es) X.env = (false, eval e X.env) :: starEach es X.env := by rfl) (hpl : (backTo pos (starEach es X.env)).any (·.1) = false := by rfl) : PE X (.Call (.Name x p) (e :: es) [] pos) (tCB r t) := by
 intro pins s σ H Q I h
 refine wpAny_Call_Name_kw (HU I hg hm hv ?_ hn hdb)
 exact PyProof.Rows.callWith_type1 (thn (ha pos pins s σ H _ I h) fun us s1 ⟨vs, H1, I1, r1, q1⟩ => hc pins s1 σ H1 vs us Q I1 r1 q1) he hpl
end
end L2
namespace HT
open PySem PyProof.Rows
section
open PySem.SeqAt
open PySem.AutoSeq1 (wpAny_loadPart')
open PySem.MeetsSeq PySem.MeetsSeq2 PySem.MeetsSeq3
end
section
variable {prog : Program} {w : World} {A : Around} {E : Value → Shared → Prop} {s : Shared}
theorem cat_tup {t b : Addr} {vs ws : List Value} {Q : Value → Shared → Prop} (ht : IsTup s.heap t vs.toArray) (hb : IsTup s.heap b ws.toArray) (hv : vs ≠ [])
  (h1 : ws = [] → Q (.ref t) s) (h2 : ws ≠ [] → Q (.ref s.heap.objs.size) { s with heap := s.heap.push { cls := .type "tuple", data := .seq (vs ++ ws).toArray } })
  (hsz : vs.length + ws.length ≤ sizeLine) : wpAny (model prog w) A (binaryOp .Add (.ref t) (.ref b)) Q E s := by
 obtain ⟨⟨cls, dd, data, sl⟩, ho, hc, n, hd⟩ := id ht
 obtain ⟨⟨cls2, dd2, data2, sl2⟩, ho2, hc2, n2, hd2⟩ := id hb
 simp only at hc hd hc2 hd2
 subst hc hd hc2 hd2
 have e : vs.toArray ++ ws.toArray = (vs ++ ws).toArray := by simp
 by_cases hw : ws = []
 ·exact concat_meets ⟨_, ho, rfl⟩ ⟨_, ho2, rfl⟩ noFill_tuple_add seq_tuple_add PySem.F.slot_tuple_add PySem.F.entry_tuple_add (PySem.F.args_tuple_add_2 _ _)
   (tuple_addW1 t b vs.toArray ws.toArray n n2 dd dd2 sl sl2 (by simpa using hv) (by simp [hw])) ⟨ho, ho2, h1 hw⟩
 ·refine concat_meets ⟨_, ho, rfl⟩ ⟨_, ho2, rfl⟩ noFill_tuple_add seq_tuple_add PySem.F.slot_tuple_add PySem.F.entry_tuple_add (PySem.F.args_tuple_add_2 _ _)
   (tuple_addW2 t b vs.toArray ws.toArray n n2 dd dd2 sl sl2 (by simpa using hv) (by simpa using hw) (by rw [List.size_toArray, List.size_toArray]; exact hsz)) ⟨ho, ho2, ?_⟩
  rw [e]
  exact h2 hw
def sIx (n d : Nat) : Option Int → Nat
 | none => d
 | some v => if v < 0 then (v + (n : Int)).toNat else min v.toNat n
theorem sIx_none (n d : Nat) : sIx n d none = d := rfl
theorem sIx_nat (n d k : Nat) : sIx n d (some (k : Int)) = min k n := by
 show (if (k : Int) < 0 then ((k : Int) + (n : Int)).toNat else min (k : Int).toNat n) = min k n
 rw [if_neg (by omega), Int.toNat_natCast]
theorem mG (n d : Nat) (hd : d ≤ n) (o : Option Int) : sIx n d o ≤ n := by
 cases o with
 | none => exact hd
 | some v =>
  show (if v < 0 then (v + (n : Int)).toNat else min v.toNat n) ≤ n
  by_cases hv : v < 0
  ·rw [if_pos hv]; omega
  ·rw [if_neg hv]; exact Nat.min_le_right _ _
theorem WO (v : Int) (n d : Nat) : (if v < 0 then max (v + (n : Int)) 0 else min v (n : Int)) = ((sIx n d (some v) : Nat) : Int) := by
 show (if v < 0 then max (v + (n : Int)) 0 else min v (n : Int)) = (((if v < 0 then (v + (n : Int)).toNat else min v.toNat n) : Nat) : Int)
 by_cases hv : v < 0
 ·simp only [if_pos hv]; omega
 ·simp only [if_neg hv]; omega
theorem UC (lo hi : Option Int) (n : Nat) : Builtin.Slice.sliceAdjust lo hi 1 (n : Int) = (((sIx n 0 lo : Nat) : Int), ((sIx n n hi : Nat) : Int)) := by
 have h1 : ¬ ((1 : Int) < 0) := by omega
 unfold Builtin.Slice.sliceAdjust
 simp only [h1, if_false]
 refine Prod.ext ?_ ?_
 ·cases lo with
  | none => rfl
  | some v => exact WO v n 0
 ·cases hi with
  | none => rfl
  | some v => exact WO v n n
theorem VD (i j : Nat) : Builtin.Slice.slicePlaces (i : Int) (j : Int) 1 = j - i := by
 unfold Builtin.Slice.slicePlaces
 have h1 : (1 : Int) > 0 := by omega
 simp only [h1, if_true, Int.ediv_one]
 split <;> omega
theorem OD {v : Value} {o : Option Int} {Q : Option Int → Shared → Prop} (p : IsPart v o) (h : Q o s) : wpAny (model prog w) A (Builtin.Slice.slicePartIndex v) Q E s := by
 cases p with
 | none => exact slicePart_none h
 | int i t => exact slicePart_int h
theorem sliceApplied_gen {sl : Addr} {vl vu : Value} {lo hi : Option Int} {n : Nat} {Q : Int × Int × Nat → Shared → Prop} (hs : s.heap.IsSliceOf sl vl vu .none) (pl : IsPart vl lo) (pu : IsPart vu hi)
  (h : Q (((sIx n 0 lo : Nat) : Int), 1, sIx n n hi - sIx n 0 lo) s) : wpAny (model prog w) A (Builtin.Slice.sliceApplied (.ref sl) (pure (n : Int))) Q E s := by
 obtain ⟨os, hos, hcs, hds⟩ := id hs
 unfold Builtin.Slice.sliceApplied Builtin.Slice.sliceFields
 refine wpAny_bind (wpAny_bind (wpAny_field hos hds (x := vl) rfl (wpAny_bind (wpAny_field hos hds (x := vu) rfl (wpAny_bind (wpAny_field hos hds (x := .none) rfl (wpAny_pure ?_)))))))
 refine wpAny_bind (slicePart_none ?_)
 show wpAny _ _ (if ((1 : Int) == 0) = true then _ else _) _ _ s
 rw [if_neg (by decide)]
 refine wpAny_bind (OD pl (wpAny_bind (OD pu (wpAny_bind (wpAny_pure ?_)))))
 show wpAny _ _ (match Builtin.Slice.sliceAdjust lo hi 1 (n : Int) with | (lo, hi) => pure (lo, (1 : Int), Builtin.Slice.slicePlaces lo hi 1)) _ _ s
 rw [UC lo hi n]
 show wpAny _ _ (pure (((sIx n 0 lo : Nat) : Int), (1 : Int), Builtin.Slice.slicePlaces ((sIx n 0 lo : Nat) : Int) ((sIx n n hi : Nat) : Int) 1)) _ _ s
 rw [VD]
 exact wpAny_pure h
theorem dW (xs : Array Value) (i k : Nat) : ((List.range k).filterMap fun (m : Nat) => xs[((i : Int) + (m : Int) * 1).toNat]?).toArray = ((xs.toList.drop i).take k).toArray := by
 have e : (fun (m : Nat) => xs[((i : Int) + (m : Int) * 1).toNat]?) = fun m => xs[i + m]? := by
  funext m
  have : ((i : Int) + (m : Int) * 1).toNat = i + m := by omega
  rw [this]
 rw [e]
 have := pick_run xs i k
 rw [List.filterMap_map] at this
 have e2 : ((fun x => xs[x]?) ∘ fun x => i + x) = fun m => xs[i + m]? := rfl
 rw [e2] at this
 rw [this]
theorem getItem_tuple_cut {t sl : Addr} {items : Array Value} {vl vu : Value} {lo hi : Option Int} {Q : Value → Shared → Prop} (ht : IsTup s.heap t items) (hs : s.heap.IsSliceOf sl vl vu .none) (pl : IsPart vl lo) (pu : IsPart vu hi)
  (hw : ¬ (sIx items.size 0 lo = 0 ∧ sIx items.size items.size hi = items.size))
  (h : Q (.ref s.heap.objs.size) { s with heap := s.heap.push { cls := .type "tuple", data := .seq ((items.toList.drop (sIx items.size 0 lo)).take (sIx items.size items.size hi - sIx items.size 0 lo)).toArray } })
  (hsz : items.size ≤ sizeLine) : wpAny (model prog w) A (getItem (.ref t) (.ref sl)) Q E s := by
 have htake : sizeOk (.seq ((items.toList.drop (sIx items.size 0 lo)).take (sIx items.size items.size hi - sIx items.size 0 lo)).toArray) := by
  show ((items.toList.drop (sIx items.size 0 lo)).take (sIx items.size items.size hi - sIx items.size 0 lo)).toArray.size ≤ sizeLine
  rw [List.size_toArray, List.length_take, List.length_drop, Array.length_toList]
  omega
 have hj : sIx items.size items.size hi ≤ items.size := mG _ _ (Nat.le_refl _) hi
 obtain ⟨os, hos, hcs, hds⟩ := id hs
 have hTs : s.TypeIs (.ref sl) "slice" := ⟨os, hos, hcs⟩
 unfold getItem
 try with_reducible refine wpAny_holding ?_
 first | refine wpAny_bind (wpAny_pure ?_) | skip
 refine wpAny_bind (wpAny_sequenceKey ht.typeIs (by decide) ?_)
 refine wpAny_bind (wpAny_callSpecial?_slot (name := Str.ofString "__getitem__") ht.typeIs PyProof.Rows.slot_tuple_getitem
  (wpAny_call_entry PyProof.Rows.slot_tuple_getitem ht.typeIs entry_tuple_getitem ?_ (args_tuple_getitem _ _)))
 show wpAny _ _ (Builtin.Tuple.tupleItemsOf (.ref t) >>= _) _ _ s
 refine wpAny_bind (tupleItemsOf_ ht ?_)
 refine wpAny_bind (wpAny_typeOf hTs ?_)
 rw [if_pos (by decide)]
 refine wpAny_bind (sliceApplied_gen hs pl pu ?_)
 have hno : ¬ ((((sIx items.size 0 lo : Nat) : Int) == 0 && (1 : Int) == 1 && (sIx items.size items.size hi - sIx items.size 0 lo) == items.size) = true) := by
  intro q
  rw [Bool.and_eq_true, Bool.and_eq_true] at q
  have q1 : ((sIx items.size 0 lo : Nat) : Int) = 0 := eq_of_beq q.1.1
  have q2 : sIx items.size items.size hi - sIx items.size 0 lo = items.size := eq_of_beq q.2
  exact hw ⟨by omega, by omega⟩
 show wpAny _ _ (if (((sIx items.size 0 lo : Nat) : Int) == 0 && (1 : Int) == 1 && (sIx items.size items.size hi - sIx items.size 0 lo) == items.size) = true then _ else _) _ _ s
 rw [if_neg hno, dW]
 first
  | exact wpAny_bind (m := Builtin.Tuple.tupleExact _) (wpAny_newObj_type (wpAny_pure ⟨_, rfl, wpAny_pure h⟩) htake)
  | exact wpAny_bind (m := Builtin.Tuple.tupleExact _) (wpAny_newObj_type (wpAny_bind (wpAny_pure (wpAny_pure ⟨_, rfl, wpAny_pure h⟩))) htake)
  | exact wpAny_bind (wpAny_bind (m := Builtin.Tuple.tupleExact _) (wpAny_newObj_type (wpAny_pure (wpAny_pure ⟨_, rfl, wpAny_pure h⟩)) htake))
  | exact wpAny_bind (wpAny_bind (m := Builtin.Tuple.tupleExact _) (wpAny_newObj_type (wpAny_pure ⟨_, rfl, wpAny_pure h⟩) htake))
end
end HT
namespace L2
open PySem PySem.Spec PyProof.Rows
abbrev TO := St → Hp → (Option Int → Hp → Prop) → Prop
def PO (X : Cx) (e : Option Expr) (t : TO) : Prop :=
 ∀ (pins : List (Addr × Obj)) (s : Shared) (σ : St) (H : Hp) (Q : Option Int → Hp → Prop), Inv X pins σ H s → t σ H Q →
  wpAny (model X.prog X.w) X.A (evalPart e X.env) (fun u s' => ∃ o H', Inv X pins σ H' s' ∧ IsPart u o ∧ Q o H') X.xe s
def RP : TO := fun _ H Q => Q none H
def eY (t : TE) : TO := fun σ H Q => t σ H fun x H1 => ∃ i, x = .int i ∧ Q (some i) H1
section
variable {X : Cx} {e : Expr} {te : TE} {lo hi : Option Expr} {tl th : TO} {pos p2 : Pos}
theorem GC : PO X none RP := by
 intro pins s σ H Q I h
 rw [evalPart_none]
 exact wpAny_pure ⟨none, H, I, .none, h⟩
theorem fI (h : PE X e te) : PO X (some e) (eY te) := by
 intro pins s σ H Q I hw
 rw [evalPart_some]
 refine thn (h pins s σ H _ I hw) fun u s1 ⟨x, H1, I1, r1, q1⟩ => ?_
 obtain ⟨i, rfl, q⟩ := q1
 obtain ⟨t, rfl⟩ := r1
 exact ⟨some i, H1, I1, .int i t, q⟩
def SlR (X : Cx) (r : V → Option Int → Option Int → Hp → VK → Prop) : Prop :=
 ∀ (pins : List (Addr × Obj)) (s : Shared) (σ : St) (H : Hp) (x : V) (v vl vu : Value) (lo hi : Option Int) (sl : Addr) (Q : VK), Inv X pins σ H s → BF x v → s.heap.IsSliceOf sl vl vu .none → IsPart vl lo → IsPart vu hi → r x lo hi H Q →
  ∃ T id, typeLookup (.type T) "__getitem__" = pure (some (.builtin id)) ∧ s.TypeIs v T ∧ wpAny (model X.prog X.w) X.A (getItem v (.ref sl)) (EP X pins σ Q) X.xe s
def tSl (r : V → Option Int → Option Int → Hp → VK → Prop) (te : TE) (tl th : TO) : TE := fun σ H Q => te σ H fun x H1 => tl σ H1 fun l H2 => th σ H2 fun u H3 => r x l u H3 Q
theorem FC {r : V → Option Int → Option Int → Hp → VK → Prop} (hr : SlR X r) (he : PE X e te) (hl : PO X lo tl) (hu : PO X hi th) : PE X (.Subscript e (.Slice lo hi none p2) pos) (tSl r te tl th) := by
 intro pins s σ H Q I h
 refine Subscript_ (thn (he pins s σ H _ I h) fun v s1 ⟨x, H1, I1, r1, q1⟩ => ?_)
 refine wpAny_Slice (thn (hl pins s1 σ H1 _ I1 q1) fun vl s2 ⟨l, H2, I2, pl, q2⟩ => thn (hu pins s2 σ H2 _ I2 q2) fun vu s3 ⟨u, H3, I3, pu, q3⟩ => ?_)
 rw [evalPart_none]
 refine wpAny_pure ?_
 have I4 : Inv X pins σ H3 { s3 with heap := s3.heap.push { cls := .type "slice", data := .fields #[vl, vu, .none] } } := I3.kept (t' := s3.toks) fun b ob q => Heap.get?_push_of_some _ q
 obtain ⟨T, id, hT, ht, hg⟩ := hr pins { s3 with heap := s3.heap.push { cls := .type "slice", data := .fields #[vl, vu, .none] } } σ H3 x v vl vu l u s3.heap.objs.size Q I4 r1 (Heap.IsSliceOf.new ..) pl pu q3
 show wpAny (model X.prog X.w) X.A (subscriptTail e (.Slice lo hi none p2) v (.ref s3.heap.objs.size)) (EP X pins σ Q) X.xe { s3 with heap := s3.heap.push { cls := .type "slice", data := .fields #[vl, vu, .none] } }
 exact tail_any (ops := [.ref s3.heap.objs.size, v]) ht hT hg (by with_unfolding_all rfl)
def HQ (xs : List V) (lo hi : Option Int) : List V := (xs.drop (HT.sIx xs.length 0 lo)).take (HT.sIx xs.length xs.length hi - HT.sIx xs.length 0 lo)
theorem LX (xs : List V) (lo hi : Option Int) : (HQ xs lo hi).length ≤ xs.length := by
 unfold HQ
 rw [List.length_take, List.length_drop]
 omega
def lB (K : PySem.W.Frag) : V → Option Int → Option Int → Hp → VK → Prop := fun x lo hi H Q => ∃ a xs, x = .ref a ∧ SqT K H a xs ∧
 ¬ (HT.sIx xs.length 0 lo = 0 ∧ HT.sIx xs.length xs.length hi = xs.length) ∧ ∀ p, H p = none → Q (.ref p) (upd H p (.tup (HQ xs lo hi)))
theorem nE : SlR X (lB X.K) := by
 intro pins s σ H x v vl vu lo hi sl Q I rx hs pl pu h
 obtain ⟨a, xs, rfl, hx, hw, q⟩ := h
 cases rx
 obtain ⟨its, r, ht, hz⟩ := I.tuple hx
 have hlen : its.toArray.size = xs.length := by rw [List.size_toArray]; exact r.length.symm
 refine ⟨"tuple", _, PyProof.Rows.slot_tuple_getitem.lookup, ht.typeIs, ?_⟩
 refine HT.getItem_tuple_cut ht hs pl pu (by rw [hlen]; exact hw) ?_ (by rw [hlen]; exact hz)
 rw [hlen]
 refine ⟨.ref s.heap.objs.size, _, I.laid (t' := s.toks) (o := .tup (HQ xs lo hi)) (fun b ob q => Heap.get?_push_of_some _ q) (Nat.le_refl _) ?_, rfl, q _ (I.hok.fresh (Nat.le_refl _))⟩
 exact ⟨Nat.le_trans (LX xs lo hi) hz, _, (r.drop (HT.sIx xs.length 0 lo)).take (HT.sIx xs.length xs.length hi - HT.sIx xs.length 0 lo), IsTup.new _ _⟩
def oF (K : PySem.W.Frag) : R2 := fun x y H Q => ∃ a b xs ys, x = .ref a ∧ y = .ref b ∧ SqT K H a xs ∧ SqT K H b ys ∧ xs ≠ [] ∧ xs.length + ys.length ≤ sizeLine ∧
 (ys = [] → Q (.ref a) H) ∧ (ys ≠ [] → ∀ p, H p = none → Q (.ref p) (upd H p (.tup (xs ++ ys))))
theorem BH.nil_iff {xs : List V} {us : List Value} (r : BH xs us) : us = [] ↔ xs = [] := by
 cases r with
 | nil => simp
 | cons _ _ => simp
theorem hV : OpR X (binaryOp .Add) (oF X.K) := by
 intro pins s σ H x y v u Q I rx ry h
 obtain ⟨a, b, xs, ys, rfl, rfl, ha, hb, hx, hz, q1, q2⟩ := h
 cases rx
 cases ry
 obtain ⟨its, r1, p1, _⟩ := I.tuple ha
 obtain ⟨its2, r2, p2, _⟩ := I.tuple hb
 refine HT.cat_tup p1 p2 (fun z => hx (r1.nil_iff.mp z)) (fun z => ⟨.ref a, H, I, rfl, q1 (r2.nil_iff.mp z)⟩) (fun z => ?_) (by rw [← r1.length, ← r2.length]; exact hz)
 refine ⟨.ref s.heap.objs.size, _, I.laid (t' := s.toks) (o := .tup (xs ++ ys)) (fun b ob q => Heap.get?_push_of_some _ q) (Nat.le_refl _) ?_, rfl, q2 (fun w => z (r2.nil_iff.mpr w)) _ (I.hok.fresh (Nat.le_refl _))⟩
 exact ⟨by rw [List.length_append]; exact hz, _, r1.append r2, IsTup.new _ _⟩
end
def ixN (n : Nat) (i : Int) : Option Nat := if 0 ≤ i then (if i < n then some i.toNat else none) else if -(n : Int) ≤ i then some (i + n).toNat else none
def atI {α : Type} (xs : List α) (i : Int) : Option α := (ixN xs.length i).bind fun j => xs[j]?
theorem XR {n : Nat} {i : Int} {j : Nat} (h : ixN n i = some j) : seqIndex? i n = some j ∧ j < n ∧ -(n : Int) ≤ i ∧ i < n := by
 unfold ixN at h
 by_cases h0 : 0 ≤ i
 ·rw [if_pos h0] at h
  by_cases h1 : i < n
  ·rw [if_pos h1] at h
   have e : i.toNat = j := Option.some.inj h
   exact ⟨by rw [seqIndex_of h0 h1, e], by omega, by omega, h1⟩
  ·rw [if_neg h1] at h; cases h
 ·rw [if_neg h0] at h
  by_cases h1 : -(n : Int) ≤ i
  ·rw [if_pos h1] at h
   have e : (i + n).toNat = j := Option.some.inj h
   exact ⟨by rw [seqIndex_neg (by omega) h1, e], by omega, h1, by omega⟩
  ·rw [if_neg h1] at h; cases h
theorem WJ {α : Type} {xs : List α} {i : Int} {v : α} (h : atI xs i = some v) : ∃ j, seqIndex? i xs.length = some j ∧ xs[j]? = some v ∧ j < xs.length ∧ -(xs.length : Int) ≤ i ∧ i < xs.length := by
 unfold atI at h
 cases e : ixN xs.length i with
 | none => rw [e] at h; cases h
 | some j =>
  rw [e] at h
  obtain ⟨h1, h2, h3, h4⟩ := XR e
  exact ⟨j, h1, h, h2, h3, h4⟩
theorem IZ {α : Type} {xs : List α} {j : Nat} {v : α} (h : xs[j]? = some v) : atI xs (j : Int) = some v := by
 have hj : j < xs.length := (List.getElem?_eq_some_iff.mp h).1
 have e : ixN xs.length (j : Int) = some j := by
  unfold ixN
  rw [if_pos (by omega), if_pos (by omega)]; simp
 unfold atI; rw [e]; exact h
def fU (b : Expr) : Prop := ∀ o i, subscripted b false o i = operate [o, i] (getItem o i)
def IxR (X : Cx) (r : R2) : Prop :=
 ∀ (value slice : Expr) (pins : List (Addr × Obj)) (s : Shared) (σ : St) (H : Hp) (x y : V) (v u : Value) (Q : VK), Inv X pins σ H s → BF x v → BF y u → r x y H Q →
  subscripted slice false v u = operate [v, u] (getItem v u) → wpAny (model X.prog X.w) X.A (subscriptTail value slice v u) (EP X pins σ Q) X.xe s
def MtR (X : Cx) (id : String) (r : V → List V → Hp → VK → Prop) : Prop :=
 ∀ (pins : List (Addr × Obj)) (s : Shared) (σ : St) (H : Hp) (x : V) (xs : List V) (v : Value) (us : List Value) (Q : VK), Inv X pins σ H s → BF x v → BH xs us → r x xs H Q →
  wpAny (model X.prog X.w) X.A (call (.builtin id) (v :: us)) (EP X pins σ Q) X.xe s
section
variable {X : Cx} {a b : Expr} {ta tb : TE} {pos : Pos}
theorem AG {r : R2} (hr : IxR X r) (ha : PE X a ta) (hb : PE X b tb) (hs : fU b) : PE X (.Subscript a b pos) (tOp r ta tb) := by
 intro pins s σ H Q I h
 exact Subscript_ (mI ha hb I h fun v u s2 x y H2 I2 rx ry q => hr a b pins s2 σ H2 x y v u Q I2 rx ry q (hs _ _))
def nR (K : PySem.W.Frag) : R2 := fun x y H Q => ∃ p xs i v, x = .ref p ∧ y = .int i ∧ SqL K H p xs ∧ atI xs i = some v ∧ Q v H
def mU (K : PySem.W.Frag) : R2 := fun x y H Q => ∃ p xs i v, x = .ref p ∧ y = .int i ∧ SqT K H p xs ∧ atI xs i = some v ∧ Q v H
theorem gB : IxR X (nR X.K) := by
 intro value slice pins s σ H x y v u Q I rx ry h hs
 obtain ⟨p, xs, i, z, rfl, rfl, hq, he, q⟩ := h
 cases rx
 obtain ⟨t, rfl⟩ := ry
 obtain ⟨its, r, pl, hz⟩ := I.list hq
 obtain ⟨j, h1, h2, h3, h4, h5⟩ := WJ he
 obtain ⟨w, ew, rw'⟩ := r.get h2
 have hl := r.length
 have hn := MR
 have fin : EP X pins σ Q w s := ⟨z, H, I, rw', q⟩
 by_cases h0 : 0 ≤ i
 ·have hj : i.toNat = j := by
   rw [seqIndex_of h0 h5] at h1
   exact Option.some.inj h1
  exact item_listR pl.isList h0 (by omega) (by rw [hj]; simpa using ew) fin hs
 ·have hj : (i + (its.toArray.size : Int)).toNat = j := by
   rw [seqIndex_neg (by omega) h4] at h1
   rw [List.size_toArray, ← hl]
   exact Option.some.inj h1
  exact subscriptTail_builtinR (x := w) pl.isList.typeIs slot_list_getitem.lookup
   (wpAny_getItem_list_neg (Q := fun r s' => r = w ∧ EP X pins σ Q r s') pl.isList (by omega) (by rw [List.size_toArray] <;> omega) (by omega) (by rw [hj]; simpa using ew) ⟨rfl, fin⟩) hs
theorem mY : IxR X (mU X.K) := by
 intro value slice pins s σ H x y v u Q I rx ry h hs
 obtain ⟨p, xs, i, z, rfl, rfl, hq, he, q⟩ := h
 cases rx
 obtain ⟨t, rfl⟩ := ry
 obtain ⟨its, r, pl, hz⟩ := I.tuple hq
 obtain ⟨j, h1, h2, h3, h4, h5⟩ := WJ he
 obtain ⟨w, ew, rw'⟩ := r.get h2
 have hl := r.length
 have hn := MR
 have fin : EP X pins σ Q w s := ⟨z, H, I, rw', q⟩
 exact subscriptTail_builtinR (x := w) pl.typeIs slot_tuple_getitem.lookup
  (getItem_tuple (j := j) (Q := fun r s' => r = w ∧ EP X pins σ Q r s') pl (by omega) (by omega) (by rw [List.size_toArray, ← hl]; exact h1) (by simpa using ew) ⟨rfl, fin⟩) hs
theorem VM (its : List Value) (n j : Nat) (u : Value) : Obj.mapSeq (·.setIfInBounds j u) { cls := .type "list", data := .seq its.toArray n } = { cls := .type "list", data := .seq (its.set j u).toArray n } := by
 simp [Obj.mapSeq]
theorem Inv.lst {pins : List (Addr × Obj)} {σ : St} {H : Hp} {s : Shared} {p : Addr} {xs : List V} (I : Inv X pins σ H s) (h : H p = some (.lst xs)) :
  ∃ (its : List Value) (n : Nat), BH xs its ∧ s.heap.get? p = some { cls := .type "list", data := .seq its.toArray n } ∧ xs.length ≤ sizeLine := by
 obtain ⟨z, its, n, r, e⟩ := I.hok p _ h
 exact ⟨its, n, r, e, z⟩
theorem Inv.lstUpd {pins : List (Addr × Obj)} {σ : St} {H : Hp} {s : Shared} {p : Addr} {xs ys : List V} {its its' : List Value} {n n' : Nat} {f : Obj → Obj} (I : Inv X pins σ H s) (h : H p = some (.lst xs))
  (ho : s.heap.get? p = some { cls := .type "list", data := .seq its.toArray n }) (hf : f { cls := .type "list", data := .seq its.toArray n } = { cls := .type "list", data := .seq its'.toArray n' }) (r : BH ys its') (hz : ys.length ≤ sizeLine) (t : Nat) :
  Inv X pins σ (upd H p (.lst ys)) { s with heap := s.heap.update p f, toks := t } := by
 have e : (s.heap.update p f).get? p = some { cls := .type "list", data := .seq its'.toArray n' } := by
  rw [Heap.get?_update_self f ho (by rw [hf] <;> rfl), hf]
 refine I.write (x := p) (e := p) (by rw [h]; trivial) (.inl rfl) (fun b u hb q => (Heap.get?_update_other _ _ (Ne.symm hb)).trans q) ⟨_, e⟩ ?_
 exact ⟨hz, its', n', r, e⟩
def aZ : V → V → V → Hp → (Hp → Prop) → Prop := fun o i v H Q => ∃ p xs k j, o = .ref p ∧ i = .int k ∧ H p = some (.lst xs) ∧ ixN xs.length k = some j ∧ Q (upd H p (.lst (xs.set j v)))
theorem bT : ZU X aZ := by
 intro pins s σ H o i v ov iv u Q I ro ri rv h
 obtain ⟨p, xs, k, j, rfl, rfl, hp, hj, q⟩ := h
 cases ro
 obtain ⟨t, rfl⟩ := ri
 obtain ⟨its, n, r, ho, hz⟩ := I.lst hp
 obtain ⟨h1, h2, h3, h4⟩ := XR hj
 have hl := r.length
 have hn := MR
 have I' : Inv X pins σ (upd H p (.lst (xs.set j v))) { s with heap := s.heap.update p (Obj.mapSeq (·.setIfInBounds j u)) } :=
  I.lstUpd hp ho (VM its n j u) (r.set rv j) (by rw [List.length_set]; exact hz) s.toks
 by_cases h0 : 0 ≤ k
 ·have hk : k.toNat = j := by
   rw [seqIndex_of h0 h4] at h1
   exact Option.some.inj h1
  exact PySem.W.ki_setAt ho h0 (by omega) (by rw [List.size_toArray, ← hl]; exact h4) (by rw [hk]; exact ⟨_, I', q⟩)
 ·have hk : (k + (its.toArray.size : Int)).toNat = j := by
   rw [seqIndex_neg (by omega) h3] at h1
   rw [List.size_toArray, ← hl]
   exact Option.some.inj h1
  exact PySem.W.ki_setBack ho (by omega) (by rw [List.size_toArray, ← hl]; exact h3) (by omega) (by rw [hk]; exact ⟨_, I', q⟩)
theorem RO (lo hi : Option Int) (n : Nat) : (sliceBounds lo hi none n).1 = ((HT.sIx n 0 lo : Nat) : Int) ∧ (sliceBounds lo hi none n).2.1 = ((HT.sIx n n hi : Nat) : Int) ∧ (sliceBounds lo hi none n).2.2 = 1 := by
 refine ⟨?_, ?_, rfl⟩
 ·cases lo with
  | none => simp [sliceBounds, HT.sIx]
  | some i =>
   simp only [sliceBounds, HT.sIx, Option.getD_none, show (1 : Int) > 0 by decide, if_true]
   by_cases h : i < 0
   ·simp only [h, if_true] <;> omega
   ·simp only [h, if_false] <;> omega
 ·cases hi with
  | none => simp [sliceBounds, HT.sIx]
  | some i =>
   simp only [sliceBounds, HT.sIx, Option.getD_none, show (1 : Int) > 0 by decide, if_true]
   by_cases h : i < 0
   ·simp only [h, if_true] <;> omega
   ·simp only [h, if_false] <;> omega
theorem OO (its : List Value) (lo hi : Option Int) : slicePick its.toArray lo hi none = ((its.drop (HT.sIx its.length 0 lo)).take (HT.sIx its.length its.length hi - HT.sIx its.length 0 lo)).toArray := by
 obtain ⟨h1, h2, h3⟩ := RO lo hi its.toArray.size
 unfold slicePick
 rw [h1, h2, h3]
 simp only [sliceRange_one, pick_run, List.size_toArray] <;> rfl
def lO (K : PySem.W.Frag) : V → Option Int → Option Int → Hp → VK → Prop := fun x lo hi H Q => ∃ a xs, x = .ref a ∧ SqL K H a xs ∧ ∀ p, H p = none → Q (.ref p) (upd H p (.lst (HQ xs lo hi)))
theorem gJ : SlR X (lO X.K) := by
 intro pins s σ H x v vl vu lo hi sl Q I rx hs pl pu h
 obtain ⟨a, xs, rfl, hx, q⟩ := h
 cases rx
 obtain ⟨its, r, ht, hz⟩ := I.list hx
 have hlen := r.length
 refine ⟨"list", _, slot_list_getitem.lookup, ht.isList.typeIs, ?_⟩
 refine wpAny_getItem_list_slice ht.isList hs pl pu .none (by simp) ?_ (by rw [List.size_toArray] <;> omega)
 rw [OO, ← hlen]
 refine ⟨.ref s.heap.objs.size, _, I.laid (t' := s.toks) (o := .lst (HQ xs lo hi)) (fun b ob q => Heap.get?_push_of_some _ q) (Nat.le_refl _) ?_, rfl, q _ (I.hok.fresh (Nat.le_refl _))⟩
 exact ⟨Nat.le_trans (LX xs lo hi) hz, _, 0, (r.drop (HT.sIx xs.length 0 lo)).take (HT.sIx xs.length xs.length hi - HT.sIx xs.length 0 lo), Heap.get?_push_size _ rfl⟩
theorem RA : DE X (.builtin "len") (fun xs H Q => ∃ p ys, xs = [.ref p] ∧ (SqL X.K H p ys ∨ SqT X.K H p ys) ∧ Q (.int ys.length) H) := by
 intro pins s σ H xs us Q I r h
 obtain ⟨p, ys, rfl, hq, q⟩ := h
 obtain ⟨u, rfl, rx⟩ := JV r
 cases rx
 have hn := MR
 rcases hq with hq | hq
 ·obtain ⟨its, r', pl, hz⟩ := I.list hq
  have hlen := r'.length
  exact Calls.call_len_list pl.isList (by simp only [List.size_toArray] <;> omega) ⟨.int ys.length, H, I.tok _, ⟨s.toks + 1, by rw [List.size_toArray, hlen]⟩, q⟩
 ·obtain ⟨its, r', pl, hz⟩ := I.tuple hq
  have hlen := r'.length
  exact len_tuple pl (by simp only [List.size_toArray] <;> omega) ⟨.int ys.length, H, I.tok _, ⟨s.toks + 1, by rw [List.size_toArray, hlen]⟩, q⟩
theorem QP : DE X (.type "list") (fun xs H Q => ∃ p ys, xs = [.ref p] ∧ (SqL X.K H p ys ∨ SqT X.K H p ys) ∧ ∀ l, H l = none → Q (.ref l) (upd H l (.lst ys))) := by
 intro pins s σ H xs us Q I r h
 obtain ⟨p, ys, rfl, hq, q⟩ := h
 obtain ⟨u, rfl, rx⟩ := JV r
 cases rx
 have fin : ∀ (its : List Value), BH ys its → ys.length ≤ sizeLine → ∀ (h' : Heap) (c' : Nat), (∀ b o', s.heap.get? b = some o' → h'.get? b = some o') →
   h'.get? s.heap.objs.size = some { cls := .type "list", dict := none, data := .seq its.toArray c', slots := #[] } → EP X pins σ Q (.ref s.heap.objs.size) { s with heap := h' } := fun its r' hz h' c' kp e =>
  ⟨.ref s.heap.objs.size, _, I.laid (t' := s.toks) kp (Nat.le_refl _) (show DF X.prog X.w _ h' _ (.lst ys) from ⟨hz, its, c', r', e⟩), rfl, q _ (I.hok.fresh (Nat.le_refl _))⟩
 rcases hq with hq | hq
 ·obtain ⟨its, r', pl, hz⟩ := I.list hq
  have hlen := r'.length
  obtain ⟨o, ho, hc, n, hd⟩ := pl.isList
  exact call_list_seq p (.inl rfl) ho hc hd (fun h' c' kp e => fin its r' hz h' c' kp e) (by simp only [List.size_toArray] <;> omega)
 ·obtain ⟨its, r', pl, hz⟩ := I.tuple hq
  have hlen := r'.length
  obtain ⟨o, ho, hc, n, hd⟩ := pl
  exact call_list_seq p (.inr rfl) ho hc hd (fun h' c' kp e => fin its r' hz h' c' kp e) (by simp only [List.size_toArray] <;> omega)
theorem OR : DE X (.type "tuple") (fun xs H Q => ∃ p ys, xs = [.ref p] ∧ ((SqL X.K H p ys ∧ ∀ l, H l = none → Q (.ref l) (upd H l (.tup ys))) ∨ (SqT X.K H p ys ∧ Q (.ref p) H))) := by
 intro pins s σ H xs us Q I r h
 obtain ⟨p, ys, rfl, h⟩ := h
 obtain ⟨u, rfl, rx⟩ := JV r
 cases rx
 rcases h with ⟨hq, q⟩ | ⟨hq, q⟩
 ·obtain ⟨its, r', pl, hz⟩ := I.list hq
  have hlen := r'.length
  refine call_tuple_list pl.isList (fun h' kp => ?_) (by simp only [List.size_toArray] <;> omega)
  have I1 : Inv X pins σ H { s with heap := h' } := I.kept (t' := s.toks) kp
  have I2 : Inv X pins σ (upd H h'.objs.size (.tup ys)) { s with heap := h'.push { cls := .type "tuple", data := .seq its.toArray } } :=
   I1.laid (t' := s.toks) (fun b o e => Heap.get?_push_of_some _ e) (Nat.le_refl _) (show DF X.prog X.w _ _ _ (.tup ys) from ⟨hz, its, r', IsTup.new _ _⟩)
  exact ⟨.ref h'.objs.size, _, I2, rfl, q _ (I1.hok.fresh (Nat.le_refl _))⟩
 ·obtain ⟨its, r', pl, hz⟩ := I.tuple hq
  exact call_tuple_same pl ⟨.ref p, H, I, rfl, q⟩
def tyV (K : PySem.W.Frag) (T : String) (x : V) (H : Hp) : Prop := match x with
 | .str _ => T = "str"
 | .int _ => T = "int"
 | .ref p => (T = "list" ∧ ∃ xs, SqL K H p xs) ∨ (T = "tuple" ∧ ∃ o, K.lookup p = some o ∧ o.cls = .type "tuple" ∧ o.dict = none) ∨
   (T = "dict" ∧ ((∃ kvs, H p = some (.dK kvs)) ∨ ∃ kvs, H p = some (.dT kvs))) ∨ (T = "set" ∧ ∃ S n, H p = some (.set S n))
 | _ => False
theorem nB {pins : List (Addr × Obj)} {σ : St} {H : Hp} {s : Shared} {T : String} {x : V} {v : Value} (I : Inv X pins σ H s) (r : BF x v) (ty : tyV X.K T x H) :
  s.TypeIs v T ∧ ∀ a, v = .ref a → ∃ ob, s.heap.get? a = some ob ∧ ob.dict = none := by
 cases x with
 | str z =>
  obtain ⟨t, rfl⟩ := r
  cases (show T = "str" from ty)
  exact ⟨typeIs_str s z t, fun _ e => nomatch e⟩
 | int i =>
  obtain ⟨t, rfl⟩ := r
  cases (show T = "int" from ty)
  exact ⟨typeIs_int s i t, fun _ e => nomatch e⟩
 | ref p =>
  cases r
  rcases ty with ⟨rfl, xs, hq⟩ | ⟨rfl, o, hk, hc, hd⟩ | ⟨rfl, hk⟩ | ⟨rfl, S, n, hk⟩
  ·obtain ⟨its, _, pl, _⟩ := I.list hq
   refine ⟨pl.isList.typeIs, fun a e => ?_⟩
   cases e
   obtain ⟨o, n, e, c, hd, _⟩ := pl
   exact ⟨o, e, hd⟩
  ·refine ⟨⟨o, I.kIn p o hk, hc⟩, fun a e => ?_⟩
   cases e
   exact ⟨o, I.kIn _ o hk, hd⟩
  ·have z : ∃ o, s.heap.get? p = some o ∧ o.ExactDict := by
    rcases hk with ⟨kvs, hk⟩ | ⟨kvs, hk⟩
    ·obtain ⟨_, _, _, _, o, _, _, e, ex, _⟩ := I.hok p _ hk
     exact ⟨o, e, ex⟩
    ·obtain ⟨_, _, _, _, o, _, _, e, ex, _⟩ := I.hok p _ hk
     exact ⟨o, e, ex⟩
   obtain ⟨o, e, ex⟩ := z
   refine ⟨⟨o, e, ex.1⟩, fun a e2 => ?_⟩
   cases e2
   exact ⟨o, e, ex.2.1⟩
  ·obtain ⟨o, _, _, _, e, ex, _⟩ := I.hok p _ hk
   refine ⟨⟨o, e, ex.1⟩, fun a e2 => ?_⟩
   cases e2
   exact ⟨o, e, ex.2.1⟩
 | _ => exact False.elim ty
def tBM (K : PySem.W.Frag) (T : String) (r : V → List V → Hp → VK → Prop) (to : TE) (t : TA) : TE := fun σ H Q => to σ H fun x H1 => tyV K T x H1 ∧ t σ H1 fun xs H2 => r x xs H2 Q
variable {o e : Expr} {es : List Expr} {to : TE} {t : TA} {name : Str} {apos cpos : Pos} {T id : String} {r : V → List V → Hp → VK → Prop}
theorem NF (pa : PlainAttrs T) (slot : Slot T name id) (hty : typeOf (.builtin id) = pure (.type "method_descriptor")) (hm : MtR X id r) (ho : PE X o to) (ha : PA X (e :: es) t)
  (hbase : attributeBase o name X.env (eval o X.env) = eval o X.env := by rfl)
  (hfew : ((backTo cpos (starEach (e :: es) X.env)).all (fun x => !x.1) && (backToKw cpos (keywordEach [] X.env)).all (fun x => x.1.isSome)
   && decide ((e :: es).length + ([] : List Keyword).length + (if ([] : List Keyword).isEmpty then 0 else 1) < 30)) = true := by rfl)
  (hline : (apos.endLine == cpos.line) = true := by rfl) (hs : starEach (e :: es) X.env = (false, eval e X.env) :: starEach es X.env := by rfl) (hplain : (backTo cpos (starEach es X.env)).any (·.1) = false := by rfl) :
  PE X (.Call (.Attribute o name apos) (e :: es) [] cpos) (tBM X.K T r to t) := by
 intro pins s σ H Q I h
 refine wpAny_Call_method_late hbase hfew hline rfl (thn (ho pins s σ H _ I h) fun v s1 ⟨x, H1, I1, r1, ty, q1⟩ => ?_)
 obtain ⟨h1, h2⟩ := nB I1 r1 ty
 refine ⟨T, id, pa, slot, hty, h1, h2, ?_⟩
 have hA := ha cpos pins s1 σ H1 _ I1 q1
 rw [hs] at hA ⊢
 refine Calls.callWith_builtin (by show (false || (backTo cpos (starEach es X.env)).any (·.1)) = false; rw [hplain] <;> rfl) (Calls.evalArgs_plain ?_)
 exact thn hA fun us s2 ⟨vs, H2, I2, r2, q2⟩ => hm pins s2 σ H2 x vs v us Q I2 r1 r2 q2
end
def MtM (X : Cx) (id : String) (r : V → List V → Hp → VK → Prop) : Prop :=
 ∀ (pins : List (Addr × Obj)) (s : Shared) (σ : St) (H : Hp) (x : V) (xs : List V) (v : Value) (us : List Value) (Q : VK), Inv X pins σ H s → BF x v → BH xs us → r x xs H Q →
  wpAny (model X.prog X.w) X.A (call (.builtin id) (v :: us)) (EP X pins σ Q) X.xe s
theorem BH.one : ∀ {x : V} {us : List Value}, BH [x] us → ∃ u, us = [u] ∧ BF x u
 | _, _, .cons r .nil => ⟨_, rfl, r⟩
theorem unP {α β : Type} {R : α → β → Prop} {x : α} {xs : List α} {us : List β} (h : Paired R (x :: xs) us) : ∃ u vs, us = u :: vs ∧ R x u ∧ Paired R xs vs := by
 cases h with
 | cons r h => exact ⟨_, _, rfl, r, h⟩
theorem unP0 {α β : Type} {R : α → β → Prop} {us : List β} (h : Paired R [] us) : us = [] := by
 cases h; rfl
theorem BH.two {x y : V} {us : List Value} (h : BH [x, y] us) : ∃ u v, us = [u, v] ∧ BF x u ∧ BF y v := by
 obtain ⟨u, vs, rfl, r, h⟩ := unP h
 obtain ⟨v, vs, rfl, q, h⟩ := unP h
 obtain rfl := unP0 h
 exact ⟨_, _, rfl, r, q⟩
theorem BH.reverse {xs : List V} {us : List Value} (h : BH xs us) : BH xs.reverse us.reverse := by
 induction h with
 | nil => exact .nil
 | cons r t ih => rw [List.reverse_cons, List.reverse_cons]; exact BH.append ih (.cons r .nil)
section
variable {X : Cx} {pins : List (Addr × Obj)} {σ : St} {H : Hp} {s : Shared} {l b : Addr} {xs ys zs : List V}
theorem Inv.lset {its its' : List Value} {n : Nat} {f : Array Value → Array Value} {t' : Nat} (I : Inv X pins σ H s) (hH : H l = some (.lst xs))
  (e : s.heap.get? l = some { cls := .type "list", data := .seq its.toArray n }) (hf : f its.toArray = its'.toArray) (hv : BH ys its') (hz : ys.length ≤ sizeLine) :
  Inv X pins σ (upd H l (.lst ys)) { s with heap := s.heap.update l (Obj.mapSeq f), toks := t' } := by
 have q := PySem.IsL.update e f
 rw [hf] at q
 refine I.write (x := l) (e := l) (by rw [hH]; exact trivial) (.inl rfl) (fun b' u hb hu => (Heap.get?_update_other s.heap (Obj.mapSeq f) (Ne.symm hb)).trans hu) ⟨_, q⟩ ?_
 exact ⟨hz, its', _, hv, q⟩
theorem Inv.lnew {its : List Value} {t' : Nat} (I : Inv X pins σ H s) (hv : BH ys its) (hz : ys.length ≤ sizeLine) :
  Inv X pins σ (upd H s.heap.objs.size (.lst ys)) { s with heap := s.heap.push { cls := .type "list", data := .seq its.toArray }, toks := t' } :=
 I.laid (fun _ _ q => Heap.get?_push_of_some _ q) (Nat.le_refl _) ⟨hz, its, 0, hv, Heap.get?_push_size _ rfl⟩
theorem Inv.fresh (I : Inv X pins σ H s) : H s.heap.objs.size = none := I.hok.fresh (Nat.le_refl _)
theorem Inv.lstM (I : Inv X pins σ H s) (hH : H l = some (.lst xs)) : xs.length ≤ sizeLine ∧ ∃ (its : List Value) (n : Nat), BH xs its ∧ xs.length = its.length ∧ s.heap.get? l = some { cls := .type "list", data := .seq its.toArray n } := by
 obtain ⟨z, its, n, r, e⟩ := I.hok l _ hH
 exact ⟨z, its, n, r, r.length, e⟩
end
section
variable {X : Cx}
def QO : V → List V → Hp → VK → Prop := fun x vs H Q => ∃ l xs y, x = .ref l ∧ vs = [y] ∧ H l = some (.lst xs) ∧ xs.length < sizeLine ∧ Q .non (upd H l (.lst (xs ++ [y])))
theorem JD : MtM X "list.append" QO := by
 intro pins s σ H x vs v us Q I rx rv h
 obtain ⟨l, xs, y, rfl, rfl, hH, hz, q⟩ := h
 cases rx
 obtain ⟨u, rfl, ru⟩ := rv.one
 obtain ⟨z, its, n, r, hl, e⟩ := I.lstM hH
 refine call_meets F.slot_list_append ⟨_, e, rfl⟩ F.entry_list_append (F.args_list_append_2 _ _) (PySem.list_append l its.toArray n u (by rw [List.size_toArray]; omega)) ⟨e, ?_⟩
 refine ⟨.non, _, I.lset (its' := its ++ [u]) hH e (by simp) (r.append (.cons ru .nil)) ?_, rfl, q⟩
 rw [List.length_append, List.length_singleton]
 omega
def nP : R2 := fun x y H Q => ∃ l b xs zs, x = .ref l ∧ y = .ref b ∧ H l = some (.lst xs) ∧ H b = some (.lst zs) ∧ xs.length + zs.length ≤ sizeLine ∧ ∀ p, H p = none → Q (.ref p) (upd H p (.lst (xs ++ zs)))
theorem lA : OpR X (binaryOp .Add) nP := by
 intro pins s σ H x y v u Q I rx ry h
 obtain ⟨l, b, xs, zs, rfl, rfl, hH, hB, hz, q⟩ := h
 cases rx
 cases ry
 obtain ⟨z, its, n, r, hl, e⟩ := I.lstM hH
 obtain ⟨z2, its2, n2, r2, hl2, e2⟩ := I.lstM hB
 refine PySem.P.add_list e e2 ?_ (by rw [List.size_toArray, List.size_toArray]; omega)
 have ea : its.toArray ++ its2.toArray = (its ++ its2).toArray := by simp
 rw [ea]
 exact ⟨.ref _, _, I.lnew (t' := s.toks) (r.append r2) (by rw [List.length_append]; omega), rfl, q _ I.fresh⟩
end
section
variable {prog : Program} {w : World} {A : Around} {E : Value → Shared → Prop} {s : Shared}
end
section
variable {X : Cx}
end
end L2
namespace Att
open PySem PySem.W PySem.Calls PyProof.Rows
theorem MF {P : Params} {h : Heap} : ∀ (ns : List Int) (vs : List Value), WellAll P h vs (ns.map WData.int) → IntsAre vs ns := by
 intro ns
 induction ns with
 | nil =>
  intro vs w
  rw [List.map_nil] at w
  cases w
  exact .nil
 | cons n ns ih =>
  intro vs w
  rw [List.map_cons] at w
  cases w with
  | cons a b =>
   cases a
   exact .cons _ _ (ih _ b)
theorem YY {l : OpenLaw} {n : Nat} (hn : l.most = some n) {P : Params} {h : Heap} {args : List WData} {vals : List Value}
  (hpre : l.row.toRowW.claim.pre args = true) (hwl : WellAll P h vals args) :
  ∃ a vs ns, vals = [Value.ref a] ∧ args = [WData.list (ns.map WData.int)] ∧ h.get? a = some { cls := .type "list", data := .seq vs.toArray } ∧ IntsAre vs ns ∧ ns.length ≤ n := by
 have hsh : WShape.hasAll [] args [.list .int] = true := (pre_splitW hpre).1
 have hc : l.pre.holds [] { args := args } = true := (pre_splitW hpre).2
 obtain ⟨d, r, rfl, h1, h2⟩ := hasAllW_cons hsh
 obtain rfl := hasAllW_nil h2
 obtain ⟨xs, rfl, h3⟩ := hasW_list h1
 obtain ⟨ns, rfl⟩ := items_int h3
 have hlen : ns.length ≤ n := by
  unfold OpenLaw.pre at hc
  have h4 : (WTm.not (.lt (.lit (.int (n : Int))) (.len (.arg 0)))).holds [] { args := [.list (ns.map .int)] } = true := by
   have h4 := (holds_andW hc).1
   rw [hn] at h4
   exact h4
  have h5 := condW_of h4 (w_not (w_lt w_lit (w_len_list (w_arg rfl))))
  rw [List.length_map] at h5
  refine Nat.le_of_not_lt fun q => ?_
  have q' : (n : Int) < ((ns.length : Nat) : Int) := by omega
  first
   | (rw [decide_eq_true q'] at h5; exact absurd h5 (by decide))
   | (simp at h5; omega)
 cases hwl with
 | cons w1 w2 =>
  cases w2
  cases w1 with
  | list ho hall => exact ⟨_, _, ns, rfl, rfl, ho, MF ns _ hall, hlen⟩
theorem YE (l : OpenLaw) (args : List WData) : l.row.toRowW.claim.post args (.bool true) args = true :=
 postW_of (r := l.row.toRowW) (X := (true == true))
  (show WShape.has [] (.bool true) .bool = true by first | rfl | decide | simp [WShape.has, WShape.arms, WShape.armsAll])
  (show (WTm.eq .res (.lit (.bool true))).value [] { args := args, res := some (.bool true), after := args } = some (.bool (true == true)) from w_eq_bool (w_res rfl) w_lit) rfl
theorem attach_call {l : OpenLaw} {n : Nat} {q : Program} {loose : List Str} {XP : (Str → Option Value) → Heap → Prop} {YP : World → Heap → Prop} {d : DefRec}
  (hn : l.most = some n) (hdf : d.params.defaults = [])
  (call : ∀ (w : World) (s₀ s₁ : Shared) (mg mb : Str → Option Value) (fa : Addr) (o : Obj) (pm cd doc : Value) (a : Addr) (vs : List Value) (ns : List Int),
   Ground q loose [] XP w s₀ mg mb s₁.heap → YP w s₁.heap →
   s₁.heap.get? fa = some o → o.data = .func (docDef d.name d.params d.body d.scope pm cd doc) → s₁.heap.CodeRec cd d.name → mg d.name = some (.ref fa) →
   s₁.heap.get? a = some { cls := .type "list", data := .seq vs.toArray } → IntsAre vs ns → ns.length ≤ n → s₁.gens = #[] →
   codeAny (model l.prog w) callerA (.call (.ref fa) ⟨[.ref a], []⟩) (fun r s' => r = .ok (.ret (.bool true)) ∧ OldK s₁.heap s'.heap ∧ s'.os = s₁.os ∧ AllBare s'.gens) s₁) :
  WalkO q loose XP YP l.row.toRowW d [] (fun f vs => PySem.call f vs) := by
 intro w s₀ s₁ mg mb G Y fa o pm cd doc dV kV ho hd hcd hD hmg hg args vals as hpre hlay hrd hwl hlo
 obtain rfl : dV = .none := Dflts.none hD hdf
 obtain rfl : kV = .none := Dflts.noKw hD
 obtain ⟨a, vs, ns, rfl, rfl, hobj, hints, hlen⟩ := YY hn hpre hwl
 refine enter_call (codeAny_mono (call w s₀ s₁ mg mb fa o pm cd doc a vs ns G Y ho (fd_plain hd) hcd hmg hobj hints hlen hg) fun r s' hq => ?_)
 obtain ⟨rfl, h2, h3, h4⟩ := hq
 exact ⟨.inl ⟨.bool true, .bool true, [], rfl, fun _ => rfl, .bool true, YE l _, fun _ => ⟨List.Pairwise.nil, fun _ hm => (nomatch hm)⟩⟩, h2, h3, h4⟩
section
variable {prog : Program} {w : World} {A : Around} {E : Value → Shared → Prop} {s : Shared} {K : Frag}
def ledger (h : Heap) (L d : Addr) : List (Addr × Obj) := (List.range h.objs.size).filterMap fun a => if a = L ∨ a = d then none else (h.get? a).map fun o => (a, o)
end
end Att
namespace L2
open PySem PySem.Spec PyProof.Rows
theorem PP : ∀ {vs : List Value} {ns : List Int}, IntsAre vs ns → BH (ns.map V.int) vs
 | _, _, .nil => .nil
 | _, _, .cons n t h => .cons ⟨t, rfl⟩ (PP h)
def kA (H : Hp) : Prop := ∀ b, H b = none ∨ ∃ o xs, H b = some (.frz o (.lst xs))
theorem cW {P : Program} {w : World} {K : PySem.W.Frag} {mg mb : Str → Option Value} {CX : CXT} {k : Nat} {fa a : Addr} {fd : FuncData} {x : Str} {sp : Sp} {s₁ : Shared} {vs : List Value} {ns : List Int}
  (KX : K.In s₁.heap) (hns : s₁.heap.Ns mainGlobals mg) (hb : s₁.heap.Ns builtinsNs mb) (hbb : ∀ x : Str, x ≠ "__name__" → mb x = bootBuiltins x) (hlim : s₁.heap.NoLimit) (hg : s₁.gens = #[])
  (ha : s₁.heap.get? a = some { cls := .type "list", data := .seq vs.toArray }) (hi : IntsAre vs ns) (hl : ns.length ≤ sizeLine) (hr : IC k callerA)
  (F : ∀ base : Heap, K.In base → base.Ns mainGlobals mg → CL P w K mg base CX k fa fd [x] sp) (hbind : ∀ (s : Shared) (u : Value), BindsTo s fd ⟨[u], []⟩ [(x, u)])
  (hsp : ∀ H : Hp, kA H → SqL K H a (ns.map V.int) → sp [.ref a] H (fun v _ => v = .bl true) fun _ _ _ => False)
  (hCX : ∀ H e s', CX [] H s₁ (fun _ _ _ => False) e s' → False) :
  codeAny (model P w) callerA (.call (.ref fa) ⟨[.ref a], []⟩) (fun r s' => r = .ok (.ret (.bool true)) ∧ OldK s₁.heap s'.heap ∧ s'.os = s₁.os ∧ AllBare s'.gens) s₁ := by
 have rv := PP hi
 have lenV := hi.length
 have core : ∀ H : Hp, kA H → SqL K H a (ns.map V.int) → HOk P w H s₁.heap → (∀ b, H b ≠ none → b = a) → (H a ≠ none → K.lookup a = none) →
   codeAny (model P w) callerA (.call (.ref fa) ⟨[.ref a], []⟩) (fun r s' => r = .ok (.ret (.bool true)) ∧ OldK s₁.heap s'.heap ∧ s'.os = s₁.os ∧ AllBare s'.gens) s₁ := by
  intro H hO hS hok hA hK
  have base_of : ∀ {b : Addr} {o : Obj}, s₁.heap.get? b = some o → H b = none → (QF s₁.heap H).get? b = some o := fun e n => bL e n
  have noA : ∀ {b : Addr} {o : Obj} {es : Array DictEntry} {ep : Nat}, s₁.heap.get? b = some o → o.data = .dict es ep → H b = none := fun {b o es ep} e d => by
   cases q : H b with
   | none => rfl
   | some u =>
    have e' : b = a := hA b (by rw [q]; simp)
    subst e'
    rw [ha] at e; cases e
    have d' : Data.seq vs.toArray _ = Data.dict es ep := d
    cases d'
  have nsK : ∀ {b : Addr} {m : Str → Option Value}, s₁.heap.Ns b m → (QF s₁.heap H).Ns b m := fun {b m} ⟨o, es, ep, e, d, r⟩ => ⟨o, es, ep, base_of e (noA e d), d, r⟩
  have hKb : K.In (QF s₁.heap H) := fun b o e => base_of (KX b o e) (by
   cases q : H b with
   | none => rfl
   | some u =>
    have e' : b = a := hA b (by rw [q]; simp)
    subst e'
    rw [hK (by rw [q]; simp)] at e; cases e)
  have hM : Mod K mg (QF s₁.heap H) := ⟨hKb, nsK hns, ⟨mb, nsK hb, hbb⟩, let ⟨mc, h1, h2⟩ := hlim; ⟨mc, nsK h1, h2⟩⟩
  have e0 : iE P w K mg (QF s₁.heap H) callerA [] s₁ H := ⟨rfl, hM, fun b o e => iQ e, Nat.le_of_eq (ZK _ _), trivial, fun b hb => absurd (show b ∈ ([] : List Addr) from hb) (by simp), hok, .of_eq hg⟩
  refine codeAny_mono ((F _ hKb (nsK hns)).run callerA [] s₁ H ⟨[.ref a], []⟩ [.ref a] [.ref a] _ _ hr e0 (hbind s₁ (.ref a)) (.cons rfl .nil) (hsp H hO hS)) fun r s' h => ?_
  cases r with
  | error e => exact (hCX H e s' h).elim
  | ok fl =>
   cases fl with
   | next => exact False.elim h
   | brk => exact False.elim h
   | cont => exact False.elim h
   | ret u =>
    obtain ⟨v, H', os, bare, un, hok', r', q⟩ := h
    have q' : v = .bl true := q
    subst q'
    obtain rfl : u = Value.bool true := r'
    refine ⟨rfl, OldK.of_keep fun b o e => ?_, os, bare⟩
    cases q : H b with
    | none => exact un.keep b o e q (by intro z; exact absurd (show b ∈ ([] : List Addr) from z) (by simp)) (by simp)
    | some u =>
     rcases hO b with z | ⟨ob, xs, z⟩
     ·rw [q] at z; cases z
     ·have z2 := un.frzs b ob _ z
      obtain ⟨e1, _⟩ := hok b _ z
      obtain ⟨e2, _⟩ := hok' b _ z2
      rw [e] at e1; cases e1
      exact e2
 cases hk : K.lookup a with
 | some o =>
  have e := KX a o hk
  rw [ha] at e
  cases e
  refine core (fun _ => none) (fun _ => .inl rfl) (.inr ⟨_, vs.toArray, _, hk, rfl, rfl, rfl, by rw [List.size_toArray, lenV]; exact hl, by simpa using rv⟩) (fun b u z => by have z' : (none : Option HO) = some u := z; cases z') (fun b z => absurd rfl z) fun z => absurd rfl z
 | none =>
  refine core (fun b => if b = a then some (.frz { cls := .type "list", data := .seq vs.toArray } (.lst (ns.map V.int))) else none) (fun b => ?_) (.inl (.inr ⟨{ cls := .type "list", data := .seq vs.toArray }, if_pos rfl⟩)) (fun b u z => ?_) (fun b z => ?_) fun _ => hk
  ·by_cases hb : b = a
   ·exact .inr ⟨_, _, if_pos hb⟩
   ·exact .inl (if_neg hb)
  ·by_cases hb : b = a
   ·have z' := (if_pos hb).symm.trans z
    cases z'
    subst hb
    exact ⟨ha, by rw [List.length_map]; exact hl, vs, _, rv, ha⟩
   ·have z' := (if_neg hb).symm.trans z
    cases z'
  ·by_cases hb : b = a
   ·exact hb
   ·exact absurd (if_neg hb) z
abbrev KOf {K : PySem.W.Frag} {h : Heap} (_ : K.In h) : PySem.W.Frag := K
theorem walk_of {l : PySem.W.OpenLaw} {n k : Nat} {q : Program} {loose : List Str} {XP : (Str → Option Value) → Heap → Prop} {YP : World → Heap → Prop} {d : DefRec} {K : Params → PySem.W.Frag} {CX : World → CXT} {sp : World → Sp} {x : Str}
  (hn : l.most = some n) (hn2 : n ≤ sizeLine) (hdf : d.params.defaults = []) (hr : IC k callerA)
  (hY : ∀ (w : World) (h : Heap), YP w h → (K w.params).In h)
  (F : ∀ (w : World) (mg : Str → Option Value) (fa : Addr) (h : Heap), (K w.params).In h → h.Ns mainGlobals mg → mg d.name = some (.ref fa) →
   ∃ fd : FuncData, (∀ (s : Shared) (u : Value), BindsTo s fd ⟨[u], []⟩ [(x, u)]) ∧
    ∀ base : Heap, (K w.params).In base → base.Ns mainGlobals mg → CL l.prog w (K w.params) mg base (CX w) k fa fd [x] (sp w))
  (hsp : ∀ (w : World) (H : Hp) (a : Addr) (ns : List Int), ns.length ≤ n → kA H → SqL (K w.params) H a (ns.map V.int) → sp w [.ref a] H (fun v _ => v = .bl true) fun _ _ _ => False)
  (hCX : ∀ (w : World) (H : Hp) (s : Shared) (e : Value) (s' : Shared), CX w [] H s (fun _ _ _ => False) e s' → False) :
  PySem.W.WalkO q loose XP YP l.row.toRowW d [] (fun f vs => PySem.call f vs) := by
 refine Att.attach_call hn hdf fun w s₀ s₁ mg mb fa o pm cd doc a vs ns G Y ho hd hcd hmg hobj hints hlen hg => ?_
 have KX := hY w _ Y
 obtain ⟨fd, hb, hF⟩ := F w mg fa _ KX G.T.g hmg
 exact cW KX G.T.g G.T.b G.T.builtins G.T.nolimit hg hobj hints (Nat.le_trans hlen hn2) hr hF hb (fun H hO hS => hsp w H a ns hlen hO hS) fun H e s' => hCX w H s₁ e s'
def AY (s : Stmt) : Arguments := match s with
 | .FunctionDef _ a _ _ _ _ _ _ _ _ => a
 | _ => { posonlyargs := [], args := [], vararg := none, kwonlyargs := [], kw_defaults := [], kwarg := none, defaults := [] }
def AX (s : Stmt) : List Stmt := match s with
 | .FunctionDef _ _ b _ _ _ _ _ _ _ => b
 | _ => []
def AF (s : Stmt) : Scope := match s with
 | .FunctionDef _ _ _ _ _ _ sc _ _ _ => sc
 | _ => { kind := .function, names := [], isGenerator := false, isCoroutine := false }
abbrev CX0 : CXT := fun _ _ _ _ _ _ => False
abbrev E0 : XK := fun _ _ _ => False
theorem AR {X : Cx} : UM CX0 X E0 := fun _ _ _ _ _ _ _ h => h.elim
structure Fun (K : PySem.W.Frag) (x qual : Str) (st : Stmt) (f : Addr) (fd : FuncData) : Prop where
 ex : ∃ (oc : Value) (od : Option Addr) (kV doc pm : Value) (an : Option Addr) (cdv ct : Value) (osl : Array (Option Value)),
  fd = PySem.W.fnOf x qual (AY st) (AX st) (AF st) .none kV doc pm an cdv ct ∧ K.lookup f = some ⟨oc, od, .func fd, osl⟩ ∧ PySem.W.codeIn K cdv qual = true
 kp : PySem.W.keepIn K (.ref f) = true
section
variable {P : Program} {w : World} {K : PySem.W.Frag} {mg : Str → Option Value} {base : Heap}
theorem Fun.ok {x qual : Str} {st : Stmt} {f : Addr} {fd : FuncData} {N ps : List Str} {k : Nat} {sp : Sp} (F : Fun K x qual st f fd) (S : BA N ps (AF st)) (len : ∀ vs H Q E, sp vs H Q E → vs.length = ps.length)
  (hbody : ∀ (cdv : Value) (A : Around) (outer : List Env) (s : Shared) (H : Hp) (vs : List V) (Q : VK) (E : XK), IC k (A.deeper (envOfC qual (AF st) s.heap.objs.size f cdv)) → sp vs H Q E →
   ∃ t, PSs (UZ CX0 P w K mg base N qual (AF st) f cdv A outer s H E).nox (AX st) t ∧ t { nx := fun _ H' => Q .non H', rt := Q } (start N vs) H) : CL P w K mg base CX0 (k + 1) f fd ps sp := by
 obtain ⟨oc, od, kV, doc, pm, an, cdv, ct, osl, rfl, lk, hcd⟩ := F.ex
 refine qB lk hcd S len fun A outer s H vs Q E hr hsp => ?_
 obtain ⟨t, h, q⟩ := hbody cdv A outer s H vs Q E hr hsp
 exact ⟨t, h.nox, q⟩
theorem Fun.binds {x qual : Str} {st : Stmt} {f : Addr} {fd : FuncData} {ps : List Str} (F : Fun K x qual st f fd)
  (h : ∀ (kV doc pm : Value) (an : Option Addr) (cdv ct : Value) (us : List Value), us.length = ps.length → bindArgs (PySem.W.fnOf x qual (AY st) (AX st) (AF st) .none kV doc pm an cdv ct) ⟨us, []⟩ = pure (ps.zip us)) : ME K fd ps [] := by
 obtain ⟨oc, od, kV, doc, pm, an, cdv, ct, osl, rfl, lk, hcd⟩ := F.ex
 exact .all (h kV doc pm an cdv ct)
theorem BN {x qual : Str} {st : Stmt} {f : Addr} {oc : Value} {od an : Option Addr} {osl : Array (Option Value)} {kV doc pm cdv ct : Value} (l : K.lookup f = some ⟨oc, od, .func (PySem.W.fnOf x qual (AY st) (AX st) (AF st) .none kV doc pm an cdv ct), osl⟩)
  (c : PySem.W.codeIn K cdv qual = true) (k : PySem.W.keepIn K (.ref f) = true) : Fun K x qual st f (PySem.W.fnOf x qual (AY st) (AX st) (AF st) .none kV doc pm an cdv ct) := ⟨⟨oc, od, kV, doc, pm, an, cdv, ct, osl, rfl, l, c⟩, k⟩
end
theorem BQ {n : Nat} (h : n ≤ 1000) : n < sizeLine := Nat.lt_of_le_of_lt h (by decide)
section
variable {X : Cx}
theorem pv (i : Nat) {x : Str} {pos : Pos} (hN : X.N[i]? = some x := by rfl) (hv : Vis X.env.scope x := by first | exact Or.inl rfl | exact Or.inr (Or.inl rfl) | exact Or.inr (Or.inr rfl)) (hd : (x == ("__debug__" : Str)) = false := by decide)
  (hcd : (x == ("__classdict__" : Str)) = false := by decide) : PE X (.Name x pos) (fR i) := mK hN hv hd hcd
end
def AJ (H H' : Hp) : Prop := ∀ b o, H b = some o → H' b = some o
theorem AJ.refl (H : Hp) : AJ H H := fun _ _ h => h
theorem AJ.trans {H H1 H2 : Hp} (a : AJ H H1) (b : AJ H1 H2) : AJ H H2 := fun c o h => b c o (a c o h)
theorem AJ.free {H H' : Hp} (e : AJ H H') {l : Addr} (h : H' l = Option.none) : H l = Option.none := by
 cases q : H l with
 | none => rfl
 | some o =>
  rw [e l o q] at h
  cases h
theorem AJ.seq {K : PySem.W.Frag} {H H' : Hp} {a : Addr} {xs : List V} (e : AJ H H') (h : SqL K H a xs) : SqL K H' a xs := by
 rcases h with (h | ⟨o, h⟩) | h
 ·exact .inl (.inl (e _ _ h))
 ·exact .inl (.inr ⟨o, e _ _ h⟩)
 ·exact .inr h
theorem OX {prog : Program} {w : World} {A : Around} {R : Result → Shared → Prop} {s : Shared} {elt target iter : Expr} {ifs : List Expr} {scope : Scope} {pos : Pos} {it acc : Value} {env : Env} (I : Nat → Shared → Prop)
  (turn : ∀ n s, I n s → wpAny (model prog w) A (pyNext it) (fun r s₁ => match r with
   | none => R (.ok .next) s₁
   | some v => wpAny (model prog w) A (letOwnedTupleGo target it v) (fun _ s₁' => wpAny (model prog w) A (assign target env v) (fun _ s₂ =>
     wpAny (model prog w) A (forIn ifs true fun c r => if r = true then do let ok ← isTrue c env (eval c env); pure (ForInStep.yield ok) else pure (ForInStep.yield r)) (fun ok s₃ =>
      if ok = true then wpAny (model prog w) A (eval elt env) (fun x s₄ =>
       wpAny (model prog w) A (call (.builtin "list.append") [acc, x]) (fun _ s₅ => ∃ m, m < n ∧ I m s₅) (fun _ _ => False) s₄) (fun _ _ => False) s₃
      else ∃ m, m < n ∧ I m s₃) (fun _ _ => False) s₂) (fun _ _ => False) s₁') (fun _ _ => False) s₁) (fun _ _ => False) s)
  (n : Nat) (h : I n s) :
  codeAny (model prog w) A (.compLoop (.ListComp elt [⟨target, iter, ifs, 0⟩] scope pos) 0 it acc env) R s := by
 refine codeAny_loop rfl I (fun n s hI => ?_) n h
 show wpAny _ A ((compTurn (.ListComp elt [⟨target, iter, ifs, 0⟩] scope pos) 0 it acc env).onRaise (fun x => do noteFrame x env; theTreesLotGoes x)) _ _ s
 refine wpAny_noted ?_
 rw [compTurn_list]
 refine wpAny_bind (wpAny_standAt (wpAny_bind (wpAny_mono (turn n s hI) (fun r s₁ h₁ => ?_) fun _ _ z => False.elim z)))
 cases r with
 | none => exact wpAny_pure h₁
 | some v =>
  refine wpAny_bind (wpAny_mono h₁ (fun _ s₁' h₁' => ?_) fun _ _ z => False.elim z)
  refine wpAny_bind (wpAny_mono h₁' (fun _ s₂ h₂ => wpAny_bind (wpAny_mono h₂ (fun ok s₃ h₃ => ?_) fun _ _ z => False.elim z)) fun _ _ z => False.elim z)
  cases ok with
  | false => exact wpAny_pure ⟨rfl, h₃⟩
  | true =>
   exact wpAny_bind (wpAny_bind (wpAny_mono h₃ (fun x s₄ h₄ => wpAny_bind (wpAny_mono h₄ (fun _ s₅ h₅ => wpAny_pure (wpAny_pure ⟨rfl, h₅⟩)) fun _ _ z => False.elim z)) fun _ _ z => False.elim z))
def DZ (cells : List (Str × Addr)) : List (Str × NameKind) → List (Str × Addr) → List (Str × Addr)
 | [], acc => acc
 | (n, k) :: r, acc => if k == .free then DZ cells r ((n, (cells.lookup n).getD 0) :: acc) else DZ cells r acc
theorem QV {env : Env} : ∀ (names : List (Str × NameKind)) (acc : List (Str × Addr)), (∀ y ∈ names, y.2 = .free → ∃ c, env.cells.lookup y.1 = some c) →
  (forIn names acc fun x r => if (x.snd == NameKind.free) = true then do let a ← cellOf env x.fst; pure (ForInStep.yield ((x.fst, a) :: r)) else pure (ForInStep.yield r)) = (pure (DZ env.cells names acc) : Sem _)
 | [], acc, _ => rfl
 | (n, k) :: r, acc, h => by
  rw [List.forIn_cons]
  have hr : ∀ y ∈ r, y.2 = .free → ∃ c, env.cells.lookup y.1 = some c := fun y hy => h y (List.mem_cons_of_mem _ hy)
  by_cases hk : k = .free
  ·subst hk
   obtain ⟨c, hc⟩ := h (n, .free) List.mem_cons_self rfl
   have ih := QV r ((n, c) :: acc) hr
   simp only [DZ, beq_self_eq_true, if_true, cellOf, hc, Option.getD_some, pure_bind]
   exact ih
  ·have hb : (k == NameKind.free) = false := by simpa using hk
   have ih := QV r acc hr
   simp only [DZ, hb, Bool.false_eq_true, if_false, pure_bind]
   exact ih
theorem MP {scope : Scope} {env : Env} (h : ∀ y ∈ scope.names, y.2 = .free → ∃ c, env.cells.lookup y.1 = some c) : closureFor scope env = pure (DZ env.cells scope.names []) := by
 have e := QV (env := env) scope.names [] h
 simp only [closureFor]
 rw [e]
 rfl
theorem FS {cells : List (Str × Addr)} : ∀ (names : List (Str × NameKind)) (acc : List (Str × Addr)), (∀ y ∈ names, y.2 = .free → ∃ c, cells.lookup y.1 = some c) → (∀ y c, acc.lookup y = some c → cells.lookup y = some c) →
  ∀ y c, (DZ cells names acc).lookup y = some c → cells.lookup y = some c
 | [], acc, _, ha, y, c, e => ha y c e
 | (n, k) :: r, acc, h, ha, y, c, e => by
  have hr : ∀ y ∈ r, y.2 = .free → ∃ c, cells.lookup y.1 = some c := fun y hy => h y (List.mem_cons_of_mem _ hy)
  by_cases hk : k = .free
  ·subst hk
   obtain ⟨d, hd⟩ := h (n, .free) List.mem_cons_self rfl
   simp only [DZ, beq_self_eq_true, if_true] at e
   refine FS r _ hr (fun z b q => ?_) y c e
   rw [List.lookup_cons] at q
   cases hz : z == n with
   | true =>
    rw [hz] at q
    have : z = n := by simpa using hz
    subst this
    rw [hd] at q ⊢
    exact q
   | false => rw [hz] at q; exact ha z b q
  ·have hb : (k == NameKind.free) = false := by simpa using hk
   simp only [DZ, hb, Bool.false_eq_true, if_false] at e
   exact FS r acc hr ha y c e
theorem OK {cells : List (Str × Addr)} : ∀ (names : List (Str × NameKind)) (acc : List (Str × Addr)) (y : Str), (∃ c, acc.lookup y = some c) → ∃ c, (DZ cells names acc).lookup y = some c
 | [], acc, y, h => h
 | (n, k) :: r, acc, y, h => by
  by_cases hk : (k == NameKind.free) = true
  ·simp only [DZ, hk, if_true]
   refine OK r _ y ?_
   rw [List.lookup_cons]
   cases hz : y == n with
   | true => exact ⟨_, rfl⟩
   | false => exact h
  ·simp only [DZ, hk, if_false]
   exact OK r acc y h
theorem OH {cells : List (Str × Addr)} : ∀ (names : List (Str × NameKind)) (acc : List (Str × Addr)) (y : Str), (y, NameKind.free) ∈ names → ∃ c, (DZ cells names acc).lookup y = some c
 | (n, k) :: r, acc, y, h => by
  rcases List.mem_cons.mp h with e | h
  ·cases e
   simp only [DZ, beq_self_eq_true, if_true]
   refine OK r _ _ ?_
   rw [List.lookup_cons]
   simp
  ·by_cases hk : (k == NameKind.free) = true
   ·simp only [DZ, hk, if_true]
    exact OH r _ y h
   ·simp only [DZ, hk, if_false]
    exact OH r _ y h
theorem FZ {β : Type} : ∀ {l : List (Str × β)} {y : Str} {b : β}, l.lookup y = some b → (y, b) ∈ l
 | [], _, _, e => by cases e
 | (n, k) :: r, y, b, e => by
  rw [List.lookup_cons] at e
  cases hz : y == n with
  | true =>
   rw [hz] at e
   have : y = n := by simpa using hz
   subst this
   cases e
   exact List.mem_cons_self
  | false => rw [hz] at e; exact List.mem_cons_of_mem _ (FZ e)
theorem QM {scope : Scope} {env : Env} {y : Str} (hc : ∀ z ∈ scope.names, z.2 ≠ .cell) (h : (relabel scope env).names.lookup y = some .cell ∨ (relabel scope env).names.lookup y = some .free) : (y, NameKind.free) ∈ scope.names := by
 have key : ∀ k, (relabel scope env).names.lookup y = some k → (k = .cell ∨ k = .free) → (y, NameKind.free) ∈ scope.names := fun k e hk => by
  have m := FZ e
  obtain ⟨⟨n, k0⟩, hm, e0⟩ := List.mem_map.mp m
  dsimp only at e0
  split at e0
  ·rename_i hh
   cases e0
   have : k0 = .free := by
    simp only [Bool.and_eq_true, beq_iff_eq] at hh
    exact hh.1.1
   subst this
   exact hm
  ·cases e0
   rcases hk with rfl | rfl
   ·exact absurd rfl (hc _ hm)
   ·exact hm
 rcases h with h | h
 ·exact key _ h (.inl rfl)
 ·exact key _ h (.inr rfl)
theorem LZ {env : Env} : ∀ {names : List (Str × NameKind)} {y : Str}, names.lookup y = some .free →
  (names.map fun (n, k) => if (k == NameKind.free && env.scope.kind == .function && env.kindOf n == some .cell) then (n, NameKind.cell) else (n, k)).lookup y = some .cell ∨
  (names.map fun (n, k) => if (k == NameKind.free && env.scope.kind == .function && env.kindOf n == some .cell) then (n, NameKind.cell) else (n, k)).lookup y = some .free
 | [], _, h => by simp at h
 | (n, k) :: r, y, h => by
  have ih := @LZ env r y
  simp only [List.map_cons]
  cases hx : y == n with
  | true =>
   simp only [List.lookup_cons, hx] at h
   cases h
   by_cases hc : (NameKind.free == NameKind.free && env.scope.kind == .function && env.kindOf n == some .cell) = true
   ·rw [if_pos hc]; left; simp only [List.lookup_cons, hx]
   ·rw [if_neg hc]; right; simp only [List.lookup_cons, hx]
  | false =>
   simp only [List.lookup_cons, hx] at h
   by_cases hc : (k == NameKind.free && env.scope.kind == .function && env.kindOf n == some .cell) = true
   ·rw [if_pos hc]; simp only [List.lookup_cons, hx]; exact ih h
   ·rw [if_neg hc]; simp only [List.lookup_cons, hx]; exact ih h
def cxC (X : Cx) (scope : Scope) (cl : List (Str × Addr)) (N : List Str) (s₃ : Shared) (H₃ : Hp) (fp : List Addr) : Cx where
 prog := X.prog
 w := X.w
 K := X.K
 mg := X.mg
 base := X.base
 A := X.A
 N := N
 s₀ := s₃
 H₀ := H₃
 env := compEnvC scope cl s₃.heap.objs.size X.env
 outer := X.stack
 stack := X.stack
 ex := fp
 fn := fun _ => false
 calm := true
 pn := []
 xe := fun _ _ => False
structure OC (scope sc : Scope) (N0 : List Str) (js : List Nat) (os N : List Str) : Prop where
 kind : scope.kind = .function
 cell : ∀ y ∈ scope.names, y.2 ≠ .cell
 names : ∀ y ∈ scope.names, y.2 = .local → scope.names.lookup y.1 = some .local
 free : ∀ y ∈ scope.names, y.2 = .free → (sc.names.lookup y.1 = some .cell ∨ sc.names.lookup y.1 = some .free)
 slots : ∀ j ∈ js, ((N0[j]?).bind fun y => scope.names.lookup y) = some .free
 eq : N.map some = js.map (N0[·]?) ++ os.map some
def stC (js : List Nat) (os : List Str) (σ : St) : St := js.map (fun j => (σ[j]?).join) ++ List.replicate os.length none
def YX (X : Cx) (ifs : List Expr) (t : TT) : Prop :=
 ∀ (pins : List (Addr × Obj)) (s : Shared) (σ : St) (H : Hp) (Q : Bool → Hp → Prop), Inv X pins σ H s → t σ H Q →
  wpAny (model X.prog X.w) X.A (forIn ifs true fun c r => if r = true then do let ok ← isTrue c X.env (eval c X.env); pure (ForInStep.yield ok) else pure (ForInStep.yield r)) (TP X pins σ Q) X.xe s
def gU : TT := fun _ H Q => Q true H
theorem NQ {X : Cx} : YX X [] gU := fun _ _ _ H _ I h => wpAny_pure ⟨H, I, h⟩
theorem SL {X : Cx} {c : Expr} {t : TT} (h : PT X c t) : YX X [c] t := fun pins s σ H Q I q => by
 simp only [List.forIn_cons, List.forIn_nil, if_true]
 exact wpAny_bind (wpAny_bind (wpAny_mono (h pins s σ H Q I q) (fun b s' hb => wpAny_pure (wpAny_pure hb)) fun _ _ x => x))
def bX (js : List Nat) (os : List Str) (wi : TI) (g : TG) (tt : TT) (te : TE) : TE := fun σ H Q => wi σ H fun J H1 => ∀ p, H1 p = none →
 ∃ W : Nat → Nat → St → Hp → Prop, (∃ m, W 0 m (stC js os σ) (upd H1 p (.lst []))) ∧ ∀ i m σ H, W i m σ H →
  (J.stop i H ∧ Q (.ref p) H) ∨ (J.go i H ∧ ∀ x H', J.yld i H x H' → g x σ H' fun σ2 H2 => tt σ2 H2 fun b H3 =>
   if b = true then te σ2 H3 fun y H4 => ∃ ys, H4 p = some (.lst ys) ∧ ys.length < sizeLine ∧ ∃ m', m' < m ∧ W (i + 1) m' σ2 (upd H4 p (.lst (ys ++ [y])))
   else ∃ m', m' < m ∧ W (i + 1) m' σ2 H3)
section
variable {X : Cx}
theorem KN {scope sc : Scope} {N0 N os : List Str} {js fp : List Nat} {pins : List (Addr × Obj)} {σ : St} {H₃ : Hp} {s₃ : Shared} {h' : Heap} {t' : Nat} {m : Str → Option Value}
  (hc : X.calm = true) (hsc : X.env.scope = sc) (hN : X.N = N0) (ok : OC scope sc N0 js os N) (I : Inv X pins σ H₃ s₃) (hf : ∀ b ∈ fp, HZ X pins H₃ b) (hfs : ∀ b ∈ fp, b < s₃.heap.objs.size)
  (hns : h'.Ns s₃.heap.objs.size m) (hk : ∀ b o, s₃.heap.get? b = some o → h'.get? b = some o) :
  Inv (cxC X scope (DZ X.env.cells scope.names []) N s₃ H₃ fp) [] (stC js os σ) H₃ { s₃ with heap := h', toks := t' } := by
 have hfree : ∀ y ∈ scope.names, y.2 = .free → ∃ c, X.env.cells.lookup y.1 = some c := fun y hy e => I.ok.has _ (by
  have := ok.free y hy e
  rw [← hsc] at this
  exact this)
 have sub := FS (cells := X.env.cells) scope.names [] hfree (fun _ _ e => by cases e)
 have has : ∀ y, (y, NameKind.free) ∈ scope.names → ∃ c, (DZ X.env.cells scope.names []).lookup y = some c := fun y hy => OH scope.names [] y hy
 refine ⟨⟨I.ok.mod, ok.kind, I.ok.glob, I.ok.blt, Nat.le_refl _, fun x y c e1 e2 => I.ok.inj x y c (sub _ _ e1) (sub _ _ e2), fun x e => has x (QM ok.cell e), (fun _ _ e => by cases e), (fun _ => I.ok.hd hc), I.ok.frames, .inl rfl, ?_, ?_, ?_, ?_, ?_, I.stack, I.stkFree⟩,
  rfl, I.bare, Un.kept hk, ⟨m, hns, ?_⟩, ?_, I.hok.fresh (Nat.le_refl _), ?_, ?_, I.hok.kept hk, ?_⟩
 ·exact fun b hb => ⟨Nat.ne_of_lt (hfs b hb), fun x c e => (hf b hb).2.2.2.2.1 x c (sub _ _ e)⟩
 ·exact I.bs
 ·exact Nat.le_trans I.ok.bsz I.sz
 ·intro b o e hb
  rcases (hf b hb).2.2.2.1 with z | z
  ·exact I.ok.noex b o e z
  ·exact absurd (Nat.lt_of_lt_of_le (Heap.lt_size e) (Nat.le_trans I.ok.bsz z)) (Nat.lt_irrefl _)
 ·intro b hb z
  rcases List.mem_cons.mp (I.stkSub b z) with e | e
  ·exact (hf b hb).2.1 e
  ·exact (hf b hb).2.2.1 e
 ·intro i x v e1 e2 e3
  have hl : i < js.length := by
   apply Classical.byContradiction
   intro hh
   have e2' : (stC js os σ)[i]? = some (some v) := e2
   unfold stC at e2'
   rw [List.getElem?_append_right (by simpa using Nat.le_of_not_lt hh)] at e2'
   rw [List.getElem?_replicate] at e2'
   split at e2' <;> cases e2'
  have ej : js[i]? = some js[i] := List.getElem?_eq_getElem hl
  have e2' : (stC js os σ)[i]? = some (some v) := e2
  unfold stC at e2'
  rw [List.getElem?_append_left (by simpa using hl), List.getElem?_map, ej] at e2'
  have e2'' : (σ[js[i]]?).join = some v := Option.some.inj e2'
  have e1' : N[i]? = some x := e1
  have en : N0[js[i]]? = some x := by
   have q : (N.map some)[i]? = some (some x) := by rw [List.getElem?_map, e1']; rfl
   rw [ok.eq, List.getElem?_append_left (by simpa using hl), List.getElem?_map, ej] at q
   exact Option.some.inj q
  have hfr := ok.slots _ (List.getElem_mem hl)
  rw [en] at hfr
  replace hfr : scope.names.lookup x = some .free := hfr
  have eσ : σ[js[i]]? = some (some v) := by
   cases q : σ[js[i]]? with
   | none => rw [q] at e2''; cases e2''
   | some o => rw [q] at e2''; exact congrArg some e2''
  have kk := ok.free (x, .free) (FZ hfr) rfl
  obtain ⟨m0, hn0, hl0⟩ := I.loc
  obtain ⟨u, r, l⟩ := hl0 js[i] x v (by rw [hN]; exact en) eσ (by rw [hsc]; exact .inr kk)
  refine ⟨u, r, .inr ⟨LZ hfr, ?_⟩⟩
  rcases l with ⟨k, _⟩ | ⟨k, c, e, z⟩
  ·have k' : sc.names.lookup x = some .local := by rw [← hsc]; exact k
   rcases kk with q | q <;> (dsimp only at q; rw [q] at k'; cases k')
  ·obtain ⟨c', hc'⟩ := has x (FZ hfr)
   have := sub _ _ hc'
   rw [e] at this; cases this
   exact ⟨c, hc', z.keeps hk⟩
 ·intro x c e
  obtain ⟨v, z⟩ := I.cell x c (sub _ _ e)
  exact ⟨v, z.keeps hk⟩
 ·exact fun x c e => I.freeC x c (sub _ _ e)
 ·intro p hp
  cases hp
 ·show (stC js os σ).length = N.length
  have := congrArg List.length ok.eq
  simp at this
  simp [stC, this]
theorem MJ {elt iter tg : Expr} {ifs : List Expr} {scope sc : Scope} {pos : Pos} {wi : TI} {g : TG} {tt : TT} {te : TE} {N0 N os : List Str} {js : List Nat}
  (hc : X.calm = true) (hsc : X.env.scope = sc) (hN : X.N = N0) (ok : OC scope sc N0 js os N) (hi : PI X tg iter wi)
  (hg : ∀ s₃ H₃ fp cl, PG (cxC X scope cl N s₃ H₃ fp) tg g) (ht : ∀ s₃ H₃ fp cl, YX (cxC X scope cl N s₃ H₃ fp) ifs tt) (he : ∀ s₃ H₃ fp cl, PE (cxC X scope cl N s₃ H₃ fp) elt te)
  (hs : ∀ x, foldedSetIterable iter X.env x = pure x := by intro _; rfl) :
  PE X (.ListComp elt [⟨tg, iter, ifs, 0⟩] scope pos) (bX js os wi g tt te) := by
 intro pins s σ H Q I h
 rw [eval_ListComp]
 have hfree : ∀ y ∈ scope.names, y.2 = .free → ∃ c, X.env.cells.lookup y.1 = some c := fun y hy e => I.ok.has _ (by
  have := ok.free y hy e
  rw [← hsc] at this
  exact this)
 refine wpAny_comprehension_free (use := none) rfl hs (MP hfree) ok.kind ok.names (thn (hi pins s σ H _ I h) fun v s1 h1 => thn h1 fun itv s2 h2 => ?_)
 obtain ⟨it, fp, tn, J, H1, e, I2, T, st2, f2, hW⟩ := h2
 subst e
 refine wpAny_newObj_type (wpAny_newFunctionEnv ok.cell (by intro y hy; simp at hy) (fun h₁ hns₁ hsb₁ => ?_) ok.kind)
 dsimp only at hns₁ hsb₁ ⊢
 have hfr : H1 s2.heap.objs.size = none := I2.fresh
 have I3 := I2.lnew (ys := []) (its := []) (t' := s2.toks) .nil (Nat.zero_le _)
 generalize hs3 : ({ s2 with heap := s2.heap.push { cls := .type "list", data := .seq ([] : List Value).toArray }, toks := s2.toks } : Shared) = s₃ at I3
 have eh : s2.heap.push { cls := .type "list", dict := none, data := .seq ([] : List Value).toArray } = s₃.heap := by rw [← hs3]
 rw [eh] at hns₁ hsb₁ ⊢
 have k23 : ∀ b o, s2.heap.get? b = some o → s₃.heap.get? b = some o := fun b o q => by rw [← eh]; exact Heap.get?_push_of_some _ q
 have lt2 : ∀ b ∈ fp, b < s2.heap.objs.size := fun b hb => by
  obtain ⟨o, q, _⟩ := T.obj _ _ st2 b hb
  exact Heap.lt_size q
 have sz3 : s2.heap.objs.size ≤ s₃.heap.objs.size := by rw [← eh, Heap.size_push]; exact Nat.le_succ _
 have f3 : ∀ b ∈ fp, HZ X pins (upd H1 s2.heap.objs.size (.lst [])) b := fun b hb => ⟨by rw [BM (Nat.ne_of_lt (lt2 b hb))]; exact (f2 b hb).1, (f2 b hb).2⟩
 have k34 : ∀ b o, s₃.heap.get? b = some o → h₁.get? b = some o := fun b o q => hsb₁.extBut b o (Nat.ne_of_lt (Heap.lt_size q)) (Heap.get?_push_of_some _ q)
 have I4 := KN (t' := s₃.toks) hc hsc hN ok I3 f3 (fun b hb => Nat.lt_of_lt_of_le (lt2 b hb) sz3) hns₁ k34
 generalize hX' : cxC X scope (DZ X.env.cells scope.names []) N s₃ (upd H1 s2.heap.objs.size (.lst [])) fp = X' at I4
 obtain ⟨W, ⟨m0, w0⟩, turn⟩ := hW _ hfr
 have st4 : tn 0 h₁ := T.keep _ _ _ st2 fun b hb o q => k34 b o (k23 b o q)
 have stat : ∀ {H' : Hp}, (∀ b ∈ fp, H' b = none) → ∀ b ∈ fp, HZ X' [] H' b := fun {H'} hn b hb => by
  subst hX'
  refine ⟨hn b hb, Nat.ne_of_lt (Nat.lt_of_lt_of_le (lt2 b hb) sz3), fun z => ?_, .inl hb, fun x c e => ?_, fun p hp => by cases hp⟩
  ·rcases List.mem_cons.mp (I2.stkSub b z) with q | q
   ·exact (f2 b hb).2.1 q
   ·exact (f2 b hb).2.2.1 q
  ·exact (f2 b hb).2.2.2.2.1 x c (FS (cells := X.env.cells) scope.names [] hfree (fun _ _ e => by cases e) _ _ e)
 have ePr : X'.prog = X.prog := by subst hX'; rfl
 have eW : X'.w = X.w := by subst hX'; rfl
 have eK : X'.K = X.K := by subst hX'; rfl
 have eA : X'.A = X.A := by subst hX'; rfl
 have eE : X'.env = compEnvC scope (DZ X.env.cells scope.names []) s₃.heap.objs.size X.env := by subst hX'; rfl
 have eC : X'.calm = true := by subst hX'; rfl
 have eX : X'.xe = fun _ _ => False := by subst hX'; rfl
 have hg' : PG X' tg g := by subst hX'; exact hg _ _ _ _
 have ht' : YX X' ifs tt := by subst hX'; exact ht _ _ _ _
 have he' : PE X' elt te := by subst hX'; exact he _ _ _ _
 have fin : ∀ {σ' : St} {H' : Hp} {s' : Shared}, Inv X' [] σ' H' s' → (∀ b ∈ fp, H' b = none) → Q (.ref s2.heap.objs.size) H' → compPost (model X.prog X.w) X.A X.xe none (EP X pins σ Q) (.ref s2.heap.objs.size) s₃.heap.objs.size (.ok .next) s' := by
  intro σ' H' s' I' hn q
  obtain ⟨m, hm, _⟩ := id I'.loc
  subst hX'
  refine ⟨m, hm, fun h'' sb => ⟨.ref s2.heap.objs.size, H', ?_, rfl, q⟩⟩
  have fC : H' s₃.heap.objs.size = none := I'.free
  have hok' : HOk X.prog X.w H' h'' := fun b ob e => by
   refine (I'.hok b ob e).stay (fun c w' hc' q' => (sb.2 c ?_).trans q') (fun _ q' => q') fun _ _ q' => q'
   rintro rfl
   rcases hc' with z | z
   ·have e' := e; rw [← z] at e'; rw [fC] at e'; cases e'
   ·rw [fC] at z; cases z
  have u1 : Un (frs X.stack) fp (upd H1 s2.heap.objs.size (.lst [])) H' s₃.heap h'' := by
   have b0 := I'.base
   have ne : ∀ b o, s₃.heap.get? b = some o → b ≠ s₃.heap.objs.size := fun b o e => Nat.ne_of_lt (Heap.lt_size e)
   exact ⟨fun b o e n hb hx => (sb.2 b (ne b o e)).trans (b0.keep b o e n hb hx), fun b o e n hb hx => by
     obtain ⟨sl, z⟩ := b0.slot b o e n hb hx
     exact ⟨sl, (sb.2 b (ne b o e)).trans z⟩, b0.free, fun b o e hx => by
     obtain ⟨o', z⟩ := b0.there b o e hx
     exact ⟨o', (sb.2 b (ne b o e)).trans z⟩, b0.tups, b0.frzs, b0.tbls⟩
  exact I3.call' (s' := { s' with heap := h'' }) (ch := fp) I'.os u1 hok' I'.bare fun b hb => ⟨(f2 b hb).2.2.2.1, (f2 b hb).2.1, (f2 b hb).2.2.2.2.1, (f2 b hb).2.2.2.2.2⟩
 have loop : codeAny (model X.prog X.w) X.A (.compLoop (.ListComp elt [⟨tg, iter, ifs, 0⟩] scope pos) 0 (.ref it) (.ref s2.heap.objs.size) (compEnvC scope (DZ X.env.cells scope.names []) s₃.heap.objs.size X.env))
   (compPost (model X.prog X.w) X.A X.xe none (EP X pins σ Q) (.ref s2.heap.objs.size) s₃.heap.objs.size) { s₃ with heap := h₁, toks := s₃.toks } := by
  refine OX (fun n s' => ∃ i σ' H', Inv X' [] σ' H' s' ∧ tn i s'.heap ∧ (∀ b ∈ fp, H' b = none) ∧ W i n σ' H') ?_ m0 ⟨0, _, _, I4, st4, fun b hb => (f3 b hb).1, w0⟩
  rintro n s5 ⟨i, σ5, H5, I5, st5, fr5, w5⟩
  rw [← ePr, ← eW, ← eA, ← eE]
  rcases turn i n σ5 H5 w5 with ⟨stop, qn⟩ | ⟨go, step⟩
  ·have := T.done X' ePr eW eK eC i [] s5 σ5 H5 X'.xe I5 (stat fr5) st5 stop
   rw [eX] at this
   rw [← ePr, ← eW] at this
   refine thn this fun r s6 ⟨hr, I6⟩ => ?_
   subst hr
   dsimp only
   rw [ePr, eW, eA]
   exact fin I6 fr5 qn
  ·have := T.item X' ePr eW eK eC i [] s5 σ5 H5 X'.xe I5 (stat fr5) st5 go
   rw [eX] at this
   rw [← ePr, ← eW] at this
   refine thn this fun r s6 ⟨u, hr, h6⟩ => ?_
   subst hr
   dsimp only
   refine thn h6 fun _ s7 ⟨x, H7, I7, r7, y7, st7, fr7⟩ => ?_
   have I7' := I7.pinned (stat fr7) (T.obj _ _ st7)
   have g7 := hg' _ s7 σ5 H7 x u _ I7' r7 (step x H7 y7)
   rw [eX] at g7
   refine thn g7 fun _ s8 ⟨σ8, H8, I8, q8⟩ => ?_
   have t8 := ht' _ s8 σ8 H8 _ I8 q8
   rw [eX] at t8
   have again : ∀ {σ9 : St} {H9 : Hp} {s9 : Shared}, Inv X' ([] ++ FG fp s7.heap) σ9 H9 s9 → tn (i + 1) s9.heap ∧ ∀ b ∈ fp, H9 b = none := fun {σ9 H9 s9} I9 => by
    refine ⟨T.keep _ _ _ st7 fun b hb o e => (I9.pin (b, o) (List.mem_append_right _ (List.mem_append_right _ (CH hb e)))).1, fun b hb => ?_⟩
    obtain ⟨o, e, d⟩ := T.obj _ _ st7 b hb
    exact (I9.pin (b, o) (List.mem_append_right _ (List.mem_append_right _ (CH hb e)))).2.1
   refine thn t8 fun b s9 ⟨H9, I9, q9⟩ => ?_
   cases b with
   | false =>
    rw [if_neg Bool.false_ne_true] at q9 ⊢
    obtain ⟨m', hm, w9⟩ := q9
    exact ⟨m', hm, i + 1, σ8, H9, I9.unpinned, (again I9).1, (again I9).2, w9⟩
   | true =>
    rw [if_pos rfl] at q9 ⊢
    have e9 := he' _ s9 σ8 H9 _ I9 q9
    rw [eX] at e9
    refine thn e9 fun y s10 ⟨z, H10, I10, r10, ys, hy, hlen, m', hm, w10⟩ => ?_
    have a10 := JD (X := X') _ s10 σ8 H10 (.ref s2.heap.objs.size) [z] _ _ (fun _ H11 => H11 = upd H10 s2.heap.objs.size (.lst (ys ++ [z]))) I10 rfl (.cons r10 .nil) ⟨_, ys, z, rfl, rfl, hy, hlen, rfl⟩
    rw [eX] at a10
    refine thn a10 fun _ s11 ⟨_, H11, I11, _, e11⟩ => ?_
    subst e11
    exact ⟨m', hm, i + 1, σ8, _, I11.unpinned, (again I11).1, (again I11).2, w10⟩
 have es : ({ s2 with heap := h₁, toks := s2.toks + ([] : List (Str × Value)).length } : Shared) = { s₃ with heap := h₁, toks := s₃.toks } := by rw [← hs3]; rfl
 rw [show ({ s2 with heap := h₁, toks := s2.toks + ([] : List (Str × Value)).length } : Shared) = { s₃ with heap := h₁, toks := s₃.toks } from es]
 exact codeAny_compStart_list loop (T.self _ 0 _ _ _ st4 loop)
end
section
variable {prog : Program} {w : World} {A : Around} {E : Value → Shared → Prop} {s : Shared}
end
section
variable {X : Cx} {pos : Pos}
theorem hG : OpR X (binaryOp .Mult) (rI (fun i j => IntMulOk i j) fun i j => .int (i * j)) := opI fun _ _ _ _ _ _ _ hc q => mul_int q hc
theorem UU {i j : Int} (m n : Nat) (h1 : i.natAbs < 2 ^ m) (h2 : j.natAbs < 2 ^ n) (h : m + n ≤ 134217728) : IntMulOk i j := IntMulOk.of_le (intBits_le h1) (intBits_le h2) h
theorem FJ {i j : Int} (h1 : -(2 ^ 64) < i) (h2 : i < 2 ^ 64) : IntMulOk i j := .of_left (intBits_le_64 h1 h2)
theorem EW {i j : Int} (h1 : -(2 ^ 64) < j) (h2 : j < 2 ^ 64) : IntMulOk i j := .of_right (intBits_le_64 h1 h2)
theorem bI : OpR X (binaryOp .FloorDiv) (rI (fun _ j => 0 < j ∧ j < 2 ^ 100) fun i j => .int (i / j)) := opI fun i j _ _ s Q E hc q => by
 refine floordiv_int (Int.ne_of_gt hc.1) (by rw [Int.fdiv_eq_ediv_of_nonneg _ (Int.le_of_lt hc.1)]; exact q) (.inl (PyProof.noPylong_of_log2 ?_))
 have h1 : j.natAbs < 2 ^ 100 := by omega
 have h0 : j.natAbs ≠ 0 := by omega
 have := (Nat.log2_lt h0).mpr h1
 omega
theorem cH {c : Value} : DE X (.builtin "isinstance") (fun xs H Q => ∃ x y ty b, xs = [x, y] ∧ BF y c ∧ (∃ n, c = .type n) ∧ JK X.K H x ty ∧ PySem.W.kitOne X.K ty c = some b ∧ Q (.bl b) H) := by
 intro pins s σ H xs us Q I rv h
 obtain ⟨x, y, ty, b, rfl, ry, ⟨n, rfl⟩, hty, hk, q⟩ := h
 obtain ⟨u, u', rfl, ru, ru'⟩ := rv.two
 have e : u' = .type n := by
  cases y with
  | ty m => have := (show Value.type n = Value.type m from ry); cases this; exact ru'
  | non => cases ry
  | bl _ => cases ry
  | int _ => obtain ⟨_, z⟩ := ry; cases z
  | str _ => obtain ⟨_, z⟩ := ry; cases z
  | byt _ => obtain ⟨_, z⟩ := ry; cases z
  | flt _ => obtain ⟨_, z⟩ := ry; cases z
  | ref _ => cases ry
 subst e
 exact ZV I ru hty hk fun tk => ⟨.bl b, H, I.tok _, rfl, q⟩
theorem MA {K : PySem.W.Frag} : PySem.W.kitOne K (.type "int") (.type "int") = some true := rfl
theorem mO {K : PySem.W.Frag} {T U : String} {b : Bool} (h0 : (Value.type T == Value.type U) = false) (h1 : PySem.W.kitMeta U = true) (h2 : ((fastBuiltinMro T).map (·.contains (.type U))) = some b) : PySem.W.kitOne K (.type T) (.type U) = some b := by
 unfold PySem.W.kitOne
 rw [h0, if_neg Bool.false_ne_true]
 unfold PySem.W.kitCls
 dsimp only
 rw [h1, if_pos rfl]
 exact h2
theorem KD {K : PySem.W.Frag} : PySem.W.kitOne K (.type "int") (.type "bool") = some false := mO (by decide +kernel) (by decide +kernel) (by decide +kernel)
theorem CO {K : PySem.W.Frag} : PySem.W.kitOne K (.type "tuple") (.type "tuple") = some true := rfl
end
def FW (J : It) (g : TG) (tb : TS) (D : JE) (σ : St) (H1 : Hp) : Prop := ∃ W : Nat → Nat → St → Hp → Prop, (∃ m, W 0 m σ H1) ∧ ∀ i m σ H, W i m σ H →
 (J.stop i H ∧ D.nx σ H) ∨ (J.go i H ∧ ∃ N : St → Hp → Prop, (∀ σ' H', N σ' H' → ∃ m', m' < m ∧ W (i + 1) m' σ' H') ∧ ∀ x H', J.yld i H x H' → g x σ H' fun σ2 H2 => tb { D with nx := N, ct := N, bk := D.nx } σ2 H2)
theorem WN (wi : TI) (g : TG) (tb : TS) (D : JE) (σ : St) (H : Hp) : oT wi g tb D σ H = wi σ H fun J H1 => FW J g tb D σ H1 := rfl
theorem MV {lo : Int} {n : Nat} {g : TG} {tb : TS} {D : JE} {σ : St} {H : Hp} (Pv : Nat → St → Hp → Prop) (h0 : Pv 0 σ H)
  (hs : ∀ i σ H, i < n → Pv i σ H → g (.int (lo + i)) σ H fun σ2 H2 => tb { D with nx := Pv (i + 1), ct := Pv (i + 1), bk := D.nx } σ2 H2) (hd : ∀ σ H, Pv n σ H → D.nx σ H) : FW (Itr lo n) g tb D σ H := YB Pv h0 hs hd
theorem IS {K : PySem.W.Frag} {a : Addr} {xs : List V} {g : TG} {tb : TS} {D : JE} {σ : St} {H : Hp} (Pv : Nat → St → Hp → Prop) (h0 : Pv 0 σ H) (hl : ∀ i σ H, i ≤ xs.length → Pv i σ H → SqL K H a xs)
  (hs : ∀ i x σ H, xs[i]? = some x → Pv i σ H → g x σ H fun σ2 H2 => tb { D with nx := Pv (i + 1), ct := Pv (i + 1), bk := D.nx } σ2 H2) (hd : ∀ σ H, Pv xs.length σ H → D.nx σ H) : FW (Itl K a) g tb D σ H := cQ Pv h0 hl hs hd
theorem IA {K : PySem.W.Frag} {a : Addr} {xs : List V} {g : TG} {tb : TS} {D : JE} {σ : St} {H : Hp} (Pv : Nat → St → Hp → Prop) (h0 : Pv 0 σ H) (hl : ∀ i σ H, i ≤ xs.length → Pv i σ H → SqT K H a xs)
  (hs : ∀ i x σ H, xs[i]? = some x → Pv i σ H → g x σ H fun σ2 H2 => tb { D with nx := Pv (i + 1), ct := Pv (i + 1), bk := D.nx } σ2 H2) (hd : ∀ σ H, Pv xs.length σ H → D.nx σ H) : FW (Itt K a) g tb D σ H := iU Pv h0 hl hs hd
def CW (J : It) (g : TG) (tt : TT) (te : TE) (p : Addr) (Q : VK) (σ : St) (H1 : Hp) : Prop :=
 ∃ W : Nat → Nat → St → Hp → Prop, (∃ m, W 0 m σ H1) ∧ ∀ i m σ H, W i m σ H →
  (J.stop i H ∧ Q (.ref p) H) ∨ (J.go i H ∧ ∀ x H', J.yld i H x H' → g x σ H' fun σ2 H2 => tt σ2 H2 fun b H3 =>
   if b = true then te σ2 H3 fun y H4 => ∃ ys, H4 p = some (.lst ys) ∧ ys.length < sizeLine ∧ ∃ m', m' < m ∧ W (i + 1) m' σ2 (upd H4 p (.lst (ys ++ [y])))
   else ∃ m', m' < m ∧ W (i + 1) m' σ2 H3)
theorem TM (js : List Nat) (os : List Str) (wi : TI) (g : TG) (tt : TT) (te : TE) (σ : St) (H : Hp) (Q : VK) : bX js os wi g tt te σ H Q = wi σ H fun J H1 => ∀ p, H1 p = none → CW J g tt te p Q (stC js os σ) (upd H1 p (.lst [])) := rfl
def Nx (n i : Nat) (P : Prop) : Prop := ∃ m', m' < n - i ∧ m' = n - (i + 1) ∧ i + 1 ≤ n ∧ P
theorem nx {n i : Nat} {P : Prop} (h : i < n) (p : P) : Nx n i P := ⟨n - (i + 1), by omega, rfl, h, p⟩
theorem dJ {lo : Int} {n : Nat} {g : TG} {tt : TT} {te : TE} {p : Addr} {Q : VK} {σ : St} {H : Hp} (Pv : Nat → St → Hp → Prop) (h0 : Pv 0 σ H)
  (hs : ∀ i σ H, i < n → Pv i σ H → g (.int (lo + i)) σ H fun σ2 H2 => tt σ2 H2 fun b H3 => if b = true then te σ2 H3 fun y H4 => ∃ ys, H4 p = some (.lst ys) ∧ ys.length < sizeLine ∧ Nx n i (Pv (i + 1) σ2 (upd H4 p (.lst (ys ++ [y])))) else Nx n i (Pv (i + 1) σ2 H3))
  (hd : ∀ σ H, Pv n σ H → Q (.ref p) H) : CW (Itr lo n) g tt te p Q σ H := by
 refine ⟨fun i m σ H => m = n - i ∧ i ≤ n ∧ Pv i σ H, ⟨n, by simp, Nat.zero_le _, h0⟩, ?_⟩
 rintro i m σ H ⟨rfl, hi, q⟩
 by_cases hlt : i < n
 ·refine .inr ⟨hlt, fun x H' y => ?_⟩
  obtain ⟨e, y⟩ := y
  subst e y
  exact hs i σ _ hlt q
 ·have e : i = n := by omega
  subst e
  exact .inl ⟨Nat.le_refl _, hd σ H q⟩
theorem QI {K : PySem.W.Frag} {a : Addr} {xs : List V} {g : TG} {tt : TT} {te : TE} {p : Addr} {Q : VK} {σ : St} {H : Hp} (Pv : Nat → St → Hp → Prop) (h0 : Pv 0 σ H) (hl : ∀ i σ H, i ≤ xs.length → Pv i σ H → SqL K H a xs)
  (hs : ∀ i x σ H, xs[i]? = some x → Pv i σ H → g x σ H fun σ2 H2 => tt σ2 H2 fun b H3 => if b = true then te σ2 H3 fun y H4 => ∃ ys, H4 p = some (.lst ys) ∧ ys.length < sizeLine ∧ Nx xs.length i (Pv (i + 1) σ2 (upd H4 p (.lst (ys ++ [y])))) else Nx xs.length i (Pv (i + 1) σ2 H3))
  (hd : ∀ σ H, Pv xs.length σ H → Q (.ref p) H) : CW (Itl K a) g tt te p Q σ H := by
 refine ⟨fun i m σ H => m = xs.length - i ∧ i ≤ xs.length ∧ Pv i σ H, ⟨xs.length, by simp, Nat.zero_le _, h0⟩, ?_⟩
 rintro i m σ H ⟨rfl, hi, q⟩
 have w := hl i σ H hi q
 by_cases hlt : i < xs.length
 ·refine .inr ⟨⟨xs, xs[i], w, by simp [hlt]⟩, fun x H' y => ?_⟩
  obtain ⟨e, y⟩ := y
  subst e
  exact hs i x σ _ (y xs w) q
 ·have e : i = xs.length := by omega
  subst e
  exact .inl ⟨⟨xs, w, Nat.le_refl _⟩, hd σ H q⟩
theorem XV {c : TT} {tb : TS} {D : JE} {σ : St} {H : Hp} (Pv : St → Hp → Prop) (μ : St → Hp → Nat) (h0 : Pv σ H)
  (hs : ∀ σ H, Pv σ H → c σ H fun b H1 => if b = true then ∃ N : St → Hp → Prop, (∀ σ' H', N σ' H' → ∃ m', m' < μ σ H ∧ (m' = μ σ' H' ∧ Pv σ' H')) ∧ tb { D with nx := N, ct := N, bk := D.nx } σ H1 else D.nx σ H1) : dO c tb D σ H := by
 refine ⟨fun m σ H => m = μ σ H ∧ Pv σ H, ⟨_, rfl, h0⟩, ?_⟩
 rintro m σ H ⟨rfl, p⟩
 have z := hs σ H p
 exact z
theorem AJ.upd {H : Hp} {p : Addr} {o : HO} (h : H p = none) : AJ H (upd H p o) := fun b u e => by rw [BM (CG e h)]; exact e
theorem AJ.upd2 {H H' : Hp} {p : Addr} {o : HO} (s : AJ H H') (h : H p = none) : AJ H (L2.upd H' p o) := fun b u e => by rw [BM (CG e h)]; exact s b u e
theorem AJ.tup {K : PySem.W.Frag} {H H' : Hp} {a : Addr} {xs : List V} (e : AJ H H') (h : SqT K H a xs) : SqT K H' a xs := by
 rcases h with (h | ⟨o, h⟩) | h
 ·exact .inl (.inl (e _ _ h))
 ·exact .inl (.inr ⟨o, e _ _ h⟩)
 ·exact .inr h
theorem NG {ns : List Int} {k : Int} (h0 : 0 ≤ k) (h1 : k < ns.length) : ∃ z ∈ ns, atI (ns.map V.int) k = some (.int z) := by
 have hk : k.toNat < ns.length := by omega
 refine ⟨ns[k.toNat], List.getElem_mem hk, ?_⟩
 have e : ((k.toNat : Nat) : Int) = k := by omega
 have := IZ (xs := ns.map V.int) (j := k.toNat) (v := .int ns[k.toNat]) (by rw [List.getElem?_map, List.getElem?_eq_getElem hk]; rfl)
 rw [e] at this
 exact this
inductive D where
 | int (i : Int) | str (x : Str) | non | tup (ds : List D)
mutual
def Rp (K : PySem.W.Frag) (H : Hp) : D → V → Prop
 | .int i, v => v = .int i
 | .str x, v => v = .str x
 | .non, v => v = .non
 | .tup ds, v => ∃ p xs, v = .ref p ∧ SqT K H p xs ∧ RpL K H ds xs
def RpL (K : PySem.W.Frag) (H : Hp) : List D → List V → Prop
 | [], xs => xs = []
 | d :: ds, xs => ∃ v r, xs = v :: r ∧ Rp K H d v ∧ RpL K H ds r
end
mutual
def deq : D → D → Bool
 | .int i, .int j => i == j
 | .str x, .str y => x == y
 | .non, .non => true
 | .tup ds, .tup es => deqL ds es
 | _, _ => false
def deqL : List D → List D → Bool
 | [], [] => true
 | d :: ds, e :: es => deq d e && deqL ds es
 | _, _ => false
end
mutual
def dep : D → Nat
 | .tup ds => depL ds + 1
 | _ => 0
def depL : List D → Nat
 | [] => 0
 | d :: ds => max (dep d) (depL ds)
end
mutual
theorem cK : ∀ d : D, deq d d = true
 | .int i => by simp [deq]
 | .str x => by simp [deq]
 | .non => by simp [deq]
 | .tup ds => by rw [deq]; exact deqL_self ds
theorem deqL_self : ∀ ds : List D, deqL ds ds = true
 | [] => by simp [deqL]
 | d :: ds => by rw [deqL, cK d, deqL_self ds]; rfl
end
theorem RpL.length {K : PySem.W.Frag} {H : Hp} : ∀ {ds : List D} {xs : List V}, RpL K H ds xs → xs.length = ds.length
 | [], xs, h => by rw [RpL] at h; subst h; rfl
 | d :: ds, xs, h => by
  rw [RpL] at h
  obtain ⟨v, r, rfl, _, h⟩ := h
  rw [List.length_cons, List.length_cons, RpL.length h]
mutual
theorem Rp.same {K : PySem.W.Frag} {H H' : Hp} (s : AJ H H') : ∀ {d : D} {v : V}, Rp K H d v → Rp K H' d v
 | .int i, v, h => by rw [Rp] at h ⊢; exact h
 | .str x, v, h => by rw [Rp] at h ⊢; exact h
 | .non, v, h => by rw [Rp] at h ⊢; exact h
 | .tup ds, v, h => by
  rw [Rp] at h ⊢
  obtain ⟨p, xs, e, hs, hl⟩ := h
  exact ⟨p, xs, e, s.tup hs, RpL.same s hl⟩
theorem RpL.same {K : PySem.W.Frag} {H H' : Hp} (s : AJ H H') : ∀ {ds : List D} {xs : List V}, RpL K H ds xs → RpL K H' ds xs
 | [], xs, h => by rw [RpL] at h ⊢; exact h
 | d :: ds, xs, h => by
  rw [RpL] at h ⊢
  obtain ⟨v, r, e, h1, h2⟩ := h
  exact ⟨v, r, e, Rp.same s h1, RpL.same s h2⟩
end
section
variable {X : Cx} {pins : List (Addr × Obj)} {σ : L2.St} {H : Hp} {s : Shared}
mutual
theorem Rp.inj (I : Inv X pins σ H s) : ∀ {d e : D} {v : V}, Rp X.K H d v → Rp X.K H e v → deq d e = true
 | .int i, e, v, h1, h2 => by
  rw [Rp] at h1
  subst h1
  cases e with
  | int j => rw [Rp] at h2; cases h2; simp [deq]
  | str _ => rw [Rp] at h2; cases h2
  | non => rw [Rp] at h2; cases h2
  | tup _ => rw [Rp] at h2; obtain ⟨_, _, h, _⟩ := h2; cases h
 | .str x, e, v, h1, h2 => by
  rw [Rp] at h1
  subst h1
  cases e with
  | int j => rw [Rp] at h2; cases h2
  | str _ => rw [Rp] at h2; cases h2; simp [deq]
  | non => rw [Rp] at h2; cases h2
  | tup _ => rw [Rp] at h2; obtain ⟨_, _, h, _⟩ := h2; cases h
 | .non, e, v, h1, h2 => by
  rw [Rp] at h1
  subst h1
  cases e with
  | int j => rw [Rp] at h2; cases h2
  | str _ => rw [Rp] at h2; cases h2
  | non => simp [deq]
  | tup _ => rw [Rp] at h2; obtain ⟨_, _, h, _⟩ := h2; cases h
 | .tup ds, e, v, h1, h2 => by
  rw [Rp] at h1
  obtain ⟨p, xs, rfl, hs, hl⟩ := h1
  cases e with
  | int j => rw [Rp] at h2; cases h2
  | str _ => rw [Rp] at h2; cases h2
  | non => rw [Rp] at h2; cases h2
  | tup es =>
   rw [Rp] at h2
   obtain ⟨p', xs', e', hs', hl'⟩ := h2
   cases e'
   rw [I.tuple_inj hs' hs] at hl'
   rw [deq]
   exact RpL.inj I hl hl'
theorem RpL.inj (I : Inv X pins σ H s) : ∀ {ds es : List D} {xs : List V}, RpL X.K H ds xs → RpL X.K H es xs → deqL ds es = true
 | [], es, xs, h1, h2 => by
  rw [RpL] at h1
  subst h1
  cases es with
  | nil => simp [deqL]
  | cons e es => rw [RpL] at h2; obtain ⟨_, _, h, _⟩ := h2; cases h
 | d :: ds, es, xs, h1, h2 => by
  rw [RpL] at h1
  obtain ⟨v, r, rfl, h1, h1'⟩ := h1
  cases es with
  | nil => rw [RpL] at h2; cases h2
  | cons e es =>
   rw [RpL] at h2
   obtain ⟨v', r', e', h2, h2'⟩ := h2
   cases e'
   rw [deqL, Rp.inj I h1 h2, RpL.inj I h1' h2']
   rfl
end
theorem FY : ∀ (ds es : List D), ((List.range (min ds.length es.length)).all (fun j => deq (ds.getD j .non) (es.getD j .non)) && ds.length == es.length) = deqL ds es
 | [], [] => by simp [deqL]
 | [], e :: es => by simp [deqL]
 | d :: ds, [] => by simp [deqL]
 | d :: ds, e :: es => by
  have ih := FY ds es
  rw [deqL, ← ih]
  have e1 : min (d :: ds).length (e :: es).length = min ds.length es.length + 1 := by simp only [List.length_cons]; omega
  rw [e1, List.range_succ_eq_map, List.all_cons, List.all_map]
  have e2 : ((d :: ds).length == (e :: es).length) = (ds.length == es.length) := by
   simp only [List.length_cons]
   by_cases h : ds.length = es.length
   ·rw [h]; simp
   ·have h1 : (ds.length == es.length) = false := by simpa using h
    rw [h1]
    have : ¬ ds.length + 1 = es.length + 1 := by omega
    simpa using this
  rw [e2, Bool.and_assoc]
  rfl
mutual
theorem NP (I : Inv X pins σ H s) : ∀ {d e : D} {A : Around} {v u : V} {x y : Value}, Rp X.K H d v → Rp X.K H e u → BF v x → BF u y → A.units + dep d < cLine → SeqAt.EqAt A s x y (deq d e)
 | .int i, e, A, v, u, x, y, h1, h2, r1, r2, hu => by
  rw [Rp] at h1
  subst h1
  obtain ⟨t, rfl⟩ := r1
  cases e with
  | int j => rw [Rp] at h2; subst h2; obtain ⟨t', rfl⟩ := r2; exact SeqAt.EqAt.int_int i t j t'
  | str z => rw [Rp] at h2; subst h2; obtain ⟨t', rfl⟩ := r2; exact SeqAt.EqAt.int_str i t z t'
  | non => rw [Rp] at h2; subst h2; cases r2; exact SeqAt.EqAt.int_none i t
  | tup es =>
   rw [Rp] at h2
   obtain ⟨p, xs, rfl, hs, _⟩ := h2
   cases r2
   obtain ⟨its, _, ht, _⟩ := I.tuple hs
   exact SeqAt.EqAt.int_tuple i t ht (by omega)
 | .str z, e, A, v, u, x, y, h1, h2, r1, r2, hu => by
  rw [Rp] at h1
  subst h1
  obtain ⟨t, rfl⟩ := r1
  cases e with
  | int j => rw [Rp] at h2; subst h2; obtain ⟨t', rfl⟩ := r2; exact SeqAt.EqAt.str_int z t j t'
  | str z' => rw [Rp] at h2; subst h2; obtain ⟨t', rfl⟩ := r2; exact SeqAt.EqAt.str_str z t z' t'
  | non => rw [Rp] at h2; subst h2; cases r2; exact SeqAt.EqAt.str_none z t
  | tup es =>
   rw [Rp] at h2
   obtain ⟨p, xs, rfl, hs, _⟩ := h2
   cases r2
   obtain ⟨its, _, ht, _⟩ := I.tuple hs
   exact SeqAt.EqAt.str_tuple z t ht (by omega)
 | .non, e, A, v, u, x, y, h1, h2, r1, r2, hu => by
  rw [Rp] at h1
  subst h1
  cases r1
  cases e with
  | int j => rw [Rp] at h2; subst h2; obtain ⟨t', rfl⟩ := r2; exact SeqAt.EqAt.none_int j t'
  | str z' => rw [Rp] at h2; subst h2; obtain ⟨t', rfl⟩ := r2; exact SeqAt.EqAt.none_str z' t'
  | non => rw [Rp] at h2; subst h2; cases r2; exact SeqAt.EqAt.same _
  | tup es =>
   rw [Rp] at h2
   obtain ⟨p, xs, rfl, hs, _⟩ := h2
   cases r2
   obtain ⟨its, _, ht, _⟩ := I.tuple hs
   exact SeqAt.EqAt.none_tuple ht (by omega)
 | .tup ds, e, A, v, u, x, y, h1, h2, r1, r2, hu => by
  have h1' := h1
  rw [Rp] at h1
  obtain ⟨p, xs, rfl, hs, hl⟩ := h1
  cases r1
  obtain ⟨its, rv, ht, _⟩ := I.tuple hs
  cases e with
  | int j => rw [Rp] at h2; subst h2; obtain ⟨t', rfl⟩ := r2; exact SeqAt.EqAt.tuple_int j t' ht (by omega)
  | str z' => rw [Rp] at h2; subst h2; obtain ⟨t', rfl⟩ := r2; exact SeqAt.EqAt.tuple_str z' t' ht (by omega)
  | non => rw [Rp] at h2; subst h2; cases r2; exact SeqAt.EqAt.tuple_none ht (by omega)
  | tup es =>
   have h2' := h2
   rw [Rp] at h2
   obtain ⟨p', xs', rfl, hs', hl'⟩ := h2
   cases r2
   obtain ⟨its', rv', ht', _⟩ := I.tuple hs'
   by_cases hp : p = p'
   ·subst hp
    rw [Rp.inj I h1' h2']
    exact SeqAt.EqAt.same _
   ·refine SeqAt.EqAt.of_refs hp ?_
    have l1 : its.length = ds.length := by rw [← rv.length, hl.length]
    have l2 : its'.length = es.length := by rw [← rv'.length, hl'.length]
    have key := SeqAt.RcAt.tuples (e := fun j => deq (ds.getD j .non) (es.getD j .non)) ht ht' (show A.units < cLine by omega) (fun j h1 h2 => by
     rw [dep] at hu
     exact eqAtL_D I hl hl' rv rv' (show A.in1.units + depL ds < cLine by show A.units + 1 + depL ds < cLine; omega) j (by simpa using h1) (by simpa using h2))
    have e0 : ((List.range (min its.toArray.size its'.toArray.size)).all (fun j => deq (ds.getD j .non) (es.getD j .non)) && its.toArray.size == its'.toArray.size) = deqL ds es := by
     rw [← FY]
     simp only [List.size_toArray, l1, l2]
    rw [deq, ← e0]
    exact key
theorem eqAtL_D (I : Inv X pins σ H s) : ∀ {ds es : List D} {A : Around} {vs us : List V} {xs ys : List Value}, RpL X.K H ds vs → RpL X.K H es us → BH vs xs → BH us ys → A.units + depL ds < cLine →
  ∀ (j : Nat) (h1 : j < xs.length) (h2 : j < ys.length), SeqAt.EqAt A s xs[j] ys[j] (deq (ds.getD j .non) (es.getD j .non))
 | [], es, A, vs, us, xs, ys, h1, h2, r1, r2, hu, j, j1, j2 => by
  rw [RpL] at h1
  subst h1
  cases r1
  exact absurd j1 (Nat.not_lt_zero _)
 | d :: ds, es, A, vs, us, xs, ys, h1, h2, r1, r2, hu, j, j1, j2 => by
  rw [RpL] at h1
  obtain ⟨v, r, rfl, h1, h1'⟩ := h1
  cases r1 with
  | cons q1 q1' =>
  cases es with
  | nil =>
   rw [RpL] at h2
   subst h2
   cases r2
   exact absurd j2 (Nat.not_lt_zero _)
  | cons e es =>
   rw [RpL] at h2
   obtain ⟨v', r', rfl, h2, h2'⟩ := h2
   cases r2 with
   | cons q2 q2' =>
   rw [depL] at hu
   cases j with
   | zero => exact NP (d := d) (e := e) I h1 h2 q1 q2 (by omega)
   | succ j => exact eqAtL_D I h1' h2' q1' q2' (by omega) j (by simpa using j1) (by simpa using j2)
end
def fO (K : PySem.W.Frag) (ne : Bool) : R2 := fun x y H Q => ∃ ds es, Rp K H (.tup ds) x ∧ Rp K H (.tup es) y ∧ depL ds ≤ 60 ∧ Q (.bl (if ne then !deqL ds es else deqL ds es)) H
theorem EB (hu : X.A.units + 64 < cLine) : OpR X (compareOp .Eq) (fO X.K false) := by
 intro pins s σ H x y v u Q I rx ry h
 obtain ⟨ds, es, h1, h2, hd, q⟩ := h
 rw [Rp] at h1 h2
 obtain ⟨p, xs, rfl, hs, hl⟩ := h1
 obtain ⟨p', xs', rfl, hs', hl'⟩ := h2
 cases rx
 cases ry
 obtain ⟨its, rv, ht, _⟩ := I.tuple hs
 obtain ⟨its', rv', ht', _⟩ := I.tuple hs'
 have l1 : its.length = ds.length := by rw [← rv.length, hl.length]
 have l2 : its'.length = es.length := by rw [← rv'.length, hl'.length]
 refine SeqAt.eq_tupleAt (e := fun j => deq (ds.getD j .non) (es.getD j .non)) ht ht' (by omega) (fun j h1 h2 => eqAtL_D I hl hl' rv rv' (show X.A.in1.units + depL ds < cLine by show X.A.units + 1 + depL ds < cLine; omega) j (by simpa using h1) (by simpa using h2)) ?_
 exact BP I q (by
  simp only [if_false, Bool.false_eq_true]
  rw [← FY]
  simp only [List.size_toArray, l1, l2])
theorem lD (hu : X.A.units + 64 < cLine) : OpR X (compareOp .NotEq) (fO X.K true) := by
 intro pins s σ H x y v u Q I rx ry h
 obtain ⟨ds, es, h1, h2, hd, q⟩ := h
 rw [Rp] at h1 h2
 obtain ⟨p, xs, rfl, hs, hl⟩ := h1
 obtain ⟨p', xs', rfl, hs', hl'⟩ := h2
 cases rx
 cases ry
 obtain ⟨its, rv, ht, _⟩ := I.tuple hs
 obtain ⟨its', rv', ht', _⟩ := I.tuple hs'
 have l1 : its.length = ds.length := by rw [← rv.length, hl.length]
 have l2 : its'.length = es.length := by rw [← rv'.length, hl'.length]
 refine SeqAt.RcNeAt.tuples (e := fun j => deq (ds.getD j .non) (es.getD j .non)) ht ht' (by omega) (fun j h1 h2 => eqAtL_D I hl hl' rv rv' (show X.A.in1.units + depL ds < cLine by show X.A.units + 1 + depL ds < cLine; omega) j (by simpa using h1) (by simpa using h2)) X.prog X.w X.xe _ ?_
 exact BP I q (by
  simp only [if_true]
  rw [← FY]
  simp only [List.size_toArray, l1, l2])
end
mutual
def JO (K : PySem.W.Frag) : D → Value → Bool
 | .int i, .int j _ => i == j
 | .str x, .str y _ => x == y
 | .non, .none => true
 | .tup ds, .ref p => (match K.lookup p with
  | some o => (match o.cls, o.data with
   | .type n, .seq its _ => n == "tuple" && decide (its.size ≤ 1000) && kdInL K ds its.toList
   | _, _ => false)
  | none => false)
 | _, _ => false
def kdInL (K : PySem.W.Frag) : List D → List Value → Bool
 | [], [] => true
 | d :: ds, u :: us => JO K d u && kdInL K ds us
 | _, _ => false
end
mutual
theorem NW {K : PySem.W.Frag} : ∀ {d : D} {u : Value}, JO K d u = true → ∃ v, BF v u ∧ ∀ H, Rp K H d v
 | .int i, u, h => by
  cases u with
  | int j t =>
   rw [JO] at h
   have e : i = j := by simpa using h
   subst e
   exact ⟨.int i, ⟨t, rfl⟩, fun H => by rw [Rp]⟩
  | _ => simp [JO] at h
 | .str x, u, h => by
  cases u with
  | str y t =>
   rw [JO] at h
   have e : x = y := by simpa using h
   subst e
   exact ⟨.str x, ⟨t, rfl⟩, fun H => by rw [Rp]⟩
  | _ => simp [JO] at h
 | .non, u, h => by
  cases u with
  | none => exact ⟨.non, rfl, fun H => by rw [Rp]⟩
  | _ => simp [JO] at h
 | .tup ds, u, h => by
  cases u with
  | ref p =>
   rw [JO] at h
   cases e : K.lookup p with
   | none => rw [e] at h; cases h
   | some o =>
    rw [e] at h
    dsimp only at h
    split at h
    ·rename_i n its k ec ed
     simp only [Bool.and_eq_true, beq_iff_eq, decide_eq_true_eq] at h
     obtain ⟨⟨rfl, hz⟩, hl⟩ := h
     obtain ⟨vs, rv, hv⟩ := kd_rpL hl
     exact ⟨.ref p, rfl, fun H => by
      rw [Rp]
      exact ⟨p, vs, rfl, .inr ⟨o, its, k, e, ec, ed, Nat.le_trans hz (by decide), rv⟩, hv H⟩⟩
    ·cases h
  | _ => simp [JO] at h
theorem kd_rpL {K : PySem.W.Frag} : ∀ {ds : List D} {us : List Value}, kdInL K ds us = true → ∃ vs, BH vs us ∧ ∀ H, RpL K H ds vs
 | [], us, h => by
  cases us with
  | nil => exact ⟨[], .nil, fun H => by rw [RpL]⟩
  | cons _ _ => simp [kdInL] at h
 | d :: ds, us, h => by
  cases us with
  | nil => simp [kdInL] at h
  | cons u us =>
   rw [kdInL, Bool.and_eq_true] at h
   obtain ⟨v, r, hv⟩ := NW h.1
   obtain ⟨vs, rs, hvs⟩ := kd_rpL h.2
   exact ⟨v :: vs, .cons r rs, fun H => by rw [RpL]; exact ⟨v, vs, rfl, hv H, hvs H⟩⟩
end
abbrev num (a b : Int) : D := .tup [.int a, .int b]
abbrev plc (a b c d : Int) : D := .tup [num a b, num c d]
theorem BC {K : PySem.W.Frag} {H : Hp} {a b : Int} {v : V} : Rp K H (num a b) v ↔ ∃ p, v = .ref p ∧ SqT K H p [.int a, .int b] := by
 constructor
 ·intro h
  rw [Rp] at h
  obtain ⟨p, xs, rfl, hs, hl⟩ := h
  rw [RpL] at hl
  obtain ⟨v, r, rfl, h1, hl⟩ := hl
  rw [RpL] at hl
  obtain ⟨v', r', rfl, h2, hl⟩ := hl
  rw [RpL] at hl
  rw [Rp] at h1 h2
  subst h1 h2 hl
  exact ⟨p, rfl, hs⟩
 ·rintro ⟨p, rfl, hs⟩
  rw [Rp]
  refine ⟨p, _, rfl, hs, ?_⟩
  rw [RpL]
  refine ⟨_, _, rfl, by rw [Rp], ?_⟩
  rw [RpL]
  refine ⟨_, _, rfl, by rw [Rp], ?_⟩
  rw [RpL]
theorem BT {K : PySem.W.Frag} {H : Hp} {d e : D} {v : V} : Rp K H (.tup [d, e]) v ↔ ∃ p x y, v = .ref p ∧ SqT K H p [x, y] ∧ Rp K H d x ∧ Rp K H e y := by
 constructor
 ·intro h
  rw [Rp] at h
  obtain ⟨p, xs, rfl, hs, hl⟩ := h
  rw [RpL] at hl
  obtain ⟨v, r, rfl, h1, hl⟩ := hl
  rw [RpL] at hl
  obtain ⟨v', r', rfl, h2, hl⟩ := hl
  rw [RpL] at hl
  subst hl
  exact ⟨p, v, v', rfl, hs, h1, h2⟩
 ·rintro ⟨p, x, y, rfl, hs, h1, h2⟩
  rw [Rp]
  refine ⟨p, _, rfl, hs, ?_⟩
  rw [RpL]
  refine ⟨_, _, rfl, h1, ?_⟩
  rw [RpL]
  refine ⟨_, _, rfl, h2, ?_⟩
  rw [RpL]
section
variable {X : Cx}
theorem ZT {c : Value} : DE X (.builtin "isinstance") (fun xs H Q => ∃ x y, xs = [x, y] ∧ BF y c ∧ (∃ n, c = .type n) ∧ ∃ ty, (JK X.K H x ty ∨ ∃ p ys, x = .ref p ∧ SqT X.K H p ys ∧ ty = .type "tuple") ∧ ∃ b, PySem.W.kitOne X.K ty c = some b ∧ Q (.bl b) H) := by
 intro pins s σ H xs us Q I rv h
 obtain ⟨x, y, rfl, ry, ⟨n, rfl⟩, ty, hty, b, hk, q⟩ := h
 rcases hty with hty | ⟨p, ys, rfl, hs, rfl⟩
 ·exact cH (c := .type n) pins s σ H [x, y] us Q I rv ⟨x, y, ty, b, rfl, ry, ⟨n, rfl⟩, hty, hk, q⟩
 ·obtain ⟨u, u', rfl, ru, ru'⟩ := rv.two
  have e : u' = .type n := by
   cases y with
   | ty m => have := (show Value.type n = Value.type m from ry); cases this; exact ru'
   | non => cases ry
   | bl _ => cases ry
   | int _ => obtain ⟨_, z⟩ := ry; cases z
   | str _ => obtain ⟨_, z⟩ := ry; cases z
   | byt _ => obtain ⟨_, z⟩ := ry; cases z
   | flt _ => obtain ⟨_, z⟩ := ry; cases z
   | ref _ => cases ry
  subst e
  cases ru
  obtain ⟨its, _, ⟨o, h1, h2, _⟩, _⟩ := I.tuple hs
  exact PySem.W.kia_one PySem.W.kitx_tuple I.kIn ⟨o, h1, h2⟩ hk (fun z => nomatch z) fun tk => ⟨.bl b, H, I.tok _, rfl, q⟩
end
def UP (K : PySem.W.Frag) (d : D) : TE := fun _ H Q => ∀ v H', AJ H H' → Rp K H' d v → Q v H'
def JH (K : PySem.W.Frag) (ds : List D) : TA := fun _ H Q => ∀ vs H', AJ H H' → RpL K H' ds vs → Q vs H'
section
variable {X : Cx} {e : Expr} {es : List Expr} {pos : Pos} {d : D} {ds : List D}
theorem PE.imp {t t' : TE} (h : PE X e t) (i : ∀ σ H Q, t' σ H Q → t σ H Q) : PE X e t' := fun pins s σ H Q I q => h pins s σ H Q I (i _ _ _ q)
theorem PA.imp {t t' : TA} (h : PA X es t) (i : ∀ σ H Q, t' σ H Q → t σ H Q) : PA X es t' := fun p pins s σ H Q I q => h p pins s σ H Q I (i _ _ _ q)
theorem kQ {i : Int} {j pos} : PE X (.Constant (.int i) j pos) (UP X.K (.int i)) := AB.imp fun _ H Q q => q _ _ (AJ.refl H) (by rw [Rp])
theorem lP {i : Int} {j pos pos'} : PE X (.UnaryOp .USub (.Constant (.int i) j pos) pos') (UP X.K (.int (-i))) := (MU eD AB).imp fun _ H Q q => ⟨_, rfl, q _ _ (AJ.refl H) (by rw [Rp])⟩
theorem BS : PA X [] (JH X.K []) := AC.imp fun _ H Q q => q _ _ (AJ.refl H) (by rw [RpL])
theorem NY (h : PE X e (UP X.K d)) (hs : PA X es (JH X.K ds)) (he : starEach (e :: es) X.env = (false, eval e X.env) :: starEach es X.env := by rfl) : PA X (e :: es) (JH X.K (d :: ds)) :=
 (AA h hs he).imp fun _ H Q q => fun v H1 s1 r1 vs H2 s2 r2 => q _ _ (s1.trans s2) (by rw [RpL]; exact ⟨v, vs, rfl, r1.same s2, r2⟩)
theorem CI {x1} (h : PA X es (JH X.K ds)) (hz : ds.length ≤ 1000 := by decide) : PE X (.Tuple es x1 pos) (UP X.K (.tup ds)) :=
 (BR h).imp fun _ H Q q => fun vs H1 s1 r1 => ⟨by rw [r1.length]; exact Nat.le_trans hz (by decide), fun p hp => q _ _ (s1.upd2 (s1.free hp)) (by
  rw [Rp]; exact ⟨p, vs, rfl, SqT.of AD, r1.same (AJ.upd hp)⟩)⟩
end
end L2
namespace L2
open PySem PySem.Spec PyProof.Rows L2
section
variable {X : Cx} {es es' : List Expr} {pos pos' p : Pos} {d : D} {ds : List D}
theorem CF {x1} {te : TE} {t : TA} (ha : PE X (.Tuple es' x1 p) te) (hr : PA X es t) : PA X (.Tuple es' x1 p :: es) (PH te t) := AA ha hr (by rfl)
theorem CU {x1} (ha : PE X (.Tuple es' x1 p) (UP X.K d)) (hr : PA X es (JH X.K ds)) : PA X (.Tuple es' x1 p :: es) (JH X.K (d :: ds)) := NY ha hr (by rfl)
theorem BB {i : Int} {j} (hr : PA X es (JH X.K ds)) : PA X (.Constant (.int i) j p :: es) (JH X.K (.int i :: ds)) := NY kQ hr (by rfl)
theorem ZW {i : Int} {j} (hr : PA X es (JH X.K ds)) : PA X (.UnaryOp .USub (.Constant (.int i) j p) pos :: es) (JH X.K (.int (-i) :: ds)) := NY lP hr (by rfl)
end
theorem bW {CX P w K mg base N nm sc fa cdv A outer s H E} : (UZ CX P w K mg base N nm sc fa cdv A outer s H E).K = K := rfl
section
variable {κ : Type} [DecidableEq κ]
end
section
variable {P : Program} {w : World} {H : Hp} {h : Heap} {a : Addr}
end
section
variable {X : Cx} {pins : List (Addr × Obj)} {σ : St} {H : Hp} {s : Shared} {a : Addr} {y v : V} {u r : Value} {o : Option V} {A : Around} {E : Value → Shared → Prop}
theorem Inv.big (I : Inv X pins σ H s) : sysModules < s.heap.objs.size := by
 have h : mainGlobals < s.heap.objs.size := (I.mod.glob.keeps I.bk).lt
 exact Nat.lt_trans (by decide) h
theorem XY {h' : Heap} {t' : Nat} {ob : HO} (I : Inv X pins σ H s) (mu : Mut (H a)) (hs : Heap.SameBut a s.heap h') (he : ∃ q, h'.get? a = some q) (new : DF X.prog X.w (upd H a ob) h' a ob) :
  Inv X pins σ (upd H a ob) { s with heap := h', toks := t' } :=
 I.write (x := a) (e := a) mu (.inl rfl) (fun b q hb z => (hs.2 b hb).trans z) he new
end
section
variable {X : Cx} {pins : List (Addr × Obj)} {σ : St} {H : Hp} {s : Shared} {a : Addr} {kvs : List (Key × V)} {k : Key} {u : Value} {A : Around} {E : Value → Shared → Prop}
end
def kY (i : Expr) : Prop := ∀ ov iv, subscripted i false ov iv = operate [ov, iv] (getItem ov iv)
theorem WG {prog : Program} {w : World} {A : Around} {E : Value → Shared → Prop} {s : Shared} {env : Env} {value slice : Expr} {pos : Pos} {T id : String} {Q : Value → Shared → Prop}
  (hl : typeLookup (.type T) "__getitem__" = pure (some (.builtin id))) (hs : kY slice)
  (h : wpAny (model prog w) A (eval value env) (fun o s₁ => wpAny (model prog w) A (eval slice env) (fun i s₂ => s₂.TypeIs o T ∧ wpAny (model prog w) A (getItem o i) Q E s₂) E s₁) E s) :
  wpAny (model prog w) A (eval (.Subscript value slice pos) env) Q E s := by
 refine Subscript_ (wpAny_mono h (fun o s₁ h₁ => wpAny_mono h₁ (fun i s₂ h₂ => ?_) fun _ _ x => x) fun _ _ x => x)
 obtain ⟨hT, h₂⟩ := h₂
 unfold subscriptTail
 refine wpAny_bind ?_
 rw [getitemInPython_of_ne hT.not_modules]
 refine wpAny_bind (wpAny_specialOf hT hl ?_)
 have fin : wpAny (model prog w) A (subscripted slice false o i) (fun r s₃ => wpAny (model prog w) A (letTemporaryGo value o r >>= fun _ => pure r) Q E s₃) E s₂ := by
  rw [hs o i]
  exact wpAny_operating (wpAny_mono h₂ (fun r s₃ h₃ => wpAny_bind (wpAny_letTemporaryGo (wpAny_pure h₃))) fun _ _ x => x)
 first
  | exact wpAny_pure (wpAny_bind fin)
  | exact wpAny_bind (wpAny_pure (wpAny_bind fin))
  | exact wpAny_bind fin
section
variable {X : Cx} {o i e value : Expr} {pos pos' tpos : Pos} {td ty tv : TE}
end
section
variable {X : Cx} {pos : Pos}
end
structure M1 (X : Cx) (o : Expr) (m : Str) (apos : Pos) (e : Expr) (cpos : Pos) : Prop where
 base : attributeBase o m X.env (eval o X.env) = eval o X.env
 few : ((backTo cpos (starEach [e] X.env)).all (fun x => !x.1) && (backToKw cpos (keywordEach [] X.env)).all (fun x => x.1.isSome)
  && decide (([e] : List Expr).length + ([] : List Keyword).length + (if ([] : List Keyword).isEmpty then 0 else 1) < 30)) = true
 line : (apos.endLine == cpos.line) = true
 trees : backTo cpos (starEach [e] X.env) = [(false, eval e X.env)]
structure M2 (X : Cx) (o : Expr) (m : Str) (apos : Pos) (e f : Expr) (cpos : Pos) : Prop where
 base : attributeBase o m X.env (eval o X.env) = eval o X.env
 few : ((backTo cpos (starEach [e, f] X.env)).all (fun x => !x.1) && (backToKw cpos (keywordEach [] X.env)).all (fun x => x.1.isSome)
  && decide (([e, f] : List Expr).length + ([] : List Keyword).length + (if ([] : List Keyword).isEmpty then 0 else 1) < 30)) = true
 line : (apos.endLine == cpos.line) = true
 trees : backTo cpos (starEach [e, f] X.env) = [(false, eval e X.env), (false, eval f X.env)]
section
variable {X : Cx} {pins : List (Addr × Obj)} {σ : St} {H : Hp} {s : Shared} {a : Addr} {y d : V} {u r : Value} {o : Option V} {A : Around} {E : Value → Shared → Prop}
end
section
variable {X : Cx} {o e f : Expr} {apos cpos : Pos} {td ty tx : TE}
end
section
variable {X : Cx} {pins : List (Addr × Obj)} {σ : St} {H : Hp} {s : Shared} {a : Addr} {kvs : List (Key × V)} {A : Around} {E : Value → Shared → Prop}
end
section
variable {X : Cx} {pins : List (Addr × Obj)} {σ : St} {H : Hp} {s : Shared} {a : Addr} {y : V} {u : Value} {A : Around} {E : Value → Shared → Prop}
end
section
variable {κ : Type} [DecidableEq κ]
end
theorem ON {prog : Program} {w : World} {A : Around} {E : Value → Shared → Prop} {s : Shared} {t sl : Addr} {items : Array Value} {vl vu : Value} {lo hi : Option Int} {Q : Value → Shared → Prop}
  (ht : IsTup s.heap t items) (hs : s.heap.IsSliceOf sl vl vu .none) (pl : IsPart vl lo) (pu : IsPart vu hi) (hw : HT.sIx items.size 0 lo = 0 ∧ HT.sIx items.size items.size hi = items.size) (q : Q (.ref t) s) :
  wpAny (model prog w) A (getItem (.ref t) (.ref sl)) Q E s := by
 obtain ⟨os, hos, hcs, hds⟩ := id hs
 have hTs : s.TypeIs (.ref sl) "slice" := ⟨os, hos, hcs⟩
 unfold getItem
 try with_reducible refine wpAny_holding ?_
 refine wpAny_bind (wpAny_sequenceKey ht.typeIs (by decide) ?_)
 refine wpAny_bind (wpAny_callSpecial?_slot (name := Str.ofString "__getitem__") ht.typeIs slot_tuple_getitem
  (wpAny_call_entry slot_tuple_getitem ht.typeIs entry_tuple_getitem ?_ (args_tuple_getitem _ _)))
 show wpAny _ _ (Builtin.Tuple.tupleItemsOf (.ref t) >>= _) _ _ s
 refine wpAny_bind (tupleItemsOf_ ht ?_)
 refine wpAny_bind (wpAny_typeOf hTs ?_)
 rw [if_pos (by decide)]
 refine wpAny_bind (HT.sliceApplied_gen hs pl pu ?_)
 rw [hw.1, hw.2]
 dsimp only
 rw [if_pos (by simp)]
 unfold Builtin.Tuple.tupleIsExact
 refine wpAny_bind (wpAny_bind (wpAny_typeOf ht.typeIs (wpAny_pure ?_)))
 rw [if_pos (by decide)]
 refine wpAny_bind (wpAny_rule ?_)
 exact wpAny_pure ⟨_, rfl, wpAny_pure q⟩
def kW (K : PySem.W.Frag) : V → Option Int → Option Int → Hp → VK → Prop := fun x lo hi H Q => ∃ a xs, x = .ref a ∧ SqT K H a xs ∧
 ∀ p H', AJ H H' → SqT K H' p (HQ xs lo hi) → Q (.ref p) H'
theorem UL {xs : List V} {lo hi : Option Int} (hw : HT.sIx xs.length 0 lo = 0 ∧ HT.sIx xs.length xs.length hi = xs.length) : HQ xs lo hi = xs := by
 unfold HQ
 rw [hw.1, hw.2, List.drop_zero, Nat.sub_zero, List.take_length]
section
variable {X : Cx}
theorem iC : SlR X (kW X.K) := by
 intro pins s σ H x v vl vu lo hi sl Q I rx hs pl pu h
 obtain ⟨a, xs, rfl, hx, q⟩ := h
 by_cases hw : HT.sIx xs.length 0 lo = 0 ∧ HT.sIx xs.length xs.length hi = xs.length
 ·cases rx
  obtain ⟨its, r, ht, hz⟩ := I.tuple hx
  have hlen : its.toArray.size = xs.length := by rw [List.size_toArray]; exact r.length.symm
  refine ⟨"tuple", _, PyProof.Rows.slot_tuple_getitem.lookup, ht.typeIs, ?_⟩
  refine ON ht hs pl pu (by rw [hlen]; exact hw) ?_
  exact ⟨.ref a, H, I, rfl, q _ _ (AJ.refl H) (by rw [UL hw]; exact hx)⟩
 ·exact nE pins s σ H _ v vl vu lo hi sl Q I rx hs pl pu ⟨a, xs, rfl, hx, hw, fun p hp => q _ _ (AJ.upd hp) (SqT.of AD)⟩
end
def CD (H H' : Hp) : Prop := ∀ b o, H b = some o → ((∃ xs, o = .tup xs) ∨ ∃ o1 o2, o = .frz o1 o2) → H' b = some o
theorem AJ.t {H H' : Hp} (s : AJ H H') : CD H H' := fun b o e _ => s b o e
theorem CD.refl (H : Hp) : CD H H := fun b o e _ => e
theorem CD.upd {H H' : Hp} {p : Addr} {o : HO} (s : CD H H') (h : ∀ u, H p = some u → ¬ ((∃ xs, u = .tup xs) ∨ ∃ o1 o2, u = .frz o1 o2)) : CD H (L2.upd H' p o) := fun b u e k => by
 by_cases hb : b = p
 ·subst hb; exact absurd k (h u e)
 ·rw [BM hb]; exact s b u e k
theorem CD.tup {K : PySem.W.Frag} {H H' : Hp} {a : Addr} {xs : List V} (e : CD H H') (h : SqT K H a xs) : SqT K H' a xs := by
 rcases h with (h | ⟨o, h⟩) | h
 ·exact .inl (.inl (e _ _ h (.inl ⟨_, rfl⟩)))
 ·exact .inl (.inr ⟨o, e _ _ h (.inr ⟨_, _, rfl⟩)⟩)
 ·exact .inr h
mutual
theorem Rp.t {K : PySem.W.Frag} {H H' : Hp} (s : CD H H') : ∀ {d : D} {v : V}, Rp K H d v → Rp K H' d v
 | .int i, v, h => by rw [Rp] at h ⊢; exact h
 | .str x, v, h => by rw [Rp] at h ⊢; exact h
 | .non, v, h => by rw [Rp] at h ⊢; exact h
 | .tup ds, v, h => by
  rw [Rp] at h ⊢
  obtain ⟨p, xs, e, hs, hl⟩ := h
  exact ⟨p, xs, e, s.tup hs, RpL.t s hl⟩
theorem RpL.t {K : PySem.W.Frag} {H H' : Hp} (s : CD H H') : ∀ {ds : List D} {xs : List V}, RpL K H ds xs → RpL K H' ds xs
 | [], xs, h => by rw [RpL] at h ⊢; exact h
 | d :: ds, xs, h => by
  rw [RpL] at h ⊢
  obtain ⟨v, r, e, h1, h2⟩ := h
  exact ⟨v, r, e, Rp.t s h1, RpL.t s h2⟩
end
theorem RpL.app {K : PySem.W.Frag} {H : Hp} : ∀ {ds es : List D} {xs ys : List V}, RpL K H ds xs → RpL K H es ys → RpL K H (ds ++ es) (xs ++ ys)
 | [], es, xs, ys, h, g => by rw [RpL] at h; subst h; exact g
 | d :: ds, es, xs, ys, h, g => by
  rw [RpL] at h
  obtain ⟨v, r, rfl, h1, h2⟩ := h
  rw [List.cons_append, List.cons_append, RpL]
  exact ⟨v, r ++ ys, rfl, h1, RpL.app h2 g⟩
theorem RpL.nil {K : PySem.W.Frag} {H : Hp} : RpL K H [] [] := by rw [RpL]
def But (l : List Addr) (H H' : Hp) : Prop := ∀ b o, H b = some o → b ∉ l → H' b = some o
section
variable {X : Cx} {a : Expr} {ta : TE} {pos : Pos}
end
theorem HD {H : Hp} {p : Addr} {xs : List V} (h : H p = some (.lst xs)) : ∀ u, H p = some u → ¬ ((∃ xs, u = .tup xs) ∨ ∃ o1 o2, u = .frz o1 o2) := fun u e => by
 rw [h] at e; cases e
 rintro (⟨xs, e⟩ | ⟨o1, o2, e⟩) <;> cases e
theorem But.refl (l : List Addr) (H : Hp) : But l H H := fun _ _ e _ => e
theorem NC {X : Cx} : DE X (.type "tuple") (fun xs H Q => ∃ p ys, xs = [.ref p] ∧ SqL X.K H p ys ∧ ∀ l, H l = none → Q (.ref l) (upd H l (.tup ys))) := by
 intro pins s σ H xs us Q I r h
 obtain ⟨p, ys, e, hq, q⟩ := h
 exact OR pins s σ H xs us Q I r ⟨p, ys, e, .inl ⟨hq, q⟩⟩
section
variable {X : Cx}
end
section
variable {X : Cx} {st : Stmt} {HS : List Stmt} {t u : TS}
def kJ {α : Sort u} (a : α) : α := a
def aO (a b : TS) : TS := fun D σ H => a { D with nx := kJ (b D) } σ H
theorem AI (h1 : PS X st t) (h2 : PSs X HS u) : PSs X (st :: HS) (aO t u) := AQ h1 h2
theorem gA {R : St → Hp → Prop} {σ : St} {H : Hp} (h : R σ H) : kJ R σ H := h
theorem gE {α : Type} {c : Prop} [Decidable c] {R : α → Prop} {a b : α} (h : ∀ z, z = (if c then a else b) → R z) : if c then R a else R b := by
 split
 ·exact h a (by rw [if_pos ‹_›])
 ·exact h b (by rw [if_neg ‹_›])
end
def CC (x : V) (P : Addr → Prop) : Prop := match x with | .ref a => P a | _ => False
def GX (x : V) (P : Int → Prop) : Prop := match x with | .int a => P a | _ => False
def oBl (x : V) (P : Bool → Prop) : Prop := match x with | .bl a => P a | _ => False
def VL (σ : St) (i : Nat) (P : V → Prop) : Prop := match σ[i]? with | some (some v) => P v | _ => False
def o1 (vs : List V) (P : V → Prop) : Prop := match vs with | [x] => P x | _ => False
def o2 (vs : List V) (P : V → V → Prop) : Prop := match vs with | [x, y] => P x y | _ => False
def o0 (vs : List V) (P : Prop) : Prop := match vs with | [] => P | _ => False
def oC (vs : List V) (P : V → List V → Prop) : Prop := match vs with | x :: r => P x r | _ => False
theorem CC.ex {x : V} {P : Addr → Prop} (h : CC x P) : ∃ a, x = .ref a ∧ P a := by cases x <;> first | exact ⟨_, rfl, h⟩ | exact h.elim
theorem GX.ex {x : V} {P : Int → Prop} (h : GX x P) : ∃ a, x = .int a ∧ P a := by cases x <;> first | exact ⟨_, rfl, h⟩ | exact h.elim
theorem oBl.ex {x : V} {P : Bool → Prop} (h : oBl x P) : ∃ a, x = .bl a ∧ P a := by cases x <;> first | exact ⟨_, rfl, h⟩ | exact h.elim
theorem VL.ex {σ : St} {i : Nat} {P : V → Prop} (h : VL σ i P) : ∃ v, σ[i]? = some (some v) ∧ P v := by
 unfold VL at h
 split at h
 ·exact ⟨_, ‹_›, h⟩
 ·exact h.elim
theorem o1.ex {vs : List V} {P : V → Prop} (h : o1 vs P) : ∃ x, vs = [x] ∧ P x := match vs, h with | [x], h => ⟨x, rfl, h⟩
theorem o2.ex {vs : List V} {P : V → V → Prop} (h : o2 vs P) : ∃ x y, vs = [x, y] ∧ P x y := match vs, h with | [x, y], h => ⟨x, y, rfl, h⟩
theorem o0.ex {vs : List V} {P : Prop} (h : o0 vs P) : vs = [] ∧ P := match vs, h with | [], h => ⟨rfl, h⟩
theorem oC.ex {vs : List V} {P : V → List V → Prop} (h : oC vs P) : ∃ x r, vs = x :: r ∧ P x r := match vs, h with | x :: r, h => ⟨x, r, rfl, h⟩
def oZ (t : TE) : TE := fun σ H Q => ∃ Q', t σ H Q' ∧ ∀ v H', Q' v H' → Q v H'
def oH (r : R2) : R2 := fun x y H Q => ∃ Q', r x y H Q' ∧ ∀ v H', Q' v H' → Q v H'
section
variable {X : Cx} {a b c o e value tg : Expr} {es : List Expr} {ta tb tc tv te : TE} {pos pos' apos tpos p : Pos} {f x : Str}
theorem PE.mono {t : TE} (h : PE X e t) : PE X e (oZ t) := fun pins s σ H Q I ⟨Q', q, m⟩ => thn (h pins s σ H Q' I q) fun _ _ ⟨v, H', I', r, z⟩ => ⟨v, H', I', r, m _ _ z⟩
theorem OpR.mono {f : Value → Value → Sem Value} {r : R2} (h : OpR X f r) : OpR X f (oH r) := fun pins s σ H x y v u Q I r1 r2 ⟨Q', q, m⟩ => thn (h pins s σ H x y v u Q' I r1 r2 q) fun _ _ ⟨v, H', I', r, z⟩ => ⟨v, H', I', r, m _ _ z⟩
theorem OpR.imp {f : Value → Value → Sem Value} {r r' : R2} (h : OpR X f r) (i : ∀ x y H Q, r' x y H Q → r x y H Q) : OpR X f r' := fun pins s σ H x y v u Q I r1 r2 q => h pins s σ H x y v u Q I r1 r2 (i _ _ _ _ q)
theorem UnR.imp {f : Value → Sem Value} {r r' : V → Hp → VK → Prop} (h : UnR X f r) (i : ∀ x H Q, r' x H Q → r x H Q) : UnR X f r' := fun pins s σ H x v Q I r1 q => h pins s σ H x v Q I r1 (i _ _ _ q)
theorem IxR.imp {r r' : R2} (h : IxR X r) (i : ∀ x y H Q, r' x y H Q → r x y H Q) : IxR X r' := fun value slice pins s σ H x y v u Q I r1 r2 q => h value slice pins s σ H x y v u Q I r1 r2 (i _ _ _ _ q)
theorem PT.imp {t t' : TT} (h : PT X e t) (i : ∀ σ H Q, t' σ H Q → t σ H Q) : PT X e t' := fun pins s σ H Q I q => h pins s σ H Q I (i _ _ _ q)
theorem PG.imp {t t' : TG} (h : PG X e t) (i : ∀ v σ H Q, t' v σ H Q → t v σ H Q) : PG X e t' := fun pins s σ H v u Q I r q => h pins s σ H v u Q I r (i _ _ _ _ q)
theorem PGs.imp {t t' : TGs} (h : PGs X es t) (i : ∀ v σ H Q, t' v σ H Q → t v σ H Q) : PGs X es t' := fun pins s σ H v u Q I r q => h pins s σ H v u Q I r (i _ _ _ _ q)
theorem DE.imp {g : Value} {r r' : List V → Hp → VK → Prop} (h : DE X g r) (i : ∀ xs H Q, r' xs H Q → r xs H Q) : DE X g r' := fun pins s σ H xs us Q I r1 q => h pins s σ H xs us Q I r1 (i _ _ _ q)
theorem MtM.imp {id : String} {r r' : V → List V → Hp → VK → Prop} (h : MtM X id r) (i : ∀ x xs H Q, r' x xs H Q → r x xs H Q) : MtM X id r' := fun pins s σ H x xs v us Q I r1 r2 q => h pins s σ H x xs v us Q I r1 r2 (i _ _ _ _ q)
theorem PI.imp {iter : Expr} {t t' : TI} (h : PI X tg iter t) (i : ∀ σ H R, t' σ H R → t σ H R) : PI X tg iter t' := fun pins s σ H R I q => h pins s σ H R I (i _ _ _ q)
theorem ZU.imp {t t' : hE} (h : ZU X t) (i : ∀ o i v H Q, t' o i v H Q → t o i v H Q) : ZU X t' := fun pins s σ H o i' v ov iv u Q I r1 r2 r3 q => h pins s σ H o i' v ov iv u Q I r1 r2 r3 (i _ _ _ _ _ q)
theorem SlR.imp {r r' : V → Option Int → Option Int → Hp → VK → Prop} (h : SlR X r) (i : ∀ x l u H Q, r' x l u H Q → r x l u H Q) : SlR X r' := fun pins s σ H x v vl vu lo hi sl Q I r1 r2 r3 r4 q => h pins s σ H x v vl vu lo hi sl Q I r1 r2 r3 r4 (i _ _ _ _ _ q)
def NM (i : Nat) : TE := fun σ H Q => VL σ i fun v => Q v H
theorem pvD (i : Nat) {x : Str} {pos : Pos} (hN : X.N[i]? = some x := by rfl) (hv : Vis X.env.scope x := by first | exact Or.inl rfl | exact Or.inr (Or.inl rfl) | exact Or.inr (Or.inr rfl)) (hd : (x == ("__debug__" : Str)) = false := by decide)
  (hcd : (x == ("__classdict__" : Str)) = false := by decide) : PE X (.Name x pos) (NM i) := (pv i hN hv hd hcd).imp fun _ _ _ h => VL.ex h
def tBD (t : TE) : TT := fun σ H Q => t σ H fun x H1 => oBl x fun c => Q c H1
theorem BO {e : Expr} {t : TE} (h : PE X e t) (he : ∀ whole, isTrue e X.env whole = (do let v ← whole; standAt e.pos; holding [v] (truthy v)) := by intro _; rfl) : PT X e (tBD t) :=
 (nC h.mono he).imp fun _ _ _ q => ⟨_, q, fun _ _ z => z.ex⟩
theorem AN {op : CmpOp} {r : R2} (ho : OpR X (compareOp op) r) (ha : PE X a ta) (hb : PE X b tb) (hm : behindInMarks op b = false) : PT X (.Compare a [op] [b] pos) (tBD (tOp r ta tb)) :=
 (gR ho.mono ha.mono hb.mono hm).imp fun _ _ _ q => ⟨_, q, fun _ _ q => ⟨_, q, fun _ _ q => ⟨_, q, fun _ _ z => z.ex⟩⟩⟩
def VE (ta tb : TE) : TE := fun σ H Q => ta σ H fun x H1 => oBl x fun c => if c = true then tb σ H1 Q else Q (.bl false) H1
theorem RI {HS : List Expr} (ha : PE X a ta) (hb : PE X (.BoolOp .And (b :: HS) pos) tb) : PE X (.BoolOp .And (a :: b :: HS) pos) (VE ta tb) :=
 (kT ha.mono hb).imp fun _ _ _ q => ⟨_, q, fun _ _ z => z.ex⟩
def rID (C : Int → Int → Prop) (g : Int → Int → V) : R2 := fun x y H Q => GX x fun i => GX y fun j => C i j ∧ Q (g i j) H
def OU (g : Int → Int → V) : R2 := fun x y H Q => GX x fun i => GX y fun j => Q (g i j) H
def rUD (g : Int → V) : V → Hp → VK → Prop := fun x H Q => GX x fun i => Q (g i) H
theorem OpR.iD {f : Value → Value → Sem Value} {C g} (h : OpR X f (rI C g)) : OpR X f (rID C g) := h.imp fun _ _ _ _ z => by
 obtain ⟨i, rfl, z1⟩ := z.ex; obtain ⟨j, rfl, z2⟩ := z1.ex; exact ⟨i, j, rfl, rfl, z2⟩
theorem OpR.i0D {f : Value → Value → Sem Value} {g} (h : OpR X f (rI0 g)) : OpR X f (OU g) := h.imp fun _ _ _ _ z => by
 obtain ⟨i, rfl, z1⟩ := z.ex; obtain ⟨j, rfl, z2⟩ := z1.ex; exact ⟨i, j, rfl, rfl, z2⟩
theorem BJ : OpR X (binaryOp .Add) (OU fun i j => .int (i + j)) := lN.i0D
theorem CA : OpR X (binaryOp .Sub) (OU fun i j => .int (i - j)) := mP.i0D
theorem BI : OpR X (binaryOp .Mult) (rID (fun i j => IntMulOk i j) fun i j => .int (i * j)) := hG.iD
theorem JB : OpR X (binaryOp .FloorDiv) (rID (fun _ j => 0 < j ∧ j < 2 ^ 100) fun i j => .int (i / j)) := bI.iD
theorem BL : OpR X (binaryOp .Mod) (rID (fun _ j => 0 < j) fun i j => .int (i % j)) := lZ.iD
theorem WZ : OpR X (binaryOp .Pow) (rID pX fun i j => .int (i ^ j.toNat)) := kK.iD
theorem EM : OpR X (compareOp .Lt) (OU fun i j => .bl (decide (i < j))) := pS.i0D
theorem LP : OpR X (compareOp .LtE) (OU fun i j => .bl (decide (i ≤ j))) := qA.i0D
theorem EF : OpR X (compareOp .Gt) (OU fun i j => .bl (decide (j < i))) := pJ.i0D
theorem TU : OpR X (compareOp .GtE) (OU fun i j => .bl (decide (j ≤ i))) := qC.i0D
theorem IT : UnR X (unaryOp .USub) (rUD fun i => .int (-i)) := eD.imp fun _ _ _ z => z.ex
def NZ (x y : V) (P : Bool → Prop) : Prop := match x with
 | .int i => (match y with | .int j => P (decide (i = j)) | .str _ => P false | .non => P false | _ => False)
 | .str i => (match y with | .str j => P (decide (i = j)) | .int _ => P false | .non => P false | _ => False)
 | .bl i => (match y with | .bl j => P (decide (i = j)) | .str _ => P false | .non => P false | _ => False)
 | .non => (match y with | .non => P true | .int _ => P false | .bl _ => P false | .str _ => P false | _ => False)
 | _ => False
theorem NZ.ex {x y : V} {P : Bool → Prop} (h : NZ x y P) : nM x y = true ∧ P (decide (x = y)) := by
 cases x <;> cases y <;> first | exact h.elim | exact ⟨rfl, by simpa [NZ] using h⟩
def gX : R2 := fun x y H Q => NZ x y fun k => Q (.bl k) H
def mS : R2 := fun x y H Q => NZ x y fun k => Q (.bl (!k)) H
theorem ET : OpR X (compareOp .Eq) gX := oS.imp fun _ _ _ _ z => z.ex
theorem RE : OpR X (compareOp .NotEq) mS := qG.imp fun _ _ _ _ z => z.ex
def PK (K : PySem.W.Frag) : R2 := fun x y H Q => CC x fun p => GX y fun i => ∃ xs, SqL K H p xs ∧ ∃ v, atI xs i = some v ∧ Q v H
def WW (K : PySem.W.Frag) : R2 := fun x y H Q => CC x fun p => GX y fun i => ∃ xs, SqT K H p xs ∧ ∃ v, atI xs i = some v ∧ Q v H
theorem AL : IxR X (PK X.K) := gB.imp fun _ _ _ _ z => by
 obtain ⟨p, rfl, z1⟩ := z.ex; obtain ⟨j, rfl, xs, h1, v, h2, h3⟩ := z1.ex; exact ⟨p, xs, j, v, rfl, rfl, h1, h2, h3⟩
theorem AE : IxR X (WW X.K) := mY.imp fun _ _ _ _ z => by
 obtain ⟨p, rfl, z1⟩ := z.ex; obtain ⟨j, rfl, xs, h1, v, h2, h3⟩ := z1.ex; exact ⟨p, xs, j, v, rfl, rfl, h1, h2, h3⟩
def cD : TGs := fun vs σ H Q => o0 vs (Q σ H)
def VV (t : TG) (u : TGs) : TGs := fun vs σ H Q => oC vs fun v r => t v σ H fun σ' H' => u r σ' H' Q
def TB (K : PySem.W.Frag) (n : Nat) (t : TGs) : TG := fun v σ H Q => CC v fun a => ∃ xs, SqT K H a xs ∧ xs.length = n ∧ t xs σ H Q
theorem DA : PGs X [] cD := iI.imp fun _ _ _ _ z => z.ex
theorem AV {e : Expr} {es : List Expr} {t : TG} {u : TGs} (h1 : PG X e t) (h2 : PGs X es u)
  (hs : (assignEach (e :: es) X.env).map (·.2) = assign e X.env :: (assignEach es X.env).map (·.2) := by rfl) : PGs X (e :: es) (VV t u) := (aL h1 h2 hs).imp fun _ _ _ _ z => z.ex
theorem EC {es : List Expr} {k : Nat} {t : TGs} {n : Nat} (hc : X.calm = true) (h : PGs X es t)
  (hn : (assignEach es X.env).length = n := by rfl) (hst : (assignEach es X.env).findIdx? (·.1) = none := by rfl) : PG X (.Tuple es k pos) (TB X.K n t) :=
 (kB hc h hn hst).imp fun _ _ _ _ z => by obtain ⟨a, rfl, xs, z⟩ := z.ex; exact ⟨a, xs, rfl, z⟩
def QW (K : PySem.W.Frag) (tl : TE) : TI := fun σ H R => tl σ H fun x H1 => CC x fun a => (∃ xs, SqL K H1 a xs) ∧ R (Itl K a) H1
def bF (K : PySem.W.Frag) (tl : TE) : TI := fun σ H R => tl σ H fun x H1 => CC x fun a => (∃ xs, SqT K H1 a xs) ∧ R (Itt K a) H1
theorem FE {l : Expr} {tl : TE} (hl : PE X l tl) : PI X tg l (QW X.K tl) := (fQ hl.mono).imp fun _ _ _ q => ⟨_, q, fun _ _ z => z.ex⟩
theorem IX {l : Expr} {tl : TE} (hl : PE X l tl) : PI X tg l (bF X.K tl) := (lX hl.mono).imp fun _ _ _ q => ⟨_, q, fun _ _ z => z.ex⟩
def nN : List V → Hp → VK → Prop := fun xs H Q => o2 xs fun x y => GX x fun i => GX y fun j => Q (.int (if j > i then j else i)) H
def mE : List V → Hp → VK → Prop := fun xs H Q => o2 xs fun x y => GX x fun i => GX y fun j => Q (.int (if j < i then j else i)) H
def kS (K : PySem.W.Frag) : List V → Hp → VK → Prop := fun xs H Q => o1 xs fun x => CC x fun p => ∃ ys, (SqL K H p ys ∨ SqT K H p ys) ∧ Q (.int ys.length) H
def aA (K : PySem.W.Frag) : List V → Hp → VK → Prop := fun xs H Q => o1 xs fun x => CC x fun p => ∃ ys, SqL K H p ys ∧ ∀ l, H l = none → Q (.ref l) (upd H l (.tup ys))
theorem VW (hc : X.calm = true) : DE X (.builtin "max") nN := (ZL hc).imp fun _ _ _ z => by
 obtain ⟨x, y, rfl, z1⟩ := z.ex; obtain ⟨i, rfl, z2⟩ := z1.ex; obtain ⟨j, rfl, z3⟩ := z2.ex; exact ⟨i, j, rfl, z3⟩
theorem VP (hc : X.calm = true) : DE X (.builtin "min") mE := (ZE hc).imp fun _ _ _ z => by
 obtain ⟨x, y, rfl, z1⟩ := z.ex; obtain ⟨i, rfl, z2⟩ := z1.ex; obtain ⟨j, rfl, z3⟩ := z2.ex; exact ⟨i, j, rfl, z3⟩
theorem AZ : DE X (.builtin "len") (kS X.K) := RA.imp fun _ _ _ z => by
 obtain ⟨x, rfl, z1⟩ := z.ex; obtain ⟨p, rfl, ys, z2⟩ := z1.ex; exact ⟨p, ys, rfl, z2⟩
theorem MG : DE X (.type "tuple") (aA X.K) := NC.imp fun _ _ _ z => by
 obtain ⟨x, rfl, z1⟩ := z.ex; obtain ⟨p, rfl, ys, z2⟩ := z1.ex; exact ⟨p, ys, rfl, z2⟩
def mL (K : PySem.W.Frag) (c : Value) : List V → Hp → VK → Prop := fun xs H Q => o2 xs fun x y => BF y c ∧ (∃ n, c = .type n) ∧ ∃ ty, (JK K H x ty ∨ ∃ p, x = .ref p ∧ (∃ ys, SqT K H p ys) ∧ ty = .type "tuple") ∧ ∃ b, PySem.W.kitOne K ty c = some b ∧ Q (.bl b) H
theorem DQ {c : Value} : DE X (.builtin "isinstance") (mL X.K c) := ZT.imp fun _ _ _ z => by
 obtain ⟨x, y, rfl, h1, h2, ty, h3, h4⟩ := z.ex
 exact ⟨x, y, rfl, h1, h2, ty, h3.imp id fun ⟨p, e, ⟨ys, h⟩, h'⟩ => ⟨p, ys, e, h, h'⟩, h4⟩
def NA : V → List V → Hp → VK → Prop := fun x vs H Q => CC x fun l => o1 vs fun y => ∃ xs, H l = some (.lst xs) ∧ xs.length < sizeLine ∧ Q .non (upd H l (.lst (xs ++ [y])))
theorem DP : MtM X "list.append" NA := JD.imp fun _ _ _ _ z => by
 obtain ⟨l, rfl, z1⟩ := z.ex; obtain ⟨y, rfl, xs, z2⟩ := z1.ex; exact ⟨l, xs, y, rfl, rfl, z2⟩
def UK : V → V → V → Hp → (Hp → Prop) → Prop := fun o i v H Q => CC o fun p => GX i fun k => ∃ xs, H p = some (.lst xs) ∧ ∃ j, ixN xs.length k = some j ∧ Q (upd H p (.lst (xs.set j v)))
theorem YG : ZU X UK := bT.imp fun _ _ _ _ _ z => by
 obtain ⟨p, rfl, z1⟩ := z.ex; obtain ⟨k, rfl, xs, h1, j, h2, h3⟩ := z1.ex; exact ⟨p, xs, k, j, rfl, rfl, h1, h2, h3⟩
end
section
variable {X : Cx} {pins : List (Addr × Obj)} {σ : St} {H : Hp} {s : Shared}
theorem TH : ∀ (ds es : List D), ds.length ≠ es.length → deqL ds es = false
 | [], [], h => absurd rfl h
 | [], e :: es, _ => by simp [deqL]
 | d :: ds, [], _ => by simp [deqL]
 | d :: ds, e :: es, h => by rw [deqL, TH ds es (by simpa using h), Bool.and_false]
def lL (K : PySem.W.Frag) (ne : Bool) : R2 := fun x y H Q => CC x fun p => CC y fun q => ∃ xs ys ds es, SqL K H p xs ∧ SqL K H q ys ∧ RpL K H ds xs ∧ RpL K H es ys ∧ depL ds ≤ 60 ∧ Q (.bl (if ne then !deqL ds es else deqL ds es)) H
theorem kR (hu : X.A.units + 64 < cLine) : OpR X (compareOp .NotEq) (lL X.K true) := by
 intro pins s σ H x y v u Q I rx ry h
 obtain ⟨p, rfl, h2⟩ := CC.ex h
 obtain ⟨p', rfl, xs, xs', ds, es, hs, hs', hl, hl', hd, q⟩ := CC.ex h2
 cases rx
 cases ry
 obtain ⟨its, rv, ht, _⟩ := I.list hs
 obtain ⟨its', rv', ht', _⟩ := I.list hs'
 have l1 : its.length = ds.length := by rw [← rv.length, hl.length]
 have l2 : its'.length = es.length := by rw [← rv'.length, hl'.length]
 by_cases hn : ds.length = es.length
 ·refine SeqAt.RcNeAt.lists (e := fun j => deq (ds.getD j .non) (es.getD j .non)) ht.isList ht'.isList (by simp [l1, l2, hn]) (by omega) (fun j h1 h2 => eqAtL_D I hl hl' rv rv' (show X.A.in1.units + depL ds < cLine by show X.A.units + 1 + depL ds < cLine; omega) j (by simpa using h1) (by simpa using h2)) X.prog X.w X.xe _ ?_
  exact BP I q (by
   simp only [if_true]
   rw [← FY]
   simp only [List.size_toArray, l1, hn, Nat.min_self, beq_self_eq_true, Bool.and_true])
 ·refine SeqAt.RcNeAt.lists_lengths ht.isList ht'.isList (by simp [l1, l2, hn]) (by omega) X.prog X.w X.xe _ ?_
  exact BP I q (by simp only [if_true]; rw [TH _ _ hn]; rfl)
end
theorem WB : typeLookup (.type "list_reverseiterator") "__len__" = pure none := by rw [typeLookup_type, builtinLookup_eq_fast]; kernel_rfl
theorem aV : typeLookup (.type "list_reverseiterator") "__length_hint__" = pure (some (.builtin "list_reverseiterator.__length_hint__")) := by rw [typeLookup_type, builtinLookup_eq_fast]; kernel_rfl
section
variable {prog : Program} {w : World} {A : Around} {s : Shared} {E : Value → Shared → Prop} {R : Result → Shared → Prop} {I l : Addr} {items : Array Value}
theorem aI {Q : Bool → Shared → Prop} (hT : s.TypeIs (.ref I) "list_reverseiterator") (h : Q false s) : wpAny (model prog w) A (Builtin.List.listLengthHint (.ref I)) Q E s := by
 unfold Builtin.List.listLengthHint
 refine wpAny_bind (wpAny_specialOf hT WB ?_)
 show wpAny _ _ (specialOf (Value.ref I) (Str.ofString "__length_hint__") >>= _) _ _ _
 refine wpAny_bind (wpAny_specialOf hT aV ?_)
 generalize hid : ("list_reverseiterator.__length_hint__" : String) = id0
 wp_delta
 rw [show splitId id0 = some ("list_reverseiterator", "__length_hint__") from by subst hid; decide +kernel]
 subst hid
 refine wpAny_bind (wpAny_isInstance (T := "list_reverseiterator") (b := true) hT (by rw [isSubtype_type]; kernel_rfl) ?_)
 refine wpAny_ite_split (fun hab => absurd hab (by decide)) (fun _ => ?_)
 refine wpAny_ite_split (fun _ => ?_) (fun hab => absurd (by decide +kernel) hab)
 refine wpAny_ite_split (fun hab => absurd hab (by decide)) (fun _ => ?_)
 exact wpAny_pure h
theorem iT (hh : A.handled = none) (hne : l ≠ I) (S : Addr) (hSI : S ≠ I) (hSl : S ≠ l) (res : Value) (c₀ : Nat) (hit : s.heap.IsRevIter I l ((items.size : Int) - 1)) (hl : s.heap.IsList l items)
  (hS : s.heap.get? S = some { cls := .type "list", data := .seq #[] c₀ }) (hn : items.size ≤ sizeLine)
  (hR : ∀ h' tk acc' c', (∀ b o, b ≠ S → b ≠ I → s.heap.get? b = some o → h'.get? b = some o) → h'.get? S = some { cls := .type "list", dict := none, data := .seq acc' c', slots := #[] } →
   ItemsOf (fun i v => items[items.size - 1 - i]? = some v) acc' items.size → R (.ok (.ret res)) { s with heap := h', toks := tk }) :
  wpAny (model prog w) A.in1 (Builtin.List.listExtendWith (.ref S) (.ref I) res)
   (fun fin s' => match fin with | .done f => R (.ok f) s' | .again c' => c'.quiet = true ∧ codeAny (model prog w) A c' R s') (fun e s' => R (.error e) s') s := by
 have hSf : S ∉ [I, l] := by simp only [List.mem_cons, List.not_mem_nil, or_false, not_or]; exact ⟨hSI, hSl⟩
 have W := Walks.listRev (prog := prog) (w := w) (A := A.in1) hh I l hne items
 have st : ∀ h : Heap, h.IsRevIter I l ((items.size : Int) - 1) → h.IsList l items → 0 ≤ items.size ∧ h.IsRevIter I l ((items.size : Int) - 1 - ((0 : Nat) : Int)) ∧ h.IsList l items := fun h h1 h2 => ⟨Nat.zero_le _, by rw [show (items.size : Int) - 1 - ((0 : Nat) : Int) = (items.size : Int) - 1 by omega]; exact h1, h2⟩
 have key : ∀ (h : Heap) (c₁ tk : Nat), h.IsRevIter I l ((items.size : Int) - 1) → h.IsList l items → (∀ b o, b ≠ S → s.heap.get? b = some o → h.get? b = some o) →
   h.get? S = some { cls := .type "list", data := .seq #[] c₁ } → codeAny (model prog w) A (.builtin "list.extend.loop" ⟨[.ref S, .ref I, res], []⟩) R { s with heap := h, toks := tk } := by
  intro h c₁ tk h1 h2 hk hS₁
  refine codeAny_extend_loopS W.toS hn S hSf res items.size 0 _ #[] c₁ rfl (Nat.zero_le _) (st h h1 h2) hS₁ (ItemsOf.nil _) fun s' acc' c' hm hS' hacc => ?_
  rw [Moved.eq_with hm]
  refine hR s'.heap s'.toks acc' c' (fun b o hb hI e => hm.heap b o (fun hmem => ?_) (hk b o hb e)) hS' hacc
  rcases List.mem_cons.mp hmem with e' | hmem
  ·exact hb e'
  ·exact hI (List.mem_singleton.mp hmem)
 unfold Builtin.List.listExtendWith
 refine wpAny_bind (wpAny_typeOf (T := "list_reverseiterator") hit.typeIs ?_)
 have h1 : Builtin.List.listSameRef (.ref S) (.ref I) = false := by simp [Builtin.List.listSameRef, hSI]
 have h2 : (Value.type "list_reverseiterator" == Value.type "list") = false := by decide
 have h3 : (Value.type "list_reverseiterator" == Value.type "tuple") = false := by decide
 simp only [h1, h2, h3, Bool.or_false, Bool.false_eq_true, if_false]
 refine wpAny_bind (wpAny_pyIter_revIter hit ?_)
 refine wpAny_bind (wpAny_holding (aI hit.typeIs ?_))
 refine wpAny_ite_split (fun _ => ?_) (fun _ => wpAny_pure ⟨plainId_quiet F.plain_extend_loop _, key _ c₀ _ hit hl (fun b o _ e => e) hS⟩)
 refine wpAny_bind (wpAny_rule ?_)
 refine wpAny_bind ?_
 show wpAny _ _ (updateSeq S (·.push .none) >>= fun _ => updateSeq S (·.pop)) _ _ _
 refine wpAny_bind (wpAny_updateSeq hS rfl ?_)
 have hS₂ := Heap.get?_update_self (Obj.mapSeq (·.push Value.none)) hS rfl
 refine wpAny_updateSeq (hz := by seq_fits) hS₂ rfl ?_
 have hS₃ := Heap.get?_update_self (Obj.mapSeq (·.pop)) hS₂ rfl
 have oth : ∀ b o, b ≠ S → s.heap.get? b = some o → ((s.heap.update S (Obj.mapSeq (·.push Value.none))).update S (Obj.mapSeq (·.pop))).get? b = some o :=
  fun b o hb e => (Heap.get?_update_other _ _ (Ne.symm hb)).trans ((Heap.get?_update_other _ _ (Ne.symm hb)).trans e)
 obtain ⟨oi, e1, e2, e3⟩ := id hit
 exact wpAny_pure ⟨plainId_quiet F.plain_extend_loop _, key _ _ _ ⟨oi, oth I oi (Ne.symm hSI) e1, e2, e3⟩ (hl.at fun o e => oth l o (Ne.symm hSl) e) (fun b o hb e => oth b o hb e) hS₃⟩
theorem eF (hh : A.handled = none) (hne : l ≠ I) (S : Addr) (hSI : S ≠ I) (hSl : S ≠ l) (hit : s.heap.IsRevIter I l ((items.size : Int) - 1)) (hl : s.heap.IsList l items)
  (hS : s.heap.get? S = some { cls := .type "list", data := .seq #[] }) (hn : items.size ≤ sizeLine)
  (hR : ∀ h' tk acc' c', (∀ b o, b ≠ S → b ≠ I → s.heap.get? b = some o → h'.get? b = some o) → h'.get? S = some { cls := .type "list", dict := none, data := .seq acc' c', slots := #[] } →
   ItemsOf (fun i v => items[items.size - 1 - i]? = some v) acc' items.size → R (.ok (.ret .none)) { s with heap := h', toks := tk }) :
  wpAny (model prog w) A.in1 (Builtin.«list.__init__» ⟨[.ref S, .ref I], []⟩)
   (fun fin s' => match fin with | .done f => R (.ok f) s' | .again c' => c'.quiet = true ∧ codeAny (model prog w) A c' R s') (fun e s' => R (.error e) s') s := by
 show wpAny _ A.in1 (do let old ← Builtin.List.listItems (.ref S); Builtin.List.listUpdate (.ref S) (fun _ => #[]); letGo old.toList.reverse; Builtin.List.listExtendWith (.ref S) (.ref I) .none) _ _ s
 refine wpAny_bind ?_
 unfold Builtin.List.listItems
 refine wpAny_bind (wpAny_seqItems hS rfl (wpAny_pure ?_))
 show wpAny _ A.in1 (updateSeq S (fun _ => #[]) >>= fun _ => letGo (#[] : Array Value).toList.reverse >>= fun _ => Builtin.List.listExtendWith (.ref S) (.ref I) .none) _ _ s
 refine wpAny_bind (wpAny_updateSeq hS rfl ?_)
 have hS₂ := Heap.get?_update_self (Obj.mapSeq (fun _ => (#[] : Array Value))) hS rfl
 have oth : ∀ b o, b ≠ S → s.heap.get? b = some o → (s.heap.update S (Obj.mapSeq (fun _ => (#[] : Array Value)))).get? b = some o :=
  fun b o hb e => (Heap.get?_update_other _ _ (Ne.symm hb)).trans e
 refine wpAny_bind (wpAny_letGo ?_)
 obtain ⟨oi, e1, e2, e3⟩ := id hit
 refine iT hh hne S hSI hSl .none _ ⟨oi, oth I oi (Ne.symm hSI) e1, e2, e3⟩ (hl.at fun o e => oth l o (Ne.symm hSl) e) hS₂ hn fun h' tk acc' c' hk hS' hacc => ?_
 exact hR h' tk acc' c' (fun b o hb hI e => hk b o hb hI (oth b o hb e)) hS' hacc
theorem OP {Q : Value → Shared → Prop} (hh : A.handled = none) (hne : l ≠ I) (hit : s.heap.IsRevIter I l ((items.size : Int) - 1)) (hl : s.heap.IsList l items) (hn : items.size ≤ sizeLine)
  (hQ : ∀ h' tk c', (∀ b o, b ≠ I → s.heap.get? b = some o → h'.get? b = some o) → h'.get? s.heap.objs.size = some { cls := .type "list", dict := none, data := .seq items.reverse c', slots := #[] } → Q (.ref s.heap.objs.size) { s with heap := h', toks := tk }) :
  wpAny (model prog w) A (call (.type "list") [.ref I]) Q E s := by
 obtain ⟨oi, e1, e2, e3⟩ := id hit
 obtain ⟨ol, f1, f2, nn, f3⟩ := id hl
 have hSI : s.heap.objs.size ≠ I := Nat.ne_of_gt (Heap.lt_size e1)
 have hSl : s.heap.objs.size ≠ l := Nat.ne_of_gt (Heap.lt_size f1)
 refine callType_codes (Q₁ := fun obj s₁ => obj = .ref s.heap.objs.size ∧ s₁ = { s with heap := s.heap.push { cls := .type "list", data := .seq #[] } }) F.called_list (F.typeCall_list_1 _) F.entry_list_init
  (code_list_new _ ⟨rfl, rfl⟩) fun obj s₁ h₁ => ?_
 obtain ⟨rfl, rfl⟩ := h₁
 have hS : (s.heap.push { cls := .type "list", data := .seq #[] }).get? s.heap.objs.size = some { cls := .type "list", data := .seq #[] } := Heap.get?_push_size _ rfl
 refine ⟨⟨_, hS, rfl⟩, F.args_list_init_2 _ _, eF (A := A.in1) (show A.in1.handled = none from hh) hne _ hSI hSl ⟨oi, Heap.get?_push_of_some _ e1, e2, e3⟩ (hl.at fun o e => Heap.get?_push_of_some _ e) hS hn fun h' tk acc' c' hk hS' hacc => ?_⟩
 refine ⟨rfl, hQ h' tk c' (fun b o hb e => hk b o (Nat.ne_of_lt (Heap.lt_size e)) hb (Heap.get?_push_of_some _ e)) ?_⟩
 have ea : acc' = items.reverse := by
  obtain ⟨z1, z2⟩ := hacc
  refine Array.ext (by rw [z1, Array.size_reverse]) fun i h1 h2 => ?_
  have z : items[items.size - 1 - i]? = some acc'[i] := z2 i acc'[i] (Array.getElem?_eq_getElem h1)
  rw [Array.getElem_reverse]
  have hi : items.size - 1 - i < items.size := by rw [z1] at h1; omega
  rw [Array.getElem?_eq_getElem hi] at z
  exact (Option.some.inj z).symm
 rw [← ea]; exact hS'
end
section
variable {X : Cx} {e : Expr} {te : TE} {p p' pos pos' : Pos}
def mZ (K : PySem.W.Frag) (te : TE) : TE := fun σ H Q => te σ H fun x H1 => CC x fun a => ∃ xs, SqL K H1 a xs ∧ ∀ l, H1 l = none → Q (.ref l) (upd H1 l (.lst xs.reverse))
theorem OE (hc : X.calm = true) (hgl : Gl X "list") (hml : X.mg "list" = none) (hgr : Gl X "reversed") (hmr : X.mg "reversed" = none) (ha : PE X e te)
  (he : starEach [.Call (.Name "reversed" p') [e] [] pos'] X.env = [(false, eval (.Call (.Name "reversed" p') [e] [] pos') X.env)] := by rfl)
  (he' : starEach [e] X.env = [(false, eval e X.env)] := by rfl) :
  PE X (.Call (.Name "list" p) [.Call (.Name "reversed" p') [e] [] pos'] [] pos) (mZ X.K te) := by
 intro pins s σ H Q I h
 refine wpAny_Call_Name_kw (HU I hgl hml rfl ?_ (by decide) (by decide))
 refine PyProof.Rows.callWith_type1 ?_ he rfl
 rw [he]
 refine Calls.spliced_cons ?_
 refine wpAny_Call_Name_kw (HU I hgr hmr rfl ?_ (by decide) (by decide))
 refine PyProof.Rows.callWith_type1 ?_ he' rfl
 rw [he']
 refine Calls.spliced_cons (thn (ha pins s σ H _ I h) fun u s1 ⟨x, H1, I1, r1, q1⟩ => Calls.spliced_nil ?_)
 obtain ⟨a, rfl, xs, hq, q⟩ := CC.ex q1
 cases r1
 obtain ⟨its, rv, pl, hz⟩ := I1.list hq
 have hl := pl.isList
 obtain ⟨ol, f1, f2, nn, f3⟩ := id hl
 refine call_reversed_list hl ?_
 refine Calls.spliced_nil ?_
 have hne : a ≠ s1.heap.objs.size := Nat.ne_of_lt (Heap.lt_size f1)
 refine OP (l := a) (I := s1.heap.objs.size) (items := its.toArray) ?_ hne ⟨_, Heap.get?_push_size _ rfl, rfl, rfl⟩ (hl.at fun o e => Heap.get?_push_of_some _ e) (by rw [List.size_toArray, ← rv.length]; exact hz) fun h' tk c' hk hS' => ?_
 ·exact I1.ok.hd hc
 ·have hp : s1.heap.objs.size ≤ (s1.heap.push (revObj a ((its.toArray.size : Int) - 1))).objs.size := by rw [Heap.size_push]; exact Nat.le_succ _
  refine ⟨.ref _, _, I1.laid (t' := tk) (o := .lst xs.reverse) (fun b o e => hk b o (Nat.ne_of_lt (Heap.lt_size e)) (Heap.get?_push_of_some _ e)) hp ?_, rfl, q _ (I1.hok.fresh hp)⟩
  refine ⟨by rw [List.length_reverse]; exact hz, its.reverse, c', rv.reverse, ?_⟩
  rw [hS', List.reverse_toArray]
end
section
variable {X : Cx} {K : PySem.W.Frag} {pos : Pos}
theorem WQ {es : List Expr} {k : Nat} {t : TGs} {n : Nat} (hK : X.K = K) (hc : X.calm = true) (h : PGs X es t)
  (hn : (assignEach es X.env).length = n := by rfl) (hst : (assignEach es X.env).findIdx? (·.1) = none := by rfl) : PG X (.Tuple es k pos) (TB K n t) := hK ▸ EC hc h hn hst
theorem bE (hK : X.K = K) : IxR X (WW K) := hK ▸ AE
theorem PM (hK : X.K = K) : IxR X (PK K) := hK ▸ AL
end
def bU (K : PySem.W.Frag) : V → Option Int → Option Int → Hp → VK → Prop := fun x lo hi H Q => CC x fun a => ∃ xs, SqL K H a xs ∧ ∀ p, H p = none → Q (.ref p) (upd H p (.lst (HQ xs lo hi)))
theorem FV {X : Cx} : SlR X (bU X.K) := gJ.imp fun _ _ _ _ _ z => by obtain ⟨a, rfl, xs, z⟩ := z.ex; exact ⟨a, xs, rfl, z⟩
def VX (t : TE) : TO := fun σ H Q => t σ H fun x H1 => GX x fun i => Q (some i) H1
theorem PO.imp {X : Cx} {e : Option Expr} {t t' : TO} (h : PO X e t) (i : ∀ σ H Q, t' σ H Q → t σ H Q) : PO X e t' := fun pins s σ H Q I q => h pins s σ H Q I (i _ _ _ q)
theorem FF {X : Cx} {e : Expr} {te : TE} (h : PE X e te) : PO X (some e) (VX te) := (fI h.mono).imp fun _ _ _ q => ⟨_, q, fun _ _ z => z.ex⟩
def dD : R2 := fun x y H Q => CC x fun l => CC y fun b => ∃ xs, H l = some (.lst xs) ∧ ∃ zs, H b = some (.lst zs) ∧ xs.length + zs.length ≤ sizeLine ∧ ∀ p, H p = none → Q (.ref p) (upd H p (.lst (xs ++ zs)))
theorem HN {X : Cx} : OpR X (binaryOp .Add) dD := lA.imp fun _ _ _ _ z => by
 obtain ⟨l, rfl, z1⟩ := z.ex; obtain ⟨b, rfl, xs, h1, zs, h2, h3⟩ := z1.ex; exact ⟨l, b, xs, zs, rfl, rfl, h1, h2, h3⟩
section
variable {X : Cx}
theorem iP {elt iter tg : Expr} {ifs : List Expr} {scope sc : Scope} {pos spos py : Pos} {y : Str} {i : Nat} {wi : TI} {g : TG} {tt : TT} {te : TE} {N0 N os : List Str} {js : List Nat}
  (hNd : X.N.Nodup) (hiN : X.N[i]? = some y) (hx : Loc X.env.scope y) (hc : X.calm = true) (hsc : X.env.scope = sc) (hN : X.N = N0) (ok : OC scope sc N0 js os N) (hi : PI X tg iter wi)
  (hg : ∀ s₃ H₃ fp cl, PG (cxC X scope cl N s₃ H₃ fp) tg g) (ht : ∀ s₃ H₃ fp cl, YX (cxC X scope cl N s₃ H₃ fp) ifs tt) (he : ∀ s₃ H₃ fp cl, PE (cxC X scope cl N s₃ H₃ fp) elt te)
  (hs : ∀ x, foldedSetIterable iter X.env x = pure x := by intro _; rfl) (hsw : swapsWith (.ListComp elt [⟨tg, iter, ifs, 0⟩] scope pos) (some (.Name y py)) spos.line X.env = pure true := by rfl)
  (hf : X.fn y = true ∨ X.env.scope.names.lookup y = some .local := by first | exact .inl rfl | exact .inr rfl | assumption) :
  PS X (.Assign [.Name y py] (.ListComp elt [⟨tg, iter, ifs, 0⟩] scope pos) spos) (cS (bX js os wi g tt te) (PV i)) := by
 intro pins s σ H D I h
 rw [exec_Assign_Name_used _ _ _ _ hsw]
 refine wpAny_bind (wpAny_standAt (wpAny_bind ?_))
 show wpAny _ X.A (do let _ ← comprehension (.ListComp elt [⟨tg, iter, ifs, 0⟩] scope pos) scope X.env _ (newList []) false (eval iter X.env) (some (assign (.Name y py) X.env))) _ _ s
 have hfree : ∀ y ∈ scope.names, y.2 = .free → ∃ c, X.env.cells.lookup y.1 = some c := fun y hy e => I.ok.has _ (by
  have := ok.free y hy e
  rw [← hsc] at this
  exact this)
 refine wpAny_bind (wpAny_mono (wpAny_comprehension_free (use := some (assign (.Name y py) X.env)) (Q := fun _ s' => SP X pins D .next s') rfl hs (MP hfree) ok.kind ok.names (thn (hi pins s σ H _ I h) fun v s1 h1 => thn h1 fun itv s2 h2 => ?_)) (fun _ s' hq => wpAny_pure (wpAny_pure hq)) fun _ _ e => e)
 obtain ⟨it, fp, tn, J, H1, e, I2, T, st2, f2, hW⟩ := h2
 subst e
 refine wpAny_newObj_type (wpAny_newFunctionEnv ok.cell (by intro y hy; simp at hy) (fun h₁ hns₁ hsb₁ => ?_) ok.kind)
 dsimp only at hns₁ hsb₁ ⊢
 have hfr : H1 s2.heap.objs.size = none := I2.fresh
 have I3 := I2.lnew (ys := []) (its := []) (t' := s2.toks) .nil (Nat.zero_le _)
 generalize hs3 : ({ s2 with heap := s2.heap.push { cls := .type "list", data := .seq ([] : List Value).toArray }, toks := s2.toks } : Shared) = s₃ at I3
 have eh : s2.heap.push { cls := .type "list", dict := none, data := .seq ([] : List Value).toArray } = s₃.heap := by rw [← hs3]
 rw [eh] at hns₁ hsb₁ ⊢
 have k23 : ∀ b o, s2.heap.get? b = some o → s₃.heap.get? b = some o := fun b o q => by rw [← eh]; exact Heap.get?_push_of_some _ q
 have lt2 : ∀ b ∈ fp, b < s2.heap.objs.size := fun b hb => by
  obtain ⟨o, q, _⟩ := T.obj _ _ st2 b hb
  exact Heap.lt_size q
 have sz3 : s2.heap.objs.size ≤ s₃.heap.objs.size := by rw [← eh, Heap.size_push]; exact Nat.le_succ _
 have f3 : ∀ b ∈ fp, HZ X pins (upd H1 s2.heap.objs.size (.lst [])) b := fun b hb => ⟨by rw [BM (Nat.ne_of_lt (lt2 b hb))]; exact (f2 b hb).1, (f2 b hb).2⟩
 have k34 : ∀ b o, s₃.heap.get? b = some o → h₁.get? b = some o := fun b o q => hsb₁.extBut b o (Nat.ne_of_lt (Heap.lt_size q)) (Heap.get?_push_of_some _ q)
 have I4 := KN (t' := s₃.toks) hc hsc hN ok I3 f3 (fun b hb => Nat.lt_of_lt_of_le (lt2 b hb) sz3) hns₁ k34
 generalize hX' : cxC X scope (DZ X.env.cells scope.names []) N s₃ (upd H1 s2.heap.objs.size (.lst [])) fp = X' at I4
 obtain ⟨W, ⟨m0, w0⟩, turn⟩ := hW _ hfr
 have st4 : tn 0 h₁ := T.keep _ _ _ st2 fun b hb o q => k34 b o (k23 b o q)
 have stat : ∀ {H' : Hp}, (∀ b ∈ fp, H' b = none) → ∀ b ∈ fp, HZ X' [] H' b := fun {H'} hn b hb => by
  subst hX'
  refine ⟨hn b hb, Nat.ne_of_lt (Nat.lt_of_lt_of_le (lt2 b hb) sz3), fun z => ?_, .inl hb, fun x c e => ?_, fun p hp => by cases hp⟩
  ·rcases List.mem_cons.mp (I2.stkSub b z) with q | q
   ·exact (f2 b hb).2.1 q
   ·exact (f2 b hb).2.2.1 q
  ·exact (f2 b hb).2.2.2.2.1 x c (FS (cells := X.env.cells) scope.names [] hfree (fun _ _ e => by cases e) _ _ e)
 have ePr : X'.prog = X.prog := by subst hX'; rfl
 have eW : X'.w = X.w := by subst hX'; rfl
 have eK : X'.K = X.K := by subst hX'; rfl
 have eA : X'.A = X.A := by subst hX'; rfl
 have eE : X'.env = compEnvC scope (DZ X.env.cells scope.names []) s₃.heap.objs.size X.env := by subst hX'; rfl
 have eC : X'.calm = true := by subst hX'; rfl
 have eX : X'.xe = fun _ _ => False := by subst hX'; rfl
 have hg' : PG X' tg g := by subst hX'; exact hg _ _ _ _
 have ht' : YX X' ifs tt := by subst hX'; exact ht _ _ _ _
 have he' : PE X' elt te := by subst hX'; exact he _ _ _ _
 have fin : ∀ {σ' : St} {H' : Hp} {s' : Shared}, Inv X' [] σ' H' s' → (∀ b ∈ fp, H' b = none) → D.nx (σ.set i (some (.ref s2.heap.objs.size))) H' → compPost (model X.prog X.w) X.A X.xe (some (assign (.Name y py) X.env)) (fun _ s' => SP X pins D .next s') (.ref s2.heap.objs.size) s₃.heap.objs.size (.ok .next) s' := by
  intro σ' H' s' I' hn q
  obtain ⟨m, hm, _⟩ := id I'.loc
  subst hX'
  have fC : H' s₃.heap.objs.size = none := I'.free
  have u1 : Un (frs X.stack) fp (upd H1 s2.heap.objs.size (.lst [])) H' s₃.heap s'.heap := by
   have b0 := I'.base
   exact ⟨fun b o e n hb hx => b0.keep b o e n hb hx, fun b o e n hb hx => b0.slot b o e n hb hx, b0.free, fun b o e hx => b0.there b o e hx, b0.tups, b0.frzs, b0.tbls⟩
  have Ip := I3.call' (s' := s') (ch := fp) I'.os u1 I'.hok I'.bare fun b hb => ⟨(f2 b hb).2.2.2.1, (f2 b hb).2.1, (f2 b hb).2.2.2.2.1, (f2 b hb).2.2.2.2.2⟩
  have cl : X.env.locals ≠ s₃.heap.objs.size := Nat.ne_of_lt I3.lt
  have cc : ∀ x c, X.env.cells.lookup x = some c → c ≠ s₃.heap.objs.size := fun x c e => by
   obtain ⟨v, o, ho, _⟩ := I3.cell x c e
   exact Nat.ne_of_lt (Heap.lt_size ho)
  show wpAny (model X.prog X.w) X.A (assign (.Name y py) X.env (.ref s2.heap.objs.size)) _ _ s'
  refine wpAny_assign_Name (PB Ip hNd hiN hx (v := .ref s2.heap.objs.size) rfl (fun s'' I'' ⟨a, sa, ha⟩ => ?_) hf)
  have na : s₃.heap.objs.size ≠ a := by
   rcases ha with ha | ha
   ·rw [ha]; exact Ne.symm cl
   ·exact Ne.symm (cc _ _ ha)
  refine ⟨m, hm.sameBut sa na, fun h3 sb => ⟨_, H', ?_, q⟩⟩
  have hok' : HOk X.prog X.w H' h3 := fun b ob e => by
   refine (I''.hok b ob e).stay (fun c w' hc' q' => (sb.2 c ?_).trans q') (fun _ q' => q') fun _ _ q' => q'
   rintro rfl
   rcases hc' with z | z
   ·have e' := e; rw [← z] at e'; rw [fC] at e'; cases e'
   ·rw [fC] at z; cases z
  have u2 : Un (frs X.stack) [s₃.heap.objs.size] H' H' s''.heap h3 :=
   have ne : ∀ b, b ∉ [s₃.heap.objs.size] → b ≠ s₃.heap.objs.size := fun b hb e => hb (by rw [e]; exact List.mem_singleton_self _)
   ⟨fun b o e n hb hx => (sb.2 b (ne b hx)).trans e, fun b o e n hb hx => ⟨o.slots, (sb.2 b (ne b hx)).trans e⟩, fun b o e n hx => n, fun b o e hx => ⟨o, (sb.2 b (ne b hx)).trans e⟩, fun b xs e => e, fun b o u e => e, fun b ps e => ⟨#[], by rw [e]; simp⟩⟩
  exact I''.call' (s' := { s'' with heap := h3 }) (ch := [s₃.heap.objs.size]) rfl u2 hok' I''.bare fun b hb => by
   rw [List.mem_singleton.mp hb]
   exact ⟨.inr I3.sz, Ne.symm cl, cc, fun p hp e => absurd (Heap.lt_size (I3.pin p hp).1) (by rw [e]; exact Nat.lt_irrefl _)⟩
 have loop : codeAny (model X.prog X.w) X.A (.compLoop (.ListComp elt [⟨tg, iter, ifs, 0⟩] scope pos) 0 (.ref it) (.ref s2.heap.objs.size) (compEnvC scope (DZ X.env.cells scope.names []) s₃.heap.objs.size X.env))
   (compPost (model X.prog X.w) X.A X.xe (some (assign (.Name y py) X.env)) (fun _ s' => SP X pins D .next s') (.ref s2.heap.objs.size) s₃.heap.objs.size) { s₃ with heap := h₁, toks := s₃.toks } := by
  refine OX (fun n s' => ∃ i σ' H', Inv X' [] σ' H' s' ∧ tn i s'.heap ∧ (∀ b ∈ fp, H' b = none) ∧ W i n σ' H') ?_ m0 ⟨0, _, _, I4, st4, fun b hb => (f3 b hb).1, w0⟩
  rintro n s5 ⟨i, σ5, H5, I5, st5, fr5, w5⟩
  rw [← ePr, ← eW, ← eA, ← eE]
  rcases turn i n σ5 H5 w5 with ⟨stop, qn⟩ | ⟨go, step⟩
  ·have := T.done X' ePr eW eK eC i [] s5 σ5 H5 X'.xe I5 (stat fr5) st5 stop
   rw [eX] at this
   rw [← ePr, ← eW] at this
   refine thn this fun r s6 ⟨hr, I6⟩ => ?_
   subst hr
   dsimp only
   rw [ePr, eW, eA]
   exact fin I6 fr5 qn
  ·have := T.item X' ePr eW eK eC i [] s5 σ5 H5 X'.xe I5 (stat fr5) st5 go
   rw [eX] at this
   rw [← ePr, ← eW] at this
   refine thn this fun r s6 ⟨u, hr, h6⟩ => ?_
   subst hr
   dsimp only
   refine thn h6 fun _ s7 ⟨x, H7, I7, r7, y7, st7, fr7⟩ => ?_
   have I7' := I7.pinned (stat fr7) (T.obj _ _ st7)
   have g7 := hg' _ s7 σ5 H7 x u _ I7' r7 (step x H7 y7)
   rw [eX] at g7
   refine thn g7 fun _ s8 ⟨σ8, H8, I8, q8⟩ => ?_
   have t8 := ht' _ s8 σ8 H8 _ I8 q8
   rw [eX] at t8
   have again : ∀ {σ9 : St} {H9 : Hp} {s9 : Shared}, Inv X' ([] ++ FG fp s7.heap) σ9 H9 s9 → tn (i + 1) s9.heap ∧ ∀ b ∈ fp, H9 b = none := fun {σ9 H9 s9} I9 => by
    refine ⟨T.keep _ _ _ st7 fun b hb o e => (I9.pin (b, o) (List.mem_append_right _ (List.mem_append_right _ (CH hb e)))).1, fun b hb => ?_⟩
    obtain ⟨o, e, d⟩ := T.obj _ _ st7 b hb
    exact (I9.pin (b, o) (List.mem_append_right _ (List.mem_append_right _ (CH hb e)))).2.1
   refine thn t8 fun b s9 ⟨H9, I9, q9⟩ => ?_
   cases b with
   | false =>
    rw [if_neg Bool.false_ne_true] at q9 ⊢
    obtain ⟨m', hm, w9⟩ := q9
    exact ⟨m', hm, i + 1, σ8, H9, I9.unpinned, (again I9).1, (again I9).2, w9⟩
   | true =>
    rw [if_pos rfl] at q9 ⊢
    have e9 := he' _ s9 σ8 H9 _ I9 q9
    rw [eX] at e9
    refine thn e9 fun y s10 ⟨z, H10, I10, r10, ys, hy, hlen, m', hm, w10⟩ => ?_
    have a10 := JD (X := X') _ s10 σ8 H10 (.ref s2.heap.objs.size) [z] _ _ (fun _ H11 => H11 = upd H10 s2.heap.objs.size (.lst (ys ++ [z]))) I10 rfl (.cons r10 .nil) ⟨_, ys, z, rfl, rfl, hy, hlen, rfl⟩
    rw [eX] at a10
    refine thn a10 fun _ s11 ⟨_, H11, I11, _, e11⟩ => ?_
    subst e11
    exact ⟨m', hm, i + 1, σ8, _, I11.unpinned, (again I11).1, (again I11).2, w10⟩
 have es : ({ s2 with heap := h₁, toks := s2.toks + ([] : List (Str × Value)).length } : Shared) = { s₃ with heap := h₁, toks := s₃.toks } := by rw [← hs3]; rfl
 rw [show ({ s2 with heap := h₁, toks := s2.toks + ([] : List (Str × Value)).length } : Shared) = { s₃ with heap := h₁, toks := s₃.toks } from es]
 exact codeAny_compStart_list loop (T.self _ 0 _ _ _ st4 loop)
end
section
variable {X : Cx} {pins : List (Addr × Obj)} {σ : St} {H : Hp} {s : Shared} {h' : Heap} {fp : List Addr} {t' : Nat}
theorem Inv.turnedNew {p : Addr} {o : HO} (I : Inv X pins σ H s) (k : ∀ b o, b ∉ fp → s.heap.get? b = some o → h'.get? b = some o) (hf : ∀ b ∈ fp, HZ X pins H b) (hp : s.heap.objs.size ≤ p) (new : DF X.prog X.w (upd H p o) h' p o) :
  Inv X pins σ (upd H p o) { s with heap := h', toks := t' } := by
 have nit : ∀ b u, H b = some u → b ∉ fp := fun b u e z => by rw [(hf b z).1] at e; cases e
 have hL : X.env.locals ∉ fp := fun z => (hf _ z).2.1 rfl
 have hn : H p = none := I.hok.fresh hp
 have np : ∀ b u, s.heap.get? b = some u → b ≠ p := fun b u e => Nat.ne_of_lt (Nat.lt_of_lt_of_le (Heap.lt_size e) hp)
 refine I.step (g' := s.gens) (d' := s.drawn) (ch := fp) (fun b hb => ?_) (fun b o _ _ hc e _ => k b o hc e) (fun b o _ _ hc e _ => ⟨o.slots, k b o hc e⟩) (fun b u _ e n => by rw [BM (np b u e)]; exact n)
  (fun b o hc e => ⟨o, k b o hc e⟩) (fun b xs e => by rw [BM (CG e hn)]; exact e) (fun b _ _ e => by rw [BM (CG e hn)]; exact e) (fun b ps e => ⟨#[], by rw [BM (CG e hn), e]; simp⟩) (fun m hm => ?_) (fun b u e => ?_) I.bare
 ·obtain ⟨_, q1, _, q3, q4, q5⟩ := hf b hb
  exact ⟨q3, q1, q4, q5⟩
 ·obtain ⟨o, es, ep, ho, r⟩ := hm
  exact ⟨o, es, ep, k _ o hL ho, r⟩
 ·by_cases hb : b = p
  ·subst hb; rw [AD] at e; cases e; exact new
  ·rw [BM hb] at e
   refine (I.hok b u e).stay (fun c v hc q => k c v ?_ q) (fun c q => by rw [BM (CG q hn)]; exact q) fun c xs q => by rw [BM (CG q hn)]; exact q
   rcases hc with z | z
   ·rw [z]; exact nit b u e
   ·exact nit c _ z
end
section
variable {X : Cx} {elts : List Expr} {tx : Nat} {tp p pos : Pos}
end
section
variable {X : Cx} {pins : List (Addr × Obj)} {σ : St} {H : Hp} {s : Shared}
theorem BH.get' : ∀ {vs : List V} {its : List Value} {j : Nat} {u : Value}, BH vs its → its[j]? = some u → ∃ v, vs[j]? = some v ∧ BF v u
 | _, _, j, u, .nil, h => by simp at h
 | _, _, 0, u, .cons r t, h => ⟨_, rfl, by simp at h; exact h ▸ r⟩
 | _, _, j + 1, u, .cons r t, h => by simpa using BH.get' t (by simpa using h)
def OW (x : V) : Bool := match x with | .non => true | _ => false
def RY (x : V) (P : Prop) : Prop := match x with | .non => P | _ => False
theorem RY.ex {x : V} {P : Prop} (h : RY x P) : x = .non ∧ P := by cases x <;> first | exact ⟨rfl, h⟩ | exact h.elim
theorem SI (x : V) : OW x = decide (x = .non) := by cases x <;> simp [OW]
def bJ : R2 := fun x y H Q => RY y (Q (.bl (OW x)) H)
def UO : R2 := fun x y H Q => RY y (Q (.bl (!OW x)) H)
theorem iR : OpR X (compareOp .Is) bJ := lJ.imp fun _ _ _ _ z => by obtain ⟨e, z⟩ := RY.ex z; exact ⟨e, by rw [← SI]; exact z⟩
theorem KF : OpR X (compareOp .IsNot) UO := fY.imp fun _ _ _ _ z => by obtain ⟨e, z⟩ := RY.ex z; exact ⟨e, by rw [← SI]; exact z⟩
end
section
variable {X : Cx} {a b : Expr} {ta : TA} {p p' pos pos' : Pos}
end
section
variable {X : Cx}
end
theorem UW {K : PySem.W.Frag} {H : Hp} {ds : List D} {x : V} : Rp K H (.tup ds) x ↔ ∃ p xs, x = .ref p ∧ SqT K H p xs ∧ RpL K H ds xs := by rw [Rp]
section
variable {X : Cx}
theorem cR {prog : Program} {w : World} {A : Around} {E : Value → Shared → Prop} {s : Shared} {t b : Addr} {ws : List Value} {Q : Value → Shared → Prop} (ht : IsTup s.heap t #[]) (hb : IsTup s.heap b ws.toArray) (h : Q (.ref b) s) :
  wpAny (model prog w) A (binaryOp .Add (.ref t) (.ref b)) Q E s := by
 obtain ⟨⟨cls, dd, data, sl⟩, ho, hc, n, hd⟩ := id ht
 obtain ⟨⟨cls2, dd2, data2, sl2⟩, ho2, hc2, n2, hd2⟩ := id hb
 simp only at hc hd hc2 hd2
 subst hc hd hc2 hd2
 exact concat_meets ⟨_, ho, rfl⟩ ⟨_, ho2, rfl⟩ noFill_tuple_add seq_tuple_add PySem.F.slot_tuple_add PySem.F.entry_tuple_add (PySem.F.args_tuple_add_2 _ _)
  (tuple_addW0 t b #[] ws.toArray n n2 dd dd2 sl sl2 (by simp)) ⟨ho, ho2, h⟩
def UY (K : PySem.W.Frag) : R2 := fun x y H Q => ∃ ds es, Rp K H (.tup ds) x ∧ Rp K H (.tup es) y ∧ ds.length + es.length ≤ sizeLine ∧ ∀ v H', AJ H H' → Rp K H' (.tup (ds ++ es)) v → Q v H'
theorem RZ : OpR X (binaryOp .Add) (UY X.K) := by
 intro pins s σ H x y v u Q I rx ry h
 obtain ⟨ds, es, hx, hy, hz, q⟩ := h
 obtain ⟨a, xs, rfl, ha, la⟩ := UW.mp hx
 obtain ⟨b, ys, rfl, hb, lb⟩ := UW.mp hy
 by_cases h0 : xs = []
 ·subst h0
  have e : ds = [] := by have := la.length; simp at this; exact List.length_eq_zero_iff.mp this.symm
  subst e
  cases rx
  cases ry
  obtain ⟨its, r1, p1, _⟩ := I.tuple ha
  obtain ⟨its2, r2, p2, _⟩ := I.tuple hb
  cases r1
  exact cR p1 p2 ⟨.ref b, H, I, rfl, q _ _ (AJ.refl _) hy⟩
 ·refine hV pins s σ H _ _ v u Q I rx ry ⟨a, b, xs, ys, rfl, rfl, ha, hb, h0, by rw [la.length, lb.length]; exact hz, fun e => ?_, fun _ p hp => ?_⟩
  ·subst e
   have e : es = [] := by have := lb.length; simp at this; exact List.length_eq_zero_iff.mp this.symm
   subst e
   exact q _ _ (AJ.refl _) (by rw [List.append_nil]; exact hx)
  ·exact q _ _ (AJ.upd hp) (UW.mpr ⟨p, _, rfl, SqT.of AD, (la.app lb).same (AJ.upd hp)⟩)
abbrev EnT := List (List Key × Addr × V)
section
variable {pins : List (Addr × Obj)} {σ : St} {H : Hp} {s : Shared} {a b : Addr} {es : EnT} {k : List Key}
end
section
variable {o i value : Expr} {pos pos' : Pos} {td ty tv : TE}
end
end
abbrev NK := Int × Int × Int × Int
def QC (h : Heap) (k : NK) (a : Addr) : Prop := ∃ (p q : Addr) (ti th ta tb : Tok), IsTup h a #[.int k.1 ti, .ref p] ∧ IsTup h p #[.int k.2.1 th, .ref q] ∧ IsTup h q #[.int k.2.2.1 ta, .int k.2.2.2 tb]
theorem DB {h : Heap} {a : Addr} {xs ys : Array Value} (p : IsTup h a xs) (q : IsTup h a ys) : xs = ys := by
 obtain ⟨o, e, _, n, d⟩ := p
 obtain ⟨o', e', _, n', d'⟩ := q
 rw [e] at e'
 cases e'
 rw [d] at d'
 injection d'
theorem QC.inj {h : Heap} {a : Addr} {x y : NK} (hx : QC h x a) (hy : QC h y a) : x = y := by
 obtain ⟨p, q, _, _, _, _, h1, h2, h3⟩ := hx
 obtain ⟨p', q', _, _, _, _, g1, g2, g3⟩ := hy
 have e1 := DB h1 g1
 simp at e1
 obtain ⟨⟨a1, _⟩, rfl⟩ := e1
 have e2 := DB h2 g2
 simp at e2
 obtain ⟨⟨a2, _⟩, rfl⟩ := e2
 have e3 := DB h3 g3
 simp at e3
 obtain ⟨⟨a3, _⟩, a4, _⟩ := e3
 obtain ⟨x1, x2, x3, x4⟩ := x
 obtain ⟨y1, y2, y3, y4⟩ := y
 simp_all
theorem KW {h h' : Heap} {a d : Addr} {xs : Array Value} {o : Obj} {es : Array DictEntry} {ep : Nat} (p : IsTup h a xs) (hd : h.get? d = some o) (e : o.data = .dict es ep) (s : Heap.SameBut d h h') : IsTup h' a xs := by
 obtain ⟨o', e', c, n, dd⟩ := p
 have hne : a ≠ d := by
  rintro rfl
  rw [hd] at e'
  cases e'
  rw [e] at dd
  cases dd
 exact ⟨o', by rw [s.2 a hne]; exact e', c, n, dd⟩
def PY (x y : Int) : Int := reduceHash (Builtin.Tuple.tupleHashOf [x, y])
section
variable {prog : Program} {w : World} {A : Around} {E : Value → Shared → Prop} {s : Shared}
theorem GE {a : Addr} {u v : Value} {Q : Int → Shared → Prop} (ht : IsTup s.heap a #[u, v]) (hA : A.units < cLine)
  (h : wpAny (model prog w) A.in1 (pyHash u) (fun x s1 => wpAny (model prog w) A.in1 (pyHash v) (fun y s2 => Q (PY x y) { s2 with toks := s2.toks + 1 }) E s1) E s) : wpAny (model prog w) A (pyHash (.ref a)) Q E s := by
 show wpAny (model prog w) A (pyHashByItsType (.ref a)) Q E s
 refine W.pyHash_slot (T := "tuple") ht.typeIs PySem.F.slot_tuple_hash PySem.F.entry_tuple_hash (PySem.F.args_tuple_hash_1 _) (by decide) (.inr hA) ?_
 unfold Builtin.«tuple.__hash__»
 refine wpAny_bind ?_
 rw [show slotArgs "__hash__" 0 { pos := [.ref a] } = pure (.ref a, []) from rfl]
 refine wpAny_pure ?_
 dsimp only
 refine wpAny_bind (tupleItemsOf_ ht ?_)
 refine wpAny_bind ?_
 rw [show (#[u, v] : Array Value) = [u, v].toArray from rfl, List.forIn_toArray, List.forIn_cons]
 refine wpAny_bind (wpAny_bind (wpAny_mono h (fun x s1 h1 => wpAny_pure ?_) fun _ _ z => z))
 dsimp only
 rw [List.forIn_cons]
 refine wpAny_bind (wpAny_bind (wpAny_mono h1 (fun y s2 h2 => wpAny_pure ?_) fun _ _ z => z))
 dsimp only
 rw [List.forIn_nil]
 refine wpAny_pure ?_
 exact wpAny_bind (wpAny_mkInt (wpAny_pure ⟨_, _, rfl, h2⟩))
def UF (k : NK) : Int := PY (hashInt k.1) (PY (hashInt k.2.1) (PY (hashInt k.2.2.1) (hashInt k.2.2.2)))
theorem gY {k : NK} {a : Addr} {Q : Int → Shared → Prop} (hA : A.units + 3 < cLine) (hk : QC s.heap k a) (q : Q (UF k) { s with toks := s.toks + 7 }) : wpAny (model prog w) A (pyHash (.ref a)) Q E s := by
 obtain ⟨p, r, ti, th, ta, tb, h1, h2, h3⟩ := hk
 refine GE h1 (by omega) (wpAny_pyHash_int ?_)
 refine GE (s := { s with toks := s.toks + 1 }) h2 (show A.units + 1 < cLine by omega) (wpAny_pyHash_int ?_)
 refine GE (s := { s with toks := s.toks + 1 + 1 }) h3 (show A.units + 1 + 1 < cLine by omega) (wpAny_pyHash_int (wpAny_pyHash_int ?_))
 exact q
theorem bB {k : NK} {a : Addr} {Q : Bool → Shared → Prop} (hk : QC s.heap k a) (q : Q true s) : wpAny (model prog w) A (eqIsQuiet 8 (.ref a)) Q E s := by
 obtain ⟨p, r, ti, th, ta, tb, h1, h2, h3⟩ := hk
 have step : ∀ (n : Nat) (a : Addr) (u v : Value) (Q : Bool → Shared → Prop), IsTup s.heap a #[u, v] → wpAny (model prog w) A (eqIsQuiet n u) (fun b s1 => b = true ∧ s1 = s) E s → wpAny (model prog w) A (eqIsQuiet n v) (fun b s1 => b = true ∧ s1 = s) E s → Q true s → wpAny (model prog w) A (eqIsQuiet (n + 1) (.ref a)) Q E s := by
  intro n a u v Q ht hu hv q
  rw [eqIsQuiet.eq_2]
  refine wpAny_bind (wpAny_specialOf ht.typeIs PySem.F.slot_tuple_eq.lookup ?_)
  show wpAny _ _ (PySem.isInstance (.ref a) (.type "tuple") >>= _) _ _ _
  refine wpAny_bind (wpAny_isInstance ht.typeIs isSubtype_tuple_tuple ?_)
  rw [if_neg (by decide)]
  obtain ⟨o, e, c, n', d⟩ := ht
  rw [seqItems?.eq_1]
  refine wpAny_bind (wpAny_bind (wpAny_load e ?_))
  rw [d]
  refine wpAny_pure ?_
  refine wpAny_bind ?_
  rw [show ((some (#[u, v] : Array Value)).getD #[]) = [u, v].toArray from rfl, List.forIn_toArray, List.forIn_cons]
  refine wpAny_bind (wpAny_bind (wpAny_mono hu (fun b s1 hb => ?_) fun _ _ z => z))
  obtain ⟨rfl, rfl⟩ := hb
  rw [if_neg (by decide)]
  refine wpAny_pure ?_
  dsimp only
  rw [List.forIn_cons]
  refine wpAny_bind (wpAny_bind (wpAny_mono hv (fun b s1 hb => ?_) fun _ _ z => z))
  obtain ⟨rfl, rfl⟩ := hb
  rw [if_neg (by decide)]
  refine wpAny_pure ?_
  dsimp only
  rw [List.forIn_nil]
  exact wpAny_pure (wpAny_pure q)
 have fl : ∀ (n : Nat) (i : Int) (t : Tok), wpAny (model prog w) A (eqIsQuiet n (.int i t)) (fun b s1 => b = true ∧ s1 = s) E s := fun n i t => by
  rw [eqIsQuiet_byValue n (by rfl)]
  exact wpAny_pure ⟨rfl, rfl⟩
 exact step 7 a _ _ _ h1 (fl _ _ _) (step 6 p _ _ _ h2 (fl _ _ _) (step 5 r _ _ _ h3 (fl _ _ _) (fl _ _ _) ⟨rfl, rfl⟩) ⟨rfl, rfl⟩) q
theorem JT {a b : Addr} {u v u' v' : Value} {k1 k2 : Bool} (h1 : IsTup s.heap a #[u, v]) (h2 : IsTup s.heap b #[u', v']) (hA : A.units < cLine) (e1 : SeqAt.EqAt A.in1 s u u' k1) (e2 : SeqAt.EqAt A.in1 s v v' k2) (hs : a = b → (k1 && k2) = true) : SeqAt.EqAt A s (.ref a) (.ref b) (k1 && k2) := by
 by_cases hab : a = b
 ·rw [hs hab]
  subst hab
  exact SeqAt.EqAt.same _
 ·have key := SeqAt.RcAt.tuples (e := fun j => if j = 0 then k1 else k2) h1 h2 hA (fun j g1 g2 => by
   have hj : j = 0 ∨ j = 1 := by simp at g1; omega
   rcases hj with rfl | rfl
   ·exact e1
   ·exact e2)
  refine SeqAt.EqAt.of_refs hab ?_
  have e : ((List.range (min (#[u, v] : Array Value).size (#[u', v'] : Array Value).size)).all (fun j => if j = 0 then k1 else k2) && (#[u, v] : Array Value).size == (#[u', v'] : Array Value).size) = (k1 && k2) := by
   cases k1 <;> cases k2 <;> rfl
  rw [e] at key
  exact key
theorem oO {x y : NK} {a b : Addr} {Q : Bool → Shared → Prop} (hA : A.units + 3 < cLine) (hx : QC s.heap x a) (hy : QC s.heap y b) (q : Q (decide (x = y)) s) : wpAny (model prog w) A (eqBool (.ref a) (.ref b)) Q E s := by
 obtain ⟨p, r, ti, th, ta, tb, h1, h2, h3⟩ := hx
 obtain ⟨p', r', ti', th', ta', tb', g1, g2, g3⟩ := hy
 have E3 : SeqAt.EqAt A.in1.in1 s (.ref r) (.ref r') ((x.2.2.1 == y.2.2.1) && (x.2.2.2 == y.2.2.2)) := JT h3 g3 (show A.units + 1 + 1 < cLine by omega) (SeqAt.EqAt.int_int _ _ _ _) (SeqAt.EqAt.int_int _ _ _ _) (by
  rintro rfl
  have := DB h3 g3
  simp at this
  simp [this.1.1, this.2.1])
 have E2 : SeqAt.EqAt A.in1 s (.ref p) (.ref p') ((x.2.1 == y.2.1) && ((x.2.2.1 == y.2.2.1) && (x.2.2.2 == y.2.2.2))) := JT h2 g2 (show A.units + 1 < cLine by omega) (SeqAt.EqAt.int_int _ _ _ _) E3 (by
  rintro rfl
  have := DB h2 g2
  simp at this
  obtain ⟨⟨a1, _⟩, rfl⟩ := this
  have := DB h3 g3
  simp at this
  simp [this.1.1, this.2.1, a1])
 have E1 : SeqAt.EqAt A s (.ref a) (.ref b) ((x.1 == y.1) && ((x.2.1 == y.2.1) && ((x.2.2.1 == y.2.2.1) && (x.2.2.2 == y.2.2.2)))) := JT h1 g1 (by omega) (SeqAt.EqAt.int_int _ _ _ _) E2 (by
  rintro rfl
  have := DB h1 g1
  simp at this
  obtain ⟨⟨a0, _⟩, rfl⟩ := this
  have := DB h2 g2
  simp at this
  obtain ⟨⟨a1, _⟩, rfl⟩ := this
  have := DB h3 g3
  simp at this
  simp [this.1.1, this.2.1, a1, a0])
 refine E1 prog w E Q ?_
 have e : ((x.1 == y.1) && ((x.2.1 == y.2.1) && ((x.2.2.1 == y.2.2.1) && (x.2.2.2 == y.2.2.2)))) = decide (x = y) := by
  obtain ⟨x1, x2, x3, x4⟩ := x
  obtain ⟨y1, y2, y3, y4⟩ := y
  rw [Bool.eq_iff_iff]
  simp [Prod.ext_iff]
 rw [e]
 exact q
def DD (prog : Program) (w : World) : HeapKind prog w NK where
 is := QC
 hash := UF
 draws := fun _ => 7
 room := fun A => A.units + 3 < cLine
 inj := QC.inj
 keeps := fun ⟨p, q, ti, th, ta, tb, h1, h2, h3⟩ hd e sb => ⟨p, q, ti, th, ta, tb, KW h1 hd e sb, KW h2 hd e sb, KW h3 hd e sb⟩
 pyHash := fun hA hk q => gY hA hk q
 eqBool := fun hA hx hy q => oO hA hx hy q
 quiet := fun hk q => bB hk q
end
abbrev EnN := List (NK × Addr × V)
def EVN : EnN → List (NK × Addr × Value) → Prop := Paired fun p q => p.1 = q.1 ∧ p.2.1 = q.2.1 ∧ BF p.2.2 q.2.2
def DN (P : Program) (w : World) (a : Addr) (es : EnN) (ep : Nat) : HO := .ext fun h => (a == sysModules) = false ∧ ∃ xs, EVN es xs ∧ ∃ o en, h.get? a = some o ∧ o.ExactDict ∧ o.data = .dict en ep ∧ en.toList = xs.map (entryOfKey (DD P w)) ∧ (xs.map (·.1)).Nodup
def nkD (k : NK) : D := .tup [.int k.1, .tup [.int k.2.1, .tup [.int k.2.2.1, .int k.2.2.2]]]
def ID (K : PySem.W.Frag) (H : Hp) (es : EnN) : Prop := ∀ x ∈ es, Rp K H (nkD x.1) (.ref x.2.1)
theorem EVN.mem : ∀ {es : EnN} {xs : List (NK × Addr × Value)}, EVN es xs → ∀ x ∈ xs, ∃ y ∈ es, y.1 = x.1 ∧ y.2.1 = x.2.1
 | _, _, .nil, x, hx => by cases hx
 | _, _, .cons h t, x, hx => by
  rcases List.mem_cons.mp hx with rfl | hx
  ·exact ⟨_, List.mem_cons_self, h.1, h.2.1⟩
  ·obtain ⟨y, hy, e⟩ := EVN.mem t x hx
   exact ⟨y, List.mem_cons_of_mem _ hy, e⟩
theorem EVN.app {es es' : EnN} {xs xs' : List (NK × Addr × Value)} (h : EVN es xs) (h' : EVN es' xs') : EVN (es ++ es') (xs ++ xs') := by
 unfold EVN at *
 induction h with
 | nil => exact h'
 | cons a _ ih => exact .cons a ih
def lkN (es : EnN) (k : NK) : Option V := (es.find? fun x => decide (x.1 = k)).map (·.2.2)
theorem EVN.look : ∀ {es : EnN} {xs : List (NK × Addr × Value)} {k : NK} {v : V}, EVN es xs → lkN es k = some v → ∃ p, atKey xs k = some p ∧ BF v p.2
 | _, _, k, v, .nil, h => by cases h
 | (k1, a1, v1) :: es, (k2, a2, v2) :: xs, k, v, .cons h t, e => by
  obtain ⟨rfl, rfl, r⟩ := h
  unfold lkN at e
  unfold atKey
  rw [List.find?_cons] at e ⊢
  by_cases hk : k1 = k
  ·simp only [hk, decide_true] at e ⊢
   cases e
   exact ⟨_, rfl, r⟩
  ·simp only [hk, decide_false] at e ⊢
   exact EVN.look t e
theorem EVN.none : ∀ {es : EnN} {xs : List (NK × Addr × Value)} {k : NK}, EVN es xs → lkN es k = none → atKey xs k = none
 | _, _, k, .nil, _ => rfl
 | (k1, a1, v1) :: es, (k2, a2, v2) :: xs, k, .cons h t, e => by
  obtain ⟨rfl, rfl, r⟩ := h
  unfold lkN at e
  unfold atKey
  rw [List.find?_cons] at e ⊢
  by_cases hk : k1 = k
  ·simp only [hk, decide_true] at e
   cases e
  ·simp only [hk, decide_false] at e ⊢
   exact EVN.none t e
section
variable {X : Cx} {pins : List (Addr × Obj)} {σ : St} {H : Hp} {s : Shared} {a b : Addr} {es : EnN} {ep : Nat} {k : NK}
theorem SJ (I : Inv X pins σ H s) (h : Rp X.K H (nkD k) (.ref b)) : (DD X.prog X.w).is s.heap k b := by
 unfold nkD at h
 obtain ⟨p1, x1, y1, e1, h1, r1, r1'⟩ := BT.mp h
 cases e1
 obtain ⟨p2, x2, y2, rfl, h2, r2, r2'⟩ := BT.mp r1'
 obtain ⟨p3, rfl, h3⟩ := BC.mp r2'
 rw [Rp] at r1 r2
 subst r1 r2
 obtain ⟨i1, v1, t1, _⟩ := I.tuple h1
 obtain ⟨i2, v2, t2, _⟩ := I.tuple h2
 obtain ⟨i3, v3, t3, _⟩ := I.tuple h3
 obtain ⟨u1, w1, rfl, a1, a2⟩ := HV v1
 obtain ⟨u2, w2, rfl, c1, c2⟩ := HV v2
 obtain ⟨u3, w3, rfl, e1, e2⟩ := HV v3
 obtain ⟨ti, rfl⟩ := a1
 cases a2
 obtain ⟨th, rfl⟩ := c1
 cases c2
 obtain ⟨ta, rfl⟩ := e1
 obtain ⟨tb, rfl⟩ := e2
 exact ⟨_, _, ti, th, ta, tb, t1, t2, t3⟩
theorem NU (I : Inv X pins σ H s) (e : H a = some (DN X.prog X.w a es ep)) (ks : ID X.K H es) : (a == sysModules) = false ∧ ∃ xs, EVN es xs ∧ s.heap.DictOfH (DD X.prog X.w) a xs := by
 obtain ⟨⟨hs, xs, ev, o, en, h1, h2, h3, h4, h5⟩, _⟩ := I.hok a _ e
 refine ⟨hs, xs, ev, o, en, ep, h1, h2, h3, h4, fun x hx => ?_, h5⟩
 obtain ⟨y, hy, e1, e2⟩ := ev.mem x hx
 rw [← e1, ← e2]
 exact SJ I (ks y hy)
theorem RF {h' : Heap} {xs : List (NK × Addr × Value)} {P : Program} {w : World} (hs : (a == sysModules) = false) (ev : EVN es xs) (d : h'.DictOfH (DD P w) a xs) : ∃ ep, ∀ H', DF P w H' h' a (DN P w a es ep) := by
 obtain ⟨o, en, ep, h1, h2, h3, h4, _, h5⟩ := d
 refine ⟨ep, fun H' => ⟨⟨hs, xs, ev, o, en, h1, h2, h3, h4, h5⟩, ⟨o, h1⟩, fun g1 g2 φ kk => ?_⟩⟩
 obtain ⟨hs, xs, ev, o, en, h1, r⟩ := φ
 exact ⟨hs, xs, ev, o, en, kk o h1, r⟩
theorem YU {o : Obj} {en : Array DictEntry} {ep : Nat} {f : Array DictEntry → Array DictEntry} (h : o.data = .dict en ep) : (Obj.mapDictKeys f o).isFreed = false := by
 cases o
 simp only at h
 subst h
 rfl
theorem aS {v : V} {r : Value} {Q : Value → Shared → Prop} {A : Around} {E : Value → Shared → Prop} (hu : A.units + 4 < cLine) (I : Inv X pins σ H s) (e : H a = some (DN X.prog X.w a es ep)) (ks : ID X.K H es) (hz : es.length ≤ 10000) (hk : Rp X.K H (nkD k) (.ref b)) (rv : BF v r)
  (h1 : ∀ v' w' s', lkN es k = some v' → Inv X pins σ H s' → BF v' w' → Q w' s') (h2 : lkN es k = none → ∀ ep' s', Inv X pins σ (upd H a (DN X.prog X.w a (es ++ [(k, b, v)]) ep')) s' → Q r s') :
  wpAny (model X.prog X.w) A (dictSetDefault a (.ref b) r) Q E s := by
 obtain ⟨hsm, xs, ev, dd⟩ := NU I e ks
 have is := SJ I hk
 unfold dictSetDefault
 refine wpAny_holding ?_
 refine wpAny_bind ((DD X.prog X.w).pyHash (show A.units + 3 < cLine by omega) is ?_)
 obtain ⟨o, en, ep, g1, g2, g3, g4, g5, g6⟩ := id dd
 have It := I.tok (s.toks + (DD X.prog X.w).draws k)
 refine wpAny_bind (wpAny_dictFind_heap (s := { s with toks := s.toks + (DD X.prog X.w).draws k }) (show A.units + 3 < cLine by omega) is g1 g3 g4 g5 g6 (fun hno => ?_) fun j p hj => ?_)
 ·dsimp only
  refine wpAny_bind (wpAny_rule ?_)
  have lz : xs.length ≤ 10000 := by rw [← Paired.length ev]; exact hz
  have ez : en.size ≤ 10000 := by rw [← Array.length_toList, g4, List.length_map]; exact lz
  have hnone : atKey xs k = none := atKey_none_of_get hno
  have lkn : lkN es k = none := by
   cases hl : lkN es k with
   | none => rfl
   | some v' =>
    obtain ⟨p, hp, _⟩ := ev.look hl
    rw [hnone] at hp; cases hp
  refine wpAny_bind (wpAny_updateDictKeys (s := { s with toks := s.toks + (DD X.prog X.w).draws k }) (f := fun x => x.push { hash := (DD X.prog X.w).hash k, key := Value.ref b, val := r }) g1 g3 (wpAny_pure ?_) (hz := Nat.le_trans ez (by decide)) (hf := by simp))
  have hob : (Obj.mapDictKeys (fun x => x.push { hash := (DD X.prog X.w).hash k, key := Value.ref b, val := r }) o).isFreed = false := YU g3
  have ga := Heap.get?_update_self (Obj.mapDictKeys (fun x => x.push { hash := (DD X.prog X.w).hash k, key := Value.ref b, val := r })) g1 hob
  refine (fun nd => ?main) (RF (P := X.prog) (w := X.w) hsm (ev.app (es' := [(k, b, v)]) (xs' := [(k, b, r)]) (.cons ⟨rfl, rfl, rv⟩ .nil)) ⟨_, _, _, ga, g2.mapDictKeys _, Obj.data_mapDictKeys g3 _, ?_, fun x hx => ?_, ?_⟩)
  case main =>
   obtain ⟨ep', ok'⟩ := nd
   exact h2 lkn ep' _ (XY (t' := s.toks + (DD X.prog X.w).draws k) It (by rw [e]; exact True.intro) (Heap.SameBut.update ..) ⟨_, ga⟩ (ok' _))
  ·rw [Array.toList_push, g4, List.map_append]; rfl
  ·rcases List.mem_append.mp hx with hx | hx
   ·exact (DD X.prog X.w).keeps (g5 x hx) g1 g3 (Heap.SameBut.update ..)
   ·rw [List.mem_singleton.mp hx]
    exact (DD X.prog X.w).keeps is g1 g3 (Heap.SameBut.update ..)
  ·rw [List.map_append, List.map_cons, List.map_nil]
   refine List.nodup_append.mpr ⟨g6, by simp, ?_⟩
   intro x hx y hy
   rw [List.mem_singleton.mp hy]
   rintro rfl
   obtain ⟨z, hz', ez'⟩ := List.mem_map.mp hx
   obtain ⟨j, hj⟩ := List.mem_iff_getElem?.mp hz'
   obtain ⟨z1, z2⟩ := z
   simp only at ez'
   subst ez'
   exact hno j z2 hj
 ·dsimp only
  refine wpAny_bind (wpAny_dictEntries g1 g3 ?_)
  have ej : en[j]? = some (entryOfKey (DD X.prog X.w) (k, p)) := by
   rw [← Array.getElem?_toList, g4, List.getElem?_map, hj]; rfl
  rw [ej]
  refine wpAny_bind (wpAny_rule (wpAny_pure ?_))
  have hat := atKey_of_get g6 hj
  cases hl : lkN es k with
  | none => rw [ev.none hl] at hat; cases hat
  | some v' =>
   obtain ⟨p', hp', rp'⟩ := ev.look hl
   rw [hat] at hp'
   cases hp'
   exact h1 v' _ _ hl It rp'
end
section
variable {X : Cx} {o e f : Expr} {pos apos cpos : Pos} {td ty tx : TE}
def bA (P : Program) (w : World) : TE := fun _ H Q => ∀ p ep, H p = none → Q (.ref p) (upd H p (DN P w p [] ep))
theorem iS {P : Program} {w : World} (hP : X.prog = P) (hw : X.w = w) : PE X (.Dict [] [] pos) (bA P w) := by
 subst hP hw
 intro pins s σ H Q I h
 have hsm : (s.heap.objs.size == sysModules) = false := beq_eq_false_iff_ne.mpr (Ne.symm (Nat.ne_of_lt I.big))
 obtain ⟨ep, ok⟩ := RF (P := X.prog) (w := X.w) hsm .nil (Heap.DictOfH.new s.heap)
 exact wpAny_Dict_empty ⟨.ref s.heap.objs.size, _, I.laid (a := s.heap.objs.size) (o := DN X.prog X.w s.heap.objs.size [] ep) (t' := s.toks) (fun _ _ q => Heap.get?_push_of_some _ q) (Nat.le_refl _) (ok _), rfl, h _ ep (I.hok.fresh (Nat.le_refl _))⟩
def RB (P : Program) (w : World) (K : PySem.W.Frag) (td ty tx : TE) : TE := fun σ H Q => td σ H fun x H1 => CC x fun a => (∃ es ep, H1 a = some (DN P w a es ep) ∧ ID K H1 es) ∧ ty σ H1 fun y H2 => tx σ H2 fun z H3 => CC y fun b => ∃ (es : EnN) (ep : Nat) (k : NK), H3 a = some (DN P w a es ep) ∧ ID K H3 es ∧ es.length ≤ 10000 ∧ Rp K H3 (nkD k) (.ref b) ∧
 (∀ v, lkN es k = some v → Q v H3) ∧ (lkN es k = none → ∀ ep', Q z (upd H3 a (DN P w a (es ++ [(k, b, z)]) ep')))
theorem ZG {P : Program} {w : World} {K : PySem.W.Frag} (hP : X.prog = P) (hw : X.w = w) (hK : X.K = K) (hu : X.A.units + 8 < cLine) (ho : PE X o td) (he : PE X e ty) (hf : PE X f tx) (m : M2 X o "setdefault" apos e f cpos) : PE X (.Call (.Attribute o "setdefault" apos) [e, f] [] cpos) (RB P w K td ty tx) := by
 subst hP hw hK
 intro pins s σ H Q I h
 refine wpAny_Call_method m.base m.few m.line PySem.F.plainAttrs_dict PySem.F.slot_dict_setdefault PySem.F.type_dict_setdefault (thn (ho pins s σ H _ I h) fun u s1 ⟨x, H1, I1, rx, q0⟩ => ?_)
 obtain ⟨a, rfl, ⟨es0, ep0, e0, k0⟩, q1⟩ := CC.ex q0
 obtain rfl : u = Value.ref a := rx
 obtain ⟨_, xs0, _, dd0⟩ := NU I1 e0 k0
 refine ⟨dd0.typeIs, fun b q => ?_, ?_⟩
 ·cases q
  obtain ⟨ob, _, _, h1, h2, _⟩ := dd0
  exact ⟨ob, h1, h2.2.1⟩
 rw [m.trees]
 refine Calls.callWith_builtin rfl (Calls.evalArgs_plain (Calls.spliced_cons (thn (he pins s1 σ H1 _ I1 q1) fun iv s2 ⟨y, H2, I2, ry, q2⟩ =>
  Calls.spliced_cons (thn (hf pins s2 σ H2 _ I2 q2) fun fv s3 ⟨z, H3, I3, rz, q3⟩ => Calls.spliced_nil ?_))))
 obtain ⟨b, rfl, es, ep, k, ea, ks, hz, hb, c1, c2⟩ := CC.ex q3
 obtain rfl : iv = Value.ref b := ry
 obtain ⟨hsm, xs, ev, dd⟩ := NU I3 ea ks
 refine wpAny_call_entry PySem.F.slot_dict_setdefault dd.typeIs PySem.F.entry_dict_setdefault ?_ (PySem.F.args_dict_setdefault_3 _ _ _)
 unfold Builtin.«dict.setdefault»
 refine wpAny_bind ?_
 unfold Builtin.Dict.keyAndDefault
 refine wpAny_bind (wpAny_notOrdered_dict (show s3.TypeIs (.ref a) "dict" from dd.typeIs) ?_)
 refine wpAny_bind ?_
 rw [show Builtin.Dict.nameIsSure "setdefault" { pos := Value.ref a :: [].append ({ pos := [Value.ref b, fv] } : Args).pos } (!({ pos := Value.ref a :: [].append ({ pos := [Value.ref b, fv] } : Args).pos } : Args).kw.isEmpty) = pure () from rfl]
 refine wpAny_pure ?_
 refine wpAny_bind ?_
 rw [show selfAndSome (toString "dict." ++ toString "setdefault") "setdefault" 1 2 { pos := Value.ref a :: [].append ({ pos := [Value.ref b, fv] } : Args).pos } = pure (.ref a, [.ref b, fv]) from rfl]
 refine wpAny_pure ?_
 dsimp only
 refine wpAny_bind ?_
 rw [show Builtin.Dict.addrOf (.ref a) = pure a from rfl]
 refine wpAny_pure (wpAny_pure ?_)
 dsimp only
 rw [if_neg (by rw [hsm]; decide)]
 refine wpAny_bind (aS (show X.A.units + 1 + 4 < cLine by omega) I3 ea ks hz hb rz (fun v' w' s' hl I' r' => wpAny_pure ⟨_, rfl, v', H3, I', r', c1 v' hl⟩) fun hl ep' s' I' => wpAny_pure ⟨_, rfl, z, _, I', rz, c2 hl ep'⟩)
end
def KI (h : Heap) (it d : Addr) (i n ep : Nat) : Prop := h.get? it = some { cls := .type "dict_keyiterator", data := .fields #[.ref d, .int i 0, .int n 0, .int ep 0] }
section
variable {prog : Program} {w : World} {A : Around} {E : Value → Shared → Prop} {s : Shared} {it d : Addr} {i n ep : Nat} {o : Obj} {en : Array DictEntry}
theorem KI.typeIs (k : KI s.heap it d i n ep) : s.TypeIs (.ref it) "dict_keyiterator" := ⟨_, k, rfl⟩
theorem dG {e : DictEntry} {Q : Option Value → Shared → Prop} (k : KI s.heap it d i n ep) (ho : s.heap.get? d = some o) (hd : o.data = .dict en ep) (hn : en.size = n) (he : en[i]? = some e)
  (q : ∀ h', KI h' it d (i + 1) n ep → Heap.SameBut it s.heap h' → Q (some e.key) { s with heap := h' }) : wpAny (model prog w) A (pyNext (.ref it)) Q E s := by
 have own : Builtin.Dict_items.ownsTuple "dict_keyiterator" = false := by decide
 unfold pyNext
 refine wpAny_bind (wpAny_attempt (wpAny_callSpecial?_slot k.typeIs PySem.F.slot_dict_keyiterator_next (wpAny_call_entry PySem.F.slot_dict_keyiterator_next k.typeIs PySem.F.entry_dict_keyiterator_next ?_ (PySem.F.args_dict_keyiterator_next_1 _))))
 refine wpAny_bind (wpAny_pure (wpAny_bind (wpAny_bind ?_)))
 refine wpAny_bind (wpAny_typeNameOfWhole_keyiter k.typeIs (wpAny_pure (wpAny_bind (wpAny_fieldsOf k rfl ?_))))
 simp only [own, Bool.false_eq_true, if_false]
 show wpAny _ _ (if (Value.ref d == Value.none) = true then _ else _) _ _ _
 rw [if_neg (fun z => by cases z)]
 refine wpAny_bind (wpAny_pure (wpAny_bind (wpAny_dictEntries ho hd ?_)))
 rw [if_neg (by rw [hn]; simp)]
 refine wpAny_bind (wpAny_pure (wpAny_bind (wpAny_dictEpoch ho hd ?_)))
 rw [if_neg (by simp)]
 refine wpAny_pure ?_
 simp only [show ¬ ((i : Int) < 0) from by omega, if_false, Int.toNat_natCast, he]
 refine wpAny_bind (wpAny_bind (wpAny_typeNameOfWhole_keyiter k.typeIs (wpAny_pure (wpAny_bind (wpAny_isOneOf_keyiter k.typeIs ?_)))))
 refine wpAny_bind (show wpAny _ _ (setField (.ref it) 1 (rawInt ((i : Int) + 1))) _ _ _ from wpAny_setField_rec k (by simp) fun h1 e1 s1 => ?_)
 have k1 : KI h1 it d (i + 1) n ep := by
  have e : ((i + 1 : Nat) : Int) = (i : Int) + 1 := by omega
  unfold KI
  rw [e]
  simpa [rawInt] using e1
 refine wpAny_bind (wpAny_holding (wpAny_bind (wpAny_isOneOf_keyiter (s := { s with heap := h1 }) (KI.typeIs (s := { s with heap := h1 }) k1) ?_)))
 show wpAny _ _ (pure e.key) _ _ _
 exact wpAny_pure (wpAny_pure ⟨_, rfl, wpAny_pure (q h1 k1 s1)⟩)
theorem SO {α : Type} {Q : α → Shared → Prop} (hh : A.handled = none) (q : ∀ h' a, Shared.TypeIs { s with heap := h' } (.ref a) "StopIteration" → (∀ b o, s.heap.get? b = some o → h'.get? b = some o) → E (.ref a) { s with heap := h' }) :
  wpAny (model prog w) A (newExc (.type "StopIteration") []) (fun x s1 => wpAny (model prog w) A (raiseNew x) Q E s1) E s := by
 simp only [newExc, newTuple]
 refine wpAny_bind (wpAny_newObj_type (wpAny_bind (m := firstArgMember _ _) (wpAny_of_eq (a := Value.none) (by first | rfl | (simp only [firstArgMember]; rfl)) (wpAny_newObj_type ?_ (by size_fits)))) (by size_fits))
 simp only [raiseNew]
 refine wpAny_bind (wpAny_handled ?_)
 rw [hh]
 exact wpAny_bind (wpAny_pure (wpAny_throw (q _ _ ⟨_, Heap.get?_push_size _ rfl, rfl⟩ fun b o e => Heap.get?_push_of_some _ (Heap.get?_push_of_some _ e))))
theorem gT {Q : Option Value → Shared → Prop} (hh : A.handled = none) (k : KI s.heap it d i n ep) (ho : s.heap.get? d = some o) (hd : o.data = .dict en ep) (hn : en.size = n) (he : en[i]? = none)
  (q : ∀ h', Heap.ExtBut it s.heap h' → Q none { s with heap := h' }) : wpAny (model prog w) A (pyNext (.ref it)) Q E s := by
 have own : Builtin.Dict_items.ownsTuple "dict_keyiterator" = false := by decide
 unfold pyNext
 refine wpAny_bind (wpAny_attempt (wpAny_callSpecial?_slot k.typeIs PySem.F.slot_dict_keyiterator_next (wpAny_call_entry PySem.F.slot_dict_keyiterator_next k.typeIs PySem.F.entry_dict_keyiterator_next ?_ (PySem.F.args_dict_keyiterator_next_1 _))))
 refine wpAny_bind (wpAny_pure (wpAny_bind (wpAny_bind ?_)))
 refine wpAny_bind (wpAny_typeNameOfWhole_keyiter k.typeIs (wpAny_pure (wpAny_bind (wpAny_fieldsOf k rfl ?_))))
 simp only [own, Bool.false_eq_true, if_false]
 show wpAny _ _ (if (Value.ref d == Value.none) = true then _ else _) _ _ _
 rw [if_neg (fun z => by cases z)]
 refine wpAny_bind (wpAny_pure (wpAny_bind (wpAny_dictEntries ho hd ?_)))
 rw [if_neg (by rw [hn]; simp)]
 refine wpAny_bind (wpAny_pure (wpAny_bind (wpAny_dictEpoch ho hd ?_)))
 rw [if_neg (by simp)]
 refine wpAny_pure ?_
 simp only [show ¬ ((i : Int) < 0) from by omega, if_false, Int.toNat_natCast, he]
 refine wpAny_bind (wpAny_bind (wpAny_typeNameOfWhole_keyiter k.typeIs (wpAny_pure ?_)))
 refine (show wpAny _ _ (setField (.ref it) 0 .none >>= _) _ _ _ from wpAny_bind (wpAny_setField k rfl (by simp) ?_))
 refine wpAny_bind (SO (A := A.in1) hh ?_)
 intro h' b tb x
 refine wpAny_bind (wpAny_isInstance (T := "StopIteration") (b := true) tb isSubtype_stop ?_)
 exact wpAny_pure (q h' fun c o hc e => x c o ((Heap.SameBut.update ..).extBut c o hc e))
theorem TR {e : DictEntry} {ok ov : Value} {Q : Option Value → Shared → Prop} (k : IsItemIter s.heap it d i n ep ok ov) (ho : s.heap.get? d = some o) (hd : o.data = .dict en ep) (hn : en.size = n) (he : en[i]? = some e)
  (q : ∀ h', IsItemIterOut h' it d (i + 1) n ep e.key e.val s.heap.objs.size → h'.get? s.heap.objs.size = some { cls := .type "tuple", data := .seq #[e.key, e.val] } → h'.objs.size = s.heap.objs.size + 1 →
   (∀ b o, b ≠ it → s.heap.get? b = some o → h'.get? b = some o) → Q (some (.ref s.heap.objs.size)) { s with heap := h' }) : wpAny (model prog w) A (pyNext (.ref it)) Q E s := by
 obtain ⟨hp, g, dr, tk, os⟩ := s
 have own : Builtin.Dict_items.ownsTuple "dict_itemiterator" = true := by decide
 have ty : Shared.TypeIs ⟨hp, g, dr, tk, os⟩ (.ref it) "dict_itemiterator" := ⟨_, k, rfl⟩
 unfold pyNext
 refine wpAny_bind (wpAny_attempt (wpAny_callSpecial?_slot ty PySem.F.slot_dict_itemiterator_next (wpAny_call_entry PySem.F.slot_dict_itemiterator_next ty PySem.F.entry_dict_itemiterator_next ?_ (PySem.F.args_dict_itemiterator_next_1 _))))
 refine wpAny_bind (wpAny_pure (wpAny_bind (wpAny_bind ?_)))
 refine wpAny_bind (wpAny_typeNameOfWhole_itemiter ty (wpAny_pure (wpAny_bind (wpAny_fieldsOf k rfl ?_))))
 simp only [own, if_true]
 show wpAny _ _ (if (Value.ref d == Value.none) = true then _ else _) _ _ _
 rw [if_neg (fun z => by cases z)]
 refine wpAny_bind (wpAny_pure (wpAny_bind (wpAny_dictEntries ho hd ?_)))
 rw [if_neg (by rw [hn]; simp)]
 refine wpAny_bind (wpAny_pure (wpAny_bind (wpAny_dictEpoch ho hd ?_)))
 rw [if_neg (by simp)]
 refine wpAny_pure ?_
 simp only [show ¬ ((i : Int) < 0) from by omega, if_false, Int.toNat_natCast, he]
 refine wpAny_bind (wpAny_bind (wpAny_typeNameOfWhole_itemiter ty (wpAny_pure (wpAny_bind (wpAny_isOneOf_itemiter ty ?_)))))
 refine wpAny_bind (show wpAny _ _ (setField (.ref it) 3 (rawInt ((i : Int) + 1))) _ _ _ from wpAny_setField_rec k (by simp) fun h1 e1 s1 => ?_)
 have s1' : Heap.SameBut it hp h1 := s1
 have k1 : IsItemIter h1 it d (i + 1) n ep ok ov := by
  have e : ((i + 1 : Nat) : Int) = (i : Int) + 1 := by omega
  unfold IsItemIter
  rw [e]
  simpa [rawInt] using e1
 clear e1
 have ty1 : Shared.TypeIs ⟨h1, g, dr, tk, os⟩ (.ref it) "dict_itemiterator" := ⟨_, k1, rfl⟩
 refine wpAny_bind (wpAny_holding (wpAny_bind (wpAny_isOneOf_itemiter ty1 (wpAny_bind (wpAny_isOneOf_itemiter ty1 ?_)))))
 show wpAny _ _ (Builtin.Dict_items.pairFromOwner (.ref it) 6 e.key e.val) _ _ _
 unfold Builtin.Dict_items.pairFromOwner
 refine wpAny_bind (wpAny_newTuple ?_)
 have k2 : IsItemIter (h1.push { cls := .type "tuple", data := .seq #[e.key, e.val] }) it d (i + 1) n ep ok ov := Heap.get?_push_of_some _ k1
 have z1 : h1.objs.size = hp.objs.size := s1'.1
 have il : it < hp.objs.size := Heap.lt_size k
 have il' : hp.objs.size ≠ it := Nat.ne_of_gt il
 have t2 : (h1.push { cls := .type "tuple", data := .seq #[e.key, e.val] }).get? hp.objs.size = some { cls := .type "tuple", data := .seq #[e.key, e.val] } := by rw [← z1]; exact Heap.get?_push_size _ rfl
 have z2 : (h1.push { cls := .type "tuple", data := .seq #[e.key, e.val] }).objs.size = hp.objs.size + 1 := by rw [Heap.size_push, z1]
 have kk : ∀ b o, b ≠ it → hp.get? b = some o → (h1.push { cls := .type "tuple", data := .seq #[e.key, e.val] }).get? b = some o := fun b o hb e => Heap.get?_push_of_some _ (s1'.extBut b o hb e)
 show wpAny _ _ (Builtin.Dict_items.ownedTupleIsFree (.ref it) >>= _) _ _ ⟨h1.push { cls := .type "tuple", data := .seq #[e.key, e.val] }, g, dr, tk, os⟩
 rw [z1]
 generalize h1.push { cls := .type "tuple", data := .seq #[e.key, e.val] } = h2 at k2 t2 z2 kk ⊢
 clear k1 s1 s1' ty1 z1
 refine wpAny_bind ?_
 unfold Builtin.Dict_items.ownedTupleIsFree
 refine wpAny_bind (wpAny_field k2 rfl (x := .none) rfl (wpAny_pure ?_))
 simp only [if_true]
 refine wpAny_bind (wpAny_field k2 rfl (x := ok) rfl (wpAny_bind (wpAny_field k2 rfl (x := ov) rfl ?_)))
 refine wpAny_bind (wpAny_setField_rec k2 (by simp) fun h3 e3 s3 => ?_)
 have k3 : IsItemIter h3 it d (i + 1) n ep e.key ov := e3
 refine wpAny_bind (wpAny_setField_rec k3 (by simp) fun h4 e4 s4 => ?_)
 have k4 : IsItemIter h4 it d (i + 1) n ep e.key e.val := e4
 refine wpAny_bind (wpAny_setField_rec k4 (by simp) fun h5 e5 s5 => ?_)
 have k5 : IsItemIterOut h5 it d (i + 1) n ep e.key e.val hp.objs.size := e5
 refine wpAny_bind (wpAny_setField_rec k5 (by simp) fun h6 e6 s6 => ?_)
 have k6 : IsItemIterOut h6 it d (i + 1) n ep e.key e.val hp.objs.size := e6
 have all : ∀ b o, b ≠ it → h2.get? b = some o → h6.get? b = some o := fun b o hb x => s6.extBut b o hb (s5.extBut b o hb (s4.extBut b o hb (s3.extBut b o hb x)))
 have zz : h6.objs.size = hp.objs.size + 1 := by
  have a1 : h6.objs.size = h5.objs.size := s6.1
  have a2 : h5.objs.size = h4.objs.size := s5.1
  have a3 : h4.objs.size = h3.objs.size := s4.1
  have a4 : h3.objs.size = h2.objs.size := s3.1
  rw [a1, a2, a3, a4, z2]
 exact wpAny_bind (wpAny_letGo (wpAny_pure (wpAny_pure ⟨_, rfl, wpAny_pure (q h6 k6 (all _ _ il' t2) zz fun b o hb x => all b o hb (kk b o hb x))⟩)))
theorem XZ {ok ov : Value} {Q : Option Value → Shared → Prop} (hh : A.handled = none) (k : IsItemIter s.heap it d i n ep ok ov) (ho : s.heap.get? d = some o) (hd : o.data = .dict en ep) (hn : en.size = n) (he : en[i]? = none)
  (q : ∀ h', Heap.ExtBut it s.heap h' → Q none { s with heap := h' }) : wpAny (model prog w) A (pyNext (.ref it)) Q E s := by
 have own : Builtin.Dict_items.ownsTuple "dict_itemiterator" = true := by decide
 have ty : s.TypeIs (.ref it) "dict_itemiterator" := ⟨_, k, rfl⟩
 unfold pyNext
 refine wpAny_bind (wpAny_attempt (wpAny_callSpecial?_slot ty PySem.F.slot_dict_itemiterator_next (wpAny_call_entry PySem.F.slot_dict_itemiterator_next ty PySem.F.entry_dict_itemiterator_next ?_ (PySem.F.args_dict_itemiterator_next_1 _))))
 refine wpAny_bind (wpAny_pure (wpAny_bind (wpAny_bind ?_)))
 refine wpAny_bind (wpAny_typeNameOfWhole_itemiter ty (wpAny_pure (wpAny_bind (wpAny_fieldsOf k rfl ?_))))
 simp only [own, if_true]
 show wpAny _ _ (if (Value.ref d == Value.none) = true then _ else _) _ _ _
 rw [if_neg (fun z => by cases z)]
 refine wpAny_bind (wpAny_pure (wpAny_bind (wpAny_dictEntries ho hd ?_)))
 rw [if_neg (by rw [hn]; simp)]
 refine wpAny_bind (wpAny_pure (wpAny_bind (wpAny_dictEpoch ho hd ?_)))
 rw [if_neg (by simp)]
 refine wpAny_pure ?_
 simp only [show ¬ ((i : Int) < 0) from by omega, if_false, Int.toNat_natCast, he]
 refine wpAny_bind (wpAny_bind (wpAny_typeNameOfWhole_itemiter ty (wpAny_pure ?_)))
 refine (show wpAny _ _ (setField (.ref it) 2 .none >>= _) _ _ _ from wpAny_bind (wpAny_setField k rfl (by simp) ?_))
 refine wpAny_bind (SO (A := A.in1) hh ?_)
 intro h' b tb x
 refine wpAny_bind (wpAny_isInstance (T := "StopIteration") (b := true) tb isSubtype_stop ?_)
 exact wpAny_pure (q h' fun c o hc e => x c o ((Heap.SameBut.update ..).extBut c o hc e))
theorem ZZ {Q : Value → Shared → Prop} (sm : (d == sysModules) = false) (ho : s.heap.get? d = some o) (ed : o.ExactDict) (hd : o.data = .dict en ep) (ty : s.TypeIs (.ref d) "dict")
  (q : ∀ h', KI h' s.heap.objs.size d 0 en.size ep → (∀ b o, s.heap.get? b = some o → h'.get? b = some o) → Q (.ref s.heap.objs.size) { s with heap := h' }) : wpAny (model prog w) A (pyIter (.ref d)) Q E s := by
 refine wpAny_pyIter_slot ty PySem.F.slot_dict_iter (wpAny_call_entry PySem.F.slot_dict_iter ty PySem.F.entry_dict_iter ?_ (PySem.F.args_dict_iter_1 _))
 unfold Builtin.«dict.__iter__»
 refine wpAny_bind ?_
 unfold Builtin.Dict.dictSlotNone
 refine wpAny_bind (wpAny_notOrdered_dict ty ?_)
 refine (show wpAny _ _ (pure (Value.ref d)) _ _ s from wpAny_pure ?_)
 show wpAny _ _ (Builtin.Dict.showsAll d >>= _) _ _ s
 unfold Builtin.Dict.showsAll
 rw [if_neg (by rw [sm]; decide)]
 refine wpAny_bind (wpAny_pure (wpAny_bind (wpAny_dictEntries ho hd (wpAny_bind (wpAny_dictEpoch ho hd ?_)))))
 refine wpAny_bind (wpAny_newObj_type (wpAny_pure ⟨_, rfl, "dict_keyiterator", _, ⟨_, Heap.get?_push_size _ rfl, rfl⟩, PySem.F.slot_dict_keyiterator_next.lookup, ?_⟩))
 refine q _ ?_ fun b o e => Heap.get?_push_of_some _ e
 have := Heap.get?_push_size s.heap (o := { cls := .type "dict_keyiterator", data := .fields #[.ref d, .int 0 0, .int en.size 0, .int ep 0] }) rfl
 simpa [KI, rawInt] using this
end
section
variable {X : Cx} {pins : List (Addr × Obj)} {σ : St} {H : Hp} {s : Shared} {d : Addr} {es : EnN} {ep : Nat}
theorem IB {α β : Type} {F : α → β → Prop} : ∀ {l₁ : List α} {l₂ : List β} {i : Nat} {x : α}, Paired F l₁ l₂ → l₁[i]? = some x → ∃ y, l₂[i]? = some y ∧ F x y
 | _, _, i, x, .nil, e => by simp at e
 | _, _, 0, x, .cons h _, e => by
  simp at e
  subst e
  exact ⟨_, rfl, h⟩
 | _, _, i + 1, x, .cons _ t, e => by
  simp at e
  simpa using IB t e
theorem OZ (I : Inv X pins σ H s) (e : H d = some (DN X.prog X.w d es ep)) : (d == sysModules) = false ∧ ∃ o en, s.heap.get? d = some o ∧ o.ExactDict ∧ o.data = .dict en ep ∧ en.size = es.length ∧
  (∀ (i : Nat) (hi : i < es.length), ∃ v, BF es[i].2.2 v ∧ en[i]? = some ⟨UF es[i].1, .ref es[i].2.1, v⟩) := by
 obtain ⟨⟨hs, xs, ev, o, en, h1, h2, h3, h4, h5⟩, _⟩ := I.hok d _ e
 have hl : xs.length = es.length := (Paired.length ev).symm
 refine ⟨hs, o, en, h1, h2, h3, by rw [← Array.length_toList, h4, List.length_map, hl], fun i hi => ?_⟩
 have hx : i < xs.length := by omega
 obtain ⟨y, hy, r1, r2, r3⟩ := IB ev (i := i) (x := es[i]) (by simp [hi])
 have e1 : en[i]? = some (entryOfKey (DD X.prog X.w) y) := by rw [← Array.getElem?_toList, h4, List.getElem?_map, hy]; rfl
 refine ⟨y.2.2, r3, ?_⟩
 rw [e1]
 obtain ⟨y1, y2, y3⟩ := y
 dsimp only at r1 r2
 rw [r1, r2]
 rfl
end
def Itk (P : Program) (w : World) (d : Addr) (es : EnN) (ep : Nat) : It :=
 ⟨fun i H => H d = some (DN P w d es ep) ∧ i < es.length, fun i H v H' => H' = H ∧ ∃ x, es[i]? = some x ∧ v = .ref x.2.1, fun i H => H d = some (DN P w d es ep) ∧ es.length ≤ i⟩
def Iti (P : Program) (w : World) (d : Addr) (es : EnN) (ep : Nat) : It :=
 ⟨fun i H => H d = some (DN P w d es ep) ∧ i < es.length, fun i H v H' => ∃ p x, es[i]? = some x ∧ v = .ref p ∧ H p = none ∧ H' = upd H p (.tup [.ref x.2.1, x.2.2]), fun i H => H d = some (DN P w d es ep) ∧ es.length ≤ i⟩
theorem YC {P : Program} {w : World} {K : PySem.W.Frag} {tg : Expr} (d it : Addr) (es : EnN) (ep : Nat) : TV P w K tg (Itk P w d es ep) [it] it (fun i h => KI h it d i es.length ep) where
 mem := by simp
 obj := fun i h st b hb => by
  have e : b = it := by simpa using hb
  subst e
  exact ⟨_, st, fun v z => by cases z⟩
 keep := fun i h h' st k => k it (by simp) _ st
 item := by
  intro X hP hw hK hc i pins s σ H E I hf st hg
  subst hP hw hK
  obtain ⟨hq, hi⟩ := hg
  obtain ⟨sm, o, en, h1, h2, h3, h4, h5⟩ := OZ I hq
  obtain ⟨v, rv, he⟩ := h5 i hi
  obtain ⟨f0, f1, f2, f3, f4, f5⟩ := hf it (by simp)
  refine dG st h1 h3 h4 he fun h' st' sb => ?_
  have I1 : Inv X pins σ H { s with heap := h' } := I.turned (t' := s.toks) (fun b o hb e => (sb.2 b hb).trans e) f0 f1 f3 f4 f5
  exact ⟨_, rfl, TK (s := { s with heap := h' }) st' rfl rfl (by decide) ⟨.ref es[i].2.1, H, I1, rfl, ⟨rfl, es[i], by simp [hi], rfl⟩, st', fun b hb => (hf b hb).1⟩⟩
 done := by
  intro X hP hw hK hc i pins s σ H E I hf st hg
  subst hP hw hK
  obtain ⟨hq, hi⟩ := hg
  obtain ⟨sm, o, en, h1, h2, h3, h4, h5⟩ := OZ I hq
  obtain ⟨f0, f1, f2, f3, f4, f5⟩ := hf it (by simp)
  exact gT (I.ok.hd hc) st h1 h3 h4 (by rw [Array.getElem?_eq_none]; omega) fun h' eb => ⟨rfl, I.turned (t' := s.toks) (fun b o hb e => eb b o hb e) f0 f1 f3 f4 f5⟩
 self := fun _ _ _ _ _ st h => wpAny_pyIter_keyiter ⟨_, st, rfl, rfl⟩ h
theorem VN {P : Program} {w : World} {K : PySem.W.Frag} {elts : List Expr} {tx : Nat} {tp : Pos} (d it : Addr) (es : EnN) (ep : Nat) : TV P w K (.Tuple elts tx tp) (Iti P w d es ep) [it] it (fun i h => ∃ ok ov, IsItemIter h it d i es.length ep ok ov) where
 mem := by simp
 obj := fun i h ⟨ok, ov, st⟩ b hb => by
  have e : b = it := by simpa using hb
  subst e
  exact ⟨_, st, fun v z => by cases z⟩
 keep := fun i h h' ⟨ok, ov, st⟩ k => ⟨ok, ov, k it (by simp) _ st⟩
 item := by
  intro X hP hw hK hc i pins s σ H E I hf ⟨ok, ov, st⟩ hg
  subst hP hw hK
  obtain ⟨hq, hi⟩ := hg
  obtain ⟨sm, o, en, h1, h2, h3, h4, h5⟩ := OZ I hq
  obtain ⟨v, rv, he⟩ := h5 i hi
  refine TR st h1 h3 h4 he fun h' st' tt zz kk => ?_
  refine ⟨_, rfl, wpAny_letOwnedTupleGo_items st' fun h2 y1 sb => ?_⟩
  have lit : it < s.heap.objs.size := Heap.lt_size st
  have hp2 : h2.get? s.heap.objs.size = some { cls := .type "tuple", data := .seq #[.ref es[i].2.1, v] } := by rw [sb.2 _ (Nat.ne_of_gt lit)]; exact tt
  have I2 : Inv X pins σ (upd H s.heap.objs.size (.tup [.ref es[i].2.1, es[i].2.2])) { s with heap := h2 } := I.turnedNew (t' := s.toks) (fp := [it]) (fun c o hc e => by
   have hc' : c ≠ it := by simpa using hc
   rw [sb.2 c hc']
   exact kk c o hc' e) hf (Nat.le_refl _) ⟨(by decide : (2 : Nat) ≤ sizeLine), [.ref es[i].2.1, v], .cons rfl (.cons rv .nil), ⟨_, hp2, rfl, _, rfl⟩⟩
  refine ⟨.ref s.heap.objs.size, _, I2, rfl, ⟨_, es[i], by simp [hi], rfl, I.fresh, rfl⟩, ⟨_, _, y1⟩, fun c hc => ?_⟩
  have e : c = it := by simpa using hc
  subst e
  rw [BM (Nat.ne_of_lt lit)]
  exact (hf c hc).1
 done := by
  intro X hP hw hK hc i pins s σ H E I hf ⟨ok, ov, st⟩ hg
  subst hP hw hK
  obtain ⟨hq, hi⟩ := hg
  obtain ⟨sm, o, en, h1, h2, h3, h4, h5⟩ := OZ I hq
  obtain ⟨f0, f1, f2, f3, f4, f5⟩ := hf it (by simp)
  exact XZ (I.ok.hd hc) st h1 h3 h4 (by rw [Array.getElem?_eq_none]; omega) fun h' eb => ⟨rfl, I.turned (t' := s.toks) (fun b o hb e => eb b o hb e) f0 f1 f3 f4 f5⟩
 self := fun _ _ _ _ _ ⟨_, _, st⟩ h => PySem.W.kcp_self st h
section
variable {X : Cx} {tg l : Expr} {tl : TE}
def dL (P : Program) (w : World) (tl : TE) : TI := fun σ H R => tl σ H fun x H1 => CC x fun d => ∃ es ep, H1 d = some (DN P w d es ep) ∧ R (Itk P w d es ep) H1
theorem XB {P : Program} {w : World} (hP : X.prog = P) (hw : X.w = w) (hl : PE X l tl) : PI X tg l (dL P w tl) := by
 subst hP hw
 intro pins s σ H R I h
 refine thn (hl pins s σ H _ I h) fun v s1 ⟨x, H1, I1, r1, q1⟩ => ?_
 obtain ⟨d, rfl, es, ep, hq, q⟩ := CC.ex q1
 cases r1
 obtain ⟨sm, o, en, h1, h2, h3, h4, h5⟩ := OZ I1 hq
 refine ZZ sm h1 h2 h3 ⟨o, h1, h2.1⟩ fun h' ki kk => ?_
 rw [h4] at ki
 refine ⟨s1.heap.objs.size, [s1.heap.objs.size], _, _, H1, rfl, I1.kept (t' := s1.toks) kk, YC d _ es ep, ki, fun b hb => ?_, q⟩
 have e : b = s1.heap.objs.size := by simpa using hb
 subst e
 exact I1.fpOk (Nat.le_refl _) (I1.hok.fresh (Nat.le_refl _))
def UN (P : Program) (w : World) (tl : TE) : TI := fun σ H R => tl σ H fun x H1 => CC x fun d => ∃ es ep, H1 d = some (DN P w d es ep) ∧ R (Iti P w d es ep) H1
theorem eB {P : Program} {w : World} {elts : List Expr} {tx : Nat} {tp apos cpos : Pos} (hP : X.prog = P) (hw : X.w = w) (hl : PE X l tl)
  (hbase : attributeBase l "items" X.env (eval l X.env) = eval l X.env := by rfl) (hline : (apos.endLine == cpos.line) = true := by rfl) : PI X (.Tuple elts tx tp) (.Call (.Attribute l "items" apos) [] [] cpos) (UN P w tl) := by
 subst hP hw
 intro pins s σ H R I h
 refine wpAny_Call_method0_late hbase hline (thn (hl pins s σ H _ I h) fun v s1 ⟨x, H1, I1, r1, q1⟩ => ?_)
 obtain ⟨d, rfl, es, ep, hq, q⟩ := CC.ex q1
 cases r1
 obtain ⟨sm, o, en, h1, h2, h3, h4, h5⟩ := OZ I1 hq
 have ty : s1.TypeIs (.ref d) "dict" := ⟨o, h1, h2.1⟩
 refine ⟨"dict", _, PySem.F.plainAttrs_dict, PySem.F.slot_dict_items, PySem.F.type_dict_items, ty, fun b q => by cases q; exact ⟨o, h1, h2.2.1⟩, Calls.callWith_builtin rfl (PySem.evalArgs_none ?_)⟩
 refine wpAny_call_entry PySem.F.slot_dict_items ty PySem.F.entry_dict_items ?_ (PySem.F.args_dict_items_1 _)
 unfold Builtin.«dict.items»
 refine wpAny_bind ?_
 unfold Builtin.Dict.noArgs
 refine wpAny_bind (wpAny_notOrdered_dict ty ?_)
 refine (show wpAny _ _ (pure d) _ _ s1 from wpAny_pure ?_)
 show wpAny _ _ (Builtin.Dict.showsAll d >>= _) _ _ s1
 unfold Builtin.Dict.showsAll
 rw [if_neg (by rw [sm]; decide)]
 refine wpAny_bind (wpAny_pure (wpAny_bind (wpAny_newObj_type (wpAny_pure ⟨_, rfl, ?_⟩))))
 generalize hs2 : ({ s1 with heap := s1.heap.push { cls := .type "dict_items", data := .fields #[.ref d] } } : Shared) = s2
 have eh : s2.heap = s1.heap.push { cls := .type "dict_items", data := .fields #[.ref d] } := by rw [← hs2]
 have tv : s2.TypeIs (.ref s1.heap.objs.size) "dict_items" := ⟨_, by rw [eh]; exact Heap.get?_push_size _ rfl, rfl⟩
 have gv : s2.heap.get? s1.heap.objs.size = some { cls := .type "dict_items", data := .fields #[.ref d] } := by rw [eh]; exact Heap.get?_push_size _ rfl
 have g1 : s2.heap.get? d = some o := by rw [eh]; exact Heap.get?_push_of_some _ h1
 have I2 : Inv X pins σ H1 s2 := by rw [← hs2]; exact I1.kept (t' := s1.toks) fun b o e => Heap.get?_push_of_some _ e
 show wpAny _ _ (pyIter (.ref s1.heap.objs.size)) _ _ s2
 refine wpAny_pyIter_slot tv PySem.F.slot_dict_items_iter (wpAny_call_entry PySem.F.slot_dict_items_iter tv PySem.F.entry_dict_items_iter ?_ (PySem.F.args_dict_items_iter_1 _))
 unfold Builtin.«dict_items.__iter__»
 refine wpAny_bind (wpAny_pure (wpAny_bind ?_))
 unfold Builtin.Dict_items.dictOf
 refine wpAny_bind (wpAny_field gv rfl (x := .ref d) rfl (wpAny_pure (wpAny_bind ?_)))
 unfold Builtin.Dict_items.newIterator
 refine wpAny_bind (wpAny_dictEntries g1 h3 (wpAny_bind (wpAny_dictEpoch g1 h3 ?_)))
 have own : Builtin.Dict_items.ownsTuple "dict_itemiterator" = true := by decide
 simp only [own, if_true]
 refine wpAny_newObj_type (wpAny_pure ⟨_, rfl, "dict_itemiterator", _, ⟨_, Heap.get?_push_size _ rfl, rfl⟩, PySem.F.slot_dict_itemiterator_next.lookup, ?_⟩) (by simp only [sizeOk, Builtin.Dict_items.ownedTupleFields, List.size_toArray, List.length_append, List.length_cons, List.length_nil, sizeLine_eq]; omega)
 have ii := Heap.get?_push_size s2.heap (o := { cls := .type "dict_itemiterator", data := .fields #[.none, .bool false, .ref d, .int 0 0, .int es.length 0, .int ep 0, .none, .none] }) rfl
 refine ⟨s2.heap.objs.size, [s2.heap.objs.size], _, _, H1, rfl, I2.kept (t' := s2.toks) fun b o e => Heap.get?_push_of_some _ e, VN d _ es ep, ⟨.none, .none, ?_⟩, fun b hb => ?_, q⟩
 ·simpa [IsItemIter, rawInt, h4, Builtin.Dict_items.ownedTupleFields] using ii
 ·have e : b = s2.heap.objs.size := by simpa using hb
  subst e
  exact I2.fpOk (Nat.le_refl _) (I2.hok.fresh (Nat.le_refl _))
end
theorem iH {P : Program} {w : World} {d : Addr} {es : EnN} {ep : Nat} {g : TG} {tb : TS} {D : JE} {σ : St} {H : Hp} (Pv : Nat → St → Hp → Prop) (h0 : Pv 0 σ H)
  (hl : ∀ i σ H, i ≤ es.length → Pv i σ H → H d = some (DN P w d es ep))
  (hs : ∀ i x σ H, es[i]? = some x → Pv i σ H → g (.ref x.2.1) σ H fun σ2 H2 => tb { D with nx := Pv (i + 1), ct := Pv (i + 1), bk := D.nx } σ2 H2)
  (hd : ∀ σ H, Pv es.length σ H → D.nx σ H) : FW (Itk P w d es ep) g tb D σ H := by
 refine ⟨fun i m σ H => m = es.length - i ∧ i ≤ es.length ∧ Pv i σ H, ⟨_, rfl, Nat.zero_le _, h0⟩, ?_⟩
 rintro i m σ H ⟨rfl, hi, q⟩
 have w1 := hl i σ H hi q
 by_cases hlt : i < es.length
 ·refine .inr ⟨⟨w1, hlt⟩, Pv (i + 1), fun σ' H' z => ⟨_, by omega, rfl, hlt, z⟩, fun v H' z => ?_⟩
  obtain ⟨rfl, x, e, rfl⟩ := z
  exact hs i x σ _ e q
 ·have e : i = es.length := by omega
  exact .inl ⟨⟨w1, by omega⟩, hd σ H (e ▸ q)⟩
theorem VB {prog : Program} {w : World} {A : Around} {R : Result → Shared → Prop} {s : Shared} {kx vx target iter : Expr} {scope : Scope} {pos : Pos} {it : Value} {D : Addr} {env : Env} (I : Nat → Shared → Prop)
  (turn : ∀ n s, I n s → wpAny (model prog w) A (pyNext it) (fun r s₁ => match r with
   | none => R (.ok .next) s₁
   | some v => wpAny (model prog w) A (letOwnedTupleGo target it v) (fun _ s₁' => wpAny (model prog w) A (assign target env v) (fun _ s₂ =>
     wpAny (model prog w) A (eval kx env) (fun y s₃ => wpAny (model prog w) A (eval vx env) (fun z s₄ =>
       wpAny (model prog w) A (dictSet D y z) (fun _ s₅ => ∃ m, m < n ∧ I m s₅) (fun _ _ => False) s₄) (fun _ _ => False) s₃) (fun _ _ => False) s₂) (fun _ _ => False) s₁') (fun _ _ => False) s₁) (fun _ _ => False) s)
  (n : Nat) (h : I n s) :
  codeAny (model prog w) A (.compLoop (.DictComp kx vx [⟨target, iter, [], 0⟩] scope pos) 0 it (.ref D) env) R s := by
 refine codeAny_loop rfl I (fun n s hI => ?_) n h
 show wpAny _ A ((compTurn (.DictComp kx vx [⟨target, iter, [], 0⟩] scope pos) 0 it (.ref D) env).onRaise (fun x => do noteFrame x env; theTreesLotGoes x)) _ _ s
 refine wpAny_noted ?_
 rw [compTurn_dict]
 refine wpAny_bind (wpAny_standAt (wpAny_bind (wpAny_mono (turn n s hI) (fun r s₁ h₁ => ?_) fun _ _ z => False.elim z)))
 cases r with
 | none => exact wpAny_pure h₁
 | some v =>
  refine wpAny_bind (wpAny_mono h₁ (fun _ s₁' h₁' => ?_) fun _ _ z => False.elim z)
  refine wpAny_bind (wpAny_mono h₁' (fun _ s₂ h₂ => ?_) fun _ _ z => False.elim z)
  simp only [List.forIn_nil, pure_bind, if_true]
  exact wpAny_bind (wpAny_bind (wpAny_mono h₂ (fun y s₃ h₃ => wpAny_bind (wpAny_holding (wpAny_mono h₃ (fun z s₄ h₄ => wpAny_bind (wpAny_standAt (wpAny_holding (wpAny_mono h₄ (fun _ s₅ h₅ => wpAny_pure ⟨rfl, h₅⟩) fun _ _ z => False.elim z)))) fun _ _ z => False.elim z))) fun _ _ z => False.elim z))
def XC (P : Program) (w : World) (K : PySem.W.Frag) (js : List Nat) (os : List Str) (wi : TI) (g : TG) (tk tv : TE) : TE := fun σ H Q => wi σ H fun J H1 => ∀ p ep, H1 p = none →
 ∃ W : Nat → Nat → St → Hp → Prop, (∃ m, W 0 m (stC js os σ) (upd H1 p (DN P w p [] ep))) ∧ ∀ i m σ H, W i m σ H →
  (J.stop i H ∧ Q (.ref p) H) ∨ (J.go i H ∧ ∀ x H', J.yld i H x H' → g x σ H' fun σ2 H2 => tk σ2 H2 fun y H3 => tv σ2 H3 fun z H4 => CC y fun b =>
   ∃ (es : EnN) (ep : Nat) (k : NK), H4 p = some (DN P w p es ep) ∧ ID K H4 es ∧ es.length ≤ 10000 ∧ Rp K H4 (nkD k) (.ref b) ∧ lkN es k = none ∧ ∀ ep', ∃ m', m' < m ∧ W (i + 1) m' σ2 (upd H4 p (DN P w p (es ++ [(k, b, z)]) ep')))
section
variable {X : Cx}
theorem ZY {P : Program} {w : World} {K : PySem.W.Frag} {kx vx iter tg : Expr} {scope sc : Scope} {pos : Pos} {wi : TI} {g : TG} {tk tv : TE} {N0 N os : List Str} {js : List Nat}
  (hP : X.prog = P) (hw : X.w = w) (hK : X.K = K) (hu : X.A.units + 4 < cLine) (hc : X.calm = true) (hsc : X.env.scope = sc) (hN : X.N = N0) (ok : OC scope sc N0 js os N) (hi : PI X tg iter wi)
  (hg : ∀ s₃ H₃ fp cl, PG (cxC X scope cl N s₃ H₃ fp) tg g) (hk : ∀ s₃ H₃ fp cl, PE (cxC X scope cl N s₃ H₃ fp) kx tk) (hv : ∀ s₃ H₃ fp cl, PE (cxC X scope cl N s₃ H₃ fp) vx tv)
  (hs : ∀ x, foldedSetIterable iter X.env x = pure x := by intro _; rfl) :
  PE X (.DictComp kx vx [⟨tg, iter, [], 0⟩] scope pos) (XC P w K js os wi g tk tv) := by
 subst hP hw hK
 intro pins s σ H Q I h
 rw [arm_eval_DictComp]
 have hfree : ∀ y ∈ scope.names, y.2 = .free → ∃ c, X.env.cells.lookup y.1 = some c := fun y hy e => I.ok.has _ (by
  have := ok.free y hy e
  rw [← hsc] at this
  exact this)
 refine wpAny_comprehension_free (use := none) rfl hs (MP hfree) ok.kind ok.names (thn (hi pins s σ H _ I h) fun v s1 h1 => thn h1 fun itv s2 h2 => ?_)
 obtain ⟨it, fp, tn, J, H1, e, I2, T, st2, f2, hW⟩ := h2
 subst e
 refine wpAny_newObj_type (wpAny_newFunctionEnv ok.cell (by intro y hy; simp at hy) (fun h₁ hns₁ hsb₁ => ?_) ok.kind)
 dsimp only at hns₁ hsb₁ ⊢
 have hfr : H1 s2.heap.objs.size = none := I2.fresh
 have hsm : (s2.heap.objs.size == sysModules) = false := beq_eq_false_iff_ne.mpr (Ne.symm (Nat.ne_of_lt I2.big))
 obtain ⟨ep0, ok0⟩ := RF (P := X.prog) (w := X.w) hsm .nil (Heap.DictOfH.new s2.heap)
 have I3 := I2.laid (a := s2.heap.objs.size) (o := DN X.prog X.w s2.heap.objs.size [] ep0) (t' := s2.toks) (fun _ _ q => Heap.get?_push_of_some _ q) (Nat.le_refl _) (ok0 _)
 generalize hs3 : ({ s2 with heap := s2.heap.push { cls := .type "dict", data := .dict #[] }, toks := s2.toks } : Shared) = s₃ at I3
 have eh : s2.heap.push { cls := .type "dict", dict := none, data := .dict #[] } = s₃.heap := by rw [← hs3]
 rw [eh] at hns₁ hsb₁ ⊢
 have k23 : ∀ b o, s2.heap.get? b = some o → s₃.heap.get? b = some o := fun b o q => by rw [← eh]; exact Heap.get?_push_of_some _ q
 have lt2 : ∀ b ∈ fp, b < s2.heap.objs.size := fun b hb => by
  obtain ⟨o, q, _⟩ := T.obj _ _ st2 b hb
  exact Heap.lt_size q
 have sz3 : s2.heap.objs.size ≤ s₃.heap.objs.size := by rw [← eh, Heap.size_push]; exact Nat.le_succ _
 have f3 : ∀ b ∈ fp, HZ X pins (upd H1 s2.heap.objs.size (DN X.prog X.w s2.heap.objs.size [] ep0)) b := fun b hb => ⟨by rw [BM (Nat.ne_of_lt (lt2 b hb))]; exact (f2 b hb).1, (f2 b hb).2⟩
 have k34 : ∀ b o, s₃.heap.get? b = some o → h₁.get? b = some o := fun b o q => hsb₁.extBut b o (Nat.ne_of_lt (Heap.lt_size q)) (Heap.get?_push_of_some _ q)
 have I4 := KN (t' := s₃.toks) hc hsc hN ok I3 f3 (fun b hb => Nat.lt_of_lt_of_le (lt2 b hb) sz3) hns₁ k34
 generalize hX' : cxC X scope (DZ X.env.cells scope.names []) N s₃ (upd H1 s2.heap.objs.size (DN X.prog X.w s2.heap.objs.size [] ep0)) fp = X' at I4
 obtain ⟨W, ⟨m0, w0⟩, turn⟩ := hW _ ep0 hfr
 have st4 : tn 0 h₁ := T.keep _ _ _ st2 fun b hb o q => k34 b o (k23 b o q)
 have stat : ∀ {H' : Hp}, (∀ b ∈ fp, H' b = none) → ∀ b ∈ fp, HZ X' [] H' b := fun {H'} hn b hb => by
  subst hX'
  refine ⟨hn b hb, Nat.ne_of_lt (Nat.lt_of_lt_of_le (lt2 b hb) sz3), fun z => ?_, .inl hb, fun x c e => ?_, fun p hp => by cases hp⟩
  ·rcases List.mem_cons.mp (I2.stkSub b z) with q | q
   ·exact (f2 b hb).2.1 q
   ·exact (f2 b hb).2.2.1 q
  ·exact (f2 b hb).2.2.2.2.1 x c (FS (cells := X.env.cells) scope.names [] hfree (fun _ _ e => by cases e) _ _ e)
 have ePr : X'.prog = X.prog := by subst hX'; rfl
 have eW : X'.w = X.w := by subst hX'; rfl
 have eK : X'.K = X.K := by subst hX'; rfl
 have eA : X'.A = X.A := by subst hX'; rfl
 have eE : X'.env = compEnvC scope (DZ X.env.cells scope.names []) s₃.heap.objs.size X.env := by subst hX'; rfl
 have eC : X'.calm = true := by subst hX'; rfl
 have eX : X'.xe = fun _ _ => False := by subst hX'; rfl
 have hg' : PG X' tg g := by subst hX'; exact hg _ _ _ _
 have hk' : PE X' kx tk := by subst hX'; exact hk _ _ _ _
 have hv' : PE X' vx tv := by subst hX'; exact hv _ _ _ _
 have fin : ∀ {σ' : St} {H' : Hp} {s' : Shared}, Inv X' [] σ' H' s' → (∀ b ∈ fp, H' b = none) → Q (.ref s2.heap.objs.size) H' → compPost (model X.prog X.w) X.A X.xe none (EP X pins σ Q) (.ref s2.heap.objs.size) s₃.heap.objs.size (.ok .next) s' := by
  intro σ' H' s' I' hn q
  obtain ⟨m, hm, _⟩ := id I'.loc
  subst hX'
  refine ⟨m, hm, fun h'' sb => ⟨.ref s2.heap.objs.size, H', ?_, rfl, q⟩⟩
  have fC : H' s₃.heap.objs.size = none := I'.free
  have hok' : HOk X.prog X.w H' h'' := fun b ob e => by
   refine (I'.hok b ob e).stay (fun c w' hc' q' => (sb.2 c ?_).trans q') (fun _ q' => q') fun _ _ q' => q'
   rintro rfl
   rcases hc' with z | z
   ·have e' := e; rw [← z] at e'; rw [fC] at e'; cases e'
   ·rw [fC] at z; cases z
  have u1 : Un (frs X.stack) fp (upd H1 s2.heap.objs.size (DN X.prog X.w s2.heap.objs.size [] ep0)) H' s₃.heap h'' := by
   have b0 := I'.base
   have ne : ∀ b o, s₃.heap.get? b = some o → b ≠ s₃.heap.objs.size := fun b o e => Nat.ne_of_lt (Heap.lt_size e)
   exact ⟨fun b o e n hb hx => (sb.2 b (ne b o e)).trans (b0.keep b o e n hb hx), fun b o e n hb hx => by
     obtain ⟨sl, z⟩ := b0.slot b o e n hb hx
     exact ⟨sl, (sb.2 b (ne b o e)).trans z⟩, b0.free, fun b o e hx => by
     obtain ⟨o', z⟩ := b0.there b o e hx
     exact ⟨o', (sb.2 b (ne b o e)).trans z⟩, b0.tups, b0.frzs, b0.tbls⟩
  exact I3.call' (s' := { s' with heap := h'' }) (ch := fp) I'.os u1 hok' I'.bare fun b hb => ⟨(f2 b hb).2.2.2.1, (f2 b hb).2.1, (f2 b hb).2.2.2.2.1, (f2 b hb).2.2.2.2.2⟩
 have loop : codeAny (model X.prog X.w) X.A (.compLoop (.DictComp kx vx [⟨tg, iter, [], 0⟩] scope pos) 0 (.ref it) (.ref s2.heap.objs.size) (compEnvC scope (DZ X.env.cells scope.names []) s₃.heap.objs.size X.env))
   (compPost (model X.prog X.w) X.A X.xe none (EP X pins σ Q) (.ref s2.heap.objs.size) s₃.heap.objs.size) { s₃ with heap := h₁, toks := s₃.toks } := by
  refine VB (fun n s' => ∃ i σ' H', Inv X' [] σ' H' s' ∧ tn i s'.heap ∧ (∀ b ∈ fp, H' b = none) ∧ W i n σ' H') ?_ m0 ⟨0, _, _, I4, st4, fun b hb => (f3 b hb).1, w0⟩
  rintro n s5 ⟨i, σ5, H5, I5, st5, fr5, w5⟩
  rw [← ePr, ← eW, ← eA, ← eE]
  rcases turn i n σ5 H5 w5 with ⟨stop, qn⟩ | ⟨go, step⟩
  ·have := T.done X' ePr eW eK eC i [] s5 σ5 H5 X'.xe I5 (stat fr5) st5 stop
   rw [eX] at this
   rw [← ePr, ← eW] at this
   refine thn this fun r s6 ⟨hr, I6⟩ => ?_
   subst hr
   dsimp only
   rw [ePr, eW, eA]
   exact fin I6 fr5 qn
  ·have := T.item X' ePr eW eK eC i [] s5 σ5 H5 X'.xe I5 (stat fr5) st5 go
   rw [eX] at this
   rw [← ePr, ← eW] at this
   refine thn this fun r s6 ⟨u, hr, h6⟩ => ?_
   subst hr
   dsimp only
   refine thn h6 fun _ s7 ⟨x, H7, I7, r7, y7, st7, fr7⟩ => ?_
   have I7' := I7.pinned (stat fr7) (T.obj _ _ st7)
   have g7 := hg' _ s7 σ5 H7 x u _ I7' r7 (step x H7 y7)
   rw [eX] at g7
   refine thn g7 fun _ s8 ⟨σ8, H8, I8, q8⟩ => ?_
   have again : ∀ {σ9 : St} {H9 : Hp} {s9 : Shared}, Inv X' ([] ++ FG fp s7.heap) σ9 H9 s9 → tn (i + 1) s9.heap ∧ ∀ b ∈ fp, H9 b = none := fun {σ9 H9 s9} I9 => by
    refine ⟨T.keep _ _ _ st7 fun b hb o e => (I9.pin (b, o) (List.mem_append_right _ (List.mem_append_right _ (CH hb e)))).1, fun b hb => ?_⟩
    obtain ⟨o, e, d⟩ := T.obj _ _ st7 b hb
    exact (I9.pin (b, o) (List.mem_append_right _ (List.mem_append_right _ (CH hb e)))).2.1
   have k8 := hk' _ s8 σ8 H8 _ I8 q8
   rw [eX] at k8
   refine thn k8 fun y s9 ⟨y9, H9, I9, r9, q9⟩ => ?_
   have v9 := hv' _ s9 σ8 H9 _ I9 q9
   rw [eX] at v9
   refine thn v9 fun z s10 ⟨z10, H10, I10, r10, q10⟩ => ?_
   obtain ⟨b, rfl, es, ep, k, hp, ks, hlen, hb, hno, w10⟩ := CC.ex q10
   obtain rfl : y = Value.ref b := r9
   rw [← ePr, ← eW] at hp
   rw [← eK] at ks hb
   obtain ⟨hsm', xs, ev, dd⟩ := NU I10 hp ks
   have hl' : xs.length ≤ sizeLine := by rw [← Paired.length ev]; exact Nat.le_trans hlen (by decide)
   refine wpAny_dictSet_heap (hsz := hl') (show X'.A.units + 3 < cLine by rw [eA]; omega) (SJ I10 hb) dd fun h' dd' hss => ?_
   rw [storedH_new (ev.none hno)] at dd'
   obtain ⟨ep', ok'⟩ := RF (P := X'.prog) (w := X'.w) hsm' (ev.app (es' := [(k, b, z10)]) (xs' := [(k, b, z)]) (.cons ⟨rfl, rfl, r10⟩ .nil)) dd'
   have he : ∃ q, h'.get? s2.heap.objs.size = some q := let ⟨q, _, _, hq, _⟩ := dd'; ⟨q, hq⟩
   have I11 := XY (t' := s10.toks + (DD X'.prog X'.w).draws k) I10 (by rw [hp]; exact True.intro) hss he (ok' _)
   obtain ⟨m', hm, w11⟩ := w10 ep'
   rw [← ePr, ← eW] at w11
   exact ⟨m', hm, i + 1, σ8, _, I11.unpinned, (again I11).1, (again I11).2, w11⟩
 have es : ({ s2 with heap := h₁, toks := s2.toks + ([] : List (Str × Value)).length } : Shared) = { s₃ with heap := h₁, toks := s₃.toks } := by rw [← hs3]; rfl
 rw [show ({ s2 with heap := h₁, toks := s2.toks + ([] : List (Str × Value)).length } : Shared) = { s₃ with heap := h₁, toks := s₃.toks } from es]
 exact codeAny_compStart_dict loop (T.self _ 0 _ _ _ st4 loop)
end
section
variable {prog : Program} {w : World} {A : Around} {R : Result → Shared → Prop} {s : Shared} {elt tg iter tg2 iter2 : Expr} {scope : Scope} {pos : Pos} {it acc : Value} {env : Env}
theorem aM (I : Nat → Shared → Prop)
  (turn : ∀ n s, I n s → wpAny (model prog w) A (pyNext it) (fun r s₁ => match r with
   | none => R (.ok .next) s₁
   | some v => wpAny (model prog w) A (letOwnedTupleGo tg2 it v) (fun _ s₁' => wpAny (model prog w) A (assign tg2 env v) (fun _ s₂ =>
     wpAny (model prog w) A (eval elt env) (fun x s₄ => wpAny (model prog w) A (call (.builtin "list.append") [acc, x]) (fun _ s₅ => ∃ m, m < n ∧ I m s₅) (fun _ _ => False) s₄) (fun _ _ => False) s₂) (fun _ _ => False) s₁') (fun _ _ => False) s₁) (fun _ _ => False) s)
  (n : Nat) (h : I n s) :
  codeAny (model prog w) A (.compLoop (.ListComp elt [⟨tg, iter, [], 0⟩, ⟨tg2, iter2, [], 0⟩] scope pos) 1 it acc env) R s := by
 refine codeAny_loop rfl I (fun n s hI => ?_) n h
 show wpAny _ A ((compTurn (.ListComp elt [⟨tg, iter, [], 0⟩, ⟨tg2, iter2, [], 0⟩] scope pos) 1 it acc env).onRaise (fun x => do noteFrame x env; theTreesLotGoes x)) _ _ s
 refine wpAny_noted ?_
 rw [show compTurn (.ListComp elt [⟨tg, iter, [], 0⟩, ⟨tg2, iter2, [], 0⟩] scope pos) 1 it acc env = (standAt iter2.pos >>= fun _ => pyNext it >>= fun r => match r with
   | none => pure (.done .next)
   | some v => letOwnedTupleGo tg2 it v >>= fun _ => assign tg2 env v >>= fun _ => (eval elt env >>= fun x => call (.builtin "list.append") [acc, x] >>= fun _ => pure ()) >>= fun _ =>
     again (.compLoop (.ListComp elt [⟨tg, iter, [], 0⟩, ⟨tg2, iter2, [], 0⟩] scope pos) 1 it acc env)) from rfl]
 refine wpAny_bind (wpAny_standAt (wpAny_bind (wpAny_mono (turn n s hI) (fun r s₁ h₁ => ?_) fun _ _ z => False.elim z)))
 cases r with
 | none => exact wpAny_pure h₁
 | some v =>
  refine wpAny_bind (wpAny_mono h₁ (fun _ s₁' h₁' => wpAny_bind (wpAny_mono h₁' (fun _ s₂ h₂ => ?_) fun _ _ z => False.elim z)) fun _ _ z => False.elim z)
  exact wpAny_bind (wpAny_bind (wpAny_mono h₂ (fun x s₄ h₄ => wpAny_bind (wpAny_mono h₄ (fun _ s₅ h₅ => wpAny_pure (wpAny_pure ⟨rfl, h₅⟩)) fun _ _ z => False.elim z)) fun _ _ z => False.elim z))
theorem NI
  (h0 : codeAny (model prog w) A (.compLoop (.ListComp elt [⟨tg, iter, [], 0⟩, ⟨tg2, iter2, [], 0⟩] scope pos) 1 it acc env) R s)
  (h : wpAny (model prog w) A (pyIter it) (fun it' s' => codeAny (model prog w) A (.compLoop (.ListComp elt [⟨tg, iter, [], 0⟩, ⟨tg2, iter2, [], 0⟩] scope pos) 1 it' acc env) R s') (notedBy (model prog w) A env fun x s' => R (.error x) s') s) :
  codeAny (model prog w) A (.compStart (.ListComp elt [⟨tg, iter, [], 0⟩, ⟨tg2, iter2, [], 0⟩] scope pos) 1 it acc env) R s := by
 refine codeAny_of_tree ?_
 show wpAny _ _ ((compStart (.ListComp elt [⟨tg, iter, [], 0⟩, ⟨tg2, iter2, [], 0⟩] scope pos) 1 it acc env).onRaise (fun x => do noteFrame x env; standAt theWindowsPlace)) _ _ s
 refine wpAny_notedAt ?_
 unfold compStart
 show wpAny _ _ (ask >>= _) _ _ s
 refine wpAny_bind (wpAny_askSetting (wpAny_ite ?_))
 split
 ·first
   | exact wpAny_bind (wpAny_pure (wpAny_pure (.intro rfl h0)))
   | exact wpAny_pure (.intro rfl h0)
 ·refine wpAny_bind (wpAny_rule ?_)
  refine (show wpAny _ _ (standAt iter2.pos >>= _) _ _ s from wpAny_bind (wpAny_standAt (wpAny_bind (wpAny_mono h (fun it' s' h' => wpAny_pure (.intro rfl h')) fun _ _ x => x))))
theorem VQ (hs2 : ∀ env x, foldedSetIterable iter2 env x = pure x) (I : Nat → Shared → Prop)
  (turn : ∀ n s, I n s → wpAny (model prog w) A (pyNext it) (fun r s₁ => match r with
   | none => R (.ok .next) s₁
   | some v => wpAny (model prog w) A (letOwnedTupleGo tg it v) (fun _ s₁' => wpAny (model prog w) A (assign tg env v) (fun _ s₂ =>
     wpAny (model prog w) A (eval iter2 env) (fun x s₃ => wpAny (model prog w) A (pyIter x) (fun jt s₄ => codeAny (model prog w) A (.compStart (.ListComp elt [⟨tg, iter, [], 0⟩, ⟨tg2, iter2, [], 0⟩] scope pos) 1 jt acc env) (fun r s₅ => r = .ok .next ∧ ∃ m, m < n ∧ I m s₅) s₄) (fun _ _ => False) s₃) (fun _ _ => False) s₂) (fun _ _ => False) s₁') (fun _ _ => False) s₁) (fun _ _ => False) s)
  (n : Nat) (h : I n s) :
  codeAny (model prog w) A (.compLoop (.ListComp elt [⟨tg, iter, [], 0⟩, ⟨tg2, iter2, [], 0⟩] scope pos) 0 it acc env) R s := by
 refine codeAny_loop rfl I (fun n s hI => ?_) n h
 show wpAny _ A ((compTurn (.ListComp elt [⟨tg, iter, [], 0⟩, ⟨tg2, iter2, [], 0⟩] scope pos) 0 it acc env).onRaise (fun x => do noteFrame x env; theTreesLotGoes x)) _ _ s
 refine wpAny_noted ?_
 rw [show compTurn (.ListComp elt [⟨tg, iter, [], 0⟩, ⟨tg2, iter2, [], 0⟩] scope pos) 0 it acc env = (standAt iter.pos >>= fun _ => pyNext it >>= fun r => match r with
   | none => pure (.done .next)
   | some v => letOwnedTupleGo tg it v >>= fun _ => assign tg env v >>= fun _ => (eval iter2 env >>= fun x => standAt iter2.pos >>= fun _ => foldedSetIterable iter2 env x >>= fun x => holding [x] (pyIter x) >>= fun jt =>
     runOwn (.compStart (.ListComp elt [⟨tg, iter, [], 0⟩, ⟨tg2, iter2, [], 0⟩] scope pos) 1 jt acc env) env >>= fun _ => again (.compLoop (.ListComp elt [⟨tg, iter, [], 0⟩, ⟨tg2, iter2, [], 0⟩] scope pos) 0 it acc env))) from rfl]
 refine wpAny_bind (wpAny_standAt (wpAny_bind (wpAny_mono (turn n s hI) (fun r s₁ h₁ => ?_) fun _ _ z => False.elim z)))
 cases r with
 | none => exact wpAny_pure h₁
 | some v =>
  refine wpAny_bind (wpAny_mono h₁ (fun _ s₁' h₁' => wpAny_bind (wpAny_mono h₁' (fun _ s₂ h₂ => ?_) fun _ _ z => False.elim z)) fun _ _ z => False.elim z)
  refine wpAny_bind (wpAny_mono h₂ (fun x s₃ h₃ => wpAny_bind (wpAny_standAt (wpAny_bind ?_))) fun _ _ z => False.elim z)
  rw [hs2]
  refine wpAny_pure (wpAny_bind (wpAny_holding (wpAny_mono h₃ (fun jt s₄ h₄ => wpAny_bind (wpAny_runOwn (codeAny_mono h₄ fun r s₅ h₅ => ?_))) fun _ _ z => False.elim z)))
  obtain ⟨rfl, h₅⟩ := h₅
  exact wpAny_pure ⟨rfl, h₅⟩
end
def eM (js : List Nat) (os : List Str) (wi : TI) (g : TG) (wj : TI) (g2 : TG) (te : TE) : TE := fun σ H Q => wi σ H fun J H1 => ∀ p, H1 p = none →
 ∃ W : Nat → Nat → St → Hp → Prop, (∃ m, W 0 m (stC js os σ) (upd H1 p (.lst []))) ∧ ∀ i m σ H, W i m σ H →
  (J.stop i H ∧ Q (.ref p) H) ∨ (J.go i H ∧ ∀ x H', J.yld i H x H' → g x σ H' fun σ2 H2 => wj σ2 H2 fun J2 H3 =>
   ∃ V : Nat → Nat → St → Hp → Prop, (∃ m2, V 0 m2 σ2 H3) ∧ ∀ j m2 σ H, V j m2 σ H →
    (J2.stop j H ∧ ∃ m', m' < m ∧ W (i + 1) m' σ H) ∨ (J2.go j H ∧ ∀ x2 H', J2.yld j H x2 H' → g2 x2 σ H' fun σ4 H4 => te σ4 H4 fun y H5 =>
     ∃ ys, H5 p = some (.lst ys) ∧ ys.length < sizeLine ∧ ∃ m', m' < m2 ∧ V (j + 1) m' σ4 (upd H5 p (.lst (ys ++ [y])))))
section
variable {X : Cx}
theorem eH {elt iter tg iter2 tg2 : Expr} {scope sc : Scope} {pos : Pos} {wi wj : TI} {g g2 : TG} {te : TE} {N0 N os : List Str} {js : List Nat}
  (hc : X.calm = true) (hsc : X.env.scope = sc) (hN : X.N = N0) (ok : OC scope sc N0 js os N) (hi : PI X tg iter wi)
  (hg : ∀ s₃ H₃ fp cl, PG (cxC X scope cl N s₃ H₃ fp) tg g) (hj : ∀ s₃ H₃ fp cl, PI (cxC X scope cl N s₃ H₃ fp) tg2 iter2 wj) (hg2 : ∀ s₃ H₃ fp cl, PG (cxC X scope cl N s₃ H₃ fp) tg2 g2) (he : ∀ s₃ H₃ fp cl, PE (cxC X scope cl N s₃ H₃ fp) elt te)
  (hs : ∀ x, foldedSetIterable iter X.env x = pure x := by intro _; rfl) (hs2 : ∀ env x, foldedSetIterable iter2 env x = pure x := by intro _ _; rfl) :
  PE X (.ListComp elt [⟨tg, iter, [], 0⟩, ⟨tg2, iter2, [], 0⟩] scope pos) (eM js os wi g wj g2 te) := by
 intro pins s σ H Q I h
 rw [eval_ListComp]
 have hfree : ∀ y ∈ scope.names, y.2 = .free → ∃ c, X.env.cells.lookup y.1 = some c := fun y hy e => I.ok.has _ (by
  have := ok.free y hy e
  rw [← hsc] at this
  exact this)
 refine wpAny_comprehension_free (use := none) rfl hs (MP hfree) ok.kind ok.names (thn (hi pins s σ H _ I h) fun v s1 h1 => thn h1 fun itv s2 h2 => ?_)
 obtain ⟨it, fp, tn, J, H1, e, I2, T, st2, f2, hW⟩ := h2
 subst e
 refine wpAny_newObj_type (wpAny_newFunctionEnv ok.cell (by intro y hy; simp at hy) (fun h₁ hns₁ hsb₁ => ?_) ok.kind)
 dsimp only at hns₁ hsb₁ ⊢
 have hfr : H1 s2.heap.objs.size = none := I2.fresh
 have I3 := I2.lnew (ys := []) (its := []) (t' := s2.toks) .nil (Nat.zero_le _)
 generalize hs3 : ({ s2 with heap := s2.heap.push { cls := .type "list", data := .seq ([] : List Value).toArray }, toks := s2.toks } : Shared) = s₃ at I3
 have eh : s2.heap.push { cls := .type "list", dict := none, data := .seq ([] : List Value).toArray } = s₃.heap := by rw [← hs3]
 rw [eh] at hns₁ hsb₁ ⊢
 have k23 : ∀ b o, s2.heap.get? b = some o → s₃.heap.get? b = some o := fun b o q => by rw [← eh]; exact Heap.get?_push_of_some _ q
 have lt2 : ∀ b ∈ fp, b < s2.heap.objs.size := fun b hb => by
  obtain ⟨o, q, _⟩ := T.obj _ _ st2 b hb
  exact Heap.lt_size q
 have sz3 : s2.heap.objs.size ≤ s₃.heap.objs.size := by rw [← eh, Heap.size_push]; exact Nat.le_succ _
 have f3 : ∀ b ∈ fp, HZ X pins (upd H1 s2.heap.objs.size (.lst [])) b := fun b hb => ⟨by rw [BM (Nat.ne_of_lt (lt2 b hb))]; exact (f2 b hb).1, (f2 b hb).2⟩
 have k34 : ∀ b o, s₃.heap.get? b = some o → h₁.get? b = some o := fun b o q => hsb₁.extBut b o (Nat.ne_of_lt (Heap.lt_size q)) (Heap.get?_push_of_some _ q)
 have I4 := KN (t' := s₃.toks) hc hsc hN ok I3 f3 (fun b hb => Nat.lt_of_lt_of_le (lt2 b hb) sz3) hns₁ k34
 generalize hX' : cxC X scope (DZ X.env.cells scope.names []) N s₃ (upd H1 s2.heap.objs.size (.lst [])) fp = X' at I4
 obtain ⟨W, ⟨m0, w0⟩, turn⟩ := hW _ hfr
 have st4 : tn 0 h₁ := T.keep _ _ _ st2 fun b hb o q => k34 b o (k23 b o q)
 have stat : ∀ {H' : Hp}, (∀ b ∈ fp, H' b = none) → ∀ b ∈ fp, HZ X' [] H' b := fun {H'} hn b hb => by
  subst hX'
  refine ⟨hn b hb, Nat.ne_of_lt (Nat.lt_of_lt_of_le (lt2 b hb) sz3), fun z => ?_, .inl hb, fun x c e => ?_, fun p hp => by cases hp⟩
  ·rcases List.mem_cons.mp (I2.stkSub b z) with q | q
   ·exact (f2 b hb).2.1 q
   ·exact (f2 b hb).2.2.1 q
  ·exact (f2 b hb).2.2.2.2.1 x c (FS (cells := X.env.cells) scope.names [] hfree (fun _ _ e => by cases e) _ _ e)
 have ePr : X'.prog = X.prog := by subst hX'; rfl
 have eW : X'.w = X.w := by subst hX'; rfl
 have eK : X'.K = X.K := by subst hX'; rfl
 have eA : X'.A = X.A := by subst hX'; rfl
 have eE : X'.env = compEnvC scope (DZ X.env.cells scope.names []) s₃.heap.objs.size X.env := by subst hX'; rfl
 have eC : X'.calm = true := by subst hX'; rfl
 have eX : X'.xe = fun _ _ => False := by subst hX'; rfl
 have hg' : PG X' tg g := by subst hX'; exact hg _ _ _ _
 have hj' : PI X' tg2 iter2 wj := by subst hX'; exact hj _ _ _ _
 have hg2' : PG X' tg2 g2 := by subst hX'; exact hg2 _ _ _ _
 have he' : PE X' elt te := by subst hX'; exact he _ _ _ _
 have fin : ∀ {σ' : St} {H' : Hp} {s' : Shared}, Inv X' [] σ' H' s' → (∀ b ∈ fp, H' b = none) → Q (.ref s2.heap.objs.size) H' → compPost (model X.prog X.w) X.A X.xe none (EP X pins σ Q) (.ref s2.heap.objs.size) s₃.heap.objs.size (.ok .next) s' := by
  intro σ' H' s' I' hn q
  obtain ⟨m, hm, _⟩ := id I'.loc
  subst hX'
  refine ⟨m, hm, fun h'' sb => ⟨.ref s2.heap.objs.size, H', ?_, rfl, q⟩⟩
  have fC : H' s₃.heap.objs.size = none := I'.free
  have hok' : HOk X.prog X.w H' h'' := fun b ob e => by
   refine (I'.hok b ob e).stay (fun c w' hc' q' => (sb.2 c ?_).trans q') (fun _ q' => q') fun _ _ q' => q'
   rintro rfl
   rcases hc' with z | z
   ·have e' := e; rw [← z] at e'; rw [fC] at e'; cases e'
   ·rw [fC] at z; cases z
  have u1 : Un (frs X.stack) fp (upd H1 s2.heap.objs.size (.lst [])) H' s₃.heap h'' := by
   have b0 := I'.base
   have ne : ∀ b o, s₃.heap.get? b = some o → b ≠ s₃.heap.objs.size := fun b o e => Nat.ne_of_lt (Heap.lt_size e)
   exact ⟨fun b o e n hb hx => (sb.2 b (ne b o e)).trans (b0.keep b o e n hb hx), fun b o e n hb hx => by
     obtain ⟨sl, z⟩ := b0.slot b o e n hb hx
     exact ⟨sl, (sb.2 b (ne b o e)).trans z⟩, b0.free, fun b o e hx => by
     obtain ⟨o', z⟩ := b0.there b o e hx
     exact ⟨o', (sb.2 b (ne b o e)).trans z⟩, b0.tups, b0.frzs, b0.tbls⟩
  exact I3.call' (s' := { s' with heap := h'' }) (ch := fp) I'.os u1 hok' I'.bare fun b hb => ⟨(f2 b hb).2.2.2.1, (f2 b hb).2.1, (f2 b hb).2.2.2.2.1, (f2 b hb).2.2.2.2.2⟩
 have loop : codeAny (model X.prog X.w) X.A (.compLoop (.ListComp elt [⟨tg, iter, [], 0⟩, ⟨tg2, iter2, [], 0⟩] scope pos) 0 (.ref it) (.ref s2.heap.objs.size) (compEnvC scope (DZ X.env.cells scope.names []) s₃.heap.objs.size X.env))
   (compPost (model X.prog X.w) X.A X.xe none (EP X pins σ Q) (.ref s2.heap.objs.size) s₃.heap.objs.size) { s₃ with heap := h₁, toks := s₃.toks } := by
  refine VQ hs2 (fun n s' => ∃ i σ' H', Inv X' [] σ' H' s' ∧ tn i s'.heap ∧ (∀ b ∈ fp, H' b = none) ∧ W i n σ' H') ?_ m0 ⟨0, _, _, I4, st4, fun b hb => (f3 b hb).1, w0⟩
  rintro n s5 ⟨i, σ5, H5, I5, st5, fr5, w5⟩
  rw [← ePr, ← eW, ← eA, ← eE]
  rcases turn i n σ5 H5 w5 with ⟨stop, qn⟩ | ⟨go, step⟩
  ·have := T.done X' ePr eW eK eC i [] s5 σ5 H5 X'.xe I5 (stat fr5) st5 stop
   rw [eX] at this
   rw [← ePr, ← eW] at this
   refine thn this fun r s6 ⟨hr, I6⟩ => ?_
   subst hr
   dsimp only
   rw [ePr, eW, eA]
   exact fin I6 fr5 qn
  ·have := T.item X' ePr eW eK eC i [] s5 σ5 H5 X'.xe I5 (stat fr5) st5 go
   rw [eX] at this
   rw [← ePr, ← eW] at this
   refine thn this fun r s6 ⟨u, hr, h6⟩ => ?_
   subst hr
   dsimp only
   refine thn h6 fun _ s7 ⟨x, H7, I7, r7, y7, st7, fr7⟩ => ?_
   have I7' := I7.pinned (stat fr7) (T.obj _ _ st7)
   have g7 := hg' _ s7 σ5 H7 x u _ I7' r7 (step x H7 y7)
   rw [eX] at g7
   refine thn g7 fun _ s8 ⟨σ8, H8, I8, q8⟩ => ?_
   have again : ∀ {σ9 : St} {H9 : Hp} {s9 : Shared}, Inv X' ([] ++ FG fp s7.heap) σ9 H9 s9 → tn (i + 1) s9.heap ∧ ∀ b ∈ fp, H9 b = none := fun {σ9 H9 s9} I9 => by
    refine ⟨T.keep _ _ _ st7 fun b hb o e => (I9.pin (b, o) (List.mem_append_right _ (List.mem_append_right _ (CH hb e)))).1, fun b hb => ?_⟩
    obtain ⟨o, e, d⟩ := T.obj _ _ st7 b hb
    exact (I9.pin (b, o) (List.mem_append_right _ (List.mem_append_right _ (CH hb e)))).2.1
   have j8 := hj' _ s8 σ8 H8 _ I8 q8
   rw [eX] at j8
   refine thn j8 fun y s9 h9 => thn h9 fun jt s10 h10 => ?_
   obtain ⟨it2, fp2, tn2, J2, H10, ej, I10, T2, st10, f10, V, ⟨m2, v0⟩, turn2⟩ := h10
   subst ej
   have stat2 : ∀ {H' : Hp}, (∀ b ∈ fp2, H' b = none) → ∀ b ∈ fp2, HZ X' ([] ++ FG fp s7.heap) H' b := fun {H'} hn b hb => ⟨hn b hb, (f10 b hb).2⟩
   have loop2 : codeAny (model X'.prog X'.w) X'.A (.compLoop (.ListComp elt [⟨tg, iter, [], 0⟩, ⟨tg2, iter2, [], 0⟩] scope pos) 1 (.ref it2) (.ref s2.heap.objs.size) X'.env)
     (fun r s' => r = .ok .next ∧ ∃ m, m < n ∧ ∃ i σ' H', Inv X' [] σ' H' s' ∧ tn i s'.heap ∧ (∀ b ∈ fp, H' b = none) ∧ W i m σ' H') s10 := by
    refine aM (fun n2 s' => ∃ j σ' H', Inv X' ([] ++ FG fp s7.heap) σ' H' s' ∧ tn2 j s'.heap ∧ (∀ b ∈ fp2, H' b = none) ∧ V j n2 σ' H') ?_ m2 ⟨0, _, _, I10, st10, fun b hb => (f10 b hb).1, v0⟩
    rintro n2 s11 ⟨j, σ11, H11, I11, st11, fr11, w11⟩
    rcases turn2 j n2 σ11 H11 w11 with ⟨stop, m', hm, qn⟩ | ⟨go, step⟩
    ·have := T2.done X' rfl rfl rfl eC j _ s11 σ11 H11 X'.xe I11 (stat2 fr11) st11 stop
     rw [eX] at this
     refine thn this fun r s12 ⟨hr, I12⟩ => ?_
     subst hr
     exact ⟨rfl, m', hm, i + 1, σ11, H11, I12.unpinned, (again I12).1, (again I12).2, qn⟩
    ·have := T2.item X' rfl rfl rfl eC j _ s11 σ11 H11 X'.xe I11 (stat2 fr11) st11 go
     rw [eX] at this
     refine thn this fun r s12 ⟨u2, hr, h12⟩ => ?_
     subst hr
     dsimp only
     refine thn h12 fun _ s13 ⟨x2, H13, I13, r13, y13, st13, fr13⟩ => ?_
     have I13' := I13.pinned (stat2 fr13) (T2.obj _ _ st13)
     have g13 := hg2' _ s13 σ11 H13 x2 u2 _ I13' r13 (step x2 H13 y13)
     rw [eX] at g13
     refine thn g13 fun _ s14 ⟨σ14, H14, I14, q14⟩ => ?_
     have again2 : ∀ {σ9 : St} {H9 : Hp} {s9 : Shared}, Inv X' (([] ++ FG fp s7.heap) ++ FG fp2 s13.heap) σ9 H9 s9 → tn2 (j + 1) s9.heap ∧ ∀ b ∈ fp2, H9 b = none := fun {σ9 H9 s9} I9 => by
      refine ⟨T2.keep _ _ _ st13 fun b hb o e => (I9.pin (b, o) (List.mem_append_right _ (List.mem_append_right _ (CH hb e)))).1, fun b hb => ?_⟩
      obtain ⟨o, e, d⟩ := T2.obj _ _ st13 b hb
      exact (I9.pin (b, o) (List.mem_append_right _ (List.mem_append_right _ (CH hb e)))).2.1
     have e14 := he' _ s14 σ14 H14 _ I14 q14
     rw [eX] at e14
     refine thn e14 fun y s15 ⟨z, H15, I15, r15, ys, hy, hlen, m', hm, w15⟩ => ?_
     have a15 := JD (X := X') _ s15 σ14 H15 (.ref s2.heap.objs.size) [z] _ _ (fun _ H11 => H11 = upd H15 s2.heap.objs.size (.lst (ys ++ [z]))) I15 rfl (.cons r15 .nil) ⟨_, ys, z, rfl, rfl, hy, hlen, rfl⟩
     rw [eX] at a15
     refine thn a15 fun _ s16 ⟨_, H16, I16, _, e16⟩ => ?_
     subst e16
     exact ⟨m', hm, j + 1, σ14, _, I16.unpinned, (again2 I16).1, (again2 I16).2, w15⟩
   exact NI loop2 (T2.self _ 0 _ _ _ st10 loop2)
 have es : ({ s2 with heap := h₁, toks := s2.toks + ([] : List (Str × Value)).length } : Shared) = { s₃ with heap := h₁, toks := s₃.toks } := by rw [← hs3]; rfl
 rw [show ({ s2 with heap := h₁, toks := s2.toks + ([] : List (Str × Value)).length } : Shared) = { s₃ with heap := h₁, toks := s₃.toks } from es]
 exact codeAny_compStart_list loop (T.self _ 0 _ _ _ st4 loop)
end
section
variable {X : Cx} {o i : Expr} {pos : Pos} {td ty : TE}
def cZ (P : Program) (w : World) (K : PySem.W.Frag) (td ty : TE) : TE := fun σ H Q => td σ H fun x H1 => ty σ H1 fun y H2 => CC x fun a => CC y fun b => ∃ (es : EnN) (ep : Nat) (k : NK) (v : V), H2 a = some (DN P w a es ep) ∧ ID K H2 es ∧ Rp K H2 (nkD k) (.ref b) ∧ lkN es k = some v ∧ Q v H2
theorem XI {P : Program} {w : World} {K : PySem.W.Frag} (hP : X.prog = P) (hw : X.w = w) (hK : X.K = K) (hu : X.A.units + 4 < cLine) (ho : PE X o td) (hi : PE X i ty) (hs : kY i) : PE X (.Subscript o i pos) (cZ P w K td ty) := by
 subst hP hw hK
 intro pins s σ H Q I h
 refine WG PySem.F.slot_dict_getitem.lookup hs (thn (ho pins s σ H _ I h) fun u s1 ⟨x, H1, I1, rx, q1⟩ => thn (hi pins s1 σ H1 _ I1 q1) fun iv s2 ⟨y, H2, I2, ry, q2⟩ => ?_)
 obtain ⟨a, rfl, q3⟩ := CC.ex q2
 obtain ⟨b, rfl, es, ep, k, v, e, ks, hb, lk, q⟩ := CC.ex q3
 obtain rfl : u = Value.ref a := rx
 obtain rfl : iv = Value.ref b := ry
 obtain ⟨hsm, xs, ev, dd⟩ := NU I2 e ks
 obtain ⟨p, hp, rp⟩ := ev.look lk
 exact ⟨dd.typeIs, wpAny_getItem_heap (show X.A.units + 1 + 3 < cLine by omega) (SJ I2 hb) dd hp ⟨v, H2, I2.tok _, rp, q⟩⟩
end
def RQ (A : Around) (s : Shared) (x y : Value) (b : Bool) : Prop := ∀ (prog : Program) (w : World) (E : Value → Shared → Prop) (Q : Value → Shared → Prop), Q (.bool b) s → wpAny (model prog w) A (richCompare .Lt x y) Q E s
section
variable {A : Around} {s : Shared}
theorem lt_int (i j : Int) (t u : Tok) : RQ A s (.int i t) (.int j u) (decide (i < j)) := fun prog w E Q q => by
 exact wpAny_lt_int (a := i) (b := j) (t := t) (u := u) q
theorem fK {a b : Addr} {u v u' v' : Value} {k1 k2 l1 l2 : Bool} {n n2 : Nat} {dd dd2 : Option Addr} {sl sl2 : Array (Option Value)} :
  Meets (Builtin.«tuple.__lt__» ⟨[.ref a, .ref b], []⟩)
   (fun A R s => s.heap.get? a = some { cls := .type "tuple", dict := dd, data := .seq #[u, v] n, slots := sl } ∧ s.heap.get? b = some { cls := .type "tuple", dict := dd2, data := .seq #[u', v'] n2, slots := sl2 } ∧
    SeqAt.EqAt A.in1 s u u' k1 ∧ SeqAt.EqAt A.in1 s v v' k2 ∧ (k1 = false → RQ A.in1 s u u' l1) ∧ (k1 = true → k2 = false → RQ A.in1 s v v' l2) ∧ R (.ok (.ret (.bool (if k1 = true then (if k2 = true then false else l2) else l1)))) s) :=
 .of_wp fun prog w A R s h => by
  obtain ⟨h1, h2, e1, e2, t1, t2, q⟩ := h
  have i1 : IsTup s.heap a #[u, v] := ⟨_, h1, rfl, n, rfl⟩
  have i2 : IsTup s.heap b #[u', v'] := ⟨_, h2, rfl, n2, rfl⟩
  show wpAny _ _ (slotArgs "__lt__" 1 { pos := [.ref a, .ref b] } >>= _) _ _ _
  refine wpAny_bind ?_
  rw [show slotArgs "__lt__" 1 { pos := [.ref a, .ref b] } = pure (.ref a, [.ref b]) from rfl]
  refine wpAny_pure ?_
  show wpAny _ _ (PySem.isInstance (.ref b) (.type "tuple") >>= _) _ _ _
  refine wpAny_bind (wpAny_isInstance i2.typeIs isSubtype_tuple_tuple ?_)
  rw [if_neg (by decide)]
  refine wpAny_bind (tupleItemsOf_ i1 (wpAny_bind (tupleItemsOf_ i2 ?_)))
  rw [show (#[u, v] : Array Value).toList.zip (#[u', v'] : Array Value).toList = [(u, u'), (v, v')] from rfl, List.forIn_cons]
  refine wpAny_bind (wpAny_bind (wpAny_bind (e1 prog w _ _ ?_)))
  cases k1 with
  | false =>
   rw [if_pos (by decide)]
   refine wpAny_bind (wpAny_rule (wpAny_bind (t1 rfl prog w _ _ (wpAny_bind (wpAny_pure (wpAny_pure ?_))))))
   dsimp only
   exact wpAny_pure (wpAny_pure ⟨_, rfl, q⟩)
  | true =>
   rw [if_neg (by decide)]
   refine wpAny_pure ?_
   dsimp only
   rw [List.forIn_cons]
   refine wpAny_bind (wpAny_bind (e2 prog w _ _ ?_))
   cases k2 with
   | false =>
    rw [if_pos (by decide)]
    refine wpAny_bind (wpAny_rule (wpAny_bind (t2 rfl rfl prog w _ _ (wpAny_bind (wpAny_pure (wpAny_pure ?_))))))
    dsimp only
    exact wpAny_pure (wpAny_pure ⟨_, rfl, q⟩)
   | true =>
    rw [if_neg (by decide)]
    refine wpAny_pure ?_
    dsimp only
    rw [List.forIn_nil]
    exact wpAny_pure (wpAny_pure ⟨_, rfl, q⟩)
theorem WR {a b : Addr} {u v u' v' : Value} {k1 k2 l1 l2 : Bool} (h1 : IsTup s.heap a #[u, v]) (h2 : IsTup s.heap b #[u', v']) (hA : A.units < cLine) (e1 : SeqAt.EqAt A.in1 s u u' k1) (e2 : SeqAt.EqAt A.in1 s v v' k2)
  (t1 : k1 = false → RQ A.in1 s u u' l1) (t2 : k1 = true → k2 = false → RQ A.in1 s v v' l2) : RQ A s (.ref a) (.ref b) (if k1 = true then (if k2 = true then false else l2) else l1) := fun prog w E Q q => by
 obtain ⟨⟨c1, dd1, da1, sl1⟩, g1, z1, n1, d1⟩ := h1
 obtain ⟨⟨c2, dd2, da2, sl2⟩, g2, z2, n2, d2⟩ := h2
 dsimp only at z1 d1 z2 d2
 subst z1 d1 z2 d2
 exact richCompare_meets_room (op := .Lt) ⟨_, g1, rfl⟩ ⟨_, g2, rfl⟩ PySem.F.slot_tuple_lt PySem.F.entry_tuple_lt (PySem.F.args_tuple_lt_2 _ _) (fK (k1 := k1) (k2 := k2) (l1 := l1) (l2 := l2)) ⟨g1, g2, e1, e2, t1, t2, (fun z => by cases z), q⟩ hA
end
open PySem.W in
def FQ {α : Type} (n : Nat) (f : Nat → Nat → Bool) (P : α → Prop) : KasT α → Prop
 | .ret a => P a
 | .ask i j k => i < n ∧ j < n ∧ FQ n f P (k (f i j))
section
open PySem.W
variable {n : Nat} {f : Nat → Nat → Bool}
theorem FQ.bind {α β : Type} {P : α → Prop} {P' : β → Prop} {g : α → KasT β} (h : ∀ a, P a → FQ n f P' (g a)) : ∀ {t : KasT α}, FQ n f P t → FQ n f P' (t.bind g)
 | .ret a, q => h a q
 | .ask i j k, q => ⟨q.1, q.2.1, FQ.bind h q.2.2⟩
theorem FQ.wp {α : Type} {P : α → Prop} {cmp : Nat → Nat → (Bool → Shared → Prop) → Shared → Prop} {Q : α → Shared → Prop} {s : Shared} (hc : ∀ i j C, i < n → j < n → C (f i j) s → cmp i j C s) (hq : ∀ a, P a → Q a s) : ∀ {t : KasT α}, FQ n f P t → t.kasWp cmp Q s
 | .ret a, g => hq a g
 | .ask i j k, g => hc i j _ g.1 g.2.1 (FQ.wp hc hq g.2.2)
def DM (n : Nat) (p : Array Nat) : Prop := 0 < n ∧ p.Perm (List.range n).toArray
theorem DM.lt {p : Array Nat} (h : DM n p) (i : Nat) : p.getD i 0 < n := by
 unfold Array.getD
 split
 ·rename_i hi
  have hm : p[i] ∈ p := Array.getElem_mem hi
  have := h.2.mem_iff.mp hm
  simpa using this
 ·exact h.1
theorem DM.rev {p : Array Nat} (h : DM n p) (i j : Nat) : DM n (kas_rev p i j) := ⟨h.1, (mirror_perm p i j _).trans h.2⟩
theorem MS {p : Array Nat} (h : DM n p) : ∀ m x, FQ n f (fun _ => True) (kas_asc p m x)
 | 0, x => True.intro
 | m + 1, x => by
  refine ⟨h.lt _, h.lt _, ?_⟩
  dsimp only
  split
  ·exact True.intro
  ·exact MS h m _
theorem IN : ∀ m (p : Array Nat) x q, DM n p → FQ n f (fun r => DM n r.1) (kas_desc m p x q)
 | 0, p, x, q, h => h
 | m + 1, p, x, q, h => by
  refine ⟨h.lt _, h.lt _, ?_⟩
  dsimp only
  split
  ·split
   ·exact IN m _ _ _ (h.rev _ _)
   ·exact IN m _ _ _ h
  ·refine ⟨h.lt _, h.lt _, ?_⟩
   dsimp only
   split
   ·exact h
   ·exact IN m _ _ _ h
theorem OG {x nrem : Nat} {p : Array Nat} (h : DM n p) : FQ n f (fun r => DM n r.2) (kas_tail3 x nrem p) := by
 refine (MS (h.rev 0 x) _ _).bind fun m _ => ?_
 exact h.rev 0 x
theorem JF {x nrem : Nat} {p : Array Nat} (h : DM n p) : FQ n f (fun r => DM n r.2) (kas_descPart x nrem p) := (IN _ _ _ _ h).bind fun r hr => by
 split
 ·exact OG (hr.rev _ _)
 ·exact OG hr
theorem VZ {nrem : Nat} {p : Array Nat} (h : DM n p) : FQ n f (fun r => DM n r.2) (kas_count nrem p) := (MS h _ _).bind fun x _ => by
 split
 ·exact h
 ·split
  ·refine ⟨h.lt _, h.lt _, ?_⟩
   dsimp only
   split
   ·exact h
   ·exact JF (h.rev _ _)
  ·exact JF h
theorem JL {p : Array Nat} {k : Nat} (h : DM n p) : ∀ m l r, FQ n f (fun _ => True) (kas_place p k m l r)
 | 0, l, r => True.intro
 | m + 1, l, r => by
  unfold kas_place
  split
  ·exact True.intro
  ·refine ⟨h.lt _, h.lt _, ?_⟩
   dsimp only
   split
   ·exact JL h m _ _
   ·exact JL h m _ _
theorem RX : ∀ m (p : Array Nat) x, DM n p → FQ n f (DM n) (kas_bin m p x)
 | 0, p, x, h => h
 | m + 1, p, x, h => (JL h _ _ _).bind fun l _ => RX m _ _ ⟨h.1, (bubble_perm p _ _).trans h.2⟩
theorem LR (hn : 0 < n) : FQ n f (DM n) (kas_sort n) := (VZ ⟨hn, Array.Perm.rfl⟩).bind fun r hr => by
 split
 ·exact RX _ _ _ hr
 ·exact hr
end
abbrev Q4 := Int × Int × Int × Int
def q4D (p : Q4) : D := plc p.1 p.2.1 p.2.2.1 p.2.2.2
abbrev Sk := Int × Q4 × Q4
def skD (k : Sk) : D := .tup [.int k.1, q4D k.2.1, q4D k.2.2]
def nlt (a b c d : Int) : Bool := if (a == c) = true then (if (b == d) = true then false else decide (b < d)) else decide (a < c)
def plt (p q : Q4) : Bool := if deq (num p.1 p.2.1) (num q.1 q.2.1) = true then (if deq (num p.2.2.1 p.2.2.2) (num q.2.2.1 q.2.2.2) = true then false else nlt p.2.2.1 p.2.2.2 q.2.2.1 q.2.2.2) else nlt p.1 p.2.1 q.1 q.2.1
def RK (k l : Sk) : Bool := if (k.1 == l.1) = true then (if deq (q4D k.2.1) (q4D l.2.1) = true then (if deq (q4D k.2.2) (q4D l.2.2) = true then false else plt k.2.2 l.2.2) else plt k.2.1 l.2.1) else decide (k.1 < l.1)
section
variable {X : Cx} {pins : List (Addr × Obj)} {σ : St} {H : Hp} {s : Shared} {A : Around}
theorem cL (I : Inv X pins σ H s) {a b c d : Int} {v u : V} {x y : Value} (h1 : Rp X.K H (num a b) v) (h2 : Rp X.K H (num c d) u) (r1 : BF v x) (r2 : BF u y) (hA : A.units < cLine) : RQ A s x y (nlt a b c d) := by
 obtain ⟨p, rfl, g1⟩ := BC.mp h1
 obtain ⟨q, rfl, g2⟩ := BC.mp h2
 cases r1
 cases r2
 obtain ⟨i1, v1, t1, _⟩ := I.tuple g1
 obtain ⟨i2, v2, t2, _⟩ := I.tuple g2
 obtain ⟨u1, w1, rfl, ⟨ta, rfl⟩, ⟨tb, rfl⟩⟩ := HV v1
 obtain ⟨u2, w2, rfl, ⟨tc, rfl⟩, ⟨td, rfl⟩⟩ := HV v2
 exact WR t1 t2 hA (SeqAt.EqAt.int_int _ _ _ _) (SeqAt.EqAt.int_int _ _ _ _) (fun _ => lt_int _ _ _ _) (fun _ _ => lt_int _ _ _ _)
theorem aJ (I : Inv X pins σ H s) {p q : Q4} {v u : V} {x y : Value} (h1 : Rp X.K H (q4D p) v) (h2 : Rp X.K H (q4D q) u) (r1 : BF v x) (r2 : BF u y) (hA : A.units + 2 < cLine) : RQ A s x y (plt p q) := by
 obtain ⟨a, x1, y1, rfl, g1, k1, k2⟩ := BT.mp h1
 obtain ⟨b, x2, y2, rfl, g2, m1, m2⟩ := BT.mp h2
 cases r1
 cases r2
 obtain ⟨i1, v1, t1, _⟩ := I.tuple g1
 obtain ⟨i2, v2, t2, _⟩ := I.tuple g2
 obtain ⟨u1, w1, rfl, a1, a2⟩ := HV v1
 obtain ⟨u2, w2, rfl, b1, b2⟩ := HV v2
 have hu : ∀ z z', A.in1.units + dep (num z z') < cLine := fun _ _ => show A.units + 1 + 1 < cLine by omega
 exact WR t1 t2 (by omega) (NP I k1 m1 a1 b1 (hu _ _)) (NP I k2 m2 a2 b2 (hu _ _)) (fun _ => cL I k1 m1 a1 b1 (show A.units + 1 < cLine by omega)) (fun _ _ => cL I k2 m2 a2 b2 (show A.units + 1 < cLine by omega))
theorem CJ {K : PySem.W.Frag} {k : Sk} {v : V} : Rp K H (skD k) v ↔ ∃ p x y, v = .ref p ∧ SqT K H p [.int k.1, x, y] ∧ Rp K H (q4D k.2.1) x ∧ Rp K H (q4D k.2.2) y := by
 unfold skD
 simp only [Rp, RpL]
 constructor
 ·rintro ⟨p, xs, rfl, h, x1, r1, rfl, rfl, x2, r2, rfl, h2, x3, r3, rfl, h3, rfl⟩
  exact ⟨p, x2, x3, rfl, h, h2, h3⟩
 ·rintro ⟨p, x, y, rfl, h, h2, h3⟩
  exact ⟨p, _, rfl, h, _, _, rfl, rfl, _, _, rfl, h2, _, _, rfl, h3, rfl⟩
theorem dC {x y z : V} {us : List Value} (r : BH [x, y, z] us) : ∃ u w v, us = [u, w, v] ∧ BF x u ∧ BF y w ∧ BF z v := by
 cases r with
 | cons r1 r2 =>
  cases r2 with
  | cons r3 r4 =>
   cases r4 with
   | cons r5 r6 => cases r6; exact ⟨_, _, _, rfl, r1, r3, r5⟩
theorem eU (I : Inv X pins σ H s) {k : Sk} {v : V} {x : Value} (h : Rp X.K H (skD k) v) (r : BF v x) : ∃ a t u w x1 y1, x = .ref a ∧ IsTup s.heap a #[.int k.1 t, u, w] ∧ Rp X.K H (q4D k.2.1) x1 ∧ Rp X.K H (q4D k.2.2) y1 ∧ BF x1 u ∧ BF y1 w := by
 obtain ⟨p, x1, y1, rfl, g1, k1, k2⟩ := CJ.mp h
 cases r
 obtain ⟨i1, v1, t1, _⟩ := I.tuple g1
 obtain ⟨u1, w1, z1, rfl, ⟨t, rfl⟩, a2, a3⟩ := dC v1
 exact ⟨p, t, w1, z1, x1, y1, rfl, t1, k1, k2, a2, a3⟩
theorem jX (I : Inv X pins σ H s) {k l : Sk} {v u : V} {x y : Value} {Q : Bool → Shared → Prop} {E : Value → Shared → Prop} (h1 : Rp X.K H (skD k) v) (h2 : Rp X.K H (skD l) u) (r1 : BF v x) (r2 : BF u y) (hA : A.units + 4 < cLine) (q : Q (RK k l) s) :
  wpAny (model X.prog X.w) A (keyLt' (tuples' true) x y) Q E s := by
 obtain ⟨a, ta, u1, w1, x1, y1, rfl, ⟨oa, ea, ca, na, da⟩, p1, p2, m1, m2⟩ := eU I h1 r1
 obtain ⟨b, tb, u2, w2, x2, y2, rfl, ⟨ob, eb, cb, nb, db⟩, q1, q2, n1, n2⟩ := eU I h2 r2
 have hu : ∀ z : Q4, A.units + dep (q4D z) < cLine := fun _ => show A.units + 2 < cLine by omega
 refine PySem.W.kat_lt ea da eb db ?_
 refine PySem.W.kat_cons (SeqAt.EqAt.int_int _ _ _ _ _ _ _ _ (PySem.W.kat_go (fun e1 => PySem.W.kat_yes ?_) fun e1 => PySem.W.kat_no ?_))
 ·refine PySem.W.kat_cons (NP I p1 q1 m1 n1 (hu _) _ _ _ _ (PySem.W.kat_go (fun e2 => PySem.W.kat_yes ?_) fun e2 => PySem.W.kat_no ?_))
  ·refine PySem.W.kat_cons (NP I p2 q2 m2 n2 (hu _) _ _ _ _ (PySem.W.kat_go (fun e3 => PySem.W.kat_yes ?_) fun e3 => PySem.W.kat_no ?_))
   ·unfold RK at q
    rw [e1, e2, e3] at q
    exact PySem.W.kat_nil q
   ·refine PySem.W.kat_one _ _ (aJ I p2 q2 m2 n2 (by omega) _ _ _ _ ?_)
    unfold RK at q
    rw [e1, e2, e3] at q
    exact q
  ·refine PySem.W.kat_one _ _ (aJ I p1 q1 m1 n1 (by omega) _ _ _ _ ?_)
   unfold RK at q
   rw [e1, e2] at q
   exact q
 ·refine oneLt_int ?_
  unfold RK at q
  rw [e1] at q
  exact q
end
section
open PySem.W
def CK {α : Type} (f : Nat → Nat → Bool) : KasT α → α
 | .ret a => a
 | .ask i j k => CK f (k (f i j))
theorem FQ.run {α : Type} {n : Nat} {f : Nat → Nat → Bool} {P : α → Prop} : ∀ {t : KasT α}, FQ n f P t → FQ n f (fun a => a = CK f t ∧ P a) t
 | .ret a, g => ⟨rfl, g⟩
 | .ask i j k, g => ⟨g.1, g.2.1, FQ.run g.2.2⟩
theorem FQ.post {α : Type} {n : Nat} {f : Nat → Nat → Bool} {P : α → Prop} {t : KasT α} : FQ n f P t → P (CK f t) := by
 induction t with
 | ret a => exact id
 | ask i j k ih => exact fun g => ih _ g.2.2
end
def JG (ks : List Sk) (i j : Nat) : Bool := RK (ks.getD i (0, (0, 0, 0, 0), (0, 0, 0, 0))) (ks.getD j (0, (0, 0, 0, 0), (0, 0, 0, 0)))
def EY (ks : List Sk) : List Nat := if ks.length < 2 then List.range ks.length else (CK (JG ks) (PySem.W.kas_sort ks.length)).toList
theorem EO (ks : List Sk) : (EY ks).Perm (List.range ks.length) := by
 unfold EY
 split
 ·exact List.Perm.refl _
 ·have := (LR (n := ks.length) (f := JG ks) (by omega)).post
  have h2 := this.2
  have := Array.perm_iff_toList_perm.mp h2
  simpa using this
section
variable {X : Cx}
def TX (K : PySem.W.Frag) : List V → Hp → VK → Prop := fun xs H Q => o1 xs fun x => CC x fun l => ∃ (vs : List V) (ks : List Sk), SqL K H l vs ∧ Paired (fun k v => Rp K H (skD k) v) ks vs ∧ ks.length < 64 ∧ ∀ p, H p = none → Q (.ref p) (upd H p (.lst ((EY ks).map fun i => vs.getD i .non)))
theorem IH {vs : List V} {its : List Value} (r : BH vs its) (i : Nat) (hi : i < vs.length) : BF (vs.getD i .non) (its.getD i Value.none) := by
 obtain ⟨u, hu, ru⟩ := r.get (show vs[i]? = some (vs.getD i .non) by rw [List.getD_eq_getElem?_getD]; simp [hi])
 rw [show its.getD i Value.none = u by rw [List.getD_eq_getElem?_getD, hu]; rfl]
 exact ru
theorem NB {vs : List V} {its : List Value} (r : BH vs its) : ∀ (p : List Nat), (∀ i ∈ p, i < vs.length) → BH (p.map fun i => vs.getD i .non) (p.map fun i => its.getD i Value.none)
 | [], _ => .nil
 | i :: p, h => .cons (IH r i (h i List.mem_cons_self)) (NB r p fun j hj => h j (List.mem_cons_of_mem _ hj))
theorem NH {pins : List (Addr × Obj)} {σ : St} {H : Hp} {s : Shared} (I : Inv X pins σ H s) : ∀ {ks : List Sk} {vs : List V} {its : List Value}, Paired (fun k v => Rp X.K H (skD k) v) ks vs → BH vs its → ∃ fs : List Value, PySem.W.KatTups s.heap its fs ∧ fs.length = its.length ∧ ∀ v ∈ fs, ∃ i t, v = Value.int i t
 | _, _, _, .nil, .nil => ⟨[], trivial, rfl, fun v hv => by cases hv⟩
 | _, _, _, .cons h t, .cons r rr => by
  obtain ⟨fs, k1, k2, k3⟩ := NH I t rr
  obtain ⟨a, ta, u1, w1, x1, y1, rfl, ⟨oa, ea, ca, na, da⟩, p1, p2, m1, m2⟩ := eU I h r
  refine ⟨.int _ ta :: fs, PySem.W.KatTups.cons ea ca da rfl k1, by simp [k2], fun v hv => ?_⟩
  rcases List.mem_cons.mp hv with rfl | hv
  ·exact ⟨_, _, rfl⟩
  ·exact k3 v hv
theorem VG (hu : X.A.units + 7 < cLine) : DE X (.builtin "sorted") (TX X.K) := by
 intro pins s σ H xs us Q I r h
 obtain ⟨x, rfl, h⟩ := o1.ex h
 obtain ⟨l, rfl, vs, ks, hq, hp, h64, q⟩ := CC.ex h
 obtain ⟨u, rfl, ru⟩ := JV r
 cases ru
 obtain ⟨its, rv, p, hz⟩ := I.list hq
 have hl : its.length = vs.length := rv.length.symm
 have hk : ks.length = vs.length := Paired.length hp
 have hs6 : its.length ≤ sizeLine := by rw [sizeLine_eq]; omega
 refine Calls.call_function_entry kind_sorted plain_sorted entry_sorted (args_sorted1 _) ?_
 unfold Builtin.«sorted»
 refine wpAny_bind (m := checkCount "sorted" 1 1 _) (wpAny_pure (wpAny_bind (collect_list (vs := its) p.isList ?_ hs6)))
 refine wpAny_bind (wpAny_newList ?_ hs6)
 have z1 : ((s.heap.push (seqObj "list" #[] 0)).update s.heap.objs.size (Obj.mapSeq (· ++ its.toArray))).objs.size = s.heap.objs.size + 1 := by rw [Heap.size_update, size_push']
 have oL : (((s.heap.push (seqObj "list" #[] 0)).update s.heap.objs.size (Obj.mapSeq (· ++ its.toArray))).push (seqObj "list" its.toArray 0)).get? (s.heap.objs.size + 1) = some (seqObj "list" its.toArray 0) := by
  rw [← z1]
  exact Heap.get?_push_size _ rfl
 have keep : ∀ b o, s.heap.get? b = some o → (((s.heap.push (seqObj "list" #[] 0)).update s.heap.objs.size (Obj.mapSeq (· ++ its.toArray))).push (seqObj "list" its.toArray 0)).get? b = some o := fun b o e => by
  have lt : b < s.heap.objs.size := Heap.lt_size e
  rw [Heap.get?_push_ne _ _ _ (by rw [z1]; exact Nat.ne_of_lt (Nat.lt_succ_of_lt lt)), Heap.get?_update_ne _ _ _ _ (Nat.ne_of_lt lt), Heap.get?_push_ne _ _ _ (Nat.ne_of_lt lt)]
  exact e
 show wpAny _ _ _ _ _ { s with heap := ((s.heap.push (seqObj "list" #[] 0)).update s.heap.objs.size (Obj.mapSeq (· ++ its.toArray))).push (seqObj "list" its.toArray 0) }
 rw [z1]
 generalize ((s.heap.push (seqObj "list" #[] 0)).update s.heap.objs.size (Obj.mapSeq (· ++ its.toArray))).push (seqObj "list" its.toArray 0) = h1 at oL keep ⊢
 refine wpAny_bind (wpAny_holding (wpAny_call_entry slot_list_sort ⟨_, oL, rfl⟩ entry_list_sort ?_ (args_list_sort _)))
 have lt1 : s.heap.objs.size + 1 < h1.objs.size := Heap.lt_size oL
 rw [list_sort_plain]
 refine wpAny_bind (listItems_at oL rfl (wpAny_bind (listUpdate_at oL rfl ?_ (by simpa using hs6) (Nat.zero_le _))))
 obtain ⟨e1, ho1⟩ : ∃ e1, (h1.update (s.heap.objs.size + 1) (Obj.mapSeq fun _ => (#[] : Array Value))).get? (s.heap.objs.size + 1) = some (seqObj "list" #[] e1) := ⟨_, get?_update_seq oL fun _ => #[]⟩
 refine wpAny_bind (seqEpoch_at ho1 rfl (wpAny_bind (wpAny_newTuple ?_ (by simpa using hs6))))
 refine wpAny_bind (wpAny_newList ?_ (Nat.zero_le _))
 refine wpAny_holding ?_
 have sz2 : (h1.update (s.heap.objs.size + 1) (Obj.mapSeq fun _ => (#[] : Array Value))).objs.size = h1.objs.size := Heap.size_update ..
 have ho3 : (((h1.update (s.heap.objs.size + 1) (Obj.mapSeq fun _ => (#[] : Array Value))).push (seqObj "tuple" its.toArray 0)).push (seqObj "list" #[] 0)).get? (s.heap.objs.size + 1) = some (seqObj "list" #[] e1) := Heap.get?_push_of_some _ (Heap.get?_push_of_some _ ho1)
 have keep3 : ∀ b o, s.heap.get? b = some o → (((h1.update (s.heap.objs.size + 1) (Obj.mapSeq fun _ => (#[] : Array Value))).push (seqObj "tuple" its.toArray 0)).push (seqObj "list" #[] 0)).get? b = some o := fun b o e => by
  have lt : b < s.heap.objs.size := Heap.lt_size e
  exact Heap.get?_push_of_some _ (Heap.get?_push_of_some _ (by rw [Heap.get?_update_ne _ _ _ _ (Nat.ne_of_lt (Nat.lt_succ_of_lt lt))]; exact keep b o e))
 show wpAny _ _ _ _ _ { s with heap := ((h1.update (s.heap.objs.size + 1) (Obj.mapSeq fun _ => (#[] : Array Value))).push (seqObj "tuple" its.toArray 0)).push (seqObj "list" #[] 0) }
 generalize ((h1.update (s.heap.objs.size + 1) (Obj.mapSeq fun _ => (#[] : Array Value))).push (seqObj "tuple" its.toArray 0)).push (seqObj "list" #[] 0) = h3 at ho3 keep3 ⊢
 have I3 : Inv X pins σ H { s with heap := h3 } := I.kept (t' := s.toks) keep3
 have fin : ∀ (pm : List Nat) (st : SortSt), pm = EY ks → (arrOf st).map (·.2) = List.toArray (pm.map fun i => its.getD i Value.none) → failedOf st = none →
   wpAny (model X.prog X.w) X.A.in1.in1 (do
    let touched := (← seqEpoch (s.heap.objs.size + 1)) != e1
    Builtin.List.listUpdate (.ref (s.heap.objs.size + 1)) fun _ => (arrOf st).map (·.2)
    if let some e := failedOf st then rule "list.sort.comparison-raised"; throw e
    if touched then rule "list.sort.modified"; raiseError "ValueError" "list modified during sort"
    ret .none) (fun f s' => ∃ v, f = .done (.ret v) ∧ wpAny (model X.prog X.w) X.A.in1 (ret (.ref (s.heap.objs.size + 1))) (fun f s' => ∃ v, f = .done (.ret v) ∧ EP X pins σ Q v s') X.xe s') X.xe { s with heap := h3 } := by
  intro pm st epm eo ef
  have lpm : ∀ i ∈ pm, i < vs.length := fun i hi => by
   rw [epm] at hi
   have := (EO ks).mem_iff.mp hi
   rw [← hk]
   simpa using this
  have len : pm.length = vs.length := by rw [epm, (EO ks).length_eq, List.length_range, hk]
  refine wpAny_bind (seqEpoch_at ho3 rfl ?_)
  rw [eo, ef]
  refine wpAny_bind (listUpdate_at ho3 rfl ?_ (Nat.zero_le _) (by rw [List.size_toArray, List.length_map, len, sizeLine_eq]; omega))
  simp only [bne_self_eq_false, Bool.false_eq_true, if_false]
  refine wpAny_pure ⟨_, rfl, wpAny_pure ⟨_, rfl, ?_⟩⟩
  obtain ⟨c2, hc2⟩ : ∃ c2, (h3.update (s.heap.objs.size + 1) (Obj.mapSeq fun _ => List.toArray (pm.map fun i => its.getD i Value.none))).get? (s.heap.objs.size + 1) = some (seqObj "list" (List.toArray (pm.map fun i => its.getD i Value.none)) c2) := ⟨_, get?_update_seq ho3 fun _ => List.toArray (pm.map fun i => its.getD i Value.none)⟩
  have k4 : ∀ b o, s.heap.get? b = some o → (h3.update (s.heap.objs.size + 1) (Obj.mapSeq fun _ => List.toArray (pm.map fun i => its.getD i Value.none))).get? b = some o := fun b o e => by
   have lt : b < s.heap.objs.size := Heap.lt_size e
   rw [Heap.get?_update_ne _ _ _ _ (Nat.ne_of_lt (Nat.lt_succ_of_lt lt))]
   exact keep3 b o e
  have I4 := I.laid (a := s.heap.objs.size + 1) (o := .lst (pm.map fun i => vs.getD i .non)) (t' := s.toks) k4 (Nat.le_succ _) ⟨by rw [List.length_map, len, sizeLine_eq]; omega, _, c2, NB rv pm lpm, hc2⟩
  subst epm
  exact ⟨.ref (s.heap.objs.size + 1), _, I4, rfl, q _ (I.hok.fresh (Nat.le_succ _))⟩
 dsimp only
 by_cases h2 : its.toArray.size < 2
 ·rw [if_pos h2, if_pos h2]
  refine wpAny_bind (wpAny_pure ?_)
  rw [StateT.run_pure]
  refine wpAny_bind (wpAny_pure ?_)
  refine fin (List.range ks.length) _ ?_ ?_ rfl
  ·unfold EY
   rw [if_pos (by rw [hk, ← hl]; simpa using h2)]
  ·refine PySem.W.kat_snds rfl (p := (List.range ks.length).toArray) ?_
   have e := PySem.W.kas_range (its.toArray.zip its.toArray)
   rw [show (its.toArray.zip its.toArray).size = ks.length by simp [hk, hl]] at e
   rw [e]
 ·rw [if_neg h2, if_neg h2]
  have h2' : 2 ≤ its.length := by simpa using h2
  obtain ⟨fs, f1, f2, f3⟩ := NH I3 hp rv
  refine wpAny_bind (PySem.W.kat_kind f1 (by omega) (T := .type "int") (fun v hv => ?_) (by decide) ?_)
  ·obtain ⟨i, t, rfl⟩ := f3 v hv
   exact fun A Q E s' k q => wpAny_typeOf (typeIs_int s' i t) q
  ·refine wpAny_bind (wpAny_mono (PySem.W.kat_run (Q := fun st' s' => ∃ pm : Array Nat, pm.toList = EY ks ∧ arrOf st' = pm.map (PySem.W.kas_item (its.toArray.zip its.toArray)) ∧ failedOf st' = none ∧ s' = { s with heap := h3 }) (G := fun pm s' => pm.toList = EY ks ∧ s' = { s with heap := h3 }) rfl h2' (by omega) (fun p' st' s' a1 a2 a3 a4 => ⟨p', a4.1, a2, a3, a4.2⟩) ?_) ?_ fun _ _ e => e)
   ·have en : its.length = ks.length := by omega
    have gs := (LR (n := ks.length) (f := JG ks) (by omega)).run
    rw [en]
    refine gs.wp (fun i j C hi hj hC => ?_) fun a ha => ⟨?_, rfl⟩
    ·have rp : ∀ i, i < ks.length → Rp X.K H (skD (ks.getD i (0, (0, 0, 0, 0), (0, 0, 0, 0)))) (vs.getD i .non) := fun i hi => by
      obtain ⟨y, hy, r⟩ := IB hp (i := i) (x := ks[i]) (by simp [hi])
      rw [List.getD_eq_getElem?_getD, List.getD_eq_getElem?_getD, hy, List.getElem?_eq_getElem hi]
      exact r
     exact jX I3 (rp i hi) (rp j hj) (IH rv i (by omega)) (IH rv j (by omega)) (show X.A.units + 1 + 1 + 4 < cLine by omega) hC
    ·rw [ha.1]
     unfold EY
     rw [if_neg (by omega)]
   ·rintro ⟨⟨⟩, st'⟩ s' ⟨pm, e1', e2', e3', rfl⟩
    exact fin pm.toList st' e1' (PySem.W.kat_snds rfl e2') e3'
end
def kxL (K : PySem.W.Frag) : List (Int × D) → List DictEntry → Bool
 | [], [] => true
 | (k, d) :: ks, e :: es => (match e.key with | .int j _ => j == k | _ => false) && (e.hash == hashInt k) && JO K d e.val && kxL K ks es
 | _, _ => false
def lW (K : PySem.W.Frag) (ks : List (Int × D)) (u : Value) : Bool := match u with
 | .ref p => (match K.lookup p with
  | some o => (match o.cls, o.dict, o.data with
   | .type n, none, .dict es _ => n == "dict" && o.slots.size == 0 && kxL K ks es.toList
   | _, _, _ => false)
  | none => false)
 | _ => false
def KxE (K : PySem.W.Frag) (k : Int × D) (e : DictEntry) : Prop := (∃ t, e.key = .int k.1 t) ∧ e.hash = hashInt k.1 ∧ ∃ v, BF v e.val ∧ ∀ H, Rp K H k.2 v
structure KX (K : PySem.W.Frag) (ks : List (Int × D)) (u : Value) : Prop where
 ex : ∃ p o en ep, u = .ref p ∧ K.lookup p = some o ∧ o.ExactDict ∧ o.data = .dict en ep ∧ Paired (KxE K) ks en.toList
theorem bK {K : PySem.W.Frag} : ∀ {ks : List (Int × D)} {es : List DictEntry}, kxL K ks es = true → Paired (KxE K) ks es
 | [], [], _ => .nil
 | [], _ :: _, h => by simp [kxL] at h
 | (k, d) :: ks, [], h => by simp [kxL] at h
 | (k, d) :: ks, e :: es, h => by
  rw [kxL] at h
  simp only [Bool.and_eq_true, beq_iff_eq] at h
  obtain ⟨⟨⟨h1, h2⟩, h3⟩, h4⟩ := h
  refine .cons ⟨?_, h2, NW h3⟩ (bK h4)
  split at h1
  ·rename_i j t e'
   have : j = k := by simpa using h1
   subst this
   exact ⟨t, e'⟩
  ·cases h1
theorem qF {K : PySem.W.Frag} {ks : List (Int × D)} {u : Value} (h : lW K ks u = true) : KX K ks u := by
 unfold lW at h
 split at h
 ·rename_i p
  cases e : K.lookup p with
  | none => rw [e] at h; cases h
  | some o =>
   rw [e] at h
   dsimp only at h
   split at h
   ·rename_i n es ep ec ed ee
    simp only [Bool.and_eq_true, beq_iff_eq] at h
    obtain ⟨⟨rfl, hz⟩, hl⟩ := h
    exact ⟨p, o, es, ep, rfl, e, ⟨ec, ed, by simpa using hz⟩, ee, bK hl⟩
   ·cases h
 ·cases h
def lkI (ks : List (Int × D)) (k : Int) : Option D := (ks.find? fun x => decide (x.1 = k)).map (·.2)
theorem SK {K : PySem.W.Frag} {prog : Program} {w : World} : ∀ {ks : List (Int × D)} {es : List DictEntry}, Paired (KxE K) ks es → ∃ kvs : List (Int × Value), Pairs (intKind prog w) es kvs ∧ kvs.map (·.1) = ks.map (·.1) ∧ (∀ e ∈ es, ∃ k, (intKind prog w).is k e.key = true ∧ e.hash = (intKind prog w).hash k) ∧ ∀ k d, lkI ks k = some d → ∃ u, valueAt kvs k = some u ∧ ∃ v, BF v u ∧ ∀ H, Rp K H d v
 | _, _, .nil => ⟨[], .nil, rfl, (fun e he => by cases he), fun k d h => by cases h⟩
 | (k0, d0) :: ks, e0 :: es, .cons ⟨⟨t, h1⟩, h2, v, h3, h4⟩ r => by
  obtain ⟨kvs, p1, p2, p3, p4⟩ := SK (prog := prog) (w := w) r
  have is0 : (intKind prog w).is k0 e0.key = true := by rw [h1]; show Value.isInt k0 (.int k0 t) = true; simp [Value.isInt]
  refine ⟨(k0, e0.val) :: kvs, .cons is0 rfl p1, by simp [p2], fun e he => ?_, fun k d h => ?_⟩
  ·rcases List.mem_cons.mp he with rfl | he
   ·exact ⟨k0, is0, h2⟩
   ·exact p3 e he
  ·unfold lkI at h
   unfold valueAt
   rw [List.find?_cons] at h ⊢
   by_cases hk : k0 = k
   ·simp only [hk, decide_true] at h ⊢
    cases h
    exact ⟨_, rfl, v, h3, h4⟩
   ·simp only [hk, decide_false] at h ⊢
    exact p4 k d h
section
variable {X : Cx} {o i : Expr} {pos : Pos} {td ty : TE}
def tKx (K : PySem.W.Frag) (ks : List (Int × D)) (u : V) (td ty : TE) : TE := fun σ H Q => td σ H fun x H1 => x = u ∧ ty σ H1 fun y H2 => GX y fun k => ∃ d, lkI ks k = some d ∧ ∀ v, Rp K H2 d v → Q v H2
theorem jN {K : PySem.W.Frag} {ks : List (Int × D)} {u : V} {uv : Value} (hK : X.K = K) (hu : KX K ks uv) (hr : BF u uv) (nd : (ks.map (·.1)).Nodup) (ho : PE X o td) (hi : PE X i ty) (hs : kY i) : PE X (.Subscript o i pos) (tKx K ks u td ty) := by
 subst hK
 intro pins s σ H Q I h
 refine WG PySem.F.slot_dict_getitem.lookup hs (thn (ho pins s σ H _ I h) fun uo s1 ⟨x, H1, I1, rx, q1⟩ => ?_)
 obtain ⟨rfl, q1⟩ := q1
 refine thn (hi pins s1 σ H1 _ I1 q1) fun iv s2 ⟨y, H2, I2, ry, q2⟩ => ?_
 obtain ⟨k, rfl, d, lk, q⟩ := GX.ex q2
 obtain ⟨p, ob, en, ep, rfl, hl, ed, hd, pr⟩ := hu.ex
 obtain ⟨kvs, p1, p2, p3, p4⟩ := SK (prog := X.prog) (w := X.w) pr
 have dd : s2.heap.DictOf (intKind X.prog X.w) p kvs := ⟨ob, en, ep, I2.kIn p ob hl, ed, hd, fun e he => p3 e (by simpa using he), p1, by rw [p2]; exact nd⟩
 have ex : x = .ref p := by cases x <;> first | (cases hr; rfl) | (obtain ⟨_, hr⟩ := hr; cases hr) | cases hr
 subst ex
 cases rx
 obtain ⟨t, rfl⟩ := ry
 obtain ⟨w', hw, v, rv, hv⟩ := p4 k d lk
 exact ⟨dd.typeIs, wpAny_getItem_of (show (intKind X.prog X.w).is k (.int k t) = true by show Value.isInt k (.int k t) = true; simp [Value.isInt]) dd.mapOf hw ⟨v, H2, I2.tok _, rv, q v (hv H2)⟩⟩
end
def iJ (n : Nat) : It := ⟨fun i _ => i < n, fun i H x H' => H' = H ∧ x = .int (2 * (i : Int)), fun i _ => n ≤ i⟩
theorem SV {P : Program} {w : World} {K : PySem.W.Frag} {tg : Expr} (it : Addr) (n : Nat) : TV P w K tg (iJ n) [it] it (fun i h => IsRangeIter h it (0 + (i : Nat) * 2) ((n : Int) - (i : Nat)) 2) where
 mem := by simp
 obj := fun i h st b hb => by
  have e : b = it := by simpa using hb
  subst e
  exact ⟨_, st, fun v z => by have z' : Data.fields _ = Data.cell v := z; cases z'⟩
 keep := fun i h h' st k => k it (by simp) _ st
 item := by
  intro X hP hw hK hc i pins s σ H E I hf st hg
  subst hP hw hK
  obtain ⟨f0, f1, f2, f3, f4, f5⟩ := hf it (by simp)
  have W := Walks.range (prog := X.prog) (w := X.w) (I.ok.hd hc) it 0 2 n
  refine W.item i s _ _ hg st fun v h' tk hv st' kk => ?_
  obtain ⟨t, rfl⟩ := hv
  have I1 : Inv X pins σ H { s with heap := h', toks := tk } := I.turned (fun b o hb e => kk b o (by simpa using hb) e) f0 f1 f3 f4 f5
  refine ⟨_, rfl, TK (s := { s with heap := h', toks := tk }) (n := "range_iterator") st' rfl rfl (by decide) ⟨.int (2 * (i : Int)), H, I1, ⟨t, ?_⟩, ⟨rfl, rfl⟩, st', fun b hb => (hf b hb).1⟩⟩
  rw [show (2 * (i : Int)) = 0 + (i : Int) * 2 by omega]
 done := by
  intro X hP hw hK hc i pins s σ H E I hf st hg
  subst hP hw hK
  obtain ⟨f0, f1, f2, f3, f4, f5⟩ := hf it (by simp)
  exact wpAny_pyNext_range_end (I.ok.hd hc) st (by have : n ≤ i := hg; omega) fun h' eb => ⟨rfl, I.turned (t' := s.toks) (fun b o hb e => eb b o hb e) f0 f1 f3 f4 f5⟩
 self := fun _ _ _ _ _ st h => wpAny_pyIter_rangeiter st h
theorem SE (j : Nat) : Builtin.Range.rangeSize 0 j 2 = (((j + 1) / 2 : Nat) : Int) := by
 unfold Builtin.Range.rangeSize
 rw [if_pos (by decide)]
 split <;> omega
theorem fits {x : Int} (h : 0 ≤ x) (h' : x < 1000000) : Builtin.Range.rangeFitsLong x = true := by
 unfold Builtin.Range.rangeFitsLong
 simp only [Bool.and_eq_true, decide_eq_true_eq]
 omega
theorem YI {j : Nat} (hj : j < 100000) : Builtin.Range.small 0 j 2 = true := by
 unfold Builtin.Range.small
 rw [SE, fits (by omega) (by omega), fits (by omega) (by omega), fits (by omega) (by omega), fits (by omega) (by omega)]
 rw [if_pos (by decide), fits (by omega) (by omega)]
 simp
section
variable {X : Cx} {tg : Expr}
theorem SZ {K : PySem.W.Frag} {l : Expr} {tl : TE} (hK : X.K = K) (hl : PE X l tl) : PI X tg l (QW K tl) := by subst hK; exact FE hl
def cI (ta : TA) : TI := fun σ H R => ta σ H fun vs H1 => ∃ j : Nat, vs = [.int 0, .int j, .int 2] ∧ j < 100000 ∧ R (iJ ((j + 1) / 2)) H1
theorem YS {a b c : Expr} {ta : TA} {p pos : Pos} (hg : Gl X "range") (hm : X.mg "range" = none) (ha : PA X [a, b, c] ta) (hs : starEach [a, b, c] X.env = [(false, eval a X.env), (false, eval b X.env), (false, eval c X.env)] := by rfl) (hs2 : starEach [b, c] X.env = [(false, eval b X.env), (false, eval c X.env)] := by rfl) :
  PI X tg (.Call (.Name "range" p) [a, b, c] [] pos) (cI ta) := by
 intro pins s σ H R I h
 refine Call_ (HU I hg hm boot_range (PyProof.Rows.callWith_type1 (thn (ha pos pins s σ H _ I h) fun us s1 ⟨vs, H1, I1, r1, q1⟩ => ?_) (by rw [hs, hs2]) (by rw [hs2]; rfl)))
 obtain ⟨j, e, hj, q⟩ := q1
 subst e
 obtain ⟨u, u', u'', rfl, ⟨t, rfl⟩, ⟨t', rfl⟩, ⟨t'', rfl⟩⟩ := dC r1
 have hd : Builtin.divisionGoesByPylong ((j : Int) - 0) 2 = false := PyProof.noPylong_small (by omega)
 refine call_range_3 (by decide) ?_ (.inl hd)
 refine wpAny_pyIter_range (IsRange.new ..) ?_ ?_
 ·exact YI hj
 have I2 : Inv X pins σ H1 { s1 with heap := s1.heap.push { cls := .type "range", data := .fields #[.int 0 t, .int j t', .int 2 t''] } } := I1.kept (t' := s1.toks) fun b o e => Heap.get?_push_of_some _ e
 refine ⟨(s1.heap.push { cls := .type "range", data := .fields #[.int 0 t, .int j t', .int 2 t''] }).objs.size, [(s1.heap.push { cls := .type "range", data := .fields #[.int 0 t, .int j t', .int 2 t''] }).objs.size], _, _, H1, rfl, I2.kept (t' := s1.toks) fun b o e => Heap.get?_push_of_some _ e, SV _ ((j + 1) / 2), ?_, fun b hb => ?_, q⟩
 ·have e1 : (0 : Int) + ((0 : Nat) : Int) * 2 = 0 := by simp
  have e2 : ((((j + 1) / 2 : Nat) : Nat) : Int) - ((0 : Nat) : Int) = Builtin.Range.rangeSize 0 j 2 := by rw [SE]; omega
  show IsRangeIter _ _ (0 + ((0 : Nat) : Int) * 2) ((((j + 1) / 2 : Nat) : Int) - ((0 : Nat) : Int)) 2
  rw [e1, e2]
  exact Heap.get?_push_size _ rfl
 ·have e : b = (s1.heap.push { cls := .type "range", data := .fields #[.int 0 t, .int j t', .int 2 t''] }).objs.size := by simpa using hb
  subst e
  exact I2.fpOk (Nat.le_refl _) (I2.hok.fresh (Nat.le_refl _))
end
theorem ZN {n : Nat} {g : TG} {tt : TT} {te : TE} {p : Addr} {Q : VK} {σ : St} {H : Hp} (Pv : Nat → St → Hp → Prop) (h0 : Pv 0 σ H)
  (hs : ∀ i σ H, i < n → Pv i σ H → g (.int (2 * (i : Int))) σ H fun σ2 H2 => tt σ2 H2 fun b H3 => if b = true then te σ2 H3 fun y H4 => ∃ ys, H4 p = some (.lst ys) ∧ ys.length < sizeLine ∧ Nx n i (Pv (i + 1) σ2 (upd H4 p (.lst (ys ++ [y])))) else Nx n i (Pv (i + 1) σ2 H3))
  (hd : ∀ σ H, Pv n σ H → Q (.ref p) H) : CW (iJ n) g tt te p Q σ H := by
 refine ⟨fun i m σ H => m = n - i ∧ i ≤ n ∧ Pv i σ H, ⟨n, by simp, Nat.zero_le _, h0⟩, ?_⟩
 rintro i m σ H ⟨rfl, hi, q⟩
 by_cases hlt : i < n
 ·refine .inr ⟨hlt, fun x H' y => ?_⟩
  obtain ⟨e, y⟩ := y
  subst e y
  exact hs i σ _ hlt q
 ·have e : i = n := by omega
  subst e
  exact .inl ⟨Nat.le_refl _, hd σ H q⟩
def DCW (P : Program) (w : World) (K : PySem.W.Frag) (J : It) (g : TG) (tk tv : TE) (p : Addr) (Q : VK) (σ : St) (H1 : Hp) : Prop :=
 ∃ W : Nat → Nat → St → Hp → Prop, (∃ m, W 0 m σ H1) ∧ ∀ i m σ H, W i m σ H →
  (J.stop i H ∧ Q (.ref p) H) ∨ (J.go i H ∧ ∀ x H', J.yld i H x H' → g x σ H' fun σ2 H2 => tk σ2 H2 fun y H3 => tv σ2 H3 fun z H4 => CC y fun b =>
   ∃ (es : EnN) (ep : Nat) (k : NK), H4 p = some (DN P w p es ep) ∧ ID K H4 es ∧ es.length ≤ 10000 ∧ Rp K H4 (nkD k) (.ref b) ∧ lkN es k = none ∧ ∀ ep', ∃ m', m' < m ∧ W (i + 1) m' σ2 (upd H4 p (DN P w p (es ++ [(k, b, z)]) ep')))
theorem MW (P : Program) (w : World) (K : PySem.W.Frag) (js : List Nat) (os : List Str) (wi : TI) (g : TG) (tk tv : TE) (σ : St) (H : Hp) (Q : VK) : XC P w K js os wi g tk tv σ H Q = wi σ H fun J H1 => ∀ p ep, H1 p = none → DCW P w K J g tk tv p Q (stC js os σ) (upd H1 p (DN P w p [] ep)) := rfl
theorem ZI {P : Program} {w : World} {K : PySem.W.Frag} {d : Addr} {es0 : EnN} {ep0 : Nat} {g : TG} {tk tv : TE} {p : Addr} {Q : VK} {σ : St} {H : Hp} (Pv : Nat → St → Hp → Prop) (h0 : Pv 0 σ H)
  (hl : ∀ i σ H, i ≤ es0.length → Pv i σ H → H d = some (DN P w d es0 ep0))
  (hs : ∀ i x q σ H, es0[i]? = some x → Pv i σ H → H q = none → g (.ref q) σ (upd H q (.tup [.ref x.2.1, x.2.2])) fun σ2 H2 => tk σ2 H2 fun y H3 => tv σ2 H3 fun z H4 => CC y fun b =>
   ∃ (es : EnN) (ep : Nat) (k : NK), H4 p = some (DN P w p es ep) ∧ ID K H4 es ∧ es.length ≤ 10000 ∧ Rp K H4 (nkD k) (.ref b) ∧ lkN es k = none ∧ ∀ ep', Nx es0.length i (Pv (i + 1) σ2 (upd H4 p (DN P w p (es ++ [(k, b, z)]) ep'))))
  (hd : ∀ σ H, Pv es0.length σ H → Q (.ref p) H) : DCW P w K (Iti P w d es0 ep0) g tk tv p Q σ H := by
 refine ⟨fun i m σ H => m = es0.length - i ∧ i ≤ es0.length ∧ Pv i σ H, ⟨_, rfl, Nat.zero_le _, h0⟩, ?_⟩
 rintro i m σ H ⟨rfl, hi, q⟩
 have w1 := hl i σ H hi q
 by_cases hlt : i < es0.length
 ·refine .inr ⟨⟨w1, hlt⟩, fun v H' z => ?_⟩
  obtain ⟨a, x, e, rfl, ha, rfl⟩ := z
  exact hs i x a σ H e q ha
 ·have e : i = es0.length := by omega
  exact .inl ⟨⟨w1, by omega⟩, hd σ H (e ▸ q)⟩
def IW (J2 : It) (g2 : TG) (te : TE) (p : Addr) (R : St → Hp → Prop) (σ : St) (H3 : Hp) : Prop :=
 ∃ V : Nat → Nat → St → Hp → Prop, (∃ m2, V 0 m2 σ H3) ∧ ∀ j m2 σ H, V j m2 σ H →
  (J2.stop j H ∧ R σ H) ∨ (J2.go j H ∧ ∀ x2 H', J2.yld j H x2 H' → g2 x2 σ H' fun σ4 H4 => te σ4 H4 fun y H5 =>
   ∃ ys, H5 p = some (.lst ys) ∧ ys.length < sizeLine ∧ ∃ m', m' < m2 ∧ V (j + 1) m' σ4 (upd H5 p (.lst (ys ++ [y]))))
def CW2 (J : It) (g : TG) (wj : TI) (g2 : TG) (te : TE) (p : Addr) (Q : VK) (σ : St) (H1 : Hp) : Prop :=
 ∃ W : Nat → Nat → St → Hp → Prop, (∃ m, W 0 m σ H1) ∧ ∀ i m σ H, W i m σ H →
  (J.stop i H ∧ Q (.ref p) H) ∨ (J.go i H ∧ ∀ x H', J.yld i H x H' → g x σ H' fun σ2 H2 => wj σ2 H2 fun J2 H3 => IW J2 g2 te p (fun σ H => ∃ m', m' < m ∧ W (i + 1) m' σ H) σ2 H3)
theorem PC (js : List Nat) (os : List Str) (wi : TI) (g : TG) (wj : TI) (g2 : TG) (te : TE) (σ : St) (H : Hp) (Q : VK) : eM js os wi g wj g2 te σ H Q = wi σ H fun J H1 => ∀ p, H1 p = none → CW2 J g wj g2 te p Q (stC js os σ) (upd H1 p (.lst [])) := rfl
theorem eO {P : Program} {w : World} {d : Addr} {es : EnN} {ep : Nat} {g : TG} {wj : TI} {g2 : TG} {te : TE} {p : Addr} {Q : VK} {σ : St} {H : Hp} (Pv : Nat → St → Hp → Prop) (h0 : Pv 0 σ H)
  (hl : ∀ i σ H, i ≤ es.length → Pv i σ H → H d = some (DN P w d es ep))
  (hs : ∀ i x σ H, es[i]? = some x → Pv i σ H → g (.ref x.2.1) σ H fun σ2 H2 => wj σ2 H2 fun J2 H3 => IW J2 g2 te p (fun σ H => Nx es.length i (Pv (i + 1) σ H)) σ2 H3)
  (hd : ∀ σ H, Pv es.length σ H → Q (.ref p) H) : CW2 (Itk P w d es ep) g wj g2 te p Q σ H := by
 refine ⟨fun i m σ H => m = es.length - i ∧ i ≤ es.length ∧ Pv i σ H, ⟨_, rfl, Nat.zero_le _, h0⟩, ?_⟩
 rintro i m σ H ⟨rfl, hi, q⟩
 have w1 := hl i σ H hi q
 by_cases hlt : i < es.length
 ·refine .inr ⟨⟨w1, hlt⟩, fun v H' z => ?_⟩
  obtain ⟨rfl, x, e, rfl⟩ := z
  exact hs i x σ _ e q
 ·have e : i = es.length := by omega
  exact .inl ⟨⟨w1, by omega⟩, hd σ H (e ▸ q)⟩
theorem fV {K : PySem.W.Frag} {a : Addr} {xs : List V} {g2 : TG} {te : TE} {p : Addr} {R : St → Hp → Prop} {σ : St} {H : Hp} (Pv : Nat → St → Hp → Prop) (h0 : Pv 0 σ H) (hl : ∀ i σ H, i ≤ xs.length → Pv i σ H → SqL K H a xs)
  (hs : ∀ i x σ H, xs[i]? = some x → Pv i σ H → g2 x σ H fun σ4 H4 => te σ4 H4 fun y H5 => ∃ ys, H5 p = some (.lst ys) ∧ ys.length < sizeLine ∧ Nx xs.length i (Pv (i + 1) σ4 (upd H5 p (.lst (ys ++ [y])))))
  (hd : ∀ σ H, Pv xs.length σ H → R σ H) : IW (Itl K a) g2 te p R σ H := by
 refine ⟨fun i m σ H => m = xs.length - i ∧ i ≤ xs.length ∧ Pv i σ H, ⟨_, rfl, Nat.zero_le _, h0⟩, ?_⟩
 rintro i m σ H ⟨rfl, hi, q⟩
 have w1 := hl i σ H hi q
 by_cases hlt : i < xs.length
 ·refine .inr ⟨⟨xs, xs[i], w1, by simp [hlt]⟩, fun x H' y => ?_⟩
  obtain ⟨e, y⟩ := y
  subst e
  exact hs i x σ _ (y xs w1) q
 ·have e : i = xs.length := by omega
  exact .inl ⟨⟨xs, w1, by omega⟩, hd σ H (e ▸ q)⟩
section
variable {X : Cx}
end
section
variable {X : Cx}
end
section
open PySem.W
structure QY (n : Nat) (f : Nat → Nat → Bool) : Prop where
 tr : ∀ i j k, i < n → j < n → k < n → f i j = true → f j k = true → f i k = true
 tot : ∀ i j, i < n → j < n → i ≠ j → f i j = true ∨ f j i = true
 as : ∀ i j, i < n → j < n → f i j = true → f j i = false
variable {n : Nat} {f : Nat → Nat → Bool}
theorem FP {α β : Type} {g : α → KasT β} : ∀ (t : KasT α), CK f (t.bind g) = CK f (g (CK f t))
 | .ret a => rfl
 | .ask i j k => FP (k (f i j))
theorem DM.size {p : Array Nat} (h : DM n p) : p.size = n := by have := h.2.size_eq; simpa using this
theorem DM.inj {p : Array Nat} (h : DM n p) {i j : Nat} (hi : i < n) (hj : j < n) (e : p.getD i 0 = p.getD j 0) : i = j := by
 have hs := h.size
 have nd : p.toList.Nodup := (Array.perm_iff_toList_perm.mp h.2).nodup_iff.mpr (by simpa using List.nodup_range)
 unfold Array.getD at e
 rw [dif_pos (by omega), dif_pos (by omega)] at e
 exact (List.getElem_inj nd (i := i) (j := j) (h₀ := by simpa using (by omega : i < p.size)) (h₁ := by simpa using (by omega : j < p.size))).mp (by simpa using e)
theorem KH {p q : Array Nat} {i j : Nat} (h : p[i]? = q[j]?) : p.getD i 0 = q.getD j 0 := by
 rw [Array.getD_eq_getD_getElem?, Array.getD_eq_getD_getElem?, h]
theorem MQ (p : Array Nat) : ∀ m x, x ≤ CK f (kas_asc p m x) ∧ CK f (kas_asc p m x) ≤ x + m ∧ (∀ i, x ≤ i → i < CK f (kas_asc p m x) → f (p.getD i 0) (p.getD (i - 1) 0) = false) ∧ (CK f (kas_asc p m x) < x + m → f (p.getD (CK f (kas_asc p m x)) 0) (p.getD (CK f (kas_asc p m x) - 1) 0) = true)
 | 0, x => ⟨Nat.le_refl _, Nat.le_refl _, (fun i h1 h2 => absurd h2 (by show ¬ i < x; omega)), (fun h => absurd h (Nat.lt_irrefl _))⟩
 | m + 1, x => by
  show x ≤ CK f (if f (p.getD x 0) (p.getD (x - 1) 0) = true then .ret x else kas_asc p m (x + 1)) ∧ _
  by_cases c : f (p.getD x 0) (p.getD (x - 1) 0) = true
  ·have e : CK f (kas_asc p (m + 1) x) = x := by
    show CK f (if f (p.getD x 0) (p.getD (x - 1) 0) = true then .ret x else kas_asc p m (x + 1)) = x
    rw [if_pos c]; rfl
   rw [if_pos c, e]
   exact ⟨Nat.le_refl _, by omega, fun i h1 h2 => absurd h2 (by omega), fun _ => c⟩
  ·have e : CK f (kas_asc p (m + 1) x) = CK f (kas_asc p m (x + 1)) := by
    show CK f (if f (p.getD x 0) (p.getD (x - 1) 0) = true then .ret x else kas_asc p m (x + 1)) = _
    rw [if_neg c]
   obtain ⟨h1, h2, h3, h4⟩ := MQ p m (x + 1)
   rw [if_neg c, e]
   refine ⟨by omega, by omega, fun i hi hl => ?_, fun h => h4 (by omega)⟩
   by_cases d : i = x
   ·subst d; simpa using c
   ·exact h3 i (by omega) hl
def Inc (f : Nat → Nat → Bool) (p : Array Nat) (m : Nat) : Prop := ∀ i, i + 1 < m → f (p.getD i 0) (p.getD (i + 1) 0) = true
theorem Inc.lt (o : QY n f) {p : Array Nat} (h : DM n p) {m : Nat} (g : Inc f p m) : ∀ d i, i + d + 1 < m → f (p.getD i 0) (p.getD (i + d + 1) 0) = true
 | 0, i, hi => g i hi
 | d + 1, i, hi => o.tr _ _ _ (h.lt _) (h.lt _) (h.lt _) (Inc.lt o h g d i (by omega)) (g (i + d + 1) (by omega))
theorem Inc.all (o : QY n f) {p : Array Nat} (h : DM n p) {m : Nat} (g : Inc f p m) {i j : Nat} (hij : i < j) (hj : j < m) : f (p.getD i 0) (p.getD j 0) = true := by
 have := Inc.lt o h g (j - i - 1) i (by omega)
 rwa [show i + (j - i - 1) + 1 = j by omega] at this
theorem WU (o : QY n f) {p : Array Nat} (h : DM n p) {m x : Nat} (hx : 1 ≤ x) (hm : x + m ≤ n) (g : Inc f p x) : Inc f p (CK f (kas_asc p m x)) := by
 obtain ⟨h1, h2, h3, h4⟩ := MQ (f := f) p m x
 intro i hi
 by_cases c : i + 1 < x
 ·exact g i c
 ·have := h3 (i + 1) (by omega) hi
  rw [Nat.add_sub_cancel] at this
  rcases o.tot (p.getD i 0) (p.getD (i + 1) 0) (h.lt _) (h.lt _) (fun e => by have := h.inj (by omega) (by omega) e; omega) with d | d
  ·exact d
  ·rw [this] at d; cases d
theorem RT (o : QY n f) {p : Array Nat} (h : DM n p) : ∀ m x, 1 ≤ x → x + m ≤ n → ∃ z, CK f (kas_desc m p x 0) = (p, z, 0) ∧ x ≤ z ∧ z ≤ x + m ∧ ∀ i, x ≤ i → i < z → f (p.getD i 0) (p.getD (i - 1) 0) = true
 | 0, x, _, _ => ⟨x, rfl, Nat.le_refl _, Nat.le_refl _, fun i h1 h2 => absurd h2 (by omega)⟩
 | m + 1, x, hx, hm => by
  show ∃ z, CK f (if f (p.getD x 0) (p.getD (x - 1) 0) = true then (if 0 > 0 then kas_desc m (kas_rev p (x - (0 + 1)) x) (x + 1) 0 else kas_desc m p (x + 1) 0) else .ask (p.getD (x - 1) 0) (p.getD x 0) fun d => if d = true then .ret (p, x, 0) else kas_desc m p (x + 1) (0 + 1)) = (p, z, 0) ∧ _
  by_cases c : f (p.getD x 0) (p.getD (x - 1) 0) = true
  ·rw [if_pos c, if_neg (by omega)]
   obtain ⟨z, e, h1, h2, h3⟩ := RT o h m (x + 1) (by omega) (by omega)
   refine ⟨z, e, by omega, by omega, fun i hi hz => ?_⟩
   by_cases d : i = x
   ·subst d; exact c
   ·exact h3 i (by omega) hz
  ·rw [if_neg c]
   have d : f (p.getD (x - 1) 0) (p.getD x 0) = true := by
    rcases o.tot (p.getD (x - 1) 0) (p.getD x 0) (h.lt _) (h.lt _) (fun e => by have := h.inj (by omega) (by omega) e; omega) with d | d
    ·exact d
    ·exact absurd d c
   refine ⟨x, ?_, Nat.le_refl _, by omega, fun i h1 h2 => absurd h2 (by omega)⟩
   show CK f (if f (p.getD (x - 1) 0) (p.getD x 0) = true then .ret (p, x, 0) else kas_desc m p (x + 1) (0 + 1)) = _
   rw [if_pos d]; rfl
theorem aE {p : Array Nat} {m : Nat} (hm : m ≤ p.size) (k : Nat) : (kas_rev p 0 m).getD k 0 = if k < m then p.getD (m - 1 - k) 0 else p.getD k 0 := by
 have e := getElem?_mirror_all (xs := p) (i := 0) (j := m) hm k
 by_cases c : k < m
 ·rw [if_pos c]
  rw [if_pos ⟨Nat.zero_le _, c⟩, Nat.zero_add] at e
  exact KH e
 ·rw [if_neg c]
  rw [if_neg (fun z => c z.2)] at e
  exact KH e
theorem YQ (o : QY n f) {p : Array Nat} (h : DM n p) : DM n (CK f (kas_count n p)).2 ∧ 1 ≤ (CK f (kas_count n p)).1 ∧ (CK f (kas_count n p)).1 ≤ n ∧ Inc f (CK f (kas_count n p)).2 (CK f (kas_count n p)).1 := by
 have hn := h.1
 have ia := WU o h (m := n - 1) (x := 1) (Nat.le_refl _) (by omega) (fun i hi => absurd hi (by omega))
 obtain ⟨h1, h2, h3, h4⟩ := MQ (f := f) p (n - 1) 1
 unfold kas_count
 rw [FP]
 generalize CK f (kas_asc p (n - 1) 1) = m at ia h1 h2 h3 h4
 by_cases c : (m == n) = true
 ·rw [if_pos c]
  exact ⟨h, h1, by show m ≤ n; omega, ia⟩
 rw [if_neg c]
 have c' : m ≠ n := by simpa using c
 by_cases d : m > 1
 ·rw [if_pos d]
  have : f (p.getD 0 0) (p.getD (m - 1) 0) = true := Inc.all o h ia (by omega) (by omega)
  have e : CK f (.ask (p.getD 0 0) (p.getD (m - 1) 0) fun c => if c = true then .ret (m, p) else kas_descPart m n (kas_rev p 0 m)) = (m, p) := by
   show CK f (if f (p.getD 0 0) (p.getD (m - 1) 0) = true then .ret (m, p) else kas_descPart m n (kas_rev p 0 m)) = _
   rw [if_pos this]; rfl
  rw [e]
  exact ⟨h, h1, by show m ≤ n; omega, ia⟩
 ·rw [if_neg d]
  have m1 : m = 1 := by omega
  subst m1
  have f10 := h4 (by omega)
  unfold kas_descPart
  rw [FP]
  obtain ⟨z, e, z1, z2, z3⟩ := RT o h (n - (1 + 1)) (1 + 1) (by omega) (by omega)
  rw [e]
  dsimp only
  rw [if_neg (by omega)]
  unfold kas_tail3
  rw [FP]
  have hr := h.rev 0 z
  have hz : z ≤ p.size := by rw [h.size]; omega
  have ir : Inc f (kas_rev p 0 z) z := fun i hi => by
   rw [aE hz, aE hz, if_pos (by omega), if_pos hi]
   by_cases q : z - 1 - i = 1
   ·rw [show z - 1 - (i + 1) = 0 by omega, q]
    exact f10
   ·have := z3 (z - 1 - i) (by omega) (by omega)
    rwa [show z - 1 - i - 1 = z - 1 - (i + 1) by omega] at this
  obtain ⟨b1, b2, _, _⟩ := MQ (f := f) (kas_rev p 0 z) (n - z) z
  exact ⟨hr, by show 1 ≤ CK f (kas_asc (kas_rev p 0 z) (n - z) z); omega, by show CK f (kas_asc (kas_rev p 0 z) (n - z) z) ≤ n; omega, WU o hr (by omega) (by omega) ir⟩
theorem LM (o : QY n f) {p : Array Nat} (h : DM n p) {k : Nat} (hk : k < n) (g : Inc f p k) : ∀ m l r, l ≤ r → r ≤ k → r - l ≤ m → (∀ i, i < l → f (p.getD i 0) (p.getD k 0) = true) → (∀ i, r ≤ i → i < k → f (p.getD k 0) (p.getD i 0) = true) →
  CK f (kas_place p k m l r) ≤ k ∧ (∀ i, i < CK f (kas_place p k m l r) → f (p.getD i 0) (p.getD k 0) = true) ∧ ∀ i, CK f (kas_place p k m l r) ≤ i → i < k → f (p.getD k 0) (p.getD i 0) = true
 | 0, l, r, h1, h2, h3, a, b => by
  have : l = r := by omega
  subst this
  exact ⟨h2, a, b⟩
 | m + 1, l, r, h1, h2, h3, a, b => by
  unfold kas_place
  by_cases c : l ≥ r
  ·rw [if_pos c]
   have : l = r := by omega
   subst this
   exact ⟨h2, a, b⟩
  rw [if_neg c]
  have e : ∀ T U : KasT Nat, CK f (.ask (p.getD k 0) (p.getD ((l + r) / 2) 0) fun c => if c = true then T else U) = if f (p.getD k 0) (p.getD ((l + r) / 2) 0) = true then CK f T else CK f U := fun T U => by
   show CK f (if f (p.getD k 0) (p.getD ((l + r) / 2) 0) = true then T else U) = _
   split <;> rfl
  rw [e]
  have hq : (l + r) / 2 < k := by omega
  by_cases d : f (p.getD k 0) (p.getD ((l + r) / 2) 0) = true
  ·rw [if_pos d]
   refine LM o h hk g m l ((l + r) / 2) (by omega) (by omega) (by omega) a fun i hi hl => ?_
   by_cases q : i = (l + r) / 2
   ·rw [q]; exact d
   ·exact o.tr _ _ _ (h.lt _) (h.lt _) (h.lt _) d (Inc.all o h g (by omega) hl)
  ·rw [if_neg d]
   have d' : f (p.getD ((l + r) / 2) 0) (p.getD k 0) = true := by
    rcases o.tot (p.getD ((l + r) / 2) 0) (p.getD k 0) (h.lt _) (h.lt _) (fun e => by have := h.inj (by omega) hk e; omega) with q | q
    ·exact q
    ·exact absurd q d
   refine LM o h hk g m ((l + r) / 2 + 1) r (by omega) h2 (by omega) (fun i hi => ?_) b
   by_cases q : i = (l + r) / 2
   ·rw [q]; exact d'
   ·exact o.tr _ _ _ (h.lt _) (h.lt _) (h.lt _) (Inc.all o h g (by omega) hq) d'
theorem dA {p : Array Nat} {k l : Nat} (hk : k < p.size) (hl : l ≤ k) (i : Nat) : (bubble p k (k - l)).getD i 0 = if i = l then p.getD k 0 else if l < i ∧ i ≤ k then p.getD (i - 1) 0 else p.getD i 0 := by
 have e := getElem?_bubble hk (k - l) (by omega) i
 rw [show k - (k - l) = l by omega] at e
 by_cases c : i = l
 ·rw [if_pos c]; rw [if_pos c] at e; exact KH e
 rw [if_neg c]; rw [if_neg c] at e
 by_cases d : l < i ∧ i ≤ k
 ·rw [if_pos d]; rw [if_pos d] at e; exact KH e
 ·rw [if_neg d]; rw [if_neg d] at e; exact KH e
theorem XU (o : QY n f) : ∀ m (p : Array Nat) k, DM n p → 1 ≤ k → k + m = n → Inc f p k → DM n (CK f (kas_bin m p k)) ∧ Inc f (CK f (kas_bin m p k)) n
 | 0, p, k, h, _, e, g => ⟨h, by rw [← e]; exact g⟩
 | m + 1, p, k, h, k1, e, g => by
  have hs := h.size
  unfold kas_bin
  rw [FP]
  obtain ⟨a1, a2, a3⟩ := LM o h (k := k) (by omega) g k 0 k (Nat.zero_le _) (Nat.le_refl _) (by omega) (fun i hi => absurd hi (by omega)) (fun i h1 h2 => absurd h2 (by omega))
  generalize CK f (kas_place p k k 0 k) = l at a1 a2 a3
  refine XU o m _ (k + 1) ⟨h.1, (bubble_perm p _ _).trans h.2⟩ (by omega) (by omega) fun i hi => ?_
  rw [dA (by omega) a1, dA (by omega) a1]
  by_cases c : i = l
  ·rw [if_pos c, if_neg (by omega), if_pos (by omega), Nat.add_sub_cancel, c]
   exact a3 l (Nat.le_refl _) (by omega)
  rw [if_neg c]
  by_cases d : i + 1 = l
  ·rw [if_pos d, if_neg (by omega)]
   exact a2 i (by omega)
  rw [if_neg d]
  by_cases q : l < i
  ·rw [if_pos ⟨q, by omega⟩, if_pos ⟨by omega, by omega⟩]
   have := g (i - 1) (by omega)
   rwa [show i - 1 + 1 = i by omega] at this
  ·rw [if_neg (by omega), if_neg (by omega)]
   exact g i (by omega)
theorem cN (o : QY n f) (hn : 0 < n) : DM n (CK f (kas_sort n)) ∧ Inc f (CK f (kas_sort n)) n := by
 obtain ⟨h1, h2, h3, h4⟩ := YQ o (p := List.toArray (List.range n)) ⟨hn, Array.Perm.rfl⟩
 unfold kas_sort
 rw [FP]
 generalize CK f (kas_count n (List.toArray (List.range n))) = r at h1 h2 h3 h4
 by_cases c : r.1 < n
 ·rw [if_pos c, Nat.max_eq_left h2]
  exact XU o _ _ _ h1 h2 (by omega) h4
 ·rw [if_neg c]
  have : r.1 = n := by omega
  exact ⟨h1, by rw [← this]; exact h4⟩
end
theorem WD (a b c d : Int) : nlt a b c d = true ↔ a < c ∨ (a = c ∧ b < d) := by
 unfold nlt
 by_cases h : a = c
 ·subst h
  by_cases g : b = d
  ·subst g; simp
  ·simp [g]
 ·simp [h]
def LE (p q : Q4) : Prop := p.1 < q.1 ∨ (p.1 = q.1 ∧ (p.2.1 < q.2.1 ∨ (p.2.1 = q.2.1 ∧ (p.2.2.1 < q.2.2.1 ∨ (p.2.2.1 = q.2.2.1 ∧ p.2.2.2 < q.2.2.2)))))
theorem RJ (a b c d : Int) : deq (num a b) (num c d) = true ↔ a = c ∧ b = d := by
 unfold num
 simp [deq, deqL]
theorem OL (p q : Q4) : deq (q4D p) (q4D q) = true ↔ p = q := by
 obtain ⟨a, b, c, d⟩ := p
 obtain ⟨a', b', c', d'⟩ := q
 unfold q4D plc
 simp [deq, deqL, num]
 constructor
 ·rintro ⟨⟨e1, e2⟩, e3, e4⟩; exact ⟨e1, e2, e3, e4⟩
 ·rintro ⟨e1, e2, e3, e4⟩; exact ⟨⟨e1, e2⟩, e3, e4⟩
theorem WX (p q : Q4) : plt p q = true ↔ LE p q := by
 obtain ⟨a, b, c, d⟩ := p
 obtain ⟨a', b', c', d'⟩ := q
 unfold plt LE
 dsimp only
 by_cases h : deq (num a b) (num a' b') = true
 ·rw [if_pos h]
  obtain ⟨rfl, rfl⟩ := (RJ _ _ _ _).mp h
  by_cases g : deq (num c d) (num c' d') = true
  ·rw [if_pos g]
   obtain ⟨rfl, rfl⟩ := (RJ _ _ _ _).mp g
   simp
  ·rw [if_neg g, WD]
   constructor
   ·intro z; exact .inr ⟨rfl, .inr ⟨rfl, z⟩⟩
   ·rintro (z | ⟨_, z | ⟨_, z⟩⟩)
    ·omega
    ·omega
    ·exact z
 ·rw [if_neg h, WD]
  have h' : ¬ (a = a' ∧ b = b') := fun z => h ((RJ _ _ _ _).mpr z)
  constructor
  ·rintro (z | ⟨z, w⟩)
   ·exact .inl z
   ·exact .inr ⟨z, .inl w⟩
  ·rintro (z | ⟨z, w | ⟨w, _⟩⟩)
   ·exact .inl z
   ·exact .inr ⟨z, w⟩
   ·exact absurd ⟨z, w⟩ h'
theorem XE {p q r : Q4} (h1 : LE p q) (h2 : LE q r) : LE p r := by unfold LE at *; omega
theorem HX {p : Q4} (h : LE p p) : False := by unfold LE at h; omega
theorem RU {p q : Q4} (h : p ≠ q) : LE p q ∨ LE q p := by
 obtain ⟨a, b, c, d⟩ := p
 obtain ⟨a', b', c', d'⟩ := q
 have h' : ¬ (a = a' ∧ b = b' ∧ c = c' ∧ d = d') := fun ⟨e1, e2, e3, e4⟩ => h (by rw [e1, e2, e3, e4])
 unfold LE
 dsimp only
 omega
def skl (k l : Sk) : Prop := k.1 < l.1 ∨ (k.1 = l.1 ∧ (LE k.2.1 l.2.1 ∨ (k.2.1 = l.2.1 ∧ LE k.2.2 l.2.2)))
theorem GW (k l : Sk) : RK k l = true ↔ skl k l := by
 unfold RK skl
 by_cases h : k.1 = l.1
 ·rw [if_pos (by simpa using h)]
  by_cases g : k.2.1 = l.2.1
  ·rw [if_pos ((OL _ _).mpr g)]
   by_cases e : k.2.2 = l.2.2
   ·rw [if_pos ((OL _ _).mpr e), e, g]
    constructor
    ·intro z; cases z
    ·rintro (z | ⟨_, z | ⟨_, z⟩⟩)
     ·omega
     ·exact (HX z).elim
     ·exact (HX z).elim
   ·rw [if_neg (fun z => e ((OL _ _).mp z)), WX]
    constructor
    ·intro z; exact .inr ⟨h, .inr ⟨g, z⟩⟩
    ·rintro (z | ⟨_, z | ⟨_, z⟩⟩)
     ·omega
     ·rw [g] at z; exact (HX z).elim
     ·exact z
  ·rw [if_neg (fun z => g ((OL _ _).mp z)), WX]
   constructor
   ·intro z; exact .inr ⟨h, .inl z⟩
   ·rintro (z | ⟨_, z | ⟨z, _⟩⟩)
    ·omega
    ·exact z
    ·exact absurd z g
 ·rw [if_neg (by simpa using h)]
  simp only [decide_eq_true_eq]
  constructor
  ·intro z; exact .inl z
  ·rintro (z | ⟨z, _⟩)
   ·exact z
   ·exact absurd z h
theorem WA {k l m : Sk} (h1 : skl k l) (h2 : skl l m) : skl k m := by
 rcases h1 with a | ⟨a, b | ⟨b, c⟩⟩ <;> rcases h2 with d | ⟨d, e | ⟨e, g⟩⟩
 ·exact .inl (by omega)
 ·exact .inl (by omega)
 ·exact .inl (by omega)
 ·exact .inl (by omega)
 ·exact .inr ⟨by omega, .inl (XE b e)⟩
 ·exact .inr ⟨by omega, .inl (by rw [← e]; exact b)⟩
 ·exact .inl (by omega)
 ·exact .inr ⟨by omega, .inl (by rw [b]; exact e)⟩
 ·exact .inr ⟨by omega, .inr ⟨b.trans e, XE c g⟩⟩
theorem KC {k : Sk} (h : skl k k) : False := by
 rcases h with a | ⟨_, b | ⟨_, c⟩⟩
 ·omega
 ·exact HX b
 ·exact HX c
theorem iM {k l : Sk} (h : k ≠ l) : skl k l ∨ skl l k := by
 by_cases a : k.1 = l.1
 ·by_cases b : k.2.1 = l.2.1
  ·have c : k.2.2 ≠ l.2.2 := fun z => h (Prod.ext a (Prod.ext b z))
   rcases RU c with d | d
   ·exact .inl (.inr ⟨a, .inr ⟨b, d⟩⟩)
   ·exact .inr (.inr ⟨a.symm, .inr ⟨b.symm, d⟩⟩)
  ·rcases RU b with d | d
   ·exact .inl (.inr ⟨a, .inl d⟩)
   ·exact .inr (.inr ⟨a.symm, .inl d⟩)
 ·rcases Int.lt_or_gt_of_ne a with d | d
  ·exact .inl (.inl d)
  ·exact .inr (.inl d)
theorem iF {ks : List Sk} (nd : ks.Nodup) : QY ks.length (JG ks) := by
 have at' : ∀ i, i < ks.length → ks[i]? = some (ks.getD i (0, (0, 0, 0, 0), (0, 0, 0, 0))) := fun i hi => by rw [List.getD_eq_getElem?_getD, List.getElem?_eq_getElem hi]; rfl
 refine ⟨fun i j k _ _ _ h1 h2 => ?_, fun i j hi hj ne => ?_, fun i j _ _ h => ?_⟩
 ·unfold JG at *
  rw [GW] at *
  exact WA h1 h2
 ·unfold JG
  rw [GW, GW]
  refine iM fun e => ne ?_
  have h1 := at' i hi
  have h2 := at' j hj
  rw [e, ← h2] at h1
  exact (List.getElem?_inj hi nd).mp h1
 ·unfold JG at *
  rw [GW] at h
  cases z : RK (ks.getD j (0, (0, 0, 0, 0), (0, 0, 0, 0))) (ks.getD i (0, (0, 0, 0, 0), (0, 0, 0, 0))) with
  | false => rfl
  | true => exact (KC (WA h ((GW _ _).mp z))).elim
def GK (ks : List Sk) : List Sk := (EY ks).map fun i => ks.getD i (0, (0, 0, 0, 0), (0, 0, 0, 0))
theorem PJ {ks : List Sk} (nd : ks.Nodup) : (GK ks).Pairwise skl := by
 unfold GK EY
 by_cases c : ks.length < 2
 ·rw [if_pos c, List.pairwise_map]
  rcases (by omega : ks.length = 0 ∨ ks.length = 1) with e | e
  ·rw [e]; exact .nil
  ·rw [e]; exact List.pairwise_singleton _ _
 rw [if_neg c, List.pairwise_map]
 have o := iF nd
 obtain ⟨h, g⟩ := cN o (by omega)
 generalize CK (JG ks) (PySem.W.kas_sort ks.length) = p at h g
 have hs := h.size
 refine List.pairwise_iff_getElem.mpr fun i j hi hj hij => ?_
 have hi' : i < p.size := by simpa using hi
 have hj' : j < p.size := by simpa using hj
 have := Inc.all o h g hij (by omega)
 unfold Array.getD at this
 rw [dif_pos hi', dif_pos hj'] at this
 unfold JG at this
 rw [GW] at this
 simpa using this
section
variable {prog : Program} {w : World} {A : Around} {E : Value → Shared → Prop} {s : Shared}
theorem SW {l : Addr} {vs : List Value} {Q : List Value → Shared → Prop} (ht : IsTup s.heap l vs.toArray)
  (q : Q vs { s with heap := (s.heap.push (seqObj "list" #[] 0)).update s.heap.objs.size (Obj.mapSeq (· ++ vs.toArray)) }) (hz : vs.length ≤ sizeLine) : wpAny (model prog w) A (collect (.ref l)) Q E s := by
 obtain ⟨o, e, c, n, d⟩ := id ht
 unfold collect; refine wpAny_bind (wpAny_runValue (codeAny_builtin entry_proto_collect' ?_))
 show wpAny _ _ (do again (.builtin "list.__iadd__" ⟨[← newList [], .ref l], []⟩)) _ _ s; refine wpAny_bind (wpAny_newList (wpAny_pure ⟨Code.quiet_builtin _ (by decide +kernel), codeAny_builtin entry_list_iadd' ?_⟩))
 show wpAny _ _ (Builtin.List.listExtendWith (.ref s.heap.objs.size) (.ref l) (.ref s.heap.objs.size)) _ _ { s with heap := s.heap.push (seqObj "list" #[] 0) }; unfold Builtin.List.listExtendWith
 have e' : (s.heap.push (seqObj "list" #[] 0)).get? l = some o := Heap.get?_push_of_some _ e
 refine wpAny_bind (wpAny_typeOf (T := "tuple") ⟨o, e', c⟩ ?_)
 rw [if_pos (by rw [show (Value.type "tuple" == Value.type "tuple") = true from rfl]; simp)]
 refine wpAny_bind (listItems_at e' d ?_); refine wpAny_bind (listItems_at (xs := #[]) (n := 0) (Heap.get?_push_size _ rfl) rfl ?_)
 rw [if_neg (by simp)]; refine wpAny_bind (listUpdate_at (xs := #[]) (n := 0) (Heap.get?_push_size _ rfl) rfl ?_ (Nat.zero_le _) (by show (#[] ++ vs.toArray).size ≤ sizeLine + 1; simp only [Array.size_append, List.size_toArray, List.length_nil]; omega))
 refine wpAny_pure ?_
 show wpAny (model prog w) A (load s.heap.objs.size >>= _) Q E _
 refine wpAny_bind (wpAny_load (get?_update_seq (Heap.get?_push_size _ rfl) _) ?_); show wpAny _ _ (pure ((#[] : Array Value) ++ vs.toArray).toList) Q E _
 rw [show ((#[] : Array Value) ++ vs.toArray).toList = vs by simp]; exact wpAny_pure q
end
section
variable {X : Cx}
def VH (K : PySem.W.Frag) : List V → Hp → VK → Prop := fun xs H Q => o1 xs fun x => CC x fun l => ∃ (vs : List V) (ks : List Sk), SqT K H l vs ∧ Paired (fun k v => Rp K H (skD k) v) ks vs ∧ ks.length < 64 ∧ ∀ p, H p = none → Q (.ref p) (upd H p (.lst ((EY ks).map fun i => vs.getD i .non)))
theorem UX (hu : X.A.units + 7 < cLine) : DE X (.builtin "sorted") (VH X.K) := by
 intro pins s σ H xs us Q I r h
 obtain ⟨x, rfl, h⟩ := o1.ex h
 obtain ⟨l, rfl, vs, ks, hq, hp, h64, q⟩ := CC.ex h
 obtain ⟨u, rfl, ru⟩ := JV r
 cases ru
 obtain ⟨its, rv, p, hz⟩ := I.tuple hq
 have hl : its.length = vs.length := rv.length.symm
 have hk : ks.length = vs.length := Paired.length hp
 have hs6 : its.length ≤ sizeLine := by rw [sizeLine_eq]; omega
 refine Calls.call_function_entry kind_sorted plain_sorted entry_sorted (args_sorted1 _) ?_
 unfold Builtin.«sorted»
 refine wpAny_bind (m := checkCount "sorted" 1 1 _) (wpAny_pure (wpAny_bind (SW (vs := its) p ?_ hs6)))
 refine wpAny_bind (wpAny_newList ?_ hs6)
 have z1 : ((s.heap.push (seqObj "list" #[] 0)).update s.heap.objs.size (Obj.mapSeq (· ++ its.toArray))).objs.size = s.heap.objs.size + 1 := by rw [Heap.size_update, size_push']
 have oL : (((s.heap.push (seqObj "list" #[] 0)).update s.heap.objs.size (Obj.mapSeq (· ++ its.toArray))).push (seqObj "list" its.toArray 0)).get? (s.heap.objs.size + 1) = some (seqObj "list" its.toArray 0) := by
  rw [← z1]
  exact Heap.get?_push_size _ rfl
 have keep : ∀ b o, s.heap.get? b = some o → (((s.heap.push (seqObj "list" #[] 0)).update s.heap.objs.size (Obj.mapSeq (· ++ its.toArray))).push (seqObj "list" its.toArray 0)).get? b = some o := fun b o e => by
  have lt : b < s.heap.objs.size := Heap.lt_size e
  rw [Heap.get?_push_ne _ _ _ (by rw [z1]; exact Nat.ne_of_lt (Nat.lt_succ_of_lt lt)), Heap.get?_update_ne _ _ _ _ (Nat.ne_of_lt lt), Heap.get?_push_ne _ _ _ (Nat.ne_of_lt lt)]
  exact e
 show wpAny _ _ _ _ _ { s with heap := ((s.heap.push (seqObj "list" #[] 0)).update s.heap.objs.size (Obj.mapSeq (· ++ its.toArray))).push (seqObj "list" its.toArray 0) }
 rw [z1]
 generalize ((s.heap.push (seqObj "list" #[] 0)).update s.heap.objs.size (Obj.mapSeq (· ++ its.toArray))).push (seqObj "list" its.toArray 0) = h1 at oL keep ⊢
 refine wpAny_bind (wpAny_holding (wpAny_call_entry slot_list_sort ⟨_, oL, rfl⟩ entry_list_sort ?_ (args_list_sort _)))
 have lt1 : s.heap.objs.size + 1 < h1.objs.size := Heap.lt_size oL
 rw [list_sort_plain]
 refine wpAny_bind (listItems_at oL rfl (wpAny_bind (listUpdate_at oL rfl ?_ (by simpa using hs6) (Nat.zero_le _))))
 obtain ⟨e1, ho1⟩ : ∃ e1, (h1.update (s.heap.objs.size + 1) (Obj.mapSeq fun _ => (#[] : Array Value))).get? (s.heap.objs.size + 1) = some (seqObj "list" #[] e1) := ⟨_, get?_update_seq oL fun _ => #[]⟩
 refine wpAny_bind (seqEpoch_at ho1 rfl (wpAny_bind (wpAny_newTuple ?_ (by simpa using hs6))))
 refine wpAny_bind (wpAny_newList ?_ (Nat.zero_le _))
 refine wpAny_holding ?_
 have sz2 : (h1.update (s.heap.objs.size + 1) (Obj.mapSeq fun _ => (#[] : Array Value))).objs.size = h1.objs.size := Heap.size_update ..
 have ho3 : (((h1.update (s.heap.objs.size + 1) (Obj.mapSeq fun _ => (#[] : Array Value))).push (seqObj "tuple" its.toArray 0)).push (seqObj "list" #[] 0)).get? (s.heap.objs.size + 1) = some (seqObj "list" #[] e1) := Heap.get?_push_of_some _ (Heap.get?_push_of_some _ ho1)
 have keep3 : ∀ b o, s.heap.get? b = some o → (((h1.update (s.heap.objs.size + 1) (Obj.mapSeq fun _ => (#[] : Array Value))).push (seqObj "tuple" its.toArray 0)).push (seqObj "list" #[] 0)).get? b = some o := fun b o e => by
  have lt : b < s.heap.objs.size := Heap.lt_size e
  exact Heap.get?_push_of_some _ (Heap.get?_push_of_some _ (by rw [Heap.get?_update_ne _ _ _ _ (Nat.ne_of_lt (Nat.lt_succ_of_lt lt))]; exact keep b o e))
 show wpAny _ _ _ _ _ { s with heap := ((h1.update (s.heap.objs.size + 1) (Obj.mapSeq fun _ => (#[] : Array Value))).push (seqObj "tuple" its.toArray 0)).push (seqObj "list" #[] 0) }
 generalize ((h1.update (s.heap.objs.size + 1) (Obj.mapSeq fun _ => (#[] : Array Value))).push (seqObj "tuple" its.toArray 0)).push (seqObj "list" #[] 0) = h3 at ho3 keep3 ⊢
 have I3 : Inv X pins σ H { s with heap := h3 } := I.kept (t' := s.toks) keep3
 have fin : ∀ (pm : List Nat) (st : SortSt), pm = EY ks → (arrOf st).map (·.2) = List.toArray (pm.map fun i => its.getD i Value.none) → failedOf st = none →
   wpAny (model X.prog X.w) X.A.in1.in1 (do
    let touched := (← seqEpoch (s.heap.objs.size + 1)) != e1
    Builtin.List.listUpdate (.ref (s.heap.objs.size + 1)) fun _ => (arrOf st).map (·.2)
    if let some e := failedOf st then rule "list.sort.comparison-raised"; throw e
    if touched then rule "list.sort.modified"; raiseError "ValueError" "list modified during sort"
    ret .none) (fun f s' => ∃ v, f = .done (.ret v) ∧ wpAny (model X.prog X.w) X.A.in1 (ret (.ref (s.heap.objs.size + 1))) (fun f s' => ∃ v, f = .done (.ret v) ∧ EP X pins σ Q v s') X.xe s') X.xe { s with heap := h3 } := by
  intro pm st epm eo ef
  have lpm : ∀ i ∈ pm, i < vs.length := fun i hi => by
   rw [epm] at hi
   have := (EO ks).mem_iff.mp hi
   rw [← hk]
   simpa using this
  have len : pm.length = vs.length := by rw [epm, (EO ks).length_eq, List.length_range, hk]
  refine wpAny_bind (seqEpoch_at ho3 rfl ?_)
  rw [eo, ef]
  refine wpAny_bind (listUpdate_at ho3 rfl ?_ (Nat.zero_le _) (by rw [List.size_toArray, List.length_map, len, sizeLine_eq]; omega))
  simp only [bne_self_eq_false, Bool.false_eq_true, if_false]
  refine wpAny_pure ⟨_, rfl, wpAny_pure ⟨_, rfl, ?_⟩⟩
  obtain ⟨c2, hc2⟩ : ∃ c2, (h3.update (s.heap.objs.size + 1) (Obj.mapSeq fun _ => List.toArray (pm.map fun i => its.getD i Value.none))).get? (s.heap.objs.size + 1) = some (seqObj "list" (List.toArray (pm.map fun i => its.getD i Value.none)) c2) := ⟨_, get?_update_seq ho3 fun _ => List.toArray (pm.map fun i => its.getD i Value.none)⟩
  have k4 : ∀ b o, s.heap.get? b = some o → (h3.update (s.heap.objs.size + 1) (Obj.mapSeq fun _ => List.toArray (pm.map fun i => its.getD i Value.none))).get? b = some o := fun b o e => by
   have lt : b < s.heap.objs.size := Heap.lt_size e
   rw [Heap.get?_update_ne _ _ _ _ (Nat.ne_of_lt (Nat.lt_succ_of_lt lt))]
   exact keep3 b o e
  have I4 := I.laid (a := s.heap.objs.size + 1) (o := .lst (pm.map fun i => vs.getD i .non)) (t' := s.toks) k4 (Nat.le_succ _) ⟨by rw [List.length_map, len, sizeLine_eq]; omega, _, c2, NB rv pm lpm, hc2⟩
  subst epm
  exact ⟨.ref (s.heap.objs.size + 1), _, I4, rfl, q _ (I.hok.fresh (Nat.le_succ _))⟩
 dsimp only
 by_cases h2 : its.toArray.size < 2
 ·rw [if_pos h2, if_pos h2]
  refine wpAny_bind (wpAny_pure ?_)
  rw [StateT.run_pure]
  refine wpAny_bind (wpAny_pure ?_)
  refine fin (List.range ks.length) _ ?_ ?_ rfl
  ·unfold EY
   rw [if_pos (by rw [hk, ← hl]; simpa using h2)]
  ·refine PySem.W.kat_snds rfl (p := (List.range ks.length).toArray) ?_
   have e := PySem.W.kas_range (its.toArray.zip its.toArray)
   rw [show (its.toArray.zip its.toArray).size = ks.length by simp [hk, hl]] at e
   rw [e]
 ·rw [if_neg h2, if_neg h2]
  have h2' : 2 ≤ its.length := by simpa using h2
  obtain ⟨fs, f1, f2, f3⟩ := NH I3 hp rv
  refine wpAny_bind (PySem.W.kat_kind f1 (by omega) (T := .type "int") (fun v hv => ?_) (by decide) ?_)
  ·obtain ⟨i, t, rfl⟩ := f3 v hv
   exact fun A Q E s' k q => wpAny_typeOf (typeIs_int s' i t) q
  ·refine wpAny_bind (wpAny_mono (PySem.W.kat_run (Q := fun st' s' => ∃ pm : Array Nat, pm.toList = EY ks ∧ arrOf st' = pm.map (PySem.W.kas_item (its.toArray.zip its.toArray)) ∧ failedOf st' = none ∧ s' = { s with heap := h3 }) (G := fun pm s' => pm.toList = EY ks ∧ s' = { s with heap := h3 }) rfl h2' (by omega) (fun p' st' s' a1 a2 a3 a4 => ⟨p', a4.1, a2, a3, a4.2⟩) ?_) ?_ fun _ _ e => e)
   ·have en : its.length = ks.length := by omega
    have gs := (LR (n := ks.length) (f := JG ks) (by omega)).run
    rw [en]
    refine gs.wp (fun i j C hi hj hC => ?_) fun a ha => ⟨?_, rfl⟩
    ·have rp : ∀ i, i < ks.length → Rp X.K H (skD (ks.getD i (0, (0, 0, 0, 0), (0, 0, 0, 0)))) (vs.getD i .non) := fun i hi => by
      obtain ⟨y, hy, r⟩ := IB hp (i := i) (x := ks[i]) (by simp [hi])
      rw [List.getD_eq_getElem?_getD, List.getD_eq_getElem?_getD, hy, List.getElem?_eq_getElem hi]
      exact r
     exact jX I3 (rp i hi) (rp j hj) (IH rv i (by omega)) (IH rv j (by omega)) (show X.A.units + 1 + 1 + 4 < cLine by omega) hC
    ·rw [ha.1]
     unfold EY
     rw [if_neg (by omega)]
   ·rintro ⟨⟨⟩, st'⟩ s' ⟨pm, e1', e2', e3', rfl⟩
    exact fin pm.toList st' e1' (PySem.W.kat_snds rfl e2') e3'
end
theorem TQ : ∀ {xs ys : List Sk}, xs.Pairwise skl → ys.Pairwise skl → (∀ k, k ∈ xs ↔ k ∈ ys) → xs = ys
 | [], [], _, _, _ => rfl
 | [], y :: ys, _, _, h => by have := (h y).mpr List.mem_cons_self; cases this
 | x :: xs, [], _, _, h => by have := (h x).mp List.mem_cons_self; cases this
 | x :: xs, y :: ys, hx, hy, h => by
  rw [List.pairwise_cons] at hx hy
  have e : x = y := by
   rcases List.mem_cons.mp ((h x).mp List.mem_cons_self) with e | m1
   ·exact e
   rcases List.mem_cons.mp ((h y).mpr List.mem_cons_self) with e | m2
   ·exact e.symm
   exact (KC (WA (hx.1 y m2) (hy.1 x m1))).elim
  subst e
  rw [TQ hx.2 hy.2 fun k => ?_]
  constructor
  ·intro m
   rcases List.mem_cons.mp ((h k).mp (List.mem_cons_of_mem _ m)) with e | m'
   ·exact (KC (e ▸ hx.1 k m)).elim
   ·exact m'
  ·intro m
   rcases List.mem_cons.mp ((h k).mpr (List.mem_cons_of_mem _ m)) with e | m'
   ·exact (KC (e ▸ hy.1 k m)).elim
   ·exact m'
theorem EQ (ks : List Sk) : (GK ks).Perm ks := by
 have := (EO ks).map fun i => ks.getD i (0, (0, 0, 0, 0), (0, 0, 0, 0))
 have e : ((List.range ks.length).map fun i => ks.getD i (0, (0, 0, 0, 0), (0, 0, 0, 0))) = ks := by
  refine List.ext_getElem (by simp) fun i h1 h2 => ?_
  simp at h1
  simp [h1]
 rw [e] at this
 exact this
theorem UJ {ks : List Sk} (h : ks.Pairwise skl) : GK ks = ks := by
 have nd : ks.Nodup := h.imp fun z e => by subst e; exact KC z
 exact TQ (PJ nd) h fun k => (EQ ks).mem_iff
namespace Tab
open PySem.SetTable
def dH (M i : Nat) : Nat := (i * 5 + 1) % M
def it5 (M : Nat) : Nat → Nat → Nat
 | 0, i => i
 | n + 1, i => it5 M n (dH M i)
def Mk (m : Nat) : Prop := m = 7 ∨ m = 31 ∨ m = 127
theorem cyc8 : ∀ r < 8, ∃ n < 8, it5 8 n 0 = r := by decide
theorem oM : ∀ r < 32, ∃ n < 32, it5 32 n 0 = r := by decide +kernel
theorem kN : ∀ r < 128, ∃ n < 128, it5 128 n 0 = r := by decide +kernel
theorem per8 : it5 8 8 0 = 0 := by decide
theorem pD : it5 32 32 0 = 0 := by decide +kernel
theorem kX : it5 128 128 0 = 0 := by decide +kernel
theorem ML (M : Nat) : ∀ a b i, it5 M (a + b) i = it5 M b (it5 M a i)
 | 0, b, i => by rw [Nat.zero_add]; rfl
 | a + 1, b, i => by
  rw [show a + 1 + b = (a + b) + 1 by omega]
  exact ML M a b (dH M i)
theorem cY {M : Nat} (c : ∀ r < M, ∃ n < M, it5 M n 0 = r) (p : it5 M M 0 = 0) (i r : Nat) (hi : i < M) (hr : r < M) : ∃ n < M, it5 M n i = r := by
 obtain ⟨a, ha, ea⟩ := c i hi
 obtain ⟨b, hb, eb⟩ := c r hr
 by_cases h : a ≤ b
 ·refine ⟨b - a, by omega, ?_⟩
  rw [← ea, ← ML, show a + (b - a) = b by omega, eb]
 ·refine ⟨M - a + b, by omega, ?_⟩
  rw [← ea, ← ML, show a + (M - a + b) = M + b by omega, ML, p, eb]
theorem fE {m : Nat} (h : Mk m) (i r : Nat) (hi : i < m + 1) (hr : r < m + 1) : ∃ n < m + 1, it5 (m + 1) n i = r := by
 rcases h with rfl | rfl | rfl
 ·exact cY cyc8 per8 i r hi hr
 ·exact cY oM pD i r hi hr
 ·exact cY kN kX i r hi hr
def lp (m : Nat) : Nat → Nat × Nat → Nat × Nat
 | 0, x => x
 | n + 1, x => lp m n (leap m x.1 x.2)
theorem dR (m : Nat) : ∀ a b x, lp m (a + b) x = lp m b (lp m a x)
 | 0, b, x => by rw [Nat.zero_add]; rfl
 | a + 1, b, x => by
  rw [show a + 1 + b = (a + b) + 1 by omega]
  exact dR m a b _
theorem XL (m : Nat) : ∀ n x, (lp m n x).2 = x.2 / 32 ^ n
 | 0, x => by simp [lp]
 | n + 1, x => by
  show (lp m n (leap m x.1 x.2)).2 = _
  rw [XL m n]
  show x.2 / 32 / 32 ^ n = _
  rw [Nat.div_div_eq_div_mul, Nat.pow_succ, Nat.mul_comm]
theorem WH (m : Nat) : ∀ n i, lp m n (i, 0) = (it5 (m + 1) n i, 0)
 | 0, i => rfl
 | n + 1, i => by
  show lp m n (leap m i 0) = _
  have : leap m i 0 = (dH (m + 1) i, 0) := by
   show ((i * 5 + 1 + 0 / 32) % (m + 1), 0 / 32) = _
   rw [Nat.zero_div, Nat.add_zero]
   rfl
  rw [this, WH m n]
  rfl
theorem jR (m : Nat) : ∀ n x, x.1 < m + 1 → (lp m n x).1 < m + 1
 | 0, x, h => h
 | n + 1, x, h => jR m n _ (Nat.mod_lt _ (Nat.succ_pos _))
theorem RS {m : Nat} (h : Mk m) {i p r : Nat} (hi : i < m + 1) (hp : p < 2 ^ 64) (hr : r < m + 1) : ∃ n < m + 14, (lp m n (i, p)).1 = r := by
 have e : (lp m 13 (i, p)).2 = 0 := by
  rw [XL]
  exact Nat.div_eq_of_lt (Nat.lt_of_lt_of_le hp (by decide))
 obtain ⟨n, hn, en⟩ := fE h (lp m 13 (i, p)).1 r (jR m 13 _ hi) hr
 refine ⟨13 + n, by omega, ?_⟩
 rw [dR]
 have : lp m 13 (i, p) = ((lp m 13 (i, p)).1, 0) := Prod.ext rfl e
 rw [this, WH]
 exact en
def InP (t : SetTable) (j : Nat) : Prop := j ∈ t.place.toList
theorem UB {t : SetTable} (hd : t.dummies = #[]) {j : Nat} (h : ¬ InP t j) : t.slot j = .empty := by
 unfold SetTable.slot
 have h1 : (t.place[below t.place j]? == some j) = false := by
  cases e : t.place[below t.place j]? with
  | none => rfl
  | some k =>
   have hk : k ∈ t.place.toList := by
    have := Array.mem_of_getElem? e
    simpa using this
   have : k ≠ j := fun z => h (by unfold InP; rw [← z]; exact hk)
   simpa using this
 dsimp only
 rw [h1, if_neg Bool.false_ne_true]
 have h2 : has t.dummies j = false := by rw [hd]; rfl
 rw [h2, if_neg Bool.false_ne_true]
theorem gM {t : SetTable} (hd : t.dummies = #[]) (j : Nat) : t.slot j = .empty ∨ ∃ i, t.slot j = .live i ∧ t.place[i]? = some j := by
 unfold SetTable.slot
 dsimp only
 by_cases c : (t.place[below t.place j]? == some j) = true
 ·rw [if_pos c]
  exact .inr ⟨_, rfl, by simpa using c⟩
 ·rw [if_neg c]
  have h2 : has t.dummies j = false := by rw [hd]; rfl
  rw [h2, if_neg Bool.false_ne_true]
  exact .inl rfl
def av (t : SetTable) : Nat → Probe → Probe
 | 0, p => p
 | n + 1, p => av t n (t.advance p)
theorem WC (t : SetTable) : ∀ a b p, av t (a + b) p = av t b (av t a p)
 | 0, b, p => by rw [Nat.zero_add]; rfl
 | a + 1, b, p => by
  rw [show a + 1 + b = (a + b) + 1 by omega]
  exact WC t a b _
def st (m : Nat) (x : Nat × Nat) : Probe := { j := x.1, more := runEnd m x.1 - x.1, i := x.1, perturb := x.2, dummy := none }
theorem pZ (m i : Nat) : runEnd m i - i ≤ 9 := by unfold runEnd; split <;> omega
theorem QH (t : SetTable) : ∀ n (p : Probe), p.more = n → p.dummy = none → av t (n + 1) p = st t.mask (leap t.mask p.i p.perturb)
 | 0, p, h, hd => by
  show t.advance p = _
  unfold advance
  rw [h, if_neg (by omega)]
  unfold st
  rw [← hd]
 | n + 1, p, h, hd => by
  show av t (n + 1) (t.advance p) = _
  have e : t.advance p = { p with j := p.j + 1, more := p.more - 1 } := by
   unfold advance
   rw [if_pos (by omega)]
  rw [e]
  exact QH t n _ (by show p.more - 1 = n; omega) hd
theorem TF (t : SetTable) : ∀ n x, ∃ k, k ≤ 10 * n ∧ av t k (st t.mask x) = st t.mask (lp t.mask n x)
 | 0, x => ⟨0, Nat.le_refl _, rfl⟩
 | n + 1, x => by
  obtain ⟨k, hk, e⟩ := TF t n (leap t.mask x.1 x.2)
  have r := pZ t.mask x.1
  refine ⟨(runEnd t.mask x.1 - x.1 + 1) + k, by omega, ?_⟩
  rw [WC, QH t (runEnd t.mask x.1 - x.1) (st t.mask x) rfl rfl]
  exact e
structure POk (t : SetTable) (p : Probe) : Prop where
 i : p.i < t.mask + 1
 pt : p.perturb < 2 ^ 64
 more : p.more ≤ 9
 dm : p.dummy = none
 j : p.j ≤ t.mask
 run : p.more + p.j ≤ t.mask
theorem ZA {m i : Nat} (h : i ≤ m) : runEnd m i ≤ m := by unfold runEnd; split <;> omega
theorem jZ {t : SetTable} {x : Nat × Nat} (h1 : x.1 < t.mask + 1) (h2 : x.2 < 2 ^ 64) : POk t (st t.mask x) := by
 have r := pZ t.mask x.1
 have r2 := ZA (m := t.mask) (i := x.1) (by omega)
 have r3 : x.1 ≤ runEnd t.mask x.1 := by unfold runEnd; split <;> omega
 exact ⟨h1, h2, r, rfl, by show x.1 ≤ t.mask; omega, by show runEnd t.mask x.1 - x.1 + x.1 ≤ t.mask; omega⟩
theorem lU {t : SetTable} {p : Probe} (h : POk t p) : POk t (t.advance p) := by
 by_cases c : p.more > 0
 ·have e : t.advance p = { p with j := p.j + 1, more := p.more - 1 } := by unfold advance; rw [if_pos c]
  rw [e]
  have := h.run
  have := h.more
  exact ⟨h.i, h.pt, by show p.more - 1 ≤ 9; omega, h.dm, by show p.j + 1 ≤ t.mask; omega, by show p.more - 1 + (p.j + 1) ≤ t.mask; omega⟩
 ·have e := QH t 0 p (by omega) h.dm
  have : t.advance p = st t.mask (leap t.mask p.i p.perturb) := e
  rw [this]
  refine jZ (Nat.mod_lt _ (Nat.succ_pos _)) ?_
  show p.perturb / 32 < 2 ^ 64
  have := h.pt
  have := Nat.div_le_self p.perturb 32
  omega
theorem ST (t : SetTable) (h : Int) : POk t (t.probeStart h) := by
 have : t.probeStart h = st t.mask (bits h % (t.mask + 1), bits h) := rfl
 rw [this]
 refine jZ (Nat.mod_lt _ (Nat.succ_pos _)) ?_
 show (h % (2 ^ 64 : Int)).toNat < 2 ^ 64
 have := Int.emod_lt_of_pos h (show (0 : Int) < 2 ^ 64 by decide)
 omega
theorem nG {t : SetTable} (hm : Mk t.mask) {p : Probe} (h : POk t p) {r : Nat} (hr : r < t.mask + 1) : ∃ k, k ≤ 10 * (t.mask + 14) ∧ (av t k p).j = r := by
 have e := QH t p.more p rfl h.dm
 have hp := h.pt
 have hdv := Nat.div_le_self p.perturb 32
 obtain ⟨n, hn, en⟩ := RS hm (i := (leap t.mask p.i p.perturb).1) (p := (leap t.mask p.i p.perturb).2) (Nat.mod_lt _ (Nat.succ_pos _)) (by show p.perturb / 32 < 2 ^ 64; omega) hr
 obtain ⟨k, hk, ek⟩ := TF t n (leap t.mask p.i p.perturb)
 have hmo := h.more
 refine ⟨p.more + 1 + k, by omega, ?_⟩
 rw [WC, e, ek]
 exact en
def Emp (t : SetTable) (d : Nat) (p : Probe) : Prop := ∃ k, k ≤ d ∧ t.slot (av t k p).j = .empty
theorem lQ {n : Nat} {l : List Nat} (h : ∀ r < n, r ∈ l) : n ≤ l.length := by
 induction n generalizing l with
 | zero => exact Nat.zero_le _
 | succ n ih =>
  have hn := h n (Nat.lt_succ_self n)
  have := ih (l := l.erase n) fun r hr => (List.mem_erase_of_ne (by omega)).mpr (h r (by omega))
  rw [List.length_erase_of_mem hn] at this
  have : 0 < l.length := List.length_pos_of_mem hn
  omega
theorem lH {t : SetTable} (hm : Mk t.mask) (hd : t.dummies = #[]) (hs : t.place.size ≤ t.mask) {p : Probe} (h : POk t p) : Emp t (10 * (t.mask + 14)) p := by
 obtain ⟨r, hr, no⟩ : ∃ r, r < t.mask + 1 ∧ ¬ InP t r := by
  refine Classical.byContradiction fun z => ?_
  have : t.mask + 1 ≤ t.place.toList.length := lQ fun r hr => Classical.byContradiction fun y => z ⟨r, hr, y⟩
  rw [Array.length_toList] at this
  omega
 obtain ⟨k, hk, e⟩ := nG hm h hr
 exact ⟨k, hk, by rw [e]; exact UB hd no⟩
theorem bM {t : SetTable} (hd : t.dummies = #[]) {hashAt : Nat → Int} {h : Int} : ∀ fuel d (p : Probe), POk t p → Emp t d p → d < fuel →
  (∃ j, probe.go t hashAt h fuel p = some (.empty j none) ∧ j ≤ t.mask ∧ t.slot j = .empty) ∨
  ∃ j i next, probe.go t hashAt h fuel p = some (.candidate j i next) ∧ t.slot j = .live i ∧ t.place[i]? = some j ∧ hashAt i = h ∧ POk t next ∧ ∃ d', d' < d ∧ Emp t d' next
 | 0, d, p, _, _, hf => absurd hf (by omega)
 | fuel + 1, d, p, po, ⟨k, hk, ek⟩, hf => by
  rcases gM hd p.j with e | ⟨i, e, ei⟩
  ·refine .inl ⟨p.j, ?_, po.j, e⟩
   unfold probe.go
   rw [e, po.dm]
  ·have k0 : k ≠ 0 := fun z => by
    subst z
    have ek' : t.slot p.j = .empty := ek
    rw [e] at ek'
    cases ek'
   have em : Emp t (k - 1) (t.advance p) := ⟨k - 1, Nat.le_refl _, by
    have : av t (k - 1) (t.advance p) = av t k p := by
     rw [show k = (k - 1) + 1 by omega]
     rfl
    rw [this]; exact ek⟩
   have ok := lU po
   by_cases c : hashAt i == h
   ·refine .inr ⟨p.j, i, t.advance p, ?_, e, ei, by simpa using c, ok, k - 1, by omega, em⟩
    unfold probe.go
    rw [e]
    dsimp only
    rw [if_pos c]
   ·have eg : probe.go t hashAt h (fuel + 1) p = probe.go t hashAt h fuel (t.advance p) := by
     conv => lhs; unfold probe.go
     rw [e]
     dsimp only
     rw [if_neg c]
    rw [eg]
    rcases bM hd fuel (k - 1) (t.advance p) ok em (by omega) with z | ⟨j, i', nx, z1, z2, z3, z4, z5, d', z6, z7⟩
    ·exact .inl z
    ·exact .inr ⟨j, i', nx, z1, z2, z3, z4, z5, d', by omega, z7⟩
theorem ZR {t : SetTable} (hm : Mk t.mask) (hd : t.dummies = #[]) {hashAt : Nat → Int} {h : Int} {d : Nat} {p : Probe} (po : POk t p) (em : Emp t d p) (hdl : d ≤ 10 * (t.mask + 14)) :
  (∃ j, t.probe hashAt h p = some (.empty j none) ∧ j ≤ t.mask ∧ t.slot j = .empty) ∨
  ∃ j i next, t.probe hashAt h p = some (.candidate j i next) ∧ t.slot j = .live i ∧ t.place[i]? = some j ∧ hashAt i = h ∧ POk t next ∧ ∃ d', d' < d ∧ Emp t d' next := by
 unfold SetTable.probe
 exact bM hd _ d p po em (by unfold turns; omega)
theorem JJ {α : Type} (xs : Array α) (p : Nat) (x : α) : (insertAt xs p x).size = xs.size + 1 := by
 unfold insertAt
 rw [Array.size_append, Array.size_push, Array.size_extract, Array.size_extract]
 omega
theorem QN {α : Type} {xs : Array α} {p : Nat} {x y : α} (h : y ∈ (insertAt xs p x).toList) : y = x ∨ y ∈ xs.toList := by
 unfold insertAt at h
 rw [Array.toList_append, Array.toList_push, List.mem_append, List.mem_append, List.mem_singleton] at h
 have sub : ∀ a b, y ∈ (xs.extract a b).toList → y ∈ xs.toList := fun a b h => by
  rw [Array.toList_extract, List.extract_eq_take_drop] at h
  exact List.mem_of_mem_drop (List.mem_of_mem_take h)
 rcases h with (h | h) | h
 ·exact .inr (sub _ _ h)
 ·exact .inl h
 ·exact .inr (sub _ _ h)
theorem mJ {t : SetTable} (hd : t.dummies = #[]) (j : Nat) : (t.put j).1.dummies = #[] ∧ (t.put j).1.mask = t.mask ∧ (t.put j).1.place.size = t.place.size + 1 := by
 unfold put
 refine ⟨?_, rfl, JJ _ _ _⟩
 show (if has t.dummies j = true then _ else t.dummies) = #[]
 rw [hd]
 rfl
theorem PQ {m : Nat} (hm : Mk m) {ow : Array (Option Nat)} {r : Nat} (hr : r < m + 1) (er : ow.getD r (some 0) = none) : ∀ n fuel i p, i < m + 1 → (lp m n (i, p)).1 = r → n < fuel →
  ∃ j, layClean.free m ow fuel i p = some j ∧ ow.getD j (some 0) = none
 | n, 0, i, p, _, _, hf => absurd hf (by omega)
 | n, fuel + 1, i, p, hi, e, hf => by
  unfold layClean.free
  cases z : (List.range (runEnd m i + 1 - i)).find? fun k => (ow.getD (i + k) (some 0)).isNone with
  | some k =>
   have := List.find?_some z
   exact ⟨i + k, rfl, by simpa using this⟩
  | none =>
   dsimp only
   cases n with
   | zero =>
    have e' : i = r := e
    subst e'
    have := List.find?_eq_none.mp z 0 (by
     rw [List.mem_range]
     have : i ≤ runEnd m i := by unfold runEnd; split <;> omega
     omega)
    rw [Nat.add_zero, er] at this
    exact absurd rfl this
   | succ n => exact PQ hm hr er n fuel (leap m i p).1 (leap m i p).2 (Nat.mod_lt _ (Nat.succ_pos _)) e (by omega)
theorem VR {l : List Nat} {f g : Nat → Bool} {j : Nat} (nd : l.Nodup) (hj : j ∈ l) (e0 : f j = false) (e1 : g j = true) (eq : ∀ i, i ≠ j → g i = f i) : l.countP g = l.countP f + 1 := by
 induction l with
 | nil => cases hj
 | cons a l ih =>
  rw [List.nodup_cons] at nd
  by_cases c : a = j
  ·subst c
   rw [List.countP_cons_of_pos e1, List.countP_cons_of_neg (by rw [e0]; decide)]
   congr 1
   refine List.countP_congr fun x hx => ?_
   rw [eq x (fun z => nd.1 (z ▸ hx))]
  ·have ij := ih nd.2 ((List.mem_cons.mp hj).resolve_left fun z => c z.symm)
   rw [List.countP_cons, List.countP_cons, eq a c, ij]
   omega
def cnt (m : Nat) (ow : Array (Option Nat)) : Nat := (List.range (m + 1)).countP fun j => (ow.getD j none).isSome
structure LO (m n : Nat) (ow : Array (Option Nat)) : Prop where
 size : ow.size = m + 1
 cnt : cnt m ow = n
 lt : ∀ (j k : Nat), ow.getD j none = some k → k < n
theorem YN {l : List Nat} {f : Nat → Bool} (h : l.countP f < l.length) : ∃ x ∈ l, f x = false := by
 refine Classical.byContradiction fun z => ?_
 have : l.countP f = l.length := List.countP_eq_length.mpr fun x hx => by
  cases e : f x with
  | true => rfl
  | false => exact absurd ⟨x, hx, e⟩ z
 omega
theorem LO.put {m n : Nat} {ow : Array (Option Nat)} (o : LO m n ow) {j : Nat} (hj : ow.getD j (some 0) = none) : LO m (n + 1) (ow.setIfInBounds j (some n)) := by
 have hs := o.size
 have jl : j < ow.size := by
  refine Classical.byContradiction fun z => ?_
  unfold Array.getD at hj
  rw [dif_neg z] at hj
  cases hj
 have at' : ∀ i, (ow.setIfInBounds j (some n)).getD i none = if i = j then some n else ow.getD i none := fun i => by
  rw [Array.getD_eq_getD_getElem?, Array.getD_eq_getD_getElem?, Array.getElem?_setIfInBounds]
  by_cases c : j = i
  ·subst c; rw [if_pos rfl, if_pos rfl, if_pos jl]; rfl
  ·rw [if_neg c, if_neg (fun z => c z.symm)]
 have e0 : ow.getD j none = none := by
  unfold Array.getD at hj ⊢
  rw [dif_pos jl] at hj ⊢
  exact hj
 refine ⟨by rw [Array.size_setIfInBounds]; exact hs, ?_, fun i k e => ?_⟩
 ·have := VR (l := List.range (m + 1)) (f := fun i => (ow.getD i none).isSome) (g := fun i => ((ow.setIfInBounds j (some n)).getD i none).isSome) (j := j) List.nodup_range (List.mem_range.mpr (by omega)) (by rw [e0]; rfl) (by rw [at' j, if_pos rfl]; rfl) (fun i hi => by rw [at' i, if_neg hi])
  unfold Tab.cnt
  rw [this]
  have := o.cnt
  unfold Tab.cnt at this
  omega
 ·rw [at' i] at e
  by_cases c : i = j
  ·rw [if_pos c] at e; cases e; omega
  ·rw [if_neg c] at e
   have := o.lt i k e
   omega
theorem SH {m : Nat} (hm : Mk m) : ∀ (hs : List Int) (n : Nat) (ow : Array (Option Nat)), LO m n ow → n + hs.length ≤ m →
  ∃ ow', hs.foldl (init := some (ow, n)) (fun acc h => do
   let (owner, k) ← acc
   let j ← layClean.free m owner (turns m) (bits h % (m + 1)) (bits h)
   pure (owner.setIfInBounds j (some k), k + 1)) = some (ow', n + hs.length) ∧ LO m (n + hs.length) ow'
 | [], n, ow, o, _ => ⟨ow, rfl, o⟩
 | h :: hs, n, ow, o, hl => by
  rw [List.length_cons] at hl
  obtain ⟨r, hr, er⟩ := YN (l := List.range (m + 1)) (f := fun j => (ow.getD j none).isSome) (by
   have := o.cnt
   unfold Tab.cnt at this
   rw [this, List.length_range]
   omega)
  have hr' := List.mem_range.mp hr
  have er' : ow.getD r (some 0) = none := by
   have hs := o.size
   unfold Array.getD at er ⊢
   rw [dif_pos (by omega)] at er ⊢
   simpa using er
  have bl : bits h < 2 ^ 64 := by
   show (h % (2 ^ 64 : Int)).toNat < 2 ^ 64
   have := Int.emod_lt_of_pos h (show (0 : Int) < 2 ^ 64 by decide)
   omega
  obtain ⟨k, hk, ek⟩ := RS hm (i := bits h % (m + 1)) (Nat.mod_lt _ (Nat.succ_pos _)) bl hr'
  obtain ⟨j, ej, fj⟩ := PQ hm hr' er' k (turns m) (bits h % (m + 1)) (bits h) (Nat.mod_lt _ (Nat.succ_pos _)) ek (by unfold turns; omega)
  obtain ⟨ow', e', o'⟩ := SH hm hs (n + 1) _ (o.put fj) (by omega)
  refine ⟨ow', ?_, by rw [List.length_cons, show n + (hs.length + 1) = n + 1 + hs.length by omega]; exact o'⟩
  rw [List.foldl_cons]
  have s1 : ((do
   let (owner, k) ← (some (ow, n) : Option (Array (Option Nat) × Nat))
   let j ← layClean.free m owner (turns m) (bits h % (m + 1)) (bits h)
   pure (owner.setIfInBounds j (some k), k + 1)) : Option (Array (Option Nat) × Nat)) = some (ow.setIfInBounds j (some n), n + 1) := by
   show (layClean.free m ow (turns m) (bits h % (m + 1)) (bits h)).bind _ = _
   rw [ej]
   rfl
  rw [s1, e', List.length_cons, show n + (hs.length + 1) = n + 1 + hs.length by omega]
theorem LO.nil (m : Nat) : LO m 0 (Array.replicate (m + 1) none) := by
 have at' : ∀ i, (Array.replicate (m + 1) (none : Option Nat)).getD i none = none := fun i => by
  rw [Array.getD_eq_getD_getElem?, Array.getElem?_replicate]
  split <;> rfl
 refine ⟨Array.size_replicate, ?_, fun j k e => ?_⟩
 ·unfold Tab.cnt
  rw [List.countP_eq_zero]
  intro x _
  rw [at' x]
  decide
 ·rw [at' j] at e; cases e
theorem YR (t : SetTable) (hashes : Array Int) (wanted : Nat) (hm : Mk (sizeAbove wanted - 1)) (hl : hashes.size ≤ sizeAbove wanted - 1) :
  ∃ t' order, t.relaid hashes wanted = some (t', order) ∧ t'.mask = sizeAbove wanted - 1 ∧ t'.dummies = #[] ∧ t'.place.size = hashes.size ∧ order.size = hashes.size ∧ (∀ k ∈ order.toList, k < hashes.size) ∧ t'.led = t.led ∧ t'.plain = t.plain := by
 unfold relaid laid
 generalize sizeAbove wanted - 1 = m at hm hl
 obtain ⟨ow, e, o⟩ := SH hm hashes.toList 0 _ (LO.nil m) (by rw [Array.length_toList]; omega)
 rw [Nat.zero_add, Array.length_toList] at e o
 have el : layClean m hashes = some ow := by
  unfold layClean
  rw [← Array.foldl_toList]
  exact (congrArg (Option.map (·.1)) e)
 rw [el]
 refine ⟨_, _, rfl, rfl, rfl, ?_, ?_, fun k hk => ?_, rfl, rfl⟩
 ·rw [List.size_toArray, List.length_map, List.length_filterMap_eq_countP]
  have := o.cnt
  unfold Tab.cnt at this
  rw [← this]
  refine List.countP_congr fun x _ => ?_
  cases ow.getD x none <;> simp
 ·rw [List.size_toArray, List.length_map, List.length_filterMap_eq_countP]
  have := o.cnt
  unfold Tab.cnt at this
  rw [← this]
  refine List.countP_congr fun x _ => ?_
  cases ow.getD x none <;> simp
 ·simp only [List.mem_map, List.mem_filterMap] at hk
  obtain ⟨⟨j, k'⟩, ⟨x, _, ex⟩, rfl⟩ := hk
  rw [Option.map_eq_some_iff] at ex
  obtain ⟨y, ey, e2⟩ := ex
  cases e2
  exact o.lt _ _ ey
end Tab
def IsN (h : Heap) (a b : Int) (p : Addr) : Prop := ∃ ta tb : Tok, IsTup h p #[.int a ta, .int b tb]
def IsQ (h : Heap) (x : Q4) (p : Addr) : Prop := ∃ u v : Addr, IsTup h p #[.ref u, .ref v] ∧ IsN h x.1 x.2.1 u ∧ IsN h x.2.2.1 x.2.2.2 v
def FH (h : Heap) (k : Sk) (a : Addr) : Prop := ∃ (t : Tok) (p q : Addr), IsTup h a #[.int k.1 t, .ref p, .ref q] ∧ IsQ h k.2.1 p ∧ IsQ h k.2.2 q
section
variable {prog : Program} {w : World} {A : Around} {E : Value → Shared → Prop} {s : Shared}
theorem HH {n : Nat} {i : Int} {t : Tok} : wpAny (model prog w) A (eqIsQuiet n (.int i t)) (fun b s1 => b = true ∧ s1 = s) E s := by
 rw [eqIsQuiet_byValue n (by rfl)]
 exact wpAny_pure ⟨rfl, rfl⟩
theorem QT {n : Nat} {i : Int} {t : Tok} : wpAny (model prog w) A (ofAClassStatement n (.int i t)) (fun b s1 => b = false ∧ s1 = s) E s := by
 unfold ofAClassStatement
 exact wpAny_pure ⟨rfl, rfl⟩
theorem QS {n : Nat} {i : Int} {t : Tok} : wpAny (model prog w) A (hashByValue n (.int i t)) (fun b s1 => b = true ∧ s1 = s) E s := by
 unfold hashByValue
 exact wpAny_pure ⟨rfl, rfl⟩
theorem LD {n : Nat} {a : Addr} {u0 u1 : Value} (ht : IsTup s.heap a #[u0, u1]) (h0 : wpAny (model prog w) A (eqIsQuiet n u0) (fun b s1 => b = true ∧ s1 = s) E s) (h1 : wpAny (model prog w) A (eqIsQuiet n u1) (fun b s1 => b = true ∧ s1 = s) E s) : wpAny (model prog w) A (eqIsQuiet (n + 1) (.ref a)) (fun b s1 => b = true ∧ s1 = s) E s := by
 rw [eqIsQuiet.eq_2]
 refine wpAny_bind (wpAny_specialOf ht.typeIs PySem.F.slot_tuple_eq.lookup ?_)
 show wpAny _ _ (PySem.isInstance (.ref a) (.type "tuple") >>= _) _ _ _
 refine wpAny_bind (wpAny_isInstance ht.typeIs isSubtype_tuple_tuple ?_)
 rw [if_neg (by decide)]
 obtain ⟨o, e, c, n', d⟩ := ht
 rw [seqItems?.eq_1]
 refine wpAny_bind (wpAny_bind (wpAny_load e ?_))
 rw [d]
 refine wpAny_pure ?_
 refine wpAny_bind ?_
 rw [show ((some (#[u0, u1] : Array Value)).getD #[]) = [u0, u1].toArray from rfl, List.forIn_toArray]
 rw [List.forIn_cons]
 refine wpAny_bind (wpAny_bind (wpAny_mono h0 (fun b s1 hb => ?_) fun _ _ z => z))
 obtain ⟨rfl, rfl⟩ := hb
 rw [if_neg (by decide)]
 refine wpAny_pure ?_
 dsimp only
 rw [List.forIn_cons]
 refine wpAny_bind (wpAny_bind (wpAny_mono h1 (fun b s1 hb => ?_) fun _ _ z => z))
 obtain ⟨rfl, rfl⟩ := hb
 rw [if_neg (by decide)]
 refine wpAny_pure ?_
 dsimp only
 rw [List.forIn_nil]
 exact wpAny_pure (wpAny_pure ⟨rfl, rfl⟩)
theorem nK {n : Nat} {a : Addr} {u0 u1 u2 : Value} (ht : IsTup s.heap a #[u0, u1, u2]) (h0 : wpAny (model prog w) A (eqIsQuiet n u0) (fun b s1 => b = true ∧ s1 = s) E s) (h1 : wpAny (model prog w) A (eqIsQuiet n u1) (fun b s1 => b = true ∧ s1 = s) E s) (h2 : wpAny (model prog w) A (eqIsQuiet n u2) (fun b s1 => b = true ∧ s1 = s) E s) : wpAny (model prog w) A (eqIsQuiet (n + 1) (.ref a)) (fun b s1 => b = true ∧ s1 = s) E s := by
 rw [eqIsQuiet.eq_2]
 refine wpAny_bind (wpAny_specialOf ht.typeIs PySem.F.slot_tuple_eq.lookup ?_)
 show wpAny _ _ (PySem.isInstance (.ref a) (.type "tuple") >>= _) _ _ _
 refine wpAny_bind (wpAny_isInstance ht.typeIs isSubtype_tuple_tuple ?_)
 rw [if_neg (by decide)]
 obtain ⟨o, e, c, n', d⟩ := ht
 rw [seqItems?.eq_1]
 refine wpAny_bind (wpAny_bind (wpAny_load e ?_))
 rw [d]
 refine wpAny_pure ?_
 refine wpAny_bind ?_
 rw [show ((some (#[u0, u1, u2] : Array Value)).getD #[]) = [u0, u1, u2].toArray from rfl, List.forIn_toArray]
 rw [List.forIn_cons]
 refine wpAny_bind (wpAny_bind (wpAny_mono h0 (fun b s1 hb => ?_) fun _ _ z => z))
 obtain ⟨rfl, rfl⟩ := hb
 rw [if_neg (by decide)]
 refine wpAny_pure ?_
 dsimp only
 rw [List.forIn_cons]
 refine wpAny_bind (wpAny_bind (wpAny_mono h1 (fun b s1 hb => ?_) fun _ _ z => z))
 obtain ⟨rfl, rfl⟩ := hb
 rw [if_neg (by decide)]
 refine wpAny_pure ?_
 dsimp only
 rw [List.forIn_cons]
 refine wpAny_bind (wpAny_bind (wpAny_mono h2 (fun b s1 hb => ?_) fun _ _ z => z))
 obtain ⟨rfl, rfl⟩ := hb
 rw [if_neg (by decide)]
 refine wpAny_pure ?_
 dsimp only
 rw [List.forIn_nil]
 exact wpAny_pure (wpAny_pure ⟨rfl, rfl⟩)
theorem cls2 {n : Nat} {a : Addr} {u0 u1 : Value} (ht : IsTup s.heap a #[u0, u1]) (h0 : wpAny (model prog w) A (ofAClassStatement n u0) (fun b s1 => b = false ∧ s1 = s) E s) (h1 : wpAny (model prog w) A (ofAClassStatement n u1) (fun b s1 => b = false ∧ s1 = s) E s) : wpAny (model prog w) A (ofAClassStatement (n + 1) (.ref a)) (fun b s1 => b = false ∧ s1 = s) E s := by
 unfold ofAClassStatement
 refine wpAny_bind (wpAny_typeOf ht.typeIs ?_)
 show wpAny _ _ (pure true >>= _) _ _ _
 refine wpAny_bind (wpAny_pure ?_)
 dsimp only
 rw [if_neg (by decide)]
 obtain ⟨o, e, c, n', d⟩ := ht
 rw [seqItems?.eq_1]
 refine wpAny_bind (wpAny_bind (wpAny_load e ?_))
 rw [d]
 refine wpAny_pure ?_
 refine wpAny_bind ?_
 rw [show (#[u0, u1] : Array Value) = [u0, u1].toArray from rfl, List.forIn_toArray]
 rw [List.forIn_cons]
 refine wpAny_bind (wpAny_bind (wpAny_mono h0 (fun b s1 hb => ?_) fun _ _ z => z))
 obtain ⟨rfl, rfl⟩ := hb
 rw [if_neg (by decide)]
 refine wpAny_pure ?_
 dsimp only
 rw [List.forIn_cons]
 refine wpAny_bind (wpAny_bind (wpAny_mono h1 (fun b s1 hb => ?_) fun _ _ z => z))
 obtain ⟨rfl, rfl⟩ := hb
 rw [if_neg (by decide)]
 refine wpAny_pure ?_
 dsimp only
 rw [List.forIn_nil]
 exact wpAny_pure (wpAny_pure ⟨rfl, rfl⟩)
theorem cls3 {n : Nat} {a : Addr} {u0 u1 u2 : Value} (ht : IsTup s.heap a #[u0, u1, u2]) (h0 : wpAny (model prog w) A (ofAClassStatement n u0) (fun b s1 => b = false ∧ s1 = s) E s) (h1 : wpAny (model prog w) A (ofAClassStatement n u1) (fun b s1 => b = false ∧ s1 = s) E s) (h2 : wpAny (model prog w) A (ofAClassStatement n u2) (fun b s1 => b = false ∧ s1 = s) E s) : wpAny (model prog w) A (ofAClassStatement (n + 1) (.ref a)) (fun b s1 => b = false ∧ s1 = s) E s := by
 unfold ofAClassStatement
 refine wpAny_bind (wpAny_typeOf ht.typeIs ?_)
 show wpAny _ _ (pure true >>= _) _ _ _
 refine wpAny_bind (wpAny_pure ?_)
 dsimp only
 rw [if_neg (by decide)]
 obtain ⟨o, e, c, n', d⟩ := ht
 rw [seqItems?.eq_1]
 refine wpAny_bind (wpAny_bind (wpAny_load e ?_))
 rw [d]
 refine wpAny_pure ?_
 refine wpAny_bind ?_
 rw [show (#[u0, u1, u2] : Array Value) = [u0, u1, u2].toArray from rfl, List.forIn_toArray]
 rw [List.forIn_cons]
 refine wpAny_bind (wpAny_bind (wpAny_mono h0 (fun b s1 hb => ?_) fun _ _ z => z))
 obtain ⟨rfl, rfl⟩ := hb
 rw [if_neg (by decide)]
 refine wpAny_pure ?_
 dsimp only
 rw [List.forIn_cons]
 refine wpAny_bind (wpAny_bind (wpAny_mono h1 (fun b s1 hb => ?_) fun _ _ z => z))
 obtain ⟨rfl, rfl⟩ := hb
 rw [if_neg (by decide)]
 refine wpAny_pure ?_
 dsimp only
 rw [List.forIn_cons]
 refine wpAny_bind (wpAny_bind (wpAny_mono h2 (fun b s1 hb => ?_) fun _ _ z => z))
 obtain ⟨rfl, rfl⟩ := hb
 rw [if_neg (by decide)]
 refine wpAny_pure ?_
 dsimp only
 rw [List.forIn_nil]
 exact wpAny_pure (wpAny_pure ⟨rfl, rfl⟩)
theorem ZF {n : Nat} {a : Addr} {u0 u1 : Value} (ht : IsTup s.heap a #[u0, u1]) (h0 : wpAny (model prog w) A (hashByValue n u0) (fun b s1 => b = true ∧ s1 = s) E s) (h1 : wpAny (model prog w) A (hashByValue n u1) (fun b s1 => b = true ∧ s1 = s) E s) : wpAny (model prog w) A (hashByValue (n + 1) (.ref a)) (fun b s1 => b = true ∧ s1 = s) E s := by
 unfold hashByValue
 refine wpAny_bind (wpAny_specialOf ht.typeIs PySem.F.slot_tuple_hash.lookup ?_)
 dsimp only
 obtain ⟨o, e, c, n', d⟩ := ht
 rw [seqItems?.eq_1]
 refine wpAny_bind (wpAny_bind (wpAny_load e ?_))
 rw [d]
 refine wpAny_pure ?_
 refine wpAny_bind ?_
 rw [show ((some (#[u0, u1] : Array Value)).getD #[.ellipsis]) = [u0, u1].toArray from rfl, List.forIn_toArray]
 rw [List.forIn_cons]
 refine wpAny_bind (wpAny_bind (wpAny_mono h0 (fun b s1 hb => ?_) fun _ _ z => z))
 obtain ⟨rfl, rfl⟩ := hb
 rw [if_neg (by decide)]
 refine wpAny_pure ?_
 dsimp only
 rw [List.forIn_cons]
 refine wpAny_bind (wpAny_bind (wpAny_mono h1 (fun b s1 hb => ?_) fun _ _ z => z))
 obtain ⟨rfl, rfl⟩ := hb
 rw [if_neg (by decide)]
 refine wpAny_pure ?_
 dsimp only
 rw [List.forIn_nil]
 exact wpAny_pure (wpAny_pure ⟨rfl, rfl⟩)
theorem hbv3 {n : Nat} {a : Addr} {u0 u1 u2 : Value} (ht : IsTup s.heap a #[u0, u1, u2]) (h0 : wpAny (model prog w) A (hashByValue n u0) (fun b s1 => b = true ∧ s1 = s) E s) (h1 : wpAny (model prog w) A (hashByValue n u1) (fun b s1 => b = true ∧ s1 = s) E s) (h2 : wpAny (model prog w) A (hashByValue n u2) (fun b s1 => b = true ∧ s1 = s) E s) : wpAny (model prog w) A (hashByValue (n + 1) (.ref a)) (fun b s1 => b = true ∧ s1 = s) E s := by
 unfold hashByValue
 refine wpAny_bind (wpAny_specialOf ht.typeIs PySem.F.slot_tuple_hash.lookup ?_)
 dsimp only
 obtain ⟨o, e, c, n', d⟩ := ht
 rw [seqItems?.eq_1]
 refine wpAny_bind (wpAny_bind (wpAny_load e ?_))
 rw [d]
 refine wpAny_pure ?_
 refine wpAny_bind ?_
 rw [show ((some (#[u0, u1, u2] : Array Value)).getD #[.ellipsis]) = [u0, u1, u2].toArray from rfl, List.forIn_toArray]
 rw [List.forIn_cons]
 refine wpAny_bind (wpAny_bind (wpAny_mono h0 (fun b s1 hb => ?_) fun _ _ z => z))
 obtain ⟨rfl, rfl⟩ := hb
 rw [if_neg (by decide)]
 refine wpAny_pure ?_
 dsimp only
 rw [List.forIn_cons]
 refine wpAny_bind (wpAny_bind (wpAny_mono h1 (fun b s1 hb => ?_) fun _ _ z => z))
 obtain ⟨rfl, rfl⟩ := hb
 rw [if_neg (by decide)]
 refine wpAny_pure ?_
 dsimp only
 rw [List.forIn_cons]
 refine wpAny_bind (wpAny_bind (wpAny_mono h2 (fun b s1 hb => ?_) fun _ _ z => z))
 obtain ⟨rfl, rfl⟩ := hb
 rw [if_neg (by decide)]
 refine wpAny_pure ?_
 dsimp only
 rw [List.forIn_nil]
 exact wpAny_pure (wpAny_pure ⟨rfl, rfl⟩)
theorem SD {k : Sk} {a : Addr} (hk : FH s.heap k a) : wpAny (model prog w) A (eqIsQuiet 8 (.ref a)) (fun b s1 => b = true ∧ s1 = s) E s := by
 obtain ⟨t, p, q, h, ⟨u1, v1, h1, ⟨_, _, n1⟩, _, _, m1⟩, u2, v2, h2, ⟨_, _, n2⟩, _, _, m2⟩ := hk
 exact nK h HH (LD h1 (LD n1 HH HH) (LD m1 HH HH)) (LD h2 (LD n2 HH HH) (LD m2 HH HH))
theorem fD {k : Sk} {a : Addr} (hk : FH s.heap k a) : wpAny (model prog w) A (ofAClassStatement 8 (.ref a)) (fun b s1 => b = false ∧ s1 = s) E s := by
 obtain ⟨t, p, q, h, ⟨u1, v1, h1, ⟨_, _, n1⟩, _, _, m1⟩, u2, v2, h2, ⟨_, _, n2⟩, _, _, m2⟩ := hk
 exact cls3 h QT (cls2 h1 (cls2 n1 QT QT) (cls2 m1 QT QT)) (cls2 h2 (cls2 n2 QT QT) (cls2 m2 QT QT))
theorem kO {k : Sk} {a : Addr} (hk : FH s.heap k a) : wpAny (model prog w) A (hashByValue 8 (.ref a)) (fun b s1 => b = true ∧ s1 = s) E s := by
 obtain ⟨t, p, q, h, ⟨u1, v1, h1, ⟨_, _, n1⟩, _, _, m1⟩, u2, v2, h2, ⟨_, _, n2⟩, _, _, m2⟩ := hk
 exact hbv3 h QS (ZF h1 (ZF n1 QS QS) (ZF m1 QS QS)) (ZF h2 (ZF n2 QS QS) (ZF m2 QS QS))
theorem dE {a : Addr} {u v z : Value} {Q : Int → Shared → Prop} (ht : IsTup s.heap a #[u, v, z]) (hA : A.units < cLine)
  (h : wpAny (model prog w) A.in1 (pyHash u) (fun x s1 => wpAny (model prog w) A.in1 (pyHash v) (fun y s2 => wpAny (model prog w) A.in1 (pyHash z) (fun r s3 => Q (reduceHash (Builtin.Tuple.tupleHashOf [x, y, r])) { s3 with toks := s3.toks + 1 }) E s2) E s1) E s) : wpAny (model prog w) A (pyHash (.ref a)) Q E s := by
 show wpAny (model prog w) A (pyHashByItsType (.ref a)) Q E s
 refine W.pyHash_slot (T := "tuple") ht.typeIs PySem.F.slot_tuple_hash PySem.F.entry_tuple_hash (PySem.F.args_tuple_hash_1 _) (by decide) (.inr hA) ?_
 unfold Builtin.«tuple.__hash__»
 refine wpAny_bind ?_
 rw [show slotArgs "__hash__" 0 { pos := [.ref a] } = pure (.ref a, []) from rfl]
 refine wpAny_pure ?_
 dsimp only
 refine wpAny_bind (tupleItemsOf_ ht ?_)
 refine wpAny_bind ?_
 rw [show (#[u, v, z] : Array Value) = [u, v, z].toArray from rfl, List.forIn_toArray, List.forIn_cons]
 refine wpAny_bind (wpAny_bind (wpAny_mono h (fun x s1 h1 => wpAny_pure ?_) fun _ _ z => z))
 dsimp only
 rw [List.forIn_cons]
 refine wpAny_bind (wpAny_bind (wpAny_mono h1 (fun y s2 h2 => wpAny_pure ?_) fun _ _ z => z))
 dsimp only
 rw [List.forIn_cons]
 refine wpAny_bind (wpAny_bind (wpAny_mono h2 (fun y s3 h3 => wpAny_pure ?_) fun _ _ z => z))
 dsimp only
 rw [List.forIn_nil]
 refine wpAny_pure ?_
 exact wpAny_bind (wpAny_mkInt (wpAny_pure ⟨_, _, rfl, h3⟩))
def nH (a b : Int) : Int := PY (hashInt a) (hashInt b)
def q4H (x : Q4) : Int := PY (nH x.1 x.2.1) (nH x.2.2.1 x.2.2.2)
def skH (k : Sk) : Int := reduceHash (Builtin.Tuple.tupleHashOf [hashInt k.1, q4H k.2.1, q4H k.2.2])
theorem cB {a b : Int} {p : Addr} {Q : Int → Shared → Prop} (hA : A.units < cLine) (h : IsN s.heap a b p) (q : Q (nH a b) { s with toks := s.toks + 3 }) : wpAny (model prog w) A (pyHash (.ref p)) Q E s := by
 obtain ⟨ta, tb, h⟩ := h
 exact GE h hA (wpAny_pyHash_int (wpAny_pyHash_int q))
theorem eR {x : Q4} {p : Addr} {Q : Int → Shared → Prop} (hA : A.units + 1 < cLine) (h : IsQ s.heap x p) (q : Q (q4H x) { s with toks := s.toks + 7 }) : wpAny (model prog w) A (pyHash (.ref p)) Q E s := by
 obtain ⟨u, v, h, h1, h2⟩ := h
 refine GE h (by omega) (cB (show A.units + 1 < cLine by omega) h1 ?_)
 exact cB (s := { s with toks := s.toks + 3 }) (show A.units + 1 < cLine by omega) h2 q
theorem iW {k : Sk} {a : Addr} {Q : Int → Shared → Prop} (hA : A.units + 2 < cLine) (h : FH s.heap k a) (q : Q (skH k) { s with toks := s.toks + 16 }) : wpAny (model prog w) A (pyHash (.ref a)) Q E s := by
 obtain ⟨t, p, r, h, h1, h2⟩ := h
 refine dE h (by omega) (wpAny_pyHash_int ?_)
 refine eR (s := { s with toks := s.toks + 1 }) (show A.units + 1 + 1 < cLine by omega) h1 ?_
 exact eR (s := { s with toks := s.toks + 1 + 7 }) (show A.units + 1 + 1 < cLine by omega) h2 q
theorem nQ {a b : Addr} {u v z u' v' z' : Value} {k1 k2 k3 : Bool} (h1 : IsTup s.heap a #[u, v, z]) (h2 : IsTup s.heap b #[u', v', z']) (hA : A.units < cLine) (e1 : SeqAt.EqAt A.in1 s u u' k1) (e2 : SeqAt.EqAt A.in1 s v v' k2) (e3 : SeqAt.EqAt A.in1 s z z' k3) (hs : a ≠ b) : SeqAt.EqAt A s (.ref a) (.ref b) (k1 && (k2 && k3)) := by
 have key := SeqAt.RcAt.tuples (e := fun j => if j = 0 then k1 else if j = 1 then k2 else k3) h1 h2 hA (fun j g1 g2 => by
  have hj : j = 0 ∨ j = 1 ∨ j = 2 := by simp at g1; omega
  rcases hj with rfl | rfl | rfl
  ·exact e1
  ·exact e2
  ·exact e3)
 refine SeqAt.EqAt.of_refs hs ?_
 have e : ((List.range (min (#[u, v, z] : Array Value).size (#[u', v', z'] : Array Value).size)).all (fun j => if j = 0 then k1 else if j = 1 then k2 else k3) && (#[u, v, z] : Array Value).size == (#[u', v', z'] : Array Value).size) = (k1 && (k2 && k3)) := by
  cases k1 <;> cases k2 <;> cases k3 <;> rfl
 rw [e] at key
 exact key
theorem dQ {h : Heap} {a b c d : Int} {p : Addr} (h1 : IsN h a b p) (h2 : IsN h c d p) : a = c ∧ b = d := by
 obtain ⟨_, _, h1⟩ := h1
 obtain ⟨_, _, h2⟩ := h2
 have := DB h1 h2
 simp at this
 exact ⟨this.1.1, this.2.1⟩
theorem aN {h : Heap} {x y : Q4} {p : Addr} (h1 : IsQ h x p) (h2 : IsQ h y p) : x = y := by
 obtain ⟨u, v, h1, n1, m1⟩ := h1
 obtain ⟨u', v', h2, n2, m2⟩ := h2
 have := DB h1 h2
 simp at this
 obtain ⟨rfl, rfl⟩ := this
 obtain ⟨a1, a2⟩ := dQ n1 n2
 obtain ⟨a3, a4⟩ := dQ m1 m2
 exact Prod.ext a1 (Prod.ext a2 (Prod.ext a3 a4))
theorem kH {h : Heap} {k l : Sk} {a : Addr} (h1 : FH h k a) (h2 : FH h l a) : k = l := by
 obtain ⟨t, p, q, h1, n1, m1⟩ := h1
 obtain ⟨t', p', q', h2, n2, m2⟩ := h2
 have := DB h1 h2
 simp at this
 obtain ⟨⟨e, _⟩, rfl, rfl⟩ := this
 exact Prod.ext e (Prod.ext (aN n1 n2) (aN m1 m2))
theorem oE {a b c d : Int} {p q : Addr} (hA : A.units < cLine) (h1 : IsN s.heap a b p) (h2 : IsN s.heap c d q) : SeqAt.EqAt A s (.ref p) (.ref q) ((a == c) && (b == d)) := by
 obtain ⟨_, _, g1⟩ := id h1
 obtain ⟨_, _, g2⟩ := id h2
 exact JT g1 g2 hA (SeqAt.EqAt.int_int _ _ _ _) (SeqAt.EqAt.int_int _ _ _ _) (by
  rintro rfl
  obtain ⟨rfl, rfl⟩ := dQ h1 h2
  simp)
theorem nZ {x y : Q4} {p q : Addr} (hA : A.units + 1 < cLine) (h1 : IsQ s.heap x p) (h2 : IsQ s.heap y q) : SeqAt.EqAt A s (.ref p) (.ref q) (decide (x = y)) := by
 obtain ⟨u, v, g1, n1, m1⟩ := id h1
 obtain ⟨u', v', g2, n2, m2⟩ := id h2
 have e : decide (x = y) = (((x.1 == y.1) && (x.2.1 == y.2.1)) && ((x.2.2.1 == y.2.2.1) && (x.2.2.2 == y.2.2.2))) := by
  obtain ⟨x1, x2, x3, x4⟩ := x
  obtain ⟨y1, y2, y3, y4⟩ := y
  rw [Bool.eq_iff_iff]
  simp [Prod.ext_iff, and_assoc]
 rw [e]
 refine JT g1 g2 (by omega) (oE (show A.units + 1 < cLine by omega) n1 n2) (oE (show A.units + 1 < cLine by omega) m1 m2) ?_
 rintro rfl
 rw [← e]
 exact decide_eq_true (aN h1 h2)
theorem oQ {k l : Sk} {a b : Addr} {Q : Bool → Shared → Prop} (hA : A.units + 2 < cLine) (h1 : FH s.heap k a) (h2 : FH s.heap l b) (ne : k ≠ l) (q : Q false s) : wpAny (model prog w) A (eqBool (.ref a) (.ref b)) Q E s := by
 have hab : a ≠ b := fun e => by subst e; exact ne (kH h1 h2)
 obtain ⟨t, p, r, g1, n1, m1⟩ := h1
 obtain ⟨t', p', r', g2, n2, m2⟩ := h2
 refine nQ g1 g2 (by omega) (SeqAt.EqAt.int_int _ _ _ _) (nZ (show A.units + 1 + 1 < cLine by omega) n1 n2) (nZ (show A.units + 1 + 1 < cLine by omega) m1 m2) hab prog w E Q ?_
 have e : ((k.1 == l.1) && (decide (k.2.1 = l.2.1) && decide (k.2.2 = l.2.2))) = false := by
  cases z : ((k.1 == l.1) && (decide (k.2.1 = l.2.1) && decide (k.2.2 = l.2.2))) with
  | false => rfl
  | true =>
   simp at z
   exact absurd (Prod.ext z.1 (Prod.ext z.2.1 z.2.2)) ne
 rw [e]
 exact q
end
end L2
namespace L2
open PySem PySem.Spec PyProof.Rows Tab
section
variable {prog : Program} {w : World} {A : Around} {E : Value → Shared → Prop} {s : Shared}
structure LF (R : Sk → Addr → Prop) (h : Heap) (S : Addr) (es : Array (Int × Value)) (t : SetTable) (ks : List Sk) : Prop where
 ex : ∃ o ep, h.get? S = some o ∧ o.ExactSet ∧ o.data = .set es ep t
 mask : Tab.Mk t.mask
 dm : t.dummies = #[]
 sz : t.place.size = es.size
 sm : es.size * 5 < t.mask * 3
 el : ∀ e ∈ es.toList, ∃ l a, e = (skH l, Value.ref a) ∧ R l a ∧ l ∈ ks
 nn : es.size = ks.length
theorem LF.fit {R : Sk → Addr → Prop} {h : Heap} {S : Addr} {es : Array (Int × Value)} {t : SetTable} {ks : List Sk} (z : LF R h S es t ks) : t.fits es.size = true := by
 unfold SetTable.fits SetTable.fill
 rw [z.dm, z.sz]
 have := z.sm
 simp
 omega
theorem gD {b : Addr} {k : Sk} (hb : FH s.heap k b) : ∀ (ys : List Value), (∀ y ∈ ys, ∃ l a, y = Value.ref a ∧ FH s.heap l a) → wpAny (model prog w) A (searchCouldBeSeen (.ref b) ys) (fun r s1 => r = false ∧ s1 = s) E s := by
 intro ys hy
 unfold searchCouldBeSeen
 refine wpAny_bind ?_
 induction ys with
 | nil =>
  rw [List.forIn_nil]
  exact wpAny_pure (wpAny_pure ⟨rfl, rfl⟩)
 | cons y ys ih =>
  obtain ⟨l, a, rfl, ha⟩ := hy y List.mem_cons_self
  have ih' := ih fun y h => hy y (List.mem_cons_of_mem _ h)
  rw [List.forIn_cons]
  refine wpAny_bind ?_
  dsimp only
  by_cases c : ((b == a) || carriedByValue (Value.ref b) && carriedByValue (Value.ref a)) = true
  ·rw [if_pos c]
   exact wpAny_pure ih'
  rw [if_neg c]
  refine wpAny_bind (wpAny_mono (SD hb) (fun r s1 hr => ?_) fun _ _ z => z)
  obtain ⟨rfl, rfl⟩ := hr
  rw [if_neg (by decide)]
  refine wpAny_bind (wpAny_mono (SD ha) (fun r s1 hr => ?_) fun _ _ z => z)
  obtain ⟨rfl, rfl⟩ := hr
  rw [if_neg (by decide)]
  refine wpAny_bind (wpAny_mono (fD hb) (fun r s1 hr => ?_) fun _ _ z => z)
  obtain ⟨rfl, rfl⟩ := hr
  rw [if_neg (by decide)]
  refine wpAny_bind (wpAny_mono (fD ha) (fun r s1 hr => ?_) fun _ _ z => z)
  obtain ⟨rfl, rfl⟩ := hr
  rw [if_neg (by decide)]
  exact wpAny_pure ih'
theorem bZ {α : Type} {b : Addr} {k : Sk} {t : SetTable} {ys : List Value} {G G' : Sem α} {Q : α → Shared → Prop} (hb : FH s.heap k b) (hy : ∀ y ∈ ys, ∃ l a, y = Value.ref a ∧ FH s.heap l a) (h : wpAny (model prog w) A G Q E s) :
  wpAny (model prog w) A (if (!t.led) = true then (searchCouldBeSeen (.ref b) ys >>= fun r => if r = true then G' else G) else G) Q E s := by
 by_cases c : (!t.led) = true
 ·rw [if_pos c]
  refine wpAny_bind (wpAny_mono (gD hb ys hy) (fun r s1 hr => ?_) fun _ _ z => z)
  obtain ⟨rfl, rfl⟩ := hr
  rw [if_neg (by decide)]
  exact h
 ·rw [if_neg c]
  exact h
theorem LU {R : Sk → Addr → Prop} {S b : Addr} {es : Array (Int × Value)} {t : SetTable} {ks : List Sk} {k : Sk} {h : Int} {Q : SetFound → Shared → Prop} (hA : A.units + 2 < cLine) (hR : ∀ l a, R l a → FH s.heap l a) (z : LF R s.heap S es t ks) (hb : FH s.heap k b) (nk : k ∉ ks) (q : ∀ j, j ≤ t.mask → Q (.free j false) s) :
  ∀ fuel d (stand : Option SetTable.Probe) (p : SetTable.Probe), stand.getD (t.probeStart h) = p → POk t p → Emp t d p → d ≤ 10 * (t.mask + 14) → d < fuel → wpAny (model prog w) A (setSearchFrom S (.ref b) h true fuel stand) Q E s
 | 0, d, stand, p, _, _, _, _, hf => absurd hf (by omega)
 | fuel + 1, d, stand, p, ep, po, em, hd, hf => by
  obtain ⟨o, epo, ho, hx, hdat⟩ := z.ex
  have key : ∀ F r, t.probe F h p = r → (∃ j, r = some (.empty j none) ∧ j ≤ t.mask ∧ t.slot j = .empty) ∨ ∃ j i next, r = some (.candidate j i next) ∧ t.slot j = .live i ∧ t.place[i]? = some j ∧ F i = h ∧ POk t next ∧ ∃ d', d' < d ∧ Emp t d' next := fun F r e => by
   subst e
   exact ZR z.mask z.dm po em hd
  unfold setSearchFrom
  refine wpAny_bind (wpAny_setState_of ho hdat z.fit ?_)
  dsimp only
  have gw : t.gaveWay = false := by
   unfold SetTable.gaveWay
   rcases z.mask with e | e | e <;> rw [e] <;> decide
  rw [gw, if_neg Bool.false_ne_true]
  rw [ep]
  rcases key _ _ rfl with ⟨j, e, hj, _⟩ | ⟨j, i, next, e, sl, pj, hh, pn, d', dl, en⟩
  ·rw [e]
   exact wpAny_pure (q j hj)
  rw [e]
  dsimp only
  have il : i < es.size := by
   rw [← z.sz]
   exact (Array.getElem?_eq_some_iff.mp pj).1
  obtain ⟨l, a, ee, ha, hl⟩ := z.el es[i] (by simp)
  have ei : es[i]? = some (skH l, Value.ref a) := by rw [Array.getElem?_eq_getElem il, ee]
  refine bZ hb (fun y hy => ?_) ?_
  ·obtain ⟨e0, he0, rfl⟩ := List.mem_map.mp hy
   have he1 : e0 ∈ es.toList := by
    have := Array.mem_toList_iff.mp he0
    rw [Array.mem_filter] at this
    simpa using this.1
   obtain ⟨l, a, rfl, ha, _⟩ := z.el e0 he1
   exact ⟨l, a, rfl, hR _ _ ha⟩
  rw [ei]
  dsimp only
  refine wpAny_bind (wpAny_holding (oQ hA (hR _ _ ha) hb (fun y => nk (y ▸ hl)) ?_))
  refine wpAny_bind (wpAny_setState_of ho hdat z.fit ?_)
  dsimp only
  rw [if_neg (by decide)]
  have sm : t.sameMemory t.moves t.mask = some true := by unfold SetTable.sameMemory; rw [if_pos (by simp)]
  rw [sm]
  dsimp only
  rw [if_pos rfl, sl]
  dsimp only
  rw [ei]
  dsimp only
  refine wpAny_bind (wpAny_isSame_ref_self ?_)
  refine wpAny_bind (wpAny_pure ?_)
  rw [if_pos rfl]
  dsimp only
  rw [if_neg Bool.false_ne_true]
  exact LU hA hR z hb nk q fuel d' (some next) next rfl pn en (by omega) (by omega)
theorem bP {h h' : Heap} {k : Sk} {a : Addr} (hk : FH h k a) (kp : ∀ p o, h.get? p = some o → h'.get? p = some o) : FH h' k a := by
 have kp : ∀ {p : Addr} {xs : Array Value}, IsTup h p xs → IsTup h' p xs := fun {p xs} ⟨o', e', c, n, dd⟩ => ⟨o', kp _ _ e', c, n, dd⟩
 obtain ⟨t, p, q, h0, ⟨u1, v1, h1, ⟨_, _, n1⟩, _, _, m1⟩, u2, v2, h2, ⟨_, _, n2⟩, _, _, m2⟩ := hk
 exact ⟨t, p, q, kp h0, ⟨u1, v1, kp h1, ⟨_, _, kp n1⟩, _, _, kp m1⟩, u2, v2, kp h2, ⟨_, _, kp n2⟩, _, _, kp m2⟩
theorem gC {R : Sk → Addr → Prop} {S b : Addr} {es : Array (Int × Value)} {t : SetTable} {ks : List Sk} {k : Sk} {Q : Bool → Shared → Prop} (hA : A.units + 2 < cLine) (hR : ∀ l a, R l a → FH s.heap l a) (z : LF R s.heap S es t ks) (hb : FH s.heap k b) (rb : R k b) (nk : k ∉ ks) (hn : ks.length < 60)
  (q : ∀ h' es' t', Heap.SameBut S s.heap h' → LF R h' S es' t' (k :: ks) → Q true { s with heap := h' }) : wpAny (model prog w) A (setAddHashed S (.ref b) (skH k)) Q E s := by
 unfold setAddHashed
 refine wpAny_holding ?_
 obtain ⟨o, epo, ho, hx, hdat⟩ := z.ex
 rw [show (100000 : Nat) = 99999 + 1 from rfl]
 unfold setAddHashedIn
 refine wpAny_bind (wpAny_setState_of ho hdat z.fit ?_)
 dsimp only
 have bs : byScan (.ref b) es = false := rfl
 rw [bs, if_neg Bool.false_ne_true]
 unfold setSearch
 have sm : es.size ≤ t.mask := by have := z.sm; omega
 refine wpAny_bind (LU hA hR z hb nk (fun j hj => ?_) 100000 (10 * (t.mask + 14)) none _ rfl (ST t (skH k)) (lH z.mask z.dm (by rw [z.sz]; exact sm) (ST t (skH k))) (Nat.le_refl _) (by rcases z.mask with e | e | e <;> rw [e] <;> decide))
 dsimp only
 refine wpAny_bind (wpAny_setState_of ho hdat z.fit ?_)
 dsimp only
 obtain ⟨d1, m1, p1⟩ := mJ z.dm j
 generalize (t.put j).2 = p at *
 generalize ht1 : (t.put j).1 = t1 at *
 have hs1 := JJ es p (skH k, Value.ref b)
 have hm1 : ∀ e ∈ (SetTable.insertAt es p (skH k, Value.ref b)).toList, ∃ l a, e = (skH l, Value.ref a) ∧ R l a ∧ l ∈ k :: ks := fun e he => by
  rcases QN he with rfl | he
  ·exact ⟨k, b, rfl, rb, List.mem_cons_self⟩
  ·obtain ⟨l, a, e1, e2, e3⟩ := z.el e he
   exact ⟨l, a, e1, e2, List.mem_cons_of_mem _ e3⟩
 generalize SetTable.insertAt es p (skH k, Value.ref b) = es1 at *
 have hnn := z.nn
 have hsm := z.sm
 have fr : ∀ (es : Array (Int × Value)) (t : SetTable) (o : Obj), o.ExactSet → (∃ es ep t, o.data = .set es ep t) → (Obj.putSet es t o).isFreed = false := fun es t o hx ⟨_, _, _, e⟩ => by
  rw [putSet_of es t e]
  rfl
 have fin : wpAny (model prog w) A (do
   storeSet S es1 t1
   if (!false && t1.tooFull) = true then do
    setRelay S (SetTable.grown (es.size + 1))
    pure true
   else pure true) Q E s := by
  refine wpAny_bind (wpAny_storeSet_of ho hdat ?_ (by rw [hs1, sizeLine_eq]; omega))
  have hg1 := Heap.get?_update_self (Obj.putSet es1 t1) ho (fr es1 t1 o hx ⟨_, _, _, hdat⟩)
  rw [putSet_of es1 t1 hdat] at hg1
  have sb1 := Heap.SameBut.update s.heap S (Obj.putSet es1 t1)
  by_cases c : (!false && t1.tooFull) = true
  ·rw [if_pos c]
   have c' : (t1.place.size + t1.dummies.size) * 5 ≥ t1.mask * 3 := by
    simpa [SetTable.tooFull, SetTable.fill] using c
   rw [d1, p1, z.sz, m1] at c'
   simp only [List.size_toArray, List.length_nil, Nat.add_zero] at c'
   obtain ⟨mk2, big, gl⟩ : Tab.Mk (SetTable.sizeAbove (SetTable.grown (es.size + 1)) - 1) ∧ (es.size + 1) * 5 < (SetTable.sizeAbove (SetTable.grown (es.size + 1)) - 1) * 3 ∧ SetTable.sizeAbove (SetTable.grown (es.size + 1)) ≤ 1000 := by
    rcases z.mask with e | e | e <;> rw [e] at c' hsm
    ·rw [show es.size + 1 = 5 by omega]; exact ⟨.inr (.inl rfl), by decide, by decide⟩
    ·rw [show es.size + 1 = 19 by omega]; exact ⟨.inr (.inr rfl), by decide, by decide⟩
    ·omega
   have fit1 : t1.fits es1.size = true := by
    unfold SetTable.fits SetTable.fill
    rw [d1, p1, z.sz, hs1, m1]
    have : 7 ≤ t.mask := by rcases z.mask with e | e | e <;> omega
    simp
    omega
   refine wpAny_bind ?_
   unfold setRelay
   refine wpAny_bind (wpAny_setState_of hg1 rfl fit1 ?_)
   dsimp only
   rw [if_neg (by rw [sizeLine_eq]; omega)]
   obtain ⟨t2, ord, er, mq, dq, pq, oq, lq, _, _⟩ := YR t1 (es1.map (·.1)) (SetTable.grown (es.size + 1)) mk2 (by rw [Array.size_map, hs1]; omega)
   rw [Array.size_map] at pq oq lq
   rw [er]
   have sz2 : (ord.filterMap fun x => es1[x]?).size = es1.size := by
    have e : (ord.filterMap fun x => es1[x]?).toList.length = ord.toList.length := by
     rw [Array.toList_filterMap, List.length_filterMap_eq_countP]
     refine List.countP_eq_length.mpr fun x hx => ?_
     rw [Array.getElem?_eq_getElem (lq x hx)]
     rfl
    rw [Array.length_toList, Array.length_toList] at e
    exact e.trans oq
   have el2 : ∀ e ∈ (ord.filterMap fun x => es1[x]?).toList, e ∈ es1.toList := fun e he => by
    rw [Array.toList_filterMap] at he
    obtain ⟨x, _, ex⟩ := List.mem_filterMap.mp he
    have := Array.mem_of_getElem? ex
    simpa using this
   refine wpAny_bind ?_
   change wpAny _ _ (ite _ _ _) _ _ _
   rw [if_neg (by simp [sz2])]
   refine wpAny_pure ?_
   dsimp only
   generalize (ord.filterMap fun x => es1[x]?) = es2 at sz2 el2
   refine wpAny_storeSet_of hg1 rfl ?_ (by rw [sz2, hs1, sizeLine_eq]; omega)
   have hg2 := Heap.get?_update_self (Obj.putSet es2 t2) hg1 (fr es2 t2 _ hx ⟨_, _, _, rfl⟩)
   have sb2 := Heap.SameBut.update (s.heap.update S (Obj.putSet es1 t1)) S (Obj.putSet es2 t2)
   refine wpAny_pure (q _ es2 t2 (sb1.trans sb2) ⟨⟨_, _, hg2, hx, rfl⟩, by rw [mq]; exact mk2, dq, by rw [pq, sz2], by rw [sz2, hs1, mq]; exact big, fun e he => hm1 e (el2 e he), by rw [sz2, hs1, hnn]; rfl⟩)
  ·rw [if_neg c]
   refine wpAny_pure (q _ es1 t1 sb1 ⟨⟨_, _, hg1, hx, rfl⟩, by rw [m1]; exact z.mask, d1, by rw [p1, z.sz, hs1], ?_, hm1, by rw [hs1, hnn]; rfl⟩)
   have c' : ¬ (t1.place.size + t1.dummies.size) * 5 ≥ t1.mask * 3 := by
    simpa [SetTable.tooFull, SetTable.fill] using c
   rw [d1, p1, z.sz] at c'
   rw [hs1]
   simp at c'
   omega
 by_cases pl : t1.plain = true
 ·rw [if_pos pl]
  refine wpAny_bind (wpAny_mono (kO hb) (fun r s1 hr => ?_) fun _ _ z => z)
  obtain ⟨rfl, rfl⟩ := hr
  simp only [↓reduceIte]
  exact fin
 ·rw [if_neg pl]
  refine wpAny_bind (wpAny_pure ?_)
  simp only [↓reduceIte]
  exact fin
end
end L2
namespace L2
open PySem PySem.Spec PyProof.Rows Tab
section
variable {prog : Program} {w : World} {A : Around} {E : Value → Shared → Prop} {s : Shared}
theorem LF.mv {R : Sk → Addr → Prop} {h h' : Heap} {S : Addr} {es : Array (Int × Value)} {t : SetTable} {ks : List Sk} (z : LF R h S es t ks) (e : ∀ o, h.get? S = some o → h'.get? S = some o) : LF R h' S es t ks := ⟨let ⟨o, ep, a, b, c⟩ := z.ex; ⟨o, ep, e _ a, b, c⟩, z.mask, z.dm, z.sz, z.sm, z.el, z.nn⟩
theorem bN {RR : Result → Shared → Prop} {I S : Addr} {fp wr : List Addr} {n : Nat} {P : Nat → Value → Prop} {T : Nat → Shared → Prop} {G : Array GenState → Array GenState → Prop} {h0 : Heap} {kk : Nat → Sk}
  (W : WalksS prog w A.in1 I fp wr G n P T) (nf : S ∉ fp) (hA : A.units + 3 < cLine) (hn : n < 60) (val : ∀ i v, P i v → ∃ a, v = Value.ref a ∧ FH h0 (kk i) a) (un : ∀ i j, i < n → j < n → kk i = kk j → i = j)
  (S0 : h0.get? S = none) (w0 : ∀ b ∈ wr, h0.get? b = none) :
  ∀ (m i : Nat) (s : Shared) (es : Array (Int × Value)) (t : SetTable) (ks : List Sk), i + m = n → T i s → (∀ b o, h0.get? b = some o → s.heap.get? b = some o) → LF (FH h0) s.heap S es t ks → ks.length = i → (∀ k ∈ ks, ∃ j, j < i ∧ k = kk j) →
   (∀ s' es' t' ks', Moved (S :: wr) G s s' → LF (FH h0) s'.heap S es' t' ks' → ks'.length = n → RR (.ok (.ret .none)) s') →
   codeAny (model prog w) A (.builtin "set.update.loop" ⟨[.ref S, .ref I], []⟩) RR s := by
 have nw : S ∉ wr := fun h => nf (W.sub _ h)
 intro m
 induction m with
 | zero =>
  intro i s es t ks hi hT k0 z hl hin fin
  have e : i = n := by omega
  subst e
  refine codeAny_builtin F.entry_set_update_loop ?_; rw [Around.under_plainId F.plain_set_update_loop _]; show wpAny _ A.in1 (pyNext (.ref I) >>= _) _ _ s
  refine wpAny_bind (W.done s _ _ hT fun s' hm => ?_)
  show wpAny _ A.in1 (ret Value.none) _ _ s'
  exact wpAny_pure (fin s' es t ks (hm.mono fun b hb => List.mem_cons_of_mem _ hb) (z.mv fun o e => hm.heap S o nw e) hl)
 | succ m ih =>
  intro i s es t ks hi hT k0 z hl hin fin
  refine codeAny_builtin F.entry_set_update_loop ?_; rw [Around.under_plainId F.plain_set_update_loop _]; show wpAny _ A.in1 (pyNext (.ref I) >>= _) _ _ s
  refine wpAny_bind (W.item i s _ _ (by omega) hT fun v s' hP hT' hm => ?_)
  obtain ⟨a, rfl, ha⟩ := val i v hP
  have k1 : ∀ b o, h0.get? b = some o → s'.heap.get? b = some o := fun b o e => hm.heap b o (fun hb => by rw [w0 b hb] at e; cases e) (k0 b o e)
  have z1 := z.mv (h' := s'.heap) fun o e => hm.heap S o nw e
  have R1 : ∀ l a, FH h0 l a → FH s'.heap l a := fun l a h => bP h k1
  show wpAny _ A.in1 (holding [Value.ref a] (setAdd S (.ref a)) >>= _) _ _ s'
  refine wpAny_bind (wpAny_holding ?_)
  unfold setAdd
  refine wpAny_holding ?_
  refine wpAny_bind (iW (show A.units + 1 + 2 < cLine by omega) (R1 _ _ ha) ?_)
  refine gC (s := { s' with toks := s'.toks + 16 }) (show A.units + 1 + 2 < cLine by omega) R1 z1 (R1 _ _ ha) ha (fun hk => ?_) (by omega) fun h' es' t' sb z2 => ?_
  ·obtain ⟨j, hj, e⟩ := hin _ hk
   have := un i j (by omega) (by omega) e
   omega
  ·have nS : ∀ b, b ∈ fp → b ≠ S := fun b hb e => nf (by rw [← e]; exact hb)
   refine wpAny_pure ⟨plainId_quiet F.plain_set_update_loop _, ih (i + 1) _ es' t' (kk i :: ks) (by omega) (W.frame _ s' _ _ hT' (Nat.le_add_right _ _) fun b hb o e => ?_) (fun b o e => ?_) z2 (by rw [List.length_cons]; omega) (fun k hk => ?_) fun s'' es'' t'' ks'' hm'' z3 l3 => ?_⟩
   ·rw [sb.2 b (nS b hb)]; exact e
   ·show h'.get? b = some o
    rw [sb.2 b (fun z => by rw [z, S0] at e; cases e)]; exact k1 b o e
   ·rcases List.mem_cons.mp hk with rfl | hk
    ·exact ⟨i, by omega, rfl⟩
    ·obtain ⟨j, hj, e⟩ := hin k hk
     exact ⟨j, by omega, e⟩
   ·refine fin s'' es'' t'' ks'' (Moved.trans W.gtrans ((hm.mono fun b hb => List.mem_cons_of_mem _ hb).then_heap (Nat.le_add_right _ _) fun b o hb e => ?_) hm'') z3 l3
    rw [sb.2 b (fun z => hb (by rw [z]; exact List.mem_cons_self))]; exact e
theorem mT {h : Heap} {S : Addr} {led : Bool} {R : Sk → Addr → Prop} (e : h.get? S = some { cls := .type "set", dict := none, data := .set #[] 0 (.fresh 0 0 led) }) : LF R h S #[] (.fresh 0 0 led) [] :=
 ⟨⟨_, _, e, ⟨rfl, rfl, rfl⟩, rfl⟩, .inl rfl, rfl, rfl, (show 0 * 5 < 7 * 3 by decide), (fun e he => by simp at he), rfl⟩
theorem QU {l : Addr} {items : Array Value} {ks : List Sk} {Q : Value → Shared → Prop} (hh : A.handled = none) (hA : A.units + 8 < cLine) (ht : IsTup s.heap l items) (hz : items.size = ks.length) (hk : ∀ (i : Nat) (v : Value), items[i]? = some v → ∃ a k, v = Value.ref a ∧ ks[i]? = some k ∧ FH s.heap k a) (nd : ks.Nodup) (hn : ks.length < 60)
  (q : ∀ (h' : Heap) (tk : Nat) es t ls, LF (fun _ _ => True) h' s.heap.objs.size es t ls → ls.length = ks.length → (∀ b o, s.heap.get? b = some o → h'.get? b = some o) → Q (.ref s.heap.objs.size) { s with heap := h', toks := tk }) :
  wpAny (model prog w) A (call (.type "set") [.ref l]) Q E s := by
 obtain ⟨c, tl, hmro⟩ := F.called_set.mro
 have hmade := F.called_set.made; have hsub := F.called_set.sub
 refine wpAny_call (codeAny_of_tree ?_)
 show wpAny _ _ (callAny (.type "set") _) _ _ _; refine wpAny_pure ⟨Code.quiet_builtin _ (by decide +kernel), codeAny_builtin F.entry_type_call ?_⟩
 rw [Around.under_plain (weight_type_call_type "set" [.ref l] []) rfl]
 have h1 := F.called_set.notType; have h2 := F.called_set.canCreate; have hct := F.typeCall_set_1 (.ref l)
 repeat (any_goals (first | assumption | wp_step))
 have hl := ht
 obtain ⟨ol, eol, ccl, nl, ddl⟩ := hl
 obtain ⟨cl', dc', da', sl'⟩ := ol
 dsimp only at ccl ddl
 subst ccl ddl
 have lS : l < s.heap.objs.size := Heap.lt_size eol
 refine codeAny_mono (code_set_new_1 (.ref l) (E := E) (Q₁ := fun v s₁ => ∃ led : Bool, v = .ref s.heap.objs.size ∧ s₁ = { s with heap := s.heap.push { cls := .type "set", dict := none, data := .set #[] 0 (.fresh 0 0 led) } }) fun led => ⟨led, rfl, rfl⟩) fun r s₁ hr => ?_
 cases r with
 | error e => exact hr
 | ok f1 =>
  cases f1 with
  | ret v =>
   obtain ⟨led, rfl, rfl⟩ := hr
   generalize hH : s.heap.push { cls := .type "set", dict := none, data := .set #[] 0 (.fresh 0 0 led) } = hp
   have eS : hp.get? s.heap.objs.size = some { cls := .type "set", dict := none, data := .set #[] 0 (.fresh 0 0 led) } := by rw [← hH]; exact Heap.get?_push_size _ rfl
   have old : ∀ b o, s.heap.get? b = some o → hp.get? b = some o := fun b o e => by rw [← hH]; exact Heap.get?_push_of_some _ e
   have szp : hp.objs.size = s.heap.objs.size + 1 := by rw [← hH, Heap.size_push]
   have tyS : Shared.TypeIs { s with heap := hp } (.ref s.heap.objs.size) "set" := ⟨_, eS, rfl⟩
   have hli := F.called_set.init.lookup; have hbi := F.called_set.init.bind (.ref s.heap.objs.size)
   repeat (any_goals (first | assumption | wp_step))
   refine codeAny_mono (codeAny_call_builtin (R := wants (fun r s₂ => r = .none ∧ ∃ h' tk es t ls, s₂ = { s with heap := h', toks := tk } ∧ LF (fun _ _ => True) h' s.heap.objs.size es t ls ∧ ls.length = ks.length ∧ ∀ b o, s.heap.get? b = some o → h'.get? b = some o) E) F.called_set.init.plain F.entry_set_init (check_set_init_1 tyS ?_)) fun r₂ s₂ hr₂ => ?_
   ·have eol' := old _ _ eol
    have hs1 := F.sub_tuple_set
    have hs2 := F.sub_tuple_frozenset
    have hne : (Value.type "tuple" == Value.type "dict") = false := by decide
    have ht1 : hp.IsTuple l items := ⟨_, eol', rfl, nl, rfl⟩
    unfold Builtin.«set.__init__» noKeywords Builtin.Frozenset.updateFrom
    generalize hPI : pyIter = PI
    wp_walk
    subst hPI
    refine wpAny_pyIter_tuple ht1 ?_
    refine wpAny_bind (wpAny_runValue ?_)
    have hh3 : A.in1.in1.in1.handled = none := by simp [hh]
    have nI : l ≠ hp.objs.size := by rw [szp]; exact Nat.ne_of_lt (Nat.lt_succ_of_lt lS)
    have none_of : ∀ b, s.heap.objs.size ≤ b → s.heap.get? b = none := fun b hb => by
     cases e : s.heap.get? b with
     | none => rfl
     | some o => exact absurd (Nat.lt_of_lt_of_le (Heap.lt_size e) hb) (Nat.lt_irrefl _)
    refine bN (h0 := s.heap) (kk := fun i => ks.getD i (0, (0, 0, 0, 0), (0, 0, 0, 0))) ((Walks.tuple hh3 hp.objs.size l nI items).toS) ?_ (show A.units + 1 + 1 + 3 < cLine by omega) (by rw [hz]; exact hn) (fun i v e => ?_) (fun i j hi hj e => ?_) (none_of _ (Nat.le_refl _)) (fun b hb => ?_)
     items.size 0 _ #[] (.fresh 0 0 led) [] (by omega) ?_ (fun b o e => Heap.get?_push_of_some _ (old b o e)) (mT (Heap.get?_push_of_some _ eS)) rfl (fun k hk => by cases hk) fun s' es' t' ls hm z zl => ?_
    ·rw [szp]
     simp only [List.mem_cons, List.not_mem_nil, or_false, not_or]; exact ⟨Nat.ne_of_lt (Nat.lt_succ_self _), Nat.ne_of_gt lS⟩
    ·obtain ⟨a, k, rfl, ek, hka⟩ := hk i v e
     refine ⟨a, rfl, ?_⟩
     rw [List.getD_eq_getElem?_getD, ek]
     exact hka
    ·rw [hz] at hi hj
     rw [List.getD_eq_getElem?_getD, List.getD_eq_getElem?_getD, List.getElem?_eq_getElem hi, List.getElem?_eq_getElem hj] at e
     exact (List.getElem_inj nd).mp e
    ·rw [List.mem_singleton.mp hb, szp]
     exact none_of _ (Nat.le_succ _)
    ·exact ⟨⟨_, Heap.get?_push_size _ rfl, rfl, rfl⟩, ht1.push _⟩
    ·obtain ⟨h', g', d', tk', os'⟩ := s'
     have eg : g' = s.gens := hm.gens; have ed : d' = s.drawn := hm.drawn; have eo : os' = s.os := hm.os
     subst eg ed eo
     show wpAny _ _ _ _ _ _; refine wpAny_pure ?_
     show wpAny _ _ (ret Value.none) _ _ _; refine wpAny_pure ⟨rfl, h', tk', es', t', ls, rfl, ⟨z.ex, z.mask, z.dm, z.sz, z.sm, (fun e he => let ⟨l, a, e1, _, e3⟩ := z.el e he; ⟨l, a, e1, trivial, e3⟩), z.nn⟩, by rw [zl, hz], fun b o e => ?_⟩
     have lb := Heap.lt_size e
     refine hm.heap b o ?_ (Heap.get?_push_of_some _ (old b o e))
     rw [szp]
     simp only [List.mem_cons, List.not_mem_nil, or_false, not_or]; exact ⟨Nat.ne_of_lt lb, Nat.ne_of_lt (Nat.lt_succ_of_lt lb)⟩
   ·cases r₂ with
    | error e => exact hr₂
    | ok f2 =>
     cases f2 with
     | ret r =>
      obtain ⟨rfl, h', tk, es, t, ls, rfl, z, zl, kp⟩ := hr₂
      repeat (any_goals (first | assumption | wp_step))
      exact q _ _ _ _ _ z zl kp
     | _ => exact hr₂.elim
  | _ => exact hr.elim
end
end L2
namespace L2
open PySem PySem.Spec PyProof.Rows Tab
theorem jD {α β : Type} {F : α → β → Prop} : ∀ {l₁ : List α} {l₂ : List β} {i : Nat} {y : β}, Paired F l₁ l₂ → l₂[i]? = some y → ∃ x, l₁[i]? = some x ∧ F x y
 | _, _, i, x, .nil, e => by simp at e
 | _, _, 0, x, .cons h _, e => by
  simp at e
  subst e
  exact ⟨_, rfl, h⟩
 | _, _, i + 1, x, .cons _ t, e => by
  simp at e
  simpa using jD t e
section
variable {X : Cx} {pins : List (Addr × Obj)} {σ : St} {H : Hp} {s : Shared}
theorem oJ (I : Inv X pins σ H s) {a b : Int} {p : Addr} (h : Rp X.K H (num a b) (.ref p)) : IsN s.heap a b p := by
 obtain ⟨p', e, g⟩ := BC.mp h
 cases e
 obtain ⟨i1, v1, t1, _⟩ := I.tuple g
 obtain ⟨u, v, rfl, ⟨ta, rfl⟩, tb, rfl⟩ := HV v1
 exact ⟨ta, tb, t1⟩
theorem oG (I : Inv X pins σ H s) {x : Q4} {p : Addr} (h : Rp X.K H (q4D x) (.ref p)) : IsQ s.heap x p := by
 obtain ⟨p', y, z, e, g, h1, h2⟩ := BT.mp h
 cases e
 obtain ⟨i1, v1, t1, _⟩ := I.tuple g
 obtain ⟨a1, e1, _⟩ := BC.mp h1
 obtain ⟨a2, e2, _⟩ := BC.mp h2
 subst e1 e2
 obtain ⟨u, v, rfl, ru, rv⟩ := HV v1
 cases ru
 cases rv
 exact ⟨a1, a2, t1, oJ I h1, oJ I h2⟩
theorem pM (I : Inv X pins σ H s) {k : Sk} {p : Addr} (h : Rp X.K H (skD k) (.ref p)) : FH s.heap k p := by
 obtain ⟨p', y, z, e, g, h1, h2⟩ := CJ.mp h
 cases e
 obtain ⟨i1, v1, t1, _⟩ := I.tuple g
 obtain ⟨a1, _, _, e1, _⟩ := BT.mp h1
 obtain ⟨a2, _, _, e2, _⟩ := BT.mp h2
 subst e1 e2
 obtain ⟨u, v, w, rfl, ⟨ta, rfl⟩, rv, rw'⟩ := dC v1
 cases rv
 cases rw'
 exact ⟨ta, a1, a2, t1, oG I h1, oG I h2⟩
def bS (p : Addr) (n : Nat) : HO := .ext fun h => ∃ o es ep t, h.get? p = some o ∧ o.ExactSet ∧ o.data = .set es ep t ∧ t.fits es.size = true ∧ es.size = n
def aK (K : PySem.W.Frag) (xs : List V) (H : Hp) (Q : VK) : Prop := o1 xs fun x => CC x fun l => ∃ (vs : List V) (ks : List Sk), SqT K H l vs ∧ Paired (fun k v => Rp K H (skD k) v) ks vs ∧ ks.Nodup ∧ ks.length < 60 ∧ ∀ p, H p = none → Q (.ref p) (upd H p (bS p ks.length))
theorem YJ (hc : X.calm = true) (hu : X.A.units + 8 < cLine) : DE X (.type "set") (aK X.K) := by
 intro pins s σ H xs us Q I r h
 obtain ⟨x, rfl, h⟩ := o1.ex h
 obtain ⟨l, rfl, vs, ks, hq, hp, nd, hn, q⟩ := CC.ex h
 obtain ⟨u, rfl, ru⟩ := JV r
 cases ru
 obtain ⟨its, rv, p, hz⟩ := I.tuple hq
 have hl : its.length = ks.length := by rw [← rv.length, ← Paired.length hp]
 refine QU (ks := ks) (I.ok.hd hc) hu p (by rw [List.size_toArray, hl]) (fun i v e => ?_) nd hn fun h' tk es t ls z zl kp => ?_
 ·have e' : its[i]? = some v := by simpa using e
  obtain ⟨w, hw, rw'⟩ := BH.get' rv e'
  obtain ⟨k, ek, rk⟩ := jD hp hw
  obtain ⟨a, _, _, e1, _⟩ := CJ.mp rk
  subst e1
  cases rw'
  exact ⟨a, k, rfl, ek, pM I rk⟩
 ·refine ⟨.ref s.heap.objs.size, _, I.laid (a := s.heap.objs.size) (o := bS s.heap.objs.size ks.length) (t' := tk) kp (Nat.le_refl _) ?_, rfl, q _ (I.hok.fresh (Nat.le_refl _))⟩
  obtain ⟨o, ep, a1, a2, a3⟩ := z.ex
  refine ⟨⟨o, es, ep, t, a1, a2, a3, z.fit, by rw [z.nn, zl]⟩, ⟨o, a1⟩, fun h1 h2 ⟨o, es, ep, t, b1, b2⟩ k => ⟨o, es, ep, t, k o b1, b2⟩⟩
def aU (xs : List V) (H : Hp) (Q : VK) : Prop := o1 xs fun x => CC x fun p => ∃ n : Nat, H p = some (bS p n) ∧ n < 1000 ∧ Q (.int n) H
theorem YK : DE X (.builtin "len") aU := by
 intro pins s σ H xs us Q I r h
 obtain ⟨x, rfl, h⟩ := o1.ex h
 obtain ⟨p, rfl, n, hp, hn, q⟩ := CC.ex h
 obtain ⟨u, rfl, ru⟩ := JV r
 cases ru
 obtain ⟨⟨o, es, ep, t, a1, a2, a3, a4, a5⟩, _⟩ := I.hok p _ hp
 subst a5
 exact PySem.call_len_set a1 a2 a3 a4 (by omega) ⟨.int es.size, H, I.tok _, ⟨s.toks + 1, rfl⟩, q⟩
def VJ (K : PySem.W.Frag) (xs : List V) (H : Hp) (Q : VK) : Prop := o1 xs fun x => CC x fun p => ∃ ys, SqT K H p ys ∧ ∀ l, H l = none → Q (.ref l) (upd H l (.lst ys))
theorem OQ : DE X (.type "list") (VJ X.K) := QP.imp fun _ _ _ z => by
 obtain ⟨x, rfl, z⟩ := o1.ex z
 obtain ⟨p, rfl, ys, h1, h2⟩ := CC.ex z
 exact ⟨p, ys, rfl, .inr h1, h2⟩
end
section
variable {X : Cx}
variable {tg : Expr}
def iLT (K : PySem.W.Frag) (tl : TE) : TI := fun σ H R => tl σ H fun x H1 => CC x fun a => ((∃ xs, SqL K H1 a xs) ∧ R (Itl K a) H1) ∨ ((∃ xs, SqT K H1 a xs) ∧ R (Itt K a) H1)
theorem pG {l : Expr} {tl : TE} (hl : PE X l tl) : PI X tg l (iLT X.K tl) := by
 intro pins s σ H R I h
 refine thn (hl pins s σ H _ I h) fun v s1 ⟨x, H1, I1, r1, q1⟩ => ?_
 obtain ⟨a, rfl, q1⟩ := q1.ex
 cases r1
 rcases q1 with ⟨⟨xs, hq⟩, q⟩ | ⟨⟨xs, hq⟩, q⟩
 ·obtain ⟨its, rv, p, hz⟩ := I1.list hq
  refine wpAny_pyIter_list p.isList ?_
  refine ⟨s1.heap.objs.size, [s1.heap.objs.size], _, _, H1, rfl, I1.kept (t' := s1.toks) fun b o e => Heap.get?_push_of_some _ e, OV a _, ⟨_, Heap.get?_push_size _ rfl, rfl, rfl⟩, fun b hb => ?_, q⟩
  have e : b = s1.heap.objs.size := by simpa using hb
  subst e
  exact I1.fpOk (Nat.le_refl _) (I1.hok.fresh (Nat.le_refl _))
 ·obtain ⟨its, rv, p, hz⟩ := I1.tuple hq
  refine wpAny_pyIter_tuple (show s1.heap.IsTuple a its.toArray from p) ?_
  refine ⟨s1.heap.objs.size, [s1.heap.objs.size], _, _, H1, rfl, I1.kept (t' := s1.toks) fun b o e => Heap.get?_push_of_some _ e, NV a _, ⟨_, Heap.get?_push_size _ rfl, rfl, rfl⟩, fun b hb => ?_, q⟩
  have e : b = s1.heap.objs.size := by simpa using hb
  subst e
  exact I1.fpOk (Nat.le_refl _) (I1.hok.fresh (Nat.le_refl _))
theorem qE {K : PySem.W.Frag} {a : Addr} {xs : List V} {g : TG} {tb : TS} {D : JE} {σ : St} {H0 H : Hp} (hx : SqL K H0 a xs ∨ SqT K H0 a xs) (Pv : Nat → St → Hp → Prop) (h0 : Pv 0 σ H) (hl : ∀ i σ H, i ≤ xs.length → Pv i σ H → AJ H0 H)
  (hs : ∀ i x σ H, xs[i]? = some x → Pv i σ H → g x σ H fun σ2 H2 => tb { D with nx := Pv (i + 1), ct := Pv (i + 1), bk := D.nx } σ2 H2) (hd : ∀ σ H, Pv xs.length σ H → D.nx σ H) :
  ((∃ xs, SqL K H a xs) ∧ FW (Itl K a) g tb D σ H) ∨ ((∃ xs, SqT K H a xs) ∧ FW (Itt K a) g tb D σ H) := by
 rcases hx with hx | hx
 ·exact .inl ⟨⟨_, (hl 0 _ _ (Nat.zero_le _) h0).seq hx⟩, IS Pv h0 (fun i σ H h z => (hl i σ H h z).seq hx) hs hd⟩
 ·exact .inr ⟨⟨_, (hl 0 _ _ (Nat.zero_le _) h0).tup hx⟩, IA Pv h0 (fun i σ H h z => (hl i σ H h z).tup hx) hs hd⟩
end
section
variable {X : Cx}
def jQ (P : Program) (w : World) (K : PySem.W.Frag) (td ty tx : TE) : TE := fun σ H Q => td σ H fun x H1 => CC x fun a => (∃ es ep, H1 a = some (DN P w a es ep) ∧ ID K H1 es) ∧ ty σ H1 fun y H2 => tx σ H2 fun z H3 => CC y fun b => ∃ (es : EnN) (ep : Nat) (k : NK), H3 a = some (DN P w a es ep) ∧ ID K H3 es ∧ Rp K H3 (nkD k) (.ref b) ∧
 Q ((lkN es k).getD z) H3
theorem gF {P : Program} {w : World} {K : PySem.W.Frag} {o e f : Expr} {td ty tx : TE} {apos cpos : Pos} (hP : X.prog = P) (hw : X.w = w) (hK : X.K = K) (hu : X.A.units + 8 < cLine) (ho : PE X o td) (he : PE X e ty) (hf : PE X f tx) (m : M2 X o "get" apos e f cpos) : PE X (.Call (.Attribute o "get" apos) [e, f] [] cpos) (jQ P w K td ty tx) := by
 subst hP hw hK
 intro pins s σ H Q I h
 refine wpAny_Call_method m.base m.few m.line PySem.F.plainAttrs_dict PySem.F.slot_dict_get PySem.F.type_dict_get (thn (ho pins s σ H _ I h) fun u s1 ⟨x, H1, I1, rx, q0⟩ => ?_)
 obtain ⟨a, rfl, ⟨es0, ep0, e0, k0⟩, q1⟩ := CC.ex q0
 obtain rfl : u = Value.ref a := rx
 obtain ⟨_, xs0, _, dd0⟩ := NU I1 e0 k0
 refine ⟨dd0.typeIs, fun b q => ?_, ?_⟩
 ·cases q
  obtain ⟨ob, _, _, h1, h2, _⟩ := dd0
  exact ⟨ob, h1, h2.2.1⟩
 rw [m.trees]
 refine Calls.callWith_builtin rfl (Calls.evalArgs_plain (Calls.spliced_cons (thn (he pins s1 σ H1 _ I1 q1) fun iv s2 ⟨y, H2, I2, ry, q2⟩ =>
  Calls.spliced_cons (thn (hf pins s2 σ H2 _ I2 q2) fun fv s3 ⟨z, H3, I3, rz, q3⟩ => Calls.spliced_nil ?_))))
 obtain ⟨b, rfl, es, ep, k, ea, ks, hb, c1⟩ := CC.ex q3
 obtain rfl : iv = Value.ref b := ry
 obtain ⟨hsm, xs, ev, dd⟩ := NU I3 ea ks
 refine wpAny_call_entry PySem.F.slot_dict_get dd.typeIs PySem.F.entry_dict_get ?_ (PySem.F.args_dict_get_3 _ _ _)
 unfold Builtin.«dict.get»
 refine wpAny_bind ?_
 unfold Builtin.Dict.keyAndDefault
 refine wpAny_bind (wpAny_notOrdered_dict (show s3.TypeIs (.ref a) "dict" from dd.typeIs) ?_)
 refine wpAny_bind ?_
 rw [show Builtin.Dict.nameIsSure "get" { pos := Value.ref a :: [].append ({ pos := [Value.ref b, fv] } : Args).pos } (!({ pos := Value.ref a :: [].append ({ pos := [Value.ref b, fv] } : Args).pos } : Args).kw.isEmpty) = pure () from rfl]
 refine wpAny_pure ?_
 refine wpAny_bind ?_
 rw [show selfAndSome (toString "dict." ++ toString "get") "get" 1 2 { pos := Value.ref a :: [].append ({ pos := [Value.ref b, fv] } : Args).pos } = pure (.ref a, [.ref b, fv]) from rfl]
 refine wpAny_pure ?_
 dsimp only
 refine wpAny_bind ?_
 rw [show Builtin.Dict.addrOf (.ref a) = pure a from rfl]
 refine wpAny_pure (wpAny_pure ?_)
 dsimp only
 refine wpAny_bind (wpAny_dictGet_heap (knd := DD X.prog X.w) (k := k) (show X.A.units + 1 + 3 < cLine by omega) (SJ I3 hb) dd ?_)
 cases hl : lkN es k with
 | some v' =>
  obtain ⟨p, hp, rp⟩ := ev.look hl
  rw [hp]
  dsimp only [Option.map]
  rw [hl] at c1
  exact wpAny_bind (wpAny_pure (wpAny_pure ⟨_, rfl, v', H3, I3.tok _, rp, c1⟩))
 | none =>
  rw [ev.none hl]
  dsimp only [Option.map]
  rw [hl] at c1
  refine wpAny_bind (wpAny_missed_other hsm ?_)
  exact wpAny_pure ⟨_, rfl, z, H3, I3.tok _, rz, c1⟩
end
section
variable {X : Cx}
def oN (K : PySem.W.Frag) : R2 := fun x y H Q => (x = .non ∧ y = .non ∧ Q (.bl true) H) ∨ fO K false x y H Q
theorem nT (hu : X.A.units + 64 < cLine) : OpR X (compareOp .Eq) (oN X.K) := by
 intro pins s σ H x y v u Q I rx ry h
 rcases h with ⟨rfl, rfl, q⟩ | h
 ·exact ET pins s σ H _ _ v u Q I rx ry (show gX .non .non H Q from q)
 ·exact EB hu pins s σ H x y v u Q I rx ry h
end
theorem atom (s : String) (ns : List Nat) (h : s = String.ofList (ns.map Char.ofNat)) (e : (ns.map Char.ofNat).map Char.toNat = ns) : Str.ofString s = ⟨⟨ns⟩⟩ := by
 rw [h, PySem.W.Fast.ofString_ofList, e]
theorem nW {α : Type} {a b : α} {l m : List α} (h : a = b) (t : l = m) : a :: l = b :: m := by rw [h, t]
theorem tr2 {α β : Type} {C : α → β → Prop} {a a' : α} {b b' : β} (e : a = a') (e' : b = b') (h : C a' b') : C a b := by subst e e'; exact h
theorem gL (P : Params) : ((PySem.W.boot_heap P).isNs mainGlobals, (PySem.W.boot_heap P).objs.size, (PySem.W.boot_heap P).nsMap mainGlobals "__annotations__") = (true, 11, some (.ref 6)) := by kernel_rfl
noncomputable def aC (p q : Program) (loose : List Str) (Xt : Shared → Bool) {α : Type} (Yf : Shared → α) (w : World) (s : Shared) :=
 (PySem.W.staticsOk (importedModules p.main.body) (PySem.W.boot_heap w.params) s.heap && PySem.W.namesBound p s.heap && PySem.W.gensDone s && PySem.W.laidKept (PySem.W.boot_heap w.params) s.heap,
  PySem.W.Fast.tw4187177175401517315 q loose (importedModules p.main.body) Xt true s, Yf s)
def XD (p q : Program) (loose : List Str) (Xt : Shared → Bool) {α : Type} (Yf : Shared → α) (Ya : World → α) (N : Nat) (w : World) : Prop :=
 (fun os => (PySem.W.Fast.tw14082659384304107361 PySem.W.Fast.tw14364793385576792824 p w 11 (some (.ref 6)) N ⟨PySem.W.boot_heap w.params, Array.mk [], PySem.W.boot_drawn, PySem.W.boot_toks, os⟩ (PySem.W.topStub p)).map (aC p q loose Xt Yf w)) =
  fun _ => some (true, PySem.W.openGood q loose, Ya w)
theorem ZJ {p q : Program} {loose : List Str} {Xt : Shared → Bool} {α : Type} {Yf : Shared → α} {Ya : World → α} {N : Nat}
  (e : PySem.W.opening p = PySem.W.plainProg p.main.scope.names) (hN : Nat.ble 600 N = true) (f : ∀ s, fenceModules? p s = some s)
  (run : ∀ w : World, XD p q loose Xt Yf Ya N w) : PySem.W.LeftO p q loose Xt Yf Ya N := fun w => by
 obtain ⟨⟨h, gs, d, k, os⟩, e1, e2⟩ := Option.map_eq_some_iff.mp (PySem.W.boot_open e hN f w)
 simp only [Prod.mk.injEq] at e2
 obtain ⟨rfl, rfl, rfl, rfl⟩ := e2
 have b := gL w.params
 simp only [Prod.mk.injEq] at b
 obtain ⟨b1, b2, b3⟩ := b
 have r := congrFun (run w) os
 rw [← PySem.W.Fast.te14082659384304107361, ← PySem.W.Fast.te14364793385576792824] at r
 obtain ⟨s₁, r1, r2⟩ := Option.map_eq_some_iff.mp r
 unfold aC at r2
 rw [← PySem.W.Fast.te4187177175401517315] at r2
 simp only [Prod.mk.injEq] at r2
 obtain ⟨r2, r3, r4⟩ := r2
 unfold PySem.W.openEnds
 rw [e1]
 show (PySem.W.topFrom treeTable p w N _).map _ = _
 have t : PySem.W.topFrom treeTable p w N ⟨PySem.W.boot_heap w.params, Array.mk [], PySem.W.boot_drawn, PySem.W.boot_toks, os⟩ = some s₁ := by
  unfold PySem.W.topFrom
  dsimp only
  rw [b1, b2, b3]
  show Option.bind (PySem.W.topRun treeTable p w 11 (some (.ref 6)) N ⟨PySem.W.boot_heap w.params, Array.mk [], PySem.W.boot_drawn, PySem.W.boot_toks, os⟩ (PySem.W.topStub p)) _ = _
  rw [r1]
  show (match PySem.W.staticsOk (importedModules p.main.body) (PySem.W.boot_heap w.params) s₁.heap && PySem.W.namesBound p s₁.heap && PySem.W.gensDone s₁ && PySem.W.laidKept (PySem.W.boot_heap w.params) s₁.heap with | true => some s₁ | false => none) = _
  rw [r2]
 rw [t]
 exact congrArg some (Prod.ext r3 r4)
noncomputable def nm (l : List Str) (i : Nat) : Str := l.getD i Str.empty
noncomputable def de (P : Params) (x : Str) (t : Nat) (v : Value) : DictEntry := ⟨PyData.keyHash P x, .str x t, v⟩
noncomputable def nJ (p : Program) (i : Nat) : Stmt := p.main.body.getD i (.Pass ⟨0, 0, 0, 0⟩)
noncomputable def fnO (p : Program) (x : Str) (i : Nat) (kV doc pm : Value) (an : Option Addr) (cdv ct : Value) : Obj := ⟨.type "function", none, .func (PySem.W.fnOf x x (AY (nJ p i)) (AX (nJ p i)) (AF (nJ p i)) .none kV doc pm an cdv ct), #[]⟩
end L2
namespace My
open PySem PySem.Spec PyProof.Rows L2
def tmC (c : Char) : Lean.MacroM Lean.Term := do match c with
 | '_' => `(_)
 | 'r' => `((by rfl))
 | 'd' => `((by first | exact Or.inl rfl | exact Or.inr (Or.inl rfl)))
 | 'v' => `((by decide))
 | 'n' => `((fun _ _ => rfl))
 | 'i' => return Lean.Syntax.mkApp ⟨Lean.mkIdent `hr.mono⟩ #[← `((by decide))]
 | 'o' => `(.nil)
 | 'c' => return ⟨Lean.mkIdent `AR⟩
 | 'a' => `(rfl)
 | 'b' => `((by first | exact .inl rfl | exact .inr rfl | assumption))
 | 'e' => `((AS _))
 | 'f' => `((Or.inl rfl))
 | 'g' => `((by intro _; rfl))
 | 'h' => return ⟨Lean.mkIdent `PassesOwn.never⟩
 | 'j' => return ⟨Lean.mkIdent `PySem.F.plainAttrs_list⟩
 | 'k' => return ⟨Lean.mkIdent `PySem.F.slot_list_append⟩
 | 'l' => return ⟨Lean.mkIdent `PySem.F.type_list_append⟩
 | 'm' => return ⟨Lean.mkIdent `DP⟩
 | 'p' => return ⟨Lean.mkIdent `IT⟩
 | 'q' => `(⟨by decide +kernel, by decide +kernel, by decide +kernel, by decide +kernel, by decide +kernel, by decide +kernel⟩)
 | 's' => return ⟨Lean.mkIdent `T.z_range⟩
 | _ => Lean.Macro.throwUnsupported
def tmT : List (Char × Lean.Name × String) := [('A', `pvD, "_*__rdvv"), ('B', `AA, "_____**r"), ('C', `AB, "____"), ('D', `AC, "_"), ('E', `AG, "_______***n"), ('F', `AM, "________***"), ('G', `AH, "___*"), ('H', `AK, "________________*ir***oc*vrr"), ('I', `AO, "____*"), ('J', `AI, "_____**"), ('K', `AW, "__*____*a**rb"), ('L', `BG, "________***"), ('M', `AT, "_"), ('N', `AN, "________***e"), ('O', `AU, "__*_*afb"), ('P', `AQ, "_____**"), ('Q', `AV, "_____**r"), ('R', `BR, "_____*"), ('S', `BD, "_________*r***vvrr"), ('T', `BO, "___*g"), ('U', `BV, "____*"), ('V', `BB, "______*"), ('W', `BX, "____*"), ('X', `CI, "_____*v"), ('Y', `BS, "_"), ('Z', `EI, "_______**"), ('a', `EJ, "____"), ('b', `CF, "_______**"), ('c', `DL, "________ha***g"), ('d', `CQ, "________***e"), ('e', `EE, "____*"), ('f', `DA, "_"), ('g', `CU, "_______**"), ('h', `EC, "______a*rr"), ('i', `DC, "_________*r***vvrr"), ('j', `FK, "_____r**v"), ('k', `HW, "______**rrr"), ('l', `FC, "__________****"), ('m', `FF, "___*"), ('n', `GC, "_"), ('o', `HY, "___"), ('p', `GZ, "____*r"), ('q', `NF, "____________jklm**rrrrr"), ('r', `HC, "__*__r**avv"), ('s', `FE, "____*"), ('t', `MU, "______p*"), ('u', `KS, "_______**"), ('v', `IK, "____*"), ('w', `IX, "____*"), ('x', `MJ, "______*_____****aaaq****g"), ('y', `LJ, "______rs*r"), ('z', `NQ, "_"), ('!', `RI, "_______**"), ('#', `UQ, "_____*"), ('$', `NL, "________***")]
def tmK (st : List Lean.Term) (c : Char) : Lean.MacroM (List Lean.Term) := do
 if c.isDigit then return ⟨Lean.Syntax.mkNumLit (toString c)⟩ :: st
 if c == '_' then return (← `(_)) :: st
 let some (f, t) := tmT.lookup c | Lean.Macro.throwUnsupported
 let m := (t.toList.filter (· == '*')).length
 let (as, _) ← t.toList.foldlM (init := ((#[] : Array Lean.Term), (st.take m).reverse)) fun (as, ks) d => do
  if d == '*' then match ks with
   | k :: r => return (as.push k, r)
   | [] => Lean.Macro.throwUnsupported
  else return (as.push (← tmC d), ks)
 return Lean.Syntax.mkApp (← `(@$(Lean.mkIdent f))) as :: st.drop m
def tmD (x : Lean.Syntax) : Lean.MacroM Lean.Term := do
 let st ← x.getArgs.toList.foldlM (init := ([] : List Lean.Term)) fun st c => match c.isInterpolatedStrLit? with
  | some w => w.toList.foldlM tmK st
  | none => return ⟨c⟩ :: st
 match st with
  | [t] => return t
  | _ => Lean.Macro.throwUnsupported
local macro_rules | `(s! $x) => tmD x
def top (i : Nat) : Stmt := PySem.Challenge.pw_turtlehouse_k33_whole_unlike.main.body.getD i (.Pass ⟨0, 0, 0, 0⟩)
abbrev LT : Stmt := top 6
theorem iK : BA ["one", "other"] ["one", "other"] (AF LT) := ⟨rfl, rfl, rfl, by decide +kernel, rfl, by decide +kernel, by decide +kernel⟩
abbrev IR : Stmt := top 7
theorem aD : BA ["one", "other"] ["one", "other"] (AF IR) := ⟨rfl, rfl, rfl, by decide +kernel, rfl, by decide +kernel, by decide +kernel⟩
abbrev JC : Stmt := top 8
theorem dB : BA ["number", "factor"] ["number", "factor"] (AF JC) := ⟨rfl, rfl, rfl, by decide +kernel, rfl, by decide +kernel, by decide +kernel⟩
abbrev DW : Stmt := top 9
theorem QX : BA ["value"] ["value"] (AF DW) := ⟨rfl, rfl, rfl, by decide +kernel, rfl, by decide +kernel, by decide +kernel⟩
abbrev GV : Stmt := top 10
theorem LQ : BA ["number", "first", "second"] ["number"] (AF GV) := ⟨rfl, rfl, rfl, by decide +kernel, rfl, by decide +kernel, by decide +kernel⟩
abbrev GS : Stmt := top 11
theorem YW : BA ["one", "other"] ["one", "other"] (AF GS) := ⟨rfl, rfl, rfl, by decide +kernel, rfl, by decide +kernel, by decide +kernel⟩
abbrev CM : Stmt := top 12
theorem CS : BA ["one", "other", "told", "at", "row"] ["one", "other"] (AF CM) := ⟨rfl, rfl, rfl, by decide +kernel, rfl, by decide +kernel, by decide +kernel⟩
abbrev DU : Stmt := top 13
theorem JQ : BA ["rows", "parts"] ["rows"] (AF DU) := ⟨rfl, rfl, rfl, by decide +kernel, rfl, by decide +kernel, by decide +kernel⟩
abbrev DV : Stmt := top 16
theorem HR : BA ["start", "end", "east", "north"] ["start", "end"] (AF DV) := ⟨rfl, rfl, rfl, by decide +kernel, rfl, by decide +kernel, by decide +kernel⟩
abbrev IU : Stmt := top 17
theorem MY : BA ["heading", "place", "x", "y"] ["heading", "place"] (AF IU) := ⟨rfl, rfl, rfl, by decide +kernel, rfl, by decide +kernel, by decide +kernel⟩
abbrev GO : Stmt := top 18
theorem QB : BA ["start", "end", "heading"] ["start", "end"] (AF GO) := ⟨rfl, rfl, rfl, by decide +kernel, rfl, by decide +kernel, by decide +kernel⟩
abbrev IP : Stmt := top 19
theorem bD : BA ["heading", "place"] ["heading", "place"] (AF IP) := ⟨rfl, rfl, rfl, by decide +kernel, rfl, by decide +kernel, by decide +kernel⟩
abbrev DY : Stmt := top 20
theorem KO : BA ["heading", "start", "end"] ["heading", "start", "end"] (AF DY) := ⟨rfl, rfl, rfl, by decide +kernel, rfl, by decide +kernel, by decide +kernel⟩
abbrev GI : Stmt := top 21
theorem FM : BA ["stretches", "told", "low", "high", "start", "end"] ["stretches"] (AF GI) := ⟨rfl, rfl, rfl, by decide +kernel, rfl, by decide +kernel, by decide +kernel⟩
abbrev DI : Stmt := top 22
theorem ES : BA ["strokes", "found", "ink", "start", "end", "line"] ["strokes"] (AF DI) := ⟨rfl, rfl, rfl, by decide +kernel, rfl, by decide +kernel, by decide +kernel⟩
abbrev ED : Stmt := top 23
theorem PU : BA ["strokes", "lines"] ["strokes"] (AF ED) := ⟨rfl, rfl, rfl, by decide +kernel, rfl, by decide +kernel, by decide +kernel⟩
abbrev DR : Stmt := top 24
theorem BZ : BA ["stretch", "others", "low", "high", "start", "end", "other_low", "other_high", "other_start", "other_end"] ["stretch", "others"] (AF DR) := ⟨rfl, rfl, rfl, by decide +kernel, rfl, by decide +kernel, by decide +kernel⟩
abbrev FD : Stmt := top 25
theorem JA : BA ["lines", "others", "key", "stretch", "piece"] ["lines", "others"] (AF FD) := ⟨rfl, rfl, rfl, by decide +kernel, rfl, by decide +kernel, by decide +kernel⟩
abbrev GU : Stmt := top 26
theorem IV : BA ["one", "other", "lines", "which", "piece"] ["one", "other"] (AF GU) := ⟨rfl, rfl, rfl, by decide +kernel, rfl, by decide +kernel, by decide +kernel⟩
abbrev IL : Stmt := top 28
theorem NO : BA ["_law_script", "_law_k", "_law_number"] ["_law_script", "_law_k"] (AF IL) := ⟨rfl, rfl, rfl, by decide +kernel, rfl, by decide +kernel, by decide +kernel⟩
abbrev GR : Stmt := top 29
theorem IY : BA ["_law_cell_here", "_law_k", "_law_number"] ["_law_cell_here", "_law_k"] (AF GR) := ⟨rfl, rfl, rfl, by decide +kernel, rfl, by decide +kernel, by decide +kernel⟩
abbrev JS : Stmt := top 30
theorem JU : BA ["_law_cell_here", "_law_most", "_law_many", "_law_found", "_law_rest", "_law_k"] ["_law_cell_here", "_law_most", "_law_many"] (AF JS) := ⟨rfl, rfl, rfl, by decide +kernel, rfl, by decide +kernel, by decide +kernel⟩
abbrev LH : Stmt := top 31
theorem fZ : BA ["_law_found"] ["_law_found"] (AF LH) := ⟨rfl, rfl, rfl, by decide +kernel, rfl, by decide +kernel, by decide +kernel⟩
abbrev IO : Stmt := top 32
theorem KJ : BA ["_law_number", "_law_a", "_law_b", "_law_more"] ["_law_number"] (AF IO) := ⟨rfl, rfl, rfl, by decide +kernel, rfl, by decide +kernel, by decide +kernel⟩
abbrev GG : Stmt := top 33
theorem DX : BA ["_law_place", "_law_heading", "_law_steps", "_law_ways", "_law_east", "_law_north", "_law_x", "_law_y", "_law_here"] ["_law_place", "_law_heading", "_law_steps"] (AF GG) := ⟨rfl, rfl, rfl, by decide +kernel, rfl, by decide +kernel, by decide +kernel⟩
abbrev EV : Stmt := top 34
theorem MC : BA ["_law_found", "_law_number"] ["_law_found"] (AF EV) := ⟨rfl, rfl, rfl, by decide +kernel, rfl, by decide +kernel, by decide +kernel⟩
abbrev IQ : Stmt := top 35
theorem NT : BA ["_law_begin", "_law_end", "_law_x", "_law_y"] ["_law_begin", "_law_end"] (AF IQ) := ⟨rfl, rfl, rfl, by decide +kernel, rfl, by decide +kernel, by decide +kernel⟩
abbrev GQ : Stmt := top 36
theorem OY : BA ["_law_one", "_law_other_here", "_law_line_here", "_law_at"] ["_law_one", "_law_other_here", "_law_line_here"] (AF GQ) := ⟨rfl, rfl, rfl, by decide +kernel, rfl, by decide +kernel, by decide +kernel⟩
abbrev KY : Stmt := top 37
theorem hJ : BA ["_law_stroke"] ["_law_stroke"] (AF KY) := ⟨rfl, rfl, rfl, by decide +kernel, rfl, by decide +kernel, by decide +kernel⟩
abbrev ER : Stmt := top 38
theorem BU : BA ["_law_script", "_law_start", "_law_most", "_law_cell_here", "_law_headings", "_law_far", "_law_inks", "_law_here", "_law_found", "_law_k", "_law_row_here", "_law_heading", "_law_ahead"] ["_law_script", "_law_start", "_law_most"] (AF ER) := ⟨rfl, rfl, rfl, by decide +kernel, rfl, by decide +kernel, by decide +kernel⟩
abbrev DS : Stmt := top 39
theorem JW : BA ["_law_found", "_law_line_here"] ["_law_found"] (AF DS) := ⟨rfl, rfl, rfl, by decide +kernel, rfl, by decide +kernel, by decide +kernel⟩
abbrev FL : Stmt := top 40
theorem FU : BA ["_law_stroke", "_law_others", "_law_line_here", "_law_ends", "_law_other_here"] ["_law_stroke", "_law_others"] (AF FL) := ⟨rfl, rfl, rfl, by decide +kernel, rfl, by decide +kernel, by decide +kernel⟩
abbrev HB : Stmt := top 41
theorem EG : BA ["_law_stroke", "_law_strokes_here", "_law_line_here", "_law_here", "_law_some", "_law_turn", "_law_other_here", "_law_ends"] ["_law_stroke", "_law_strokes_here"] (AF HB) := ⟨rfl, rfl, rfl, by decide +kernel, rfl, by decide +kernel, by decide +kernel⟩
abbrev DJ : Stmt := top 42
theorem HP : BA ["_law_form", "_law_strokes_here", "_law_one", "_law_other_here", "_law_line_here"] ["_law_form", "_law_strokes_here"] (AF DJ) := ⟨rfl, rfl, rfl, by decide +kernel, rfl, by decide +kernel, by decide +kernel⟩
abbrev GH : Stmt := top 43
theorem EU : BA ["_law_script", "_law_strokes_here", "_law_row_here", "_law_at", "_law_ink", "_law_begin", "_law_end", "_law_ahead"] ["_law_script", "_law_strokes_here"] (AF GH) := ⟨rfl, rfl, rfl, by decide +kernel, rfl, by decide +kernel, by decide +kernel⟩
abbrev GM : Stmt := top 44
theorem IM : BA ["_law_forms", "_law_found", "_law_piece", "_law_line_here", "_law_other_here"] ["_law_forms", "_law_found"] (AF GM) := ⟨rfl, rfl, rfl, by decide +kernel, rfl, by decide +kernel, by decide +kernel⟩
abbrev PR : Stmt := top 45
theorem NR : BA ["_law_script", "_law_strokes_here", "_law_others", "_law_forms", "_law_found"] ["_law_script"] (AF PR) := ⟨rfl, rfl, rfl, by decide +kernel, rfl, by decide +kernel, by decide +kernel⟩
structure Own (K : PySem.W.Frag) (mg : Str → Option Value) (x : Str) (st : Stmt) (ps : List Str) (f : Addr) (fd : FuncData) : Prop where
 F : Fun K x x st f fd
 b : ME K fd ps []
 m : mg x = some (.ref f)
structure OwnM (K : PySem.W.Frag) (C : Addr) (x qx : Str) (st : Stmt) (ps : List Str) (f : Addr) (fd : FuncData) : Prop where
 F : Fun K x qx st f fd
 b : ME K fd ps []
 mt : Meth K C x f
structure OwnI (K : PySem.W.Frag) (C : Addr) (x qx : Str) (st : Stmt) (ps : List Str) (f : Addr) (fd : FuncData) : Prop where
 F : Fun K x qx st f fd
 b : ME K fd ps []
 mki : Mk K C f
def UG : D := .int (0)
def HE : D := .int (1)
def MN : D := .int (2)
def HL : D := .int (7)
def QA : D := .tup [.int (0), .int (0)]
def LK : List (Int × D) := [(0, .tup [.int (0), .int (1)]), (1, .tup [.int (-1), .int (1)]), (2, .tup [.int (-1), .int (0)]), (7, .tup [.int (1), .int (1)])]
set_option genInjectivity false in
set_option genSizeOf false in
structure Adr where
 a_plus : Addr
 d_plus : FuncData
 a_minus : Addr
 d_minus : FuncData
 a_times : Addr
 d_times : FuncData
 a_signofint : Addr
 d_signofint : FuncData
 a_signof : Addr
 d_signof : FuncData
 a_isless : Addr
 d_isless : FuncData
 a_joinedinorder : Addr
 d_joinedinorder : FuncData
 a_inorder : Addr
 d_inorder : FuncData
 a_headingof : Addr
 d_headingof : FuncData
 a_aside : Addr
 d_aside : FuncData
 a_lineof : Addr
 d_lineof : FuncData
 a_along : Addr
 d_along : FuncData
 a_stretchof : Addr
 d_stretchof : FuncData
 a_joined : Addr
 d_joined : FuncData
 a_linesof : Addr
 d_linesof : FuncData
 a_formof : Addr
 d_formof : FuncData
 a_barepiece : Addr
 d_barepiece : FuncData
 a_moreof : Addr
 d_moreof : FuncData
 a_unlike : Addr
 d_unlike : FuncData
 a_Lcell : Addr
 d_Lcell : FuncData
 a_Lmixed : Addr
 d_Lmixed : FuncData
 a_Lrow : Addr
 d_Lrow : FuncData
 a_Lint : Addr
 d_Lint : FuncData
 a_Lsign : Addr
 d_Lsign : FuncData
 a_Lmoved : Addr
 d_Lmoved : FuncData
 a_Lisplace : Addr
 d_Lisplace : FuncData
 a_Lline : Addr
 d_Lline : FuncData
 a_Lfaron : Addr
 d_Lfaron : FuncData
 a_Lkey : Addr
 d_Lkey : FuncData
 a_Lstrokes : Addr
 d_Lstrokes : FuncData
 a_Lisstroke : Addr
 d_Lisstroke : FuncData
 a_Lwithin : Addr
 d_Lwithin : FuncData
 a_Lgone : Addr
 d_Lgone : FuncData
 a_Lisform : Addr
 d_Lisform : FuncData
 a_Lother : Addr
 d_Lother : FuncData
 a_Lright : Addr
 d_Lright : FuncData
 a_law : Addr
 d_law : FuncData
 u_EAST : Value
 v_EAST : V
 u_NORTH_EAST : Value
 v_NORTH_EAST : V
 u_NORTH : Value
 v_NORTH : V
 u_SOUTH_EAST : Value
 v_SOUTH_EAST : V
 u_NOTHING : Value
 v_NOTHING : V
 u_ACROSS : Value
 v_ACROSS : V
local macro_rules | `(tactic| walk_at "rd") => `(tactic| ((try simp only [L2.start, L2.stC, List.map_cons, List.map_nil, List.length_cons, List.length_nil, List.replicate_succ, List.replicate_zero, List.nil_append, List.cons_append, Nat.reduceAdd, Nat.reduceSub, Nat.zero_add, Nat.sub_self, Nat.add_one_sub_one]); (try dsimp only [aO, bW, mH, ipI, VI, aZ, mW, nP, kW, tSl, RP, eY, lO, lB, nO, bV, cS, PV, tOp, tUn, rI, rI0, rU, fR, tC, mR, WL, kF, eZ, XM, PH, fP, kC, mX, tCB, lE, lK, tOr, aH, cO, tB, tIf, gU, UP, nV, cJ, lM, L2.start, nR, mU, WN, dP, aP, eI, kD, TM, L2.stC, tBM, QO, List.getElem?_cons_zero, List.getElem?_cons_succ, List.set_cons_zero, List.set_cons_succ, List.map_cons, List.map_nil, List.length_cons, List.length_nil, List.replicate_succ, List.replicate_zero, List.nil_append, List.cons_append, Nat.reduceAdd, Nat.reduceSub, Nat.zero_add, NM, mZ, bU, VX, dD, lL, tBD, VE, rID, OU, rUD, gX, mS, NZ, PK, WW, cD, VV, TB, QW, tKx, bA, RB, cZ, dL, UN, cI, TX, nD, MW, PC, UY, iLT, jQ, oN, aK, aU, VJ, VH, bJ, UO, OW, RY, bF, nN, mE, kS, aA, mL, NA, UK, CC, GX, oBl, VL, o0, o1, o2, oC]); try simp only [aO, NM, mZ, bU, VX, dD, lL, tBD, VE, rID, OU, rUD, gX, mS, NZ, PK, WW, cD, VV, TB, QW, tKx, bA, RB, cZ, dL, UN, cI, TX, nD, MW, PC, UY, aK, aU, VJ, VH, bJ, UO, OW, RY, bF, nN, mE, kS, aA, mL, NA, UK, CC, GX, oBl, VL, o0, o1, o2, oC, bW, mH, ipI, VI, aZ, mW, nP, kW, tSl, RP, eY, lO, lB, nO, bV, cS, PV, tOp, tUn, rI, rI0, rU, fR, tC, mR, WL, kF, eZ, XM, PH, fP, kC, mX, tCB, lE, lK, tOr, aH, cO, tB, tIf, gU, UP, nV, cJ, lM, L2.start, nR, mU, WN, dP, aP, eI, kD, TM, L2.stC, tBM, QO, tyV, List.getElem?_cons_zero, List.getElem?_cons_succ, List.set_cons_zero, List.set_cons_succ, List.map_cons, List.map_nil, List.length_cons, List.length_nil, List.length_map, List.replicate_succ, List.replicate_zero, List.append_nil, List.nil_append, List.cons_append, Option.some.injEq, Option.join_some, V.int.injEq, V.bl.injEq, V.ref.injEq, V.str.injEq, List.cons.injEq, exists_and_left, exists_and_right, exists_eq_left, exists_eq_left', exists_eq, exists_eq', and_true, true_and, and_self, and_assoc, decide_eq_true_eq, Nat.reduceAdd, Nat.reduceSub, Nat.add_one_sub_one, Nat.sub_self, Nat.zero_add, reduceCtorEq, eq_self, not_true_eq_false, not_false_eq_true, false_and, and_false, exists_false, false_or, or_false, if_true, if_false, ite_true, ite_false, Bool.false_eq_true, Bool.not_true, Bool.not_false, Bool.not_eq_true', decide_eq_false_iff_not]))
local macro_rules | `(tactic| walk_at "rh") => `(tactic| ((try refine gA ?_); walk_at "rd"))
theorem kk {k : Int} (h0 : 0 ≤ k) (h1 : k ≤ 100) : 0 ≤ k * k ∧ k * k ≤ 10000 := by
 have a : k * k ≤ 100 * 100 := Int.mul_le_mul h1 h1 h0 (by decide)
 have a0 : 0 ≤ k * k := Int.mul_nonneg h0 h0
 exact ⟨a0, a⟩
theorem zk {k z : Int} (h0 : 0 ≤ k) (h1 : k ≤ 100) (z0 : 0 ≤ z) (z1 : z < 10 ^ 40) : 0 ≤ z * (48271 + k) ∧ z * (48271 + k) ≤ 10 ^ 40 * 48371 := by
 have b : z * (48271 + k) ≤ 10 ^ 40 * 48371 := Int.mul_le_mul (by omega) (by omega) (by omega) (by decide)
 exact ⟨Int.mul_nonneg z0 (by omega), b⟩
theorem MA {K : PySem.W.Frag} : PySem.W.kitOne K (.type "int") (.type "int") = some true := rfl
theorem KD {K : PySem.W.Frag} : PySem.W.kitOne K (.type "int") (.type "bool") = some false := rfl
theorem CO {K : PySem.W.Frag} : PySem.W.kitOne K (.type "tuple") (.type "tuple") = some true := rfl
structure Pl where
 a : Int
 b : Int
 c : Int
 d : Int
def BY (h : Int) : Pl := if h % 8 = 0 then ⟨1, 0, 0, 0⟩ else if h % 8 = 1 then ⟨0, 1, 0, 1⟩ else if h % 8 = 2 then ⟨0, 0, 1, 0⟩ else if h % 8 = 3 then ⟨0, -1, 0, 1⟩ else if h % 8 = 4 then ⟨-1, 0, 0, 0⟩ else if h % 8 = 5 then ⟨0, -1, 0, -1⟩ else if h % 8 = 6 then ⟨0, 0, -1, 0⟩ else ⟨0, 1, 0, -1⟩
def mv (p : Pl) (h n : Int) : Pl := ⟨p.a + (BY h).a * n, p.b + (BY h).b * n, p.c + (BY h).c * n, p.d + (BY h).d * n⟩
abbrev Pl.D (p : Pl) : L2.D := plc p.a p.b p.c p.d
theorem pI (h : Int) : h % 8 = 0 ∨ h % 8 = 1 ∨ h % 8 = 2 ∨ h % 8 = 3 ∨ h % 8 = 4 ∨ h % 8 = 5 ∨ h % 8 = 6 ∨ h % 8 = 7 := by omega
structure Txt (K : PySem.W.Frag) (mg : Str → Option Value) (t : Adr) : Prop where
 plus : Own K mg "plus" LT ["one", "other"] t.a_plus t.d_plus
 minus : Own K mg "minus" IR ["one", "other"] t.a_minus t.d_minus
 times : Own K mg "times" JC ["number", "factor"] t.a_times t.d_times
 signofint : Own K mg "sign_of_int" DW ["value"] t.a_signofint t.d_signofint
 signof : Own K mg "sign_of" GV ["number"] t.a_signof t.d_signof
 isless : Own K mg "is_less" GS ["one", "other"] t.a_isless t.d_isless
 joinedinorder : Own K mg "joined_in_order" CM ["one", "other"] t.a_joinedinorder t.d_joinedinorder
 inorder : Own K mg "in_order" DU ["rows"] t.a_inorder t.d_inorder
 headingof : Own K mg "heading_of" DV ["start", "end"] t.a_headingof t.d_headingof
 aside : Own K mg "aside" IU ["heading", "place"] t.a_aside t.d_aside
 lineof : Own K mg "line_of" GO ["start", "end"] t.a_lineof t.d_lineof
 along : Own K mg "along" IP ["heading", "place"] t.a_along t.d_along
 stretchof : Own K mg "stretch_of" DY ["heading", "start", "end"] t.a_stretchof t.d_stretchof
 joined : Own K mg "joined" GI ["stretches"] t.a_joined t.d_joined
 linesof : Own K mg "lines_of" DI ["strokes"] t.a_linesof t.d_linesof
 formof : Own K mg "form_of" ED ["strokes"] t.a_formof t.d_formof
 barepiece : Own K mg "bare_piece" DR ["stretch", "others"] t.a_barepiece t.d_barepiece
 moreof : Own K mg "more_of" FD ["lines", "others"] t.a_moreof t.d_moreof
 unlike : Own K mg "unlike" GU ["one", "other"] t.a_unlike t.d_unlike
 Lcell : Own K mg "_law_cell" IL ["_law_script", "_law_k"] t.a_Lcell t.d_Lcell
 Lmixed : Own K mg "_law_mixed" GR ["_law_cell_here", "_law_k"] t.a_Lmixed t.d_Lmixed
 Lrow : Own K mg "_law_row" JS ["_law_cell_here", "_law_most", "_law_many"] t.a_Lrow t.d_Lrow
 Lint : Own K mg "_law_int" LH ["_law_found"] t.a_Lint t.d_Lint
 Lsign : Own K mg "_law_sign" IO ["_law_number"] t.a_Lsign t.d_Lsign
 Lmoved : Own K mg "_law_moved" GG ["_law_place", "_law_heading", "_law_steps"] t.a_Lmoved t.d_Lmoved
 Lisplace : Own K mg "_law_is_place" EV ["_law_found"] t.a_Lisplace t.d_Lisplace
 Lline : Own K mg "_law_line" IQ ["_law_begin", "_law_end"] t.a_Lline t.d_Lline
 Lfaron : Own K mg "_law_far_on" GQ ["_law_one", "_law_other_here", "_law_line_here"] t.a_Lfaron t.d_Lfaron
 Lkey : Own K mg "_law_key" KY ["_law_stroke"] t.a_Lkey t.d_Lkey
 Lstrokes : Own K mg "_law_strokes" ER ["_law_script", "_law_start", "_law_most"] t.a_Lstrokes t.d_Lstrokes
 Lisstroke : Own K mg "_law_is_stroke" DS ["_law_found"] t.a_Lisstroke t.d_Lisstroke
 Lwithin : Own K mg "_law_within" FL ["_law_stroke", "_law_others"] t.a_Lwithin t.d_Lwithin
 Lgone : Own K mg "_law_gone" HB ["_law_stroke", "_law_strokes_here"] t.a_Lgone t.d_Lgone
 Lisform : Own K mg "_law_is_form" DJ ["_law_form", "_law_strokes_here"] t.a_Lisform t.d_Lisform
 Lother : Own K mg "_law_other" GH ["_law_script", "_law_strokes_here"] t.a_Lother t.d_Lother
 Lright : Own K mg "_law_right" GM ["_law_forms", "_law_found"] t.a_Lright t.d_Lright
 law : Own K mg "law" PR ["_law_script"] t.a_law t.d_law
 z_bool : mg "bool" = none
 z_int : mg "int" = none
 z_isinstance : mg "isinstance" = none
 z_len : mg "len" = none
 z_list : mg "list" = none
 z_max : mg "max" = none
 z_min : mg "min" = none
 z_range : mg "range" = none
 z_reversed : mg "reversed" = none
 z_set : mg "set" = none
 z_sorted : mg "sorted" = none
 z_tuple : mg "tuple" = none
 g_EAST : mg "EAST" = some t.u_EAST
 r_EAST : BF t.v_EAST t.u_EAST
 k_EAST : ∀ H, Rp K H UG t.v_EAST
 g_NORTH_EAST : mg "NORTH_EAST" = some t.u_NORTH_EAST
 r_NORTH_EAST : BF t.v_NORTH_EAST t.u_NORTH_EAST
 k_NORTH_EAST : ∀ H, Rp K H HE t.v_NORTH_EAST
 g_NORTH : mg "NORTH" = some t.u_NORTH
 r_NORTH : BF t.v_NORTH t.u_NORTH
 k_NORTH : ∀ H, Rp K H MN t.v_NORTH
 g_SOUTH_EAST : mg "SOUTH_EAST" = some t.u_SOUTH_EAST
 r_SOUTH_EAST : BF t.v_SOUTH_EAST t.u_SOUTH_EAST
 k_SOUTH_EAST : ∀ H, Rp K H HL t.v_SOUTH_EAST
 g_NOTHING : mg "NOTHING" = some t.u_NOTHING
 r_NOTHING : BF t.v_NOTHING t.u_NOTHING
 k_NOTHING : ∀ H, Rp K H QA t.v_NOTHING
 g_ACROSS : mg "ACROSS" = some t.u_ACROSS
 r_ACROSS : BF t.v_ACROSS t.u_ACROSS
 x_ACROSS : KX K LK t.u_ACROSS
section
variable {P : Program} {w : World} {K : PySem.W.Frag} {mg : Str → Option Value} {base : Heap} {t : Adr}
def bY (K : PySem.W.Frag) : Sp := fun vs H Q _ => ∃ (a : Addr) (ns : List Int) (k : Int), vs = [.ref a, .int k] ∧ SqL K H a (ns.map V.int) ∧ ns.length ≤ 63 ∧ 0 ≤ k ∧ k ≤ 100 ∧ ∀ z, Q (.int z) H
theorem NX (T : Txt K mg t) : CL P w K mg base CX0 1 t.a_Lcell t.d_Lcell ["_law_script", "_law_k"] (bY K) := by
 refine T.Lcell.F.ok NO (fun vs H Q E h => ?_) (fun cdv A outer s H vs Q E hr h => ?_)
 ·obtain ⟨a, ns, k, rfl, _⟩ := h; rfl
 ·obtain ⟨a, ns, k, rfl, hS, hl, k0, k1, q⟩ := h
  have hk := kk k0 k1
  refine ⟨_, s!"{EM}1A{AZ}{T.z_len}{PySem.boot_len}0ADBSN{AL}0A1AEIGML2{NO.nd}{Or.inl rfl}{BJ}{BI}{BI}1A1AFCFCFK{EF}{AZ}{T.z_len}{PySem.boot_len}0ADBSCN2{NO.nd}{Or.inl rfl}{BJ}2A{BI}{BL}{AL}0A{BL}{BI}1ACF{AZ}{T.z_len}{PySem.boot_len}0ADBSFE{WZ}CCFF{BJ}C1AFFFKGML{BL}{BI}2A2AFCFIGPPP", ?_⟩
  walk_at "rd"
  refine ⟨_, .inl hS, ?_⟩
  walk_at "rd"
  split
  ·rename_i c
   obtain ⟨z, _, hz⟩ := NG k0 c
   exact ⟨_, hS, _, hz, q z⟩
  ·rename_i c
   refine ⟨FJ (by omega) (by omega), EW (by decide) (by decide), _, .inl hS, ?_⟩
   walk_at "rd"
   split
   ·rename_i d
    refine ⟨EW (by decide) (by decide), _, .inl hS, ?_⟩
    walk_at "rd"
    have hp : (0 : Int) < ns.length := by omega
    obtain ⟨z, _, hz⟩ := NG (ns := ns) (Int.emod_nonneg (k * 7) (by omega)) (Int.emod_lt_of_pos (k * 7) hp)
    refine ⟨hp, _, hS, _, hz, ?_⟩
    walk_at "rd"
    refine ⟨⟨by decide, by decide, by decide⟩, by decide, EW (by omega) (by omega), ?_⟩
    have h1 := zk k0 k1 (Int.emod_nonneg z (by decide : (10 : Int) ^ 40 ≠ 0)) (Int.emod_lt_of_pos z (by decide : (0 : Int) < 10 ^ 40))
    have e40 : (10 : Int) ^ Int.toNat 40 = 10 ^ 40 := rfl
    rw [e40]
    generalize z % 10 ^ 40 * (48271 + k) = y at h1 ⊢
    refine ⟨UU 200 200 (by omega) (by omega) (by decide), by decide, q _⟩
   ·exact ⟨FJ (by omega) (by omega), by decide, q _⟩
def YM : Sp := fun vs H Q _ => ∃ (c k : Int), vs = [.int c, .int k] ∧ 0 ≤ k ∧ k ≤ 100 ∧ ∀ z, Q (.int z) H
theorem YA (T : Txt K mg t) : CL P w K mg base CX0 1 t.a_Lmixed t.d_Lmixed ["_law_cell_here", "_law_k"] YM := by
 refine T.Lmixed.F.ok IY (fun vs H Q E h => ?_) (fun cdv A outer s H vs Q E hr h => ?_)
 ·obtain ⟨c, k, rfl, _⟩ := h; rfl
 ·obtain ⟨c, k, rfl, k0, k1, q⟩ := h
  have hk := kk k0 k1
  have md : ∀ x : Int, 0 ≤ x % 2305843009213693951 ∧ x % 2305843009213693951 < 2305843009213693951 := fun x => ⟨Int.emod_nonneg x (by decide), Int.emod_lt_of_pos x (by decide)⟩
  refine ⟨_, s!"2{IY.nd}{Or.inl rfl}{BL}{BJ}{BJ}0A{BI}{BI}1A1AFCFFCFCFK2{IY.nd}{Or.inl rfl}{BL}{BI}2A2AFCFK2{IY.nd}{Or.inl rfl}{BL}{BI}{BJ}{BJ}2A{BI}1ACFFCFCFCFK{JB}{BL}{BI}2A2AFCFCFIGPPP", ?_⟩
  walk_at "rd"
  refine ⟨FJ (by omega) (by omega), EW (by decide) (by decide), by decide, ?_⟩
  have h1 := md (c + k * k * 40503 + 12345)
  generalize (c + k * k * 40503 + 12345) % 2305843009213693951 = x1 at h1 ⊢
  refine ⟨FJ (by omega) (by omega), by decide, ?_⟩
  have h2 := md (x1 * x1)
  generalize x1 * x1 % 2305843009213693951 = x2 at h2 ⊢
  refine ⟨FJ (by omega) (by omega), EW (by decide) (by decide), by decide, ?_⟩
  have h3 := md ((x2 + k * 7919 + 1) * 48271)
  generalize (x2 + k * 7919 + 1) * 48271 % 2305843009213693951 = x3 at h3 ⊢
  refine ⟨FJ (by omega) (by omega), by decide, by decide, by decide, q _⟩
def hU : Sp := fun vs H Q _ => ∃ (c most many : Int), vs = [.int c, .int most, .int many] ∧ 0 < most ∧ most < 2 ^ 100 ∧ 0 ≤ many ∧ many ≤ 60 ∧
 ∀ (l : Addr) (xs : List Int) (H' : Hp), AJ H H' → H l = none → H' l = some (.lst (xs.map V.int)) → xs.length = many.toNat → (∀ x ∈ xs, 0 ≤ x ∧ x < most) → Q (.ref l) H'
def kE (c m n : Int) (l : Addr) (H : Hp) (i : Nat) (σ : L2.St) (H2 : Hp) : Prop := ∃ (xs : List Int) (r : Int) (kv : Option V), σ = [some (.int c), some (.int m), some (.int n), some (.ref l), some (.int r), kv] ∧ H2 = upd H l (.lst (xs.map V.int)) ∧ xs.length = i ∧ ∀ x ∈ xs, 0 ≤ x ∧ x < m
def gW (c m : Int) (p : Addr) (H : Hp) (i : Nat) (σ : L2.St) (H2 : Hp) : Prop := ∃ (ys : List Int) (kv : Option V), σ = [some (.int m), some (.int c), kv] ∧ AJ H H2 ∧ H2 p = some (.lst (ys.map V.int)) ∧ ys.length = i ∧ ∀ x ∈ ys, 0 ≤ x ∧ x < m
theorem XX (T : Txt K mg t) : CL P w K mg base CX0 2 t.a_Lrow t.d_Lrow ["_law_cell_here", "_law_most", "_law_many"] hU := by
 refine T.Lrow.F.ok JU (fun vs H Q E h => ?_) (fun cdv A outer s H vs Q E hr h => ?_)
 ·obtain ⟨c, m, n, rfl, _⟩ := h; rfl
 ·obtain ⟨c, m, n, rfl, m0, m1, n0, n1, q⟩ := h
  have md : ∀ x : Int, 0 ≤ x % m ∧ x % m < m := fun x => ⟨Int.emod_nonneg x (by omega), Int.emod_lt_of_pos x m0⟩
  refine ⟨_, s!"3{JU.nd}{Or.inl rfl}DUK4{JU.nd}{Or.inl rfl}0AK2ADBy5{JU.nd}O3A{BL}4A1AFDBqp4{JU.nd}{Or.inl rfl}{JB}4A1AFKGPc{EF}4ACN3AIGML{AF JS}{["_law_cell_here", "_law_most", "_law_many", "_law_found", "_law_rest", "_law_k"]}{["_law_most", "_law_cell_here", "_law_k"]}{["_law_k"]}{[1, 0]}2ADBy{fun _ _ _ _ => s!"2{show List.Nodup (["_law_most", "_law_cell_here", "_law_k"] : List Str) by decide +kernel}O"}{fun _ _ _ _ => s!"z"}{fun _ _ _ _ => s!"{BL}{YA T}{T.Lmixed.m}{T.Lmixed.F.kp}{T.Lmixed.b}1A2ADBBH0AF"}xIGPPPP", ?_⟩
  walk_at "rd"
  refine ⟨Nat.zero_le _, fun l hl => ⟨by omega, by omega, ?_⟩⟩
  refine MV (kE c m n l H) ⟨[], c, none, rfl, rfl, rfl, by intro x hx; cases hx⟩ ?_ ?_
  ·rintro i σ H2 hi ⟨xs, r, kv, rfl, rfl, hx, hb⟩
   walk_at "rd"
   refine ⟨.inl ⟨_, SqL.of AD⟩, m0, ?_⟩
   refine ⟨_, AD, BQ (by rw [List.length_map]; omega), m0, m1, xs ++ [r % m], _, _, rfl, ?_, ?_, ?_⟩
   ·rw [gO, List.map_append]; rfl
   ·rw [List.length_append, hx]; rfl
   ·intro x h
    rcases List.mem_append.mp h with h | h
    ·exact hb x h
    ·rw [List.mem_singleton.mp h]; exact md r
  ·rintro σ H2 ⟨xs, r, kv, rfl, rfl, hx, hb⟩
   walk_at "rd"
   split
   ·exact q l xs _ (AJ.upd hl) hl AD hx hb
   ·refine ⟨by omega, by omega, fun p hp => ?_⟩
    have hne : p ≠ l := fun e => by rw [e, AD] at hp; cases hp
    have hp0 : H p = none := by rw [BM hne] at hp; exact hp
    refine dJ (gW c m p H) ⟨[], none, rfl, (AJ.upd hl).upd2 hp0, AD, rfl, by intro x hx; cases hx⟩ ?_ ?_
    ·rintro i σ H2 hi ⟨ys, kv, rfl, sm, hy, hlen, hby⟩
     walk_at "rd"
     refine ⟨_, _, rfl, by omega, by omega, fun z => ?_⟩
     walk_at "rd"
     refine ⟨m0, _, hy, BQ (by rw [List.length_map]; omega), nx hi ⟨ys ++ [z % m], _, rfl, sm.upd2 hp0, ?_, ?_, ?_⟩⟩
     ·rw [AD, List.map_append]; rfl
     ·rw [List.length_append, hlen]; rfl
     ·intro x h
      rcases List.mem_append.mp h with h | h
      ·exact hby x h
      ·rw [List.mem_singleton.mp h]; exact md z
    ·rintro σ H2 ⟨ys, kv, rfl, sm, hy, hlen, hby⟩
     exact q p ys _ sm hp0 hy hlen hby
def gK : Sp := fun vs H Q _ => ∃ v : Int, vs = [.int v] ∧ Q (.bl true) H
theorem MO (T : Txt K mg t) : CL P w K mg base CX0 1 t.a_Lint t.d_Lint ["_law_found"] gK := by
 refine T.Lint.F.ok fZ (fun vs H Q E h => ?_) (fun cdv A outer s H vs Q E hr h => ?_)
 ·obtain ⟨v, rfl, _⟩ := h; rfl
 ·obtain ⟨v, rfl, k⟩ := h
  refine ⟨_, s!"{DQ (c := .type "int")}{T.z_isinstance}{boot_isinstance}0A{.ty "int"}{T.z_int}{boot_int}rDBBS{@mV _ _ _ _ s!"{DQ (c := .type "bool")}{T.z_isinstance}{boot_isinstance}0A{.ty "bool"}{T.z_bool}{boot_bool}rDBBS"}#!IG", ?_⟩
  walk_at "rd"
  refine ⟨rfl, ⟨_, rfl⟩, _, .int v, _, MA, ?_⟩
  walk_at "rd"
  refine ⟨rfl, ⟨_, rfl⟩, _, .int v, _, KD, ?_⟩
  walk_at "rd"
  exact k
def aW (K : PySem.W.Frag) : Sp := fun vs H Q _ => ∃ (x y : V) (a b c d : Int), vs = [x, y] ∧ Rp K H (num a b) x ∧ Rp K H (num c d) y ∧ ∀ v H', AJ H H' → Rp K H' (num (a - c) (b - d)) v → Q v H'
theorem OB (T : Txt K mg t) : CL P w K mg base CX0 1 t.a_minus t.d_minus ["one", "other"] (aW K) := by
 refine T.minus.F.ok aD (fun vs H Q E h => ?_) (fun cdv A outer s H vs Q E hr h => ?_)
 ·obtain ⟨x, y, a, b, c, d, rfl, _⟩ := h; rfl
 ·obtain ⟨x, y, a, b, c, d, rfl, hx, hy, q⟩ := h
  obtain ⟨p, rfl, hp⟩ := BC.mp hx
  obtain ⟨p', rfl, hp'⟩ := BC.mp hy
  refine ⟨_, s!"{CA}{AE}0ACE{AE}1ACEF{CA}{AE}0ACE{AE}1ACEFDBBRIG", ?_⟩
  walk_at "rd"
  refine ⟨_, hp, _, rfl, _, hp', _, rfl, _, hp, _, rfl, _, hp', _, rfl, ?_⟩
  exact ⟨by decide, fun p hp => q _ _ (AJ.upd hp) (BC.mpr ⟨p, rfl, SqT.of AD⟩)⟩
def sI (v : Int) : Int := if 0 < v then 1 else if v < 0 then -1 else 0
def sg (a b : Int) : Int := if 0 ≤ a * b then sI (a + b) else if b * b < 2 * a * a then sI a else sI b
theorem pH (v : Int) : -1 ≤ sI v ∧ sI v ≤ 1 := by unfold sI; split <;> (try split) <;> omega
theorem qD (a b : Int) : -1 ≤ sg a b ∧ sg a b ≤ 1 := by unfold sg; split <;> (try split) <;> exact pH _
def oD : Sp := fun vs H Q _ => ∃ v : Int, vs = [.int v] ∧ Q (.int (sI v)) H
theorem HG (T : Txt K mg t) : CL P w K mg base CX0 1 t.a_signofint t.d_signofint ["value"] oD := by
 refine T.signofint.F.ok QX (fun vs H Q E h => ?_) (fun cdv A outer s H vs Q E hr h => ?_)
 ·obtain ⟨v, rfl, _⟩ := h; rfl
 ·obtain ⟨v, rfl, k⟩ := h
  refine ⟨_, s!"{EF}0ACNCIGML{EM}0ACNCtIGMLCIGPP", ?_⟩
  unfold sI at k
  walk_at "rd"
  split
  ·rename_i h; rw [if_pos h] at k; exact k
  ·rename_i h; rw [if_neg h] at k
   split
   ·rename_i h; rw [if_pos h] at k; exact k
   ·rename_i h; rw [if_neg h] at k; exact k
def YO (a : Int) : Prop := -(2 ^ 60) ≤ a ∧ a ≤ 2 ^ 60
def jW (K : PySem.W.Frag) : Sp := fun vs H Q _ => ∃ (x : V) (a b : Int), vs = [x] ∧ Rp K H (num a b) x ∧ YO a ∧ YO b ∧ Q (.int (sg a b)) H
theorem YV (T : Txt K mg t) : CL P w K mg base CX0 2 t.a_signof t.d_signof ["number"] (jW K) := by
 refine T.signof.F.ok LQ (fun vs H Q E h => ?_) (fun cdv A outer s H vs Q E hr h => ?_)
 ·obtain ⟨x, a, b, rfl, _⟩ := h; rfl
 ·obtain ⟨x, a, b, rfl, hx, ha, hb, k⟩ := h
  obtain ⟨p, rfl, hp⟩ := BC.mp hx
  have mb : ∀ z, IntMulOk z b := fun z => EW (by have := hb.1; omega) (by have := hb.2; omega)
  have ma : ∀ z, IntMulOk z a := fun z => EW (by have := ha.1; omega) (by have := ha.2; omega)
  have m2 : ∀ z, IntMulOk 2 z := fun z => FJ (by decide) (by decide)
  refine ⟨_, s!"0A1{LQ.nd}O2{LQ.nd}OfQQhk{TU}{BI}1A2AFCN{HG T}{T.signofint.m}{T.signofint.F.kp}{T.signofint.b}{BJ}1A2AFDBHIGML{EF}{BI}{BI}C1AF1AF{BI}2A2AFN{HG T}{T.signofint.m}{T.signofint.F.kp}{T.signofint.b}1ADBHIGML{HG T}{T.signofint.m}{T.signofint.F.kp}{T.signofint.b}2ADBHIGPPP", ?_⟩
  unfold sg at k
  walk_at "rd"
  refine ⟨_, hp, rfl, ?_⟩
  walk_at "rd"
  refine ⟨mb _, ?_⟩
  split
  ·rename_i h; rw [if_pos h] at k; exact ⟨_, rfl, k⟩
  ·rename_i h; rw [if_neg h] at k
   refine ⟨m2 _, ma _, mb _, ?_⟩
   split
   ·rename_i h; rw [if_pos h] at k; exact ⟨_, rfl, k⟩
   ·rename_i h; rw [if_neg h] at k; exact ⟨_, rfl, k⟩
def fW (K : PySem.W.Frag) : Sp := fun vs H Q _ => ∃ (x y : V) (a b c d : Int), vs = [x, y] ∧ Rp K H (num a b) x ∧ Rp K H (num c d) y ∧ ∀ v H', AJ H H' → Rp K H' (num (a + c) (b + d)) v → Q v H'
theorem iL (T : Txt K mg t) : CL P w K mg base CX0 1 t.a_plus t.d_plus ["one", "other"] (fW K) := by
 refine T.plus.F.ok iK (fun vs H Q E h => ?_) (fun cdv A outer s H vs Q E hr h => ?_)
 ·obtain ⟨x, y, a, b, c, d, rfl, _⟩ := h; rfl
 ·obtain ⟨x, y, a, b, c, d, rfl, hx, hy, q⟩ := h
  obtain ⟨p, rfl, hp⟩ := BC.mp hx
  obtain ⟨p', rfl, hp'⟩ := BC.mp hy
  refine ⟨_, s!"{BJ}{AE}0ACE{AE}1ACEF{BJ}{AE}0ACE{AE}1ACEFDBBRIG", ?_⟩
  walk_at "rd"
  refine ⟨_, hp, _, rfl, _, hp', _, rfl, _, hp, _, rfl, _, hp', _, rfl, ?_⟩
  exact ⟨by decide, fun p hp => q _ _ (AJ.upd hp) (BC.mpr ⟨p, rfl, SqT.of AD⟩)⟩
def bO (K : PySem.W.Frag) : Sp := fun vs H Q _ => ∃ (x : V) (a b f : Int), vs = [x, .int f] ∧ Rp K H (num a b) x ∧ (-10 ≤ f ∧ f ≤ 10) ∧ ∀ v H', AJ H H' → Rp K H' (num (a * f) (b * f)) v → Q v H'
theorem SC (T : Txt K mg t) : CL P w K mg base CX0 1 t.a_times t.d_times ["number", "factor"] (bO K) := by
 refine T.times.F.ok dB (fun vs H Q E h => ?_) (fun cdv A outer s H vs Q E hr h => ?_)
 ·obtain ⟨x, a, b, f, rfl, _⟩ := h; rfl
 ·obtain ⟨x, a, b, f, rfl, hx, hf, q⟩ := h
  obtain ⟨p, rfl, hp⟩ := BC.mp hx
  have mf : ∀ z, IntMulOk z f := fun z => EW (by omega) (by omega)
  refine ⟨_, s!"{BI}{AE}0ACE1AF{BI}{AE}0ACE1AFDBBRIG", ?_⟩
  walk_at "rd"
  refine ⟨_, hp, _, rfl, ?_⟩
  walk_at "rd"
  refine ⟨mf _, _, hp, _, rfl, ?_⟩
  walk_at "rd"
  exact ⟨mf _, by decide, fun p hp => q _ _ (AJ.upd hp) (BC.mpr ⟨p, rfl, SqT.of AD⟩)⟩
def lt6 (a : Int) : Prop := -(10 ^ 9) ≤ a ∧ a ≤ 10 ^ 9
def YH (K : PySem.W.Frag) : Sp := fun vs H Q _ => ∃ (x y : V) (a b c d : Int), vs = [x, y] ∧ Rp K H (num a b) x ∧ Rp K H (num c d) y ∧ lt6 a ∧ lt6 b ∧ lt6 c ∧ lt6 d ∧ ∀ H', AJ H H' → Q (.bl (decide (sg (a - c) (b - d) < 0))) H'
theorem DT (T : Txt K mg t) : CL P w K mg base CX0 3 t.a_isless t.d_isless ["one", "other"] (YH K) := by
 refine T.isless.F.ok YW (fun vs H Q E h => ?_) (fun cdv A outer s H vs Q E hr h => ?_)
 ·obtain ⟨x, y, a, b, c, d, rfl, _⟩ := h; rfl
 ·obtain ⟨x, y, a, b, c, d, rfl, hx, hy, ha, hb, hc, hd, q⟩ := h
  refine ⟨_, s!"{EM}{YV T}{T.signof.m}{T.signof.F.kp}{T.signof.b}{OB T}{T.minus.m}{T.minus.F.kp}{T.minus.b}0A1ADBBHDBHCdIG", ?_⟩
  walk_at "rd"
  refine ⟨_, _, _, _, _, _, rfl, hx, hy, fun v H1 s1 r1 => ?_⟩
  refine ⟨_, _, _, rfl, r1, ?_, ?_, ?_⟩
  ·unfold lt6 at *; unfold YO; omega
  ·unfold lt6 at *; unfold YO; omega
  ·exact q _ s1
end
theorem jC : ∀ (n a b : Nat), a ≤ n → 2 * (a * a) = b * b → a = 0
 | 0, a, b, h, _ => by omega
 | n + 1, a, b, h, e => by
  have hb : b % 2 = 0 := by
   rcases Nat.mod_two_eq_zero_or_one b with z | z
   ·exact z
   ·have h1 : (b * b) % 2 = 1 := by rw [Nat.mul_mod, z]
    omega
  obtain ⟨c, rfl⟩ : ∃ c, b = 2 * c := ⟨b / 2, by omega⟩
  have e2 : a * a = 2 * (c * c) := by
   have : 2 * c * (2 * c) = 2 * (2 * (c * c)) := by rw [Nat.mul_assoc, Nat.mul_left_comm c 2 c]
   omega
  by_cases ha : a = 0
  ·exact ha
  ·have hc : c ≤ n := by
    apply Classical.byContradiction
    intro hh
    have h3 : a ≤ c := by omega
    have h4 : a * a ≤ c * c := Nat.mul_le_mul h3 h3
    have h5 : 0 < a * a := Nat.mul_pos (by omega) (by omega)
    omega
   have c0 := jC n c a hc e2.symm
   subst c0
   have : a * a = 0 := by omega
   rcases Nat.mul_eq_zero.mp this with z | z <;> exact z
theorem dM {a b : Int} (h : 2 * a * a = b * b) : a = 0 := by
 have e : 2 * (a.natAbs * a.natAbs) = b.natAbs * b.natAbs := by
  have := congrArg Int.natAbs h
  rw [Int.natAbs_mul, Int.natAbs_mul, Int.natAbs_mul] at this
  rw [← Nat.mul_assoc]
  exact this
 have := jC a.natAbs a.natAbs b.natAbs (Nat.le_refl _) e
 omega
theorem gZ (a b : Int) : sg a b = if 0 ≤ a * b then (if 0 < a + b then 1 else 0) - (if a + b < 0 then 1 else 0) else if 0 < a then (if 0 < 2 * a * a - b * b then 1 else 0) - (if 2 * a * a - b * b < 0 then 1 else 0) else (if 2 * a * a - b * b < 0 then 1 else 0) - (if 0 < 2 * a * a - b * b then 1 else 0) := by
 unfold sg sI
 by_cases h : 0 ≤ a * b
 ·rw [if_pos h, if_pos h]
  by_cases h1 : 0 < a + b
  ·rw [if_pos h1, if_pos h1, if_neg (by omega)]; rfl
  ·rw [if_neg h1, if_neg h1]
   by_cases h2 : a + b < 0
   ·rw [if_pos h2, if_pos h2]; rfl
   ·rw [if_neg h2, if_neg h2]; rfl
 ·rw [if_neg h, if_neg h]
  have hne : 2 * a * a ≠ b * b := fun e => by
   have := dM e
   subst this
   simp at h
  by_cases h1 : 0 < a
  ·have hb : b < 0 := by
    apply Classical.byContradiction
    intro hh
    exact h (Int.mul_nonneg (by omega) (by omega))
   rw [if_pos h1]
   by_cases h2 : b * b < 2 * a * a
   ·rw [if_pos h2, if_pos h1, if_pos (show 0 < 2 * a * a - b * b by omega), if_neg (show ¬ 2 * a * a - b * b < 0 by omega)]; rfl
   ·rw [if_neg h2, if_neg (show ¬ 0 < b by omega), if_pos hb, if_neg (show ¬ 0 < 2 * a * a - b * b by omega), if_pos (show 2 * a * a - b * b < 0 by omega)]; first | rfl | (rw [if_pos h1]; rfl) | (rw [if_neg h1]; rfl)
  ·have ha : a < 0 := by
    apply Classical.byContradiction
    intro hh
    have : a = 0 := by omega
    subst this
    simp at h
   have hb : 0 < b := by
    apply Classical.byContradiction
    intro hh
    exact h (Int.mul_nonneg_of_nonpos_of_nonpos (by omega) (by omega))
   rw [if_neg h1]
   by_cases h2 : b * b < 2 * a * a
   ·rw [if_pos h2, if_neg h1, if_pos ha, if_neg (show ¬ 2 * a * a - b * b < 0 by omega), if_pos (show 0 < 2 * a * a - b * b by omega)]; rfl
   ·rw [if_neg h2, if_pos hb, if_pos (show 2 * a * a - b * b < 0 by omega), if_neg (show ¬ 0 < 2 * a * a - b * b by omega)]; first | rfl | (rw [if_pos h1]; rfl) | (rw [if_neg h1]; rfl)
theorem nF (p : Pl) (h n m : Int) (h0 : 0 ≤ h) (h1 : h < 8) (hm : m = if 3 < h then 0 - n else n) : (⟨p.a + m * (BY (h % 4)).a, p.b + m * (BY (h % 4)).b, p.c + m * (BY (h % 4)).c, p.d + m * (BY (h % 4)).d⟩ : Pl) = mv p h n := by
 have e : h = 0 ∨ h = 1 ∨ h = 2 ∨ h = 3 ∨ h = 4 ∨ h = 5 ∨ h = 6 ∨ h = 7 := by omega
 cases p
 rcases e with rfl | rfl | rfl | rfl | rfl | rfl | rfl | rfl <;> simp at hm <;> subst hm <;> simp [mv, BY] <;> omega
section
variable {P : Program} {w : World} {K : PySem.W.Frag} {mg : Str → Option Value} {base : Heap} {t : Adr}
theorem dI (T : Txt K mg t) : CL P w K mg base CX0 1 t.a_Lsign t.d_Lsign ["_law_number"] (jW K) := by
 refine T.Lsign.F.ok KJ (fun vs H Q E h => ?_) (fun cdv A outer s H vs Q E hr h => ?_)
 ·obtain ⟨x, a, b, rfl, _⟩ := h; rfl
 ·obtain ⟨x, a, b, rfl, hx, ha, hb, k⟩ := h
  obtain ⟨p, rfl, hp⟩ := BC.mp hx
  have mb : ∀ z, IntMulOk z b := fun z => EW (by have := hb.1; omega) (by have := hb.2; omega)
  have ma : ∀ z, IntMulOk z a := fun z => EW (by have := ha.1; omega) (by have := ha.2; omega)
  have m2 : ∀ z, IntMulOk 2 z := fun z => FJ (by decide) (by decide)
  refine ⟨_, s!"0A1{KJ.nd}O2{KJ.nd}OfQQhk{TU}{BI}1A2AFCN{CA}{EL}{T.z_int}{boot_int}{EF}{BJ}1A2AFCdDBi{EL}{T.z_int}{boot_int}{EM}{BJ}1A2AFCdDBiFIGML3{KJ.nd}{Or.inl rfl}{CA}{BI}{BI}C1AF1AF{BI}2A2AFFK{EF}1ACN{CA}{EL}{T.z_int}{boot_int}{EF}3ACdDBi{EL}{T.z_int}{boot_int}{EM}3ACdDBiFIGML{CA}{EL}{T.z_int}{boot_int}{EM}3ACdDBi{EL}{T.z_int}{boot_int}{EF}3ACdDBiFIGPPPP", ?_⟩
  walk_at "rd"
  refine ⟨_, hp, rfl, ?_⟩
  walk_at "rd"
  rw [gZ] at k
  refine ⟨mb _, ?_⟩
  split
  ·rename_i c; rw [if_pos c] at k; exact k
  ·rename_i c
   rw [if_neg c] at k
   refine ⟨m2 _, ma _, mb _, ?_⟩
   split
   ·rename_i d; rw [if_pos d] at k; exact k
   ·rename_i d; rw [if_neg d] at k; exact k
def ZC (K : PySem.W.Frag) : Sp := fun vs H Q _ => ∃ (x : V) (p : Pl) (h n : Int), vs = [x, .int h, .int n] ∧ Rp K H p.D x ∧ (0 ≤ h ∧ h < 8) ∧ (-(2 ^ 60) ≤ n ∧ n ≤ 2 ^ 60) ∧ ∀ v H', AJ H H' → Rp K H' (mv p h n).D v → Q v H'
theorem KZ (T : Txt K mg t) : CL P w K mg base CX0 1 t.a_Lmoved t.d_Lmoved ["_law_place", "_law_heading", "_law_steps"] (ZC K) := by
 refine T.Lmoved.F.ok DX (fun vs H Q E h => ?_) (fun cdv A outer s H vs Q E hr h => ?_)
 ·obtain ⟨x, p, h, n, rfl, _⟩ := h; rfl
 ·obtain ⟨x, p, h, n, rfl, hx, hh, hn, q⟩ := h
  refine ⟨_, s!"3{DX.nd}{Or.inl rfl}YVVXYVVXYggXYVVXYVVXYggXYVVXYVVXYggX{@ZW _ _ _ _ _ _ _ s!"Y"}VXYVVXYggXDbbbbUK{EF}1ACN2{DX.nd}{Or.inl rfl}{CA}C2AFKGML{AL}3A{BL}1ACFE4{DX.nd}O5{DX.nd}OfQQhk0A6{DX.nd}O7{DX.nd}OfQQhk8{DX.nd}{Or.inl rfl}{BJ}{AE}6ACE{BI}2A{AE}4ACEFF{BJ}{AE}6ACE{BI}2A{AE}4ACEFFDBBRK8A{BJ}{AE}7ACE{BI}2A{AE}5ACEFF{BJ}{AE}7ACE{BI}2A{AE}5ACEFFDBBRDbBRIGJJJJJ", ?_⟩
  walk_at "rh"
  intro v1 H1 s1 r1 v2 H2 s2 r2 v3 H3 s3 r3 v4 H4 s4 r4
  refine ⟨by decide, fun l hl => ?_⟩
  have sl := AJ.upd (o := .lst [v1, v2, v3, v4]) hl
  have sG : AJ H (upd H4 l (.lst [v1, v2, v3, v4])) := (((s1.trans s2).trans s3).trans s4).trans sl
  have hL : SqL K (upd H4 l (.lst [v1, v2, v3, v4])) l [v1, v2, v3, v4] := SqL.of AD
  obtain ⟨v, hv, rv⟩ : ∃ v, atI [v1, v2, v3, v4] (h % 4) = some v ∧ Rp K (upd H4 l (.lst [v1, v2, v3, v4])) (.tup [num (BY (h % 4)).a (BY (h % 4)).b, num (BY (h % 4)).c (BY (h % 4)).d]) v := by
   have e : h % 4 = 0 ∨ h % 4 = 1 ∨ h % 4 = 2 ∨ h % 4 = 3 := by omega
   rcases e with e | e | e | e <;> rw [e]
   ·exact ⟨v1, rfl, (((r1.same s2).same s3).same s4).same sl⟩
   ·exact ⟨v2, rfl, ((r2.same s3).same s4).same sl⟩
   ·exact ⟨v3, rfl, (r3.same s4).same sl⟩
   ·exact ⟨v4, rfl, r4.same sl⟩
  generalize upd H4 l (.lst [v1, v2, v3, v4]) = G at sG hL rv ⊢
  obtain ⟨a0, x1, y1, rfl, hs, hx1, hy1⟩ := BT.mp (hx.same sG)
  obtain ⟨a1, rfl, hs1⟩ := BC.mp hx1
  obtain ⟨a2, rfl, hs2⟩ := BC.mp hy1
  obtain ⟨b0, z1, z2, rfl, gs, gx1, gy1⟩ := BT.mp rv
  obtain ⟨b1, rfl, gs1⟩ := BC.mp gx1
  obtain ⟨b2, rfl, gs2⟩ := BC.mp gy1
  have fin : ∀ m : Int, (m = if 3 < h then 0 - n else n) → ∀ p1, G p1 = none → ∀ p2, upd G p1 (.tup [.int (p.a + m * (BY (h % 4)).a), .int (p.b + m * (BY (h % 4)).b)]) p2 = none →
    ∀ p3, upd (upd G p1 (.tup [.int (p.a + m * (BY (h % 4)).a), .int (p.b + m * (BY (h % 4)).b)])) p2 (.tup [.int (p.c + m * (BY (h % 4)).c), .int (p.d + m * (BY (h % 4)).d)]) p3 = none →
    Q (.ref p3) (upd (upd (upd G p1 (.tup [.int (p.a + m * (BY (h % 4)).a), .int (p.b + m * (BY (h % 4)).b)])) p2 (.tup [.int (p.c + m * (BY (h % 4)).c), .int (p.d + m * (BY (h % 4)).d)])) p3 (.tup [.ref p1, .ref p2])) := by
   intro m hm p1 h1 p2 h2 p3 h3
   have e := nF p h n m hh.1 hh.2 hm
   have t1 := sG.upd2 (o := .tup [.int (p.a + m * (BY (h % 4)).a), .int (p.b + m * (BY (h % 4)).b)]) (sG.free h1)
   have t2 := t1.upd2 (o := .tup [.int (p.c + m * (BY (h % 4)).c), .int (p.d + m * (BY (h % 4)).d)]) (t1.free h2)
   have t3 := t2.upd2 (o := .tup [.ref p1, .ref p2]) (t2.free h3)
   refine q _ _ t3 ?_
   rw [← e]
   refine BT.mpr ⟨p3, _, _, rfl, SqT.of AD, ?_, ?_⟩
   ·exact (BC.mpr ⟨p1, rfl, SqT.of AD⟩ : Rp K (upd G p1 (.tup [.int (p.a + m * (BY (h % 4)).a), .int (p.b + m * (BY (h % 4)).b)])) (num _ _) _).same ((AJ.upd h2).trans (AJ.upd h3))
   ·exact (BC.mpr ⟨p2, rfl, SqT.of AD⟩ : Rp K (upd (upd G p1 (.tup [.int (p.a + m * (BY (h % 4)).a), .int (p.b + m * (BY (h % 4)).b)])) p2 (.tup [.int (p.c + m * (BY (h % 4)).c), .int (p.d + m * (BY (h % 4)).d)])) (num _ _) _).same (AJ.upd h3)
  walk_at "rh"
  refine gE (c := 3 < h) (a := 0 - n) (b := n) (R := fun m => kJ (α := L2.St → Hp → Prop) _ [some (.ref a0), some (.int h), some (.int m), _, _, _, _, _, _] G) (fun m hm => ?_)
  have mo : ∀ z : Int, IntMulOk m z := fun z => FJ (by split at hm <;> omega) (by split at hm <;> omega)
  have fin := fin m hm
  clear hm
  walk_at "rh"
  refine ⟨by decide, _, hL, _, hv, ?_⟩
  walk_at "rh"
  refine ⟨_, gs, rfl, ?_⟩
  walk_at "rh"
  refine ⟨_, hs, rfl, ?_⟩
  walk_at "rh"
  refine ⟨_, hs1, _, rfl, ?_⟩
  walk_at "rh"
  refine ⟨_, gs1, _, rfl, ?_⟩
  walk_at "rh"
  refine ⟨mo _, _, hs1, _, rfl, ?_⟩
  walk_at "rh"
  refine ⟨_, gs1, _, rfl, ?_⟩
  walk_at "rh"
  refine ⟨mo _, by decide, fun p1 h1 => ?_⟩
  walk_at "rh"
  have u1 := AJ.upd (o := .tup [.int (p.a + m * (BY (h % 4)).a), .int (p.b + m * (BY (h % 4)).b)]) h1
  refine ⟨_, u1.tup hs2, _, rfl, ?_⟩
  walk_at "rh"
  refine ⟨_, u1.tup gs2, _, rfl, ?_⟩
  walk_at "rh"
  refine ⟨mo _, _, u1.tup hs2, _, rfl, ?_⟩
  walk_at "rh"
  refine ⟨_, u1.tup gs2, _, rfl, ?_⟩
  walk_at "rh"
  exact ⟨mo _, by decide, fun p2 h2 => ⟨by decide, fun p3 h3 => fin p1 h1 p2 h2 p3 h3⟩⟩
end
def cx (h : Int) : Int := if h = 0 then 0 else if h = 1 then -1 else if h = 2 then -1 else 1
def cy (h : Int) : Int := if h = 2 then 0 else 1
def H4 (h : Int) : Prop := h = 0 ∨ h = 1 ∨ h = 2 ∨ h = 7
def asA (h : Int) (p : Q4) : Int := p.1 * cx h + p.2.2.1 * cy h
def asB (h : Int) (p : Q4) : Int := p.2.1 * cx h + p.2.2.2 * cy h
def alA (h : Int) (p : Q4) : Int := if h = 2 then p.2.2.1 else p.1
def alB (h : Int) (p : Q4) : Int := if h = 2 then p.2.2.2 else p.2.1
def bq (p : Q4) : Prop := lt6 p.1 ∧ lt6 p.2.1 ∧ lt6 p.2.2.1 ∧ lt6 p.2.2.2
def b7 (p : Q4) : Prop := (-(10 ^ 7) ≤ p.1 ∧ p.1 ≤ 10 ^ 7) ∧ (-(10 ^ 7) ≤ p.2.1 ∧ p.2.1 ≤ 10 ^ 7) ∧ (-(10 ^ 7) ≤ p.2.2.1 ∧ p.2.2.1 ≤ 10 ^ 7) ∧ (-(10 ^ 7) ≤ p.2.2.2 ∧ p.2.2.2 ≤ 10 ^ 7)
def hdg (p q : Q4) : Int := if q.2.2.1 - p.2.2.1 = 0 ∧ q.2.2.2 - p.2.2.2 = 0 then 0 else if q.1 - p.1 = 0 ∧ q.2.1 - p.2.1 = 0 then 2 else if q.1 - p.1 = q.2.2.1 - p.2.2.1 ∧ q.2.1 - p.2.1 = q.2.2.2 - p.2.2.2 then 1 else 7
theorem KU (p q : Q4) : H4 (hdg p q) := by unfold hdg H4; split <;> (try split) <;> (try split) <;> simp
def onL (p q : Q4) : Prop := ∃ h, H4 h ∧ asA h p = asA h q ∧ asB h p = asB h q
theorem HK {p q : Q4} (o : onL p q) : asA (hdg p q) p = asA (hdg p q) q ∧ asB (hdg p q) p = asB (hdg p q) q := by
 unfold hdg
 by_cases c1 : q.2.2.1 - p.2.2.1 = 0 ∧ q.2.2.2 - p.2.2.2 = 0
 ·rw [if_pos c1]
  simp [asA, asB, cx, cy]
  omega
 rw [if_neg c1]
 by_cases c2 : q.1 - p.1 = 0 ∧ q.2.1 - p.2.1 = 0
 ·rw [if_pos c2]
  simp [asA, asB, cx, cy]
  omega
 rw [if_neg c2]
 by_cases c3 : q.1 - p.1 = q.2.2.1 - p.2.2.1 ∧ q.2.1 - p.2.1 = q.2.2.2 - p.2.2.2
 ·rw [if_pos c3]
  simp [asA, asB, cx, cy]
  omega
 rw [if_neg c3]
 obtain ⟨h, h4, e1, e2⟩ := o
 rcases h4 with rfl | rfl | rfl | rfl
 ·simp [asA, asB, cx, cy] at e1 e2
  exact absurd ⟨by omega, by omega⟩ c1
 ·simp [asA, asB, cx, cy] at e1 e2
  exact absurd ⟨by omega, by omega⟩ c3
 ·simp [asA, asB, cx, cy] at e1 e2
  exact absurd ⟨by omega, by omega⟩ c2
 ·exact ⟨e1, e2⟩
theorem al7 {h : Int} {p : Q4} (b : b7 p) : (-(10 ^ 7) ≤ alA h p ∧ alA h p ≤ 10 ^ 7) ∧ (-(10 ^ 7) ≤ alB h p ∧ alB h p ≤ 10 ^ 7) := by
 obtain ⟨b1, b2, b3, b4⟩ := b
 unfold alA alB
 split <;> exact ⟨by assumption, by assumption⟩
theorem TY (a b c d : Int) : deqL [.int a, .int b] [.int c, .int d] = decide (a = c ∧ b = d) := by
 simp only [deqL, deq, Bool.and_true]
 rw [Bool.eq_iff_iff]
 simp
section
variable {P : Program} {w : World} {K : PySem.W.Frag} {mg : Str → Option Value} {base : Heap} {t : Adr}
theorem HM {K : PySem.W.Frag} {H : Hp} {p : Q4} {v : V} : Rp K H (q4D p) v ↔ ∃ a x y, v = .ref a ∧ SqT K H a [x, y] ∧ Rp K H (num p.1 p.2.1) x ∧ Rp K H (num p.2.2.1 p.2.2.2) y := BT
def UE (K : PySem.W.Frag) : Sp := fun vs H Q _ => ∃ (x y : V) (p q : Q4), vs = [x, y] ∧ Rp K H (q4D p) x ∧ Rp K H (q4D q) y ∧ ∀ H', AJ H H' → Q (.int (hdg p q)) H'
theorem QZ (T : Txt K mg t) : CL P w K mg base CX0 2 t.a_headingof t.d_headingof ["start", "end"] (UE K) := by
 refine T.headingof.F.ok HR (fun vs H Q E h => ?_) (fun cdv A outer s H vs Q E hr h => ?_)
 ·obtain ⟨x, y, p, q, rfl, _⟩ := h; rfl
 ·obtain ⟨x, y, p, q, rfl, hx, hy, k⟩ := h
  have hu := hr.units
  obtain ⟨a, x1, y1, rfl, h1, r1, r2⟩ := HM.mp hx
  obtain ⟨b, x2, y2, rfl, h2, r3, r4⟩ := HM.mp hy
  refine ⟨_, s!"2{HR.nd}{Or.inl rfl}{OB T}{T.minus.m}{T.minus.F.kp}{T.minus.b}{AE}1ACE{AE}0ACEDBBHK3{HR.nd}{Or.inl rfl}{OB T}{T.minus.m}{T.minus.F.kp}{T.minus.b}{AE}1ACE{AE}0ACEDBBHK{EB hu}3A{T.g_NOTHING}{T.r_NOTHING}jN{T.g_EAST}{T.r_EAST}jIGML{EB hu}2A{T.g_NOTHING}{T.r_NOTHING}jN{T.g_NORTH}{T.r_NORTH}jIGML{EB hu}2A3AN{T.g_NORTH_EAST}{T.r_NORTH_EAST}j{T.g_SOUTH_EAST}{T.r_SOUTH_EAST}j$IGPPPP", ?_⟩
  walk_at "rd"
  refine ⟨_, h2, _, rfl, _, h1, _, rfl, _, _, _, _, _, _, rfl, r3, r1, fun v1 H1 s1 e1 => ?_⟩
  refine ⟨_, s1.tup h2, _, rfl, _, s1.tup h1, _, rfl, _, _, _, _, _, _, rfl, r4.same s1, r2.same s1, fun v2 H2 s2 e2 => ?_⟩
  have kk := k _ (s1.trans s2)
  unfold hdg at kk
  have g0 : t.v_EAST = .int 0 := by have := T.k_EAST H2; rwa [UG, Rp] at this
  have g2 : t.v_NORTH = .int 2 := by have := T.k_NORTH H2; rwa [MN, Rp] at this
  have g1 : t.v_NORTH_EAST = .int 1 := by have := T.k_NORTH_EAST H2; rwa [HE, Rp] at this
  have g7 : t.v_SOUTH_EAST = .int 7 := by have := T.k_SOUTH_EAST H2; rwa [HL, Rp] at this
  rw [g0, g1, g2, g7]
  have e1' := e1.same s2
  refine ⟨_, _, e2, T.k_NOTHING _, (show (0 : Nat) ≤ 60 by decide), ?_⟩
  rw [if_neg Bool.false_ne_true, TY]
  dsimp only
  by_cases c1 : q.2.2.1 - p.2.2.1 = 0 ∧ q.2.2.2 - p.2.2.2 = 0
  ·rw [if_pos (decide_eq_true c1)]
   rw [if_pos c1] at kk
   exact kk
  rw [if_neg (by rw [decide_eq_false c1]; decide)]
  rw [if_neg c1] at kk
  refine ⟨_, _, e1', T.k_NOTHING _, (show (0 : Nat) ≤ 60 by decide), ?_⟩
  rw [if_neg Bool.false_ne_true, TY]
  dsimp only
  by_cases c2 : q.1 - p.1 = 0 ∧ q.2.1 - p.2.1 = 0
  ·rw [if_pos (decide_eq_true c2)]
   rw [if_pos c2] at kk
   exact kk
  rw [if_neg (by rw [decide_eq_false c2]; decide)]
  rw [if_neg c2] at kk
  refine ⟨_, _, e1', e2, (show (0 : Nat) ≤ 60 by decide), ?_⟩
  rw [if_neg Bool.false_ne_true, TY]
  dsimp only
  by_cases c3 : q.1 - p.1 = q.2.2.1 - p.2.2.1 ∧ q.2.1 - p.2.1 = q.2.2.2 - p.2.2.2
  ·rw [if_pos (decide_eq_true c3)]
   rw [if_pos c3] at kk
   exact kk
  ·rw [if_neg (by rw [decide_eq_false c3]; decide)]
   rw [if_neg c3] at kk
   exact kk
theorem lk4 {h : Int} (h4 : H4 h) : lkI LK h = some (.tup [.int (cx h), .int (cy h)]) := by
 rcases h4 with rfl | rfl | rfl | rfl <;> rfl
theorem c10 {h : Int} (h4 : H4 h) : (-10 ≤ cx h ∧ cx h ≤ 10) ∧ (-10 ≤ cy h ∧ cy h ≤ 10) := by
 rcases h4 with rfl | rfl | rfl | rfl <;> decide
def eN (K : PySem.W.Frag) : Sp := fun vs H Q _ => ∃ (x : V) (h : Int) (p : Q4), vs = [.int h, x] ∧ H4 h ∧ Rp K H (q4D p) x ∧ ∀ v H', AJ H H' → Rp K H' (num (asA h p) (asB h p)) v → Q v H'
theorem aF (T : Txt K mg t) : CL P w K mg base CX0 2 t.a_aside t.d_aside ["heading", "place"] (eN K) := by
 refine T.aside.F.ok MY (fun vs H Q E h => ?_) (fun cdv A outer s H vs Q E hr h => ?_)
 ·obtain ⟨x, h, p, rfl, _⟩ := h; rfl
 ·obtain ⟨x, h, p, rfl, h4, hx, k⟩ := h
  obtain ⟨a, x1, y1, rfl, h1, r1, r2⟩ := HM.mp hx
  have lk := lk4 h4
  have cc := c10 h4
  refine ⟨_, s!"1A2{MY.nd}O3{MY.nd}OfQQhk{iL T}{T.plus.m}{T.plus.F.kp}{T.plus.b}{SC T}{T.times.m}{T.times.F.kp}{T.times.b}2A{AE}{@jN _ _ _ _ _ _ (K) _ _ _ rfl T.x_ACROSS T.r_ACROSS (by decide) s!"{T.g_ACROSS}{T.r_ACROSS}j" s!"0A" (fun _ _ => rfl)}CEDBBH{SC T}{T.times.m}{T.times.F.kp}{T.times.b}3A{AE}{@jN _ _ _ _ _ _ (K) _ _ _ rfl T.x_ACROSS T.r_ACROSS (by decide) s!"{T.g_ACROSS}{T.r_ACROSS}j" s!"0A" (fun _ _ => rfl)}CEDBBHDBBHIGP", ?_⟩
  walk_at "rd"
  refine ⟨_, h1, rfl, ?_⟩
  walk_at "rd"
  refine ⟨_, lk, fun v rv => ?_⟩
  obtain ⟨b, rfl, hb⟩ := BC.mp rv
  walk_at "rd"
  refine ⟨_, hb, _, rfl, _, _, _, _, rfl, r1, cc.1, fun v1 H1 s1 e1 => ?_⟩
  refine ⟨_, lk, fun v rv => ?_⟩
  obtain ⟨b', rfl, hb'⟩ := BC.mp rv
  walk_at "rd"
  refine ⟨_, hb', _, rfl, _, _, _, _, rfl, r2.same s1, cc.2, fun v2 H2 s2 e2 => ?_⟩
  refine ⟨_, _, _, _, _, _, rfl, e1.same s2, e2, fun v3 H3 s3 e3 => ?_⟩
  exact k _ _ ((s1.trans s2).trans s3) e3
def iG (K : PySem.W.Frag) : Sp := fun vs H Q _ => ∃ (x y : V) (p q : Q4), vs = [x, y] ∧ Rp K H (q4D p) x ∧ Rp K H (q4D q) y ∧ ∀ a v H', AJ H H' → SqT K H' a [.int (hdg p q), v] → Rp K H' (num (asA (hdg p q) p) (asB (hdg p q) p)) v → Q (.ref a) H'
theorem YZ (T : Txt K mg t) : CL P w K mg base CX0 3 t.a_lineof t.d_lineof ["start", "end"] (iG K) := by
 refine T.lineof.F.ok QB (fun vs H Q E h => ?_) (fun cdv A outer s H vs Q E hr h => ?_)
 ·obtain ⟨x, y, p, q, rfl, _⟩ := h; rfl
 ·obtain ⟨x, y, p, q, rfl, hx, hy, k⟩ := h
  refine ⟨_, s!"2{QB.nd}{Or.inl rfl}{QZ T}{T.headingof.m}{T.headingof.F.kp}{T.headingof.b}0A1ADBBHK2A{aF T}{T.aside.m}{T.aside.F.kp}{T.aside.b}2A0ADBBHDBBRIGP", ?_⟩
  walk_at "rd"
  refine ⟨_, _, p, q, rfl, hx, hy, fun H1 s1 => ?_⟩
  walk_at "rd"
  refine ⟨_, _, p, rfl, KU p q, hx.same s1, fun v H2 s2 e2 => ?_⟩
  refine ⟨by decide, fun a ha => ?_⟩
  exact k a v _ ((s1.trans s2).trans (AJ.upd ha)) (SqT.of AD) (e2.same (AJ.upd ha))
def cV (K : PySem.W.Frag) : Sp := fun vs H Q _ => ∃ (x : V) (h : Int) (p : Q4), vs = [.int h, x] ∧ Rp K H (q4D p) x ∧ ∀ v, Rp K H (num (alA h p) (alB h p)) v → Q v H
theorem JX (T : Txt K mg t) : CL P w K mg base CX0 1 t.a_along t.d_along ["heading", "place"] (cV K) := by
 refine T.along.F.ok bD (fun vs H Q E h => ?_) (fun cdv A outer s H vs Q E hr h => ?_)
 ·obtain ⟨x, h, p, rfl, _⟩ := h; rfl
 ·obtain ⟨x, h, p, rfl, hx, k⟩ := h
  obtain ⟨a, x1, y1, rfl, h1, r1, r2⟩ := HM.mp hx
  have g2 : t.v_NORTH = .int 2 := by have := T.k_NORTH H; rwa [MN, Rp] at this
  unfold alA alB at k
  refine ⟨_, s!"{ET}0A{T.g_NORTH}{T.r_NORTH}jN{AE}1ACE{AE}1ACE$IG", ?_⟩
  rw [g2]
  walk_at "rd"
  by_cases c : h = 2
  ·rw [if_pos c]
   rw [if_pos c, if_pos c] at k
   exact ⟨_, h1, _, rfl, k _ r2⟩
  ·rw [if_neg c]
   rw [if_neg c, if_neg c] at k
   exact ⟨_, h1, _, rfl, k _ r1⟩
end
theorem UV (v : Int) : sI (-v) = - sI v := by
 unfold sI
 by_cases h1 : 0 < v
 ·rw [if_neg (by omega), if_pos (by omega), if_pos h1]
 ·by_cases h2 : v < 0
  ·rw [if_pos (by omega), if_neg h1, if_pos h2]; rfl
  ·rw [if_neg (by omega), if_neg (by omega), if_neg h1, if_neg h2]; rfl
theorem UA (a b : Int) : sg (0 - a) (0 - b) = 0 - sg a b := by
 have e1 : (0 - a) * (0 - b) = a * b := by rw [Int.zero_sub, Int.zero_sub, Int.neg_mul_neg]
 have e2 : (0 - b) * (0 - b) = b * b := by rw [Int.zero_sub, Int.neg_mul_neg]
 have e3 : 2 * (0 - a) * (0 - a) = 2 * a * a := by rw [Int.mul_assoc, Int.zero_sub, Int.neg_mul_neg, Int.mul_assoc]
 have e4 : 0 - a + (0 - b) = -(a + b) := by omega
 unfold sg
 rw [e1, e2, e3, e4, Int.zero_sub, Int.zero_sub, UV, UV, UV]
 by_cases h : 0 ≤ a * b
 ·rw [if_pos h, if_pos h]; omega
 ·rw [if_neg h, if_neg h]
  by_cases h2 : b * b < 2 * a * a
  ·rw [if_pos h2, if_pos h2]; omega
  ·rw [if_neg h2, if_neg h2]; omega
theorem jP {m M : Int} (h0 : 0 ≤ M) (h : m * m < M * M) : -M < m ∧ m < M := by
 constructor
 ·apply Classical.byContradiction
  intro hh
  have := Int.mul_le_mul (show M ≤ -m by omega) (show M ≤ -m by omega) h0 (by omega)
  rw [Int.neg_mul_neg] at this
  omega
 ·apply Classical.byContradiction
  intro hh
  have := Int.mul_le_mul (show M ≤ m by omega) (show M ≤ m by omega) h0 (by omega)
  omega
theorem WP {a b c d : Int} (h0 : 0 ≤ a) (h1 : a < b) (h2 : 0 ≤ c) (h3 : c < d) : a * c < b * d := by
 have e1 : a * c ≤ b * c := Int.mul_le_mul_of_nonneg_right (by omega) h2
 have e2 : b * c < b * d := Int.mul_lt_mul_of_pos_left h3 (by omega)
 omega
theorem sqn (a : Int) : 0 ≤ a * a := by
 rcases Int.le_total 0 a with h | h
 ·exact Int.mul_nonneg h h
 ·exact Int.mul_nonneg_of_nonpos_of_nonpos h h
def nm (a b : Int) : Int := 2 * a * a - b * b
def ps (a b : Int) : Prop := (0 < nm a b ∧ 0 < a) ∨ (nm a b < 0 ∧ 0 < b)
theorem XA {a b : Int} (h : nm a b = 0) : a = 0 ∧ b = 0 := by
 have h' : 2 * a * a = b * b := by unfold nm at h; omega
 have ha := dM h'
 subst ha
 have h2 : b * b = 0 := by rw [← h']; simp
 rcases Int.mul_eq_zero.mp h2 with e | e <;> exact ⟨rfl, e⟩
theorem aY {a b : Int} (h : 0 < nm a b) : a ≠ 0 := by
 rintro rfl
 have := sqn b
 unfold nm at h
 simp at h
 omega
theorem bG {a b : Int} (h : nm a b < 0) : b ≠ 0 := by
 rintro rfl
 have := sqn a
 unfold nm at h
 rw [Int.mul_assoc] at h
 omega
theorem lem1 {a b c d : Int} (h1 : 0 < nm a b) (ha : 0 < a) (h2 : 0 < nm c d) (hc : 0 < c) : -(2 * (a * c)) < b * d ∧ b * d < 2 * (a * c) := by
 apply jP
 ·have := Int.mul_pos ha hc; omega
 ·unfold nm at h1 h2
  have := WP (sqn b) (show b * b < 2 * a * a by omega) (sqn d) (show d * d < 2 * c * c by omega)
  grind
theorem lem2 {a b c d : Int} (h1 : nm a b < 0) (hb : 0 < b) (h2 : nm c d < 0) (hd : 0 < d) : -(b * d) < 2 * (a * c) ∧ 2 * (a * c) < b * d := by
 apply jP
 ·have := Int.mul_pos hb hd; omega
 ·unfold nm at h1 h2
  have := WP (show 0 ≤ 2 * a * a by have := sqn a; rw [Int.mul_assoc]; omega) (show 2 * a * a < b * b by omega) (show 0 ≤ 2 * c * c by have := sqn c; rw [Int.mul_assoc]; omega) (show 2 * c * c < d * d by omega)
  grind
theorem bQ (a b c d : Int) : nm (a + c) (b + d) = nm a b + nm c d + 2 * (2 * (a * c) - b * d) := by unfold nm; grind
theorem IE (a b : Int) : nm (0 - a) (0 - b) = nm a b := by unfold nm; grind
theorem pK {a b c d : Int} (h1 : 0 < nm a b) (ha : 0 < a) (h2 : 0 < nm c d) (hc : 0 < c) : 0 < nm (a + c) (b + d) := by
 have := lem1 h1 ha h2 hc
 rw [bQ]; omega
theorem iX {a b c d : Int} (h1 : nm a b < 0) (hb : 0 < b) (h2 : nm c d < 0) (hd : 0 < d) : nm (a + c) (b + d) < 0 := by
 have := lem2 h1 hb h2 hd
 rw [bQ]; omega
theorem dU (a b : Int) : (a = 0 ∧ b = 0) ∨ ps a b ∨ ps (0 - a) (0 - b) := by
 rcases Int.lt_trichotomy (nm a b) 0 with h | h | h
 ·have := bG h
  by_cases hb : 0 < b
  ·exact .inr (.inl (.inr ⟨h, hb⟩))
  ·exact .inr (.inr (.inr ⟨by rw [IE]; exact h, by omega⟩))
 ·exact .inl (XA h)
 ·have := aY h
  by_cases ha : 0 < a
  ·exact .inr (.inl (.inl ⟨h, ha⟩))
  ·exact .inr (.inr (.inl ⟨by rw [IE]; exact h, by omega⟩))
theorem jL {a b c d : Int} (n1 : 0 < nm a b) (p1 : 0 < a) (n2 : nm c d < 0) (p2 : 0 < d) : ps (a + c) (b + d) := by
 rcases dU (a + c) (b + d) with ⟨e1, e2⟩ | h | h
 ·have e3 : c = 0 - a := by omega
  have e4 : d = 0 - b := by omega
  rw [e3, e4, IE] at n2
  omega
 ·exact h
 ·rcases h with ⟨n, p⟩ | ⟨n, p⟩
  ·have := pK n1 p1 n p
   rw [show a + (0 - (a + c)) = 0 - c by omega, show b + (0 - (b + d)) = 0 - d by omega, IE] at this
   omega
  ·have := iX n2 p2 n p
   rw [show c + (0 - (a + c)) = 0 - a by omega, show d + (0 - (b + d)) = 0 - b by omega, IE] at this
   omega
theorem nL {a b c d : Int} (h1 : ps a b) (h2 : ps c d) : ps (a + c) (b + d) := by
 rcases h1 with ⟨n1, p1⟩ | ⟨n1, p1⟩ <;> rcases h2 with ⟨n2, p2⟩ | ⟨n2, p2⟩
 ·exact .inl ⟨pK n1 p1 n2 p2, by omega⟩
 ·exact jL n1 p1 n2 p2
 ·rw [Int.add_comm a c, Int.add_comm b d]; exact jL n2 p2 n1 p1
 ·exact .inr ⟨iX n1 p1 n2 p2, by omega⟩
theorem pL (a b : Int) : sg a b = if 0 < nm a b then sI a else sI b := by
 unfold sg
 by_cases h : 0 ≤ a * b
 ·rw [if_pos h]
  have k1 : 0 < a → 0 ≤ b := fun ha => by
   apply Classical.byContradiction
   intro hb
   have := Int.mul_neg_of_pos_of_neg ha (show b < 0 by omega)
   omega
  have k2 : a < 0 → b ≤ 0 := fun ha => by
   apply Classical.byContradiction
   intro hb
   have := Int.mul_neg_of_neg_of_pos ha (show 0 < b by omega)
   omega
  rcases Int.lt_trichotomy (nm a b) 0 with n | n | n
  ·rw [if_neg (by omega)]
   have := bG n
   unfold sI
   by_cases p : 0 < b
   ·rw [if_pos p, if_pos]; omega
   ·rw [if_neg p, if_pos (show b < 0 by omega), if_neg (by omega), if_pos (by omega)]
  ·obtain ⟨rfl, rfl⟩ := XA n
   rfl
  ·rw [if_pos n]
   have := aY n
   unfold sI
   by_cases p : 0 < a
   ·have := k1 p
    rw [if_pos p, if_pos]; omega
   ·have := k2 (by omega)
    rw [if_neg p, if_pos (show a < 0 by omega), if_neg (by omega), if_pos (by omega)]
 ·rw [if_neg h]
  unfold nm
  by_cases h2 : b * b < 2 * a * a
  ·rw [if_pos h2, if_pos (by omega)]
  ·rw [if_neg h2, if_neg (by omega)]
theorem dS {a b : Int} (h : ps a b) : sg a b = 1 := by
 rw [pL]
 rcases h with ⟨n, p⟩ | ⟨n, p⟩
 ·rw [if_pos n]; unfold sI; rw [if_pos p]
 ·rw [if_neg (by omega)]; unfold sI; rw [if_pos p]
theorem jV {a b : Int} (h : ps (0 - a) (0 - b)) : sg a b = -1 := by
 have := UA a b
 rw [dS h] at this
 omega
theorem pC : sg 0 0 = 0 := rfl
theorem dY {a b : Int} (h : sg a b = -1) : ps (0 - a) (0 - b) := by
 rcases dU a b with ⟨rfl, rfl⟩ | h' | h'
 ·rw [pC] at h; cases h
 ·rw [dS h'] at h; cases h
 ·exact h'
theorem hX {a b : Int} (h : sg a b = 0) : a = 0 ∧ b = 0 := by
 rcases dU a b with h' | h' | h'
 ·exact h'
 ·rw [dS h'] at h; cases h
 ·rw [jV h'] at h; cases h
theorem sg3 (a b : Int) : sg a b = -1 ∨ sg a b = 0 ∨ sg a b = 1 := by have := qD a b; omega
theorem mN {a b c d : Int} (h1 : sg a b < 0) (h2 : sg c d < 0) : sg (a + c) (b + d) < 0 := by
 have e1 : sg a b = -1 := by have := sg3 a b; omega
 have e2 : sg c d = -1 := by have := sg3 c d; omega
 have := nL (dY e1) (dY e2)
 rw [show 0 - a + (0 - c) = 0 - (a + c) by omega, show 0 - b + (0 - d) = 0 - (b + d) by omega] at this
 rw [jV this]
 decide
def les (n m : Int × Int) : Prop := sg (n.1 - m.1) (n.2 - m.2) < 0
theorem BE {a b c : Int × Int} (h1 : les a b) (h2 : les b c) : les a c := by
 have := mN h1 h2
 unfold les
 rwa [show a.1 - b.1 + (b.1 - c.1) = a.1 - c.1 by omega, show a.2 - b.2 + (b.2 - c.2) = a.2 - c.2 by omega] at this
theorem BK (a : Int × Int) : ¬ les a a := by
 unfold les
 rw [show a.1 - a.1 = 0 by omega, show a.2 - a.2 = 0 by omega]
 decide
theorem GB (a b : Int × Int) : les a b ∨ a = b ∨ les b a := by
 have h := UA (a.1 - b.1) (a.2 - b.2)
 rw [show 0 - (a.1 - b.1) = b.1 - a.1 by omega, show 0 - (a.2 - b.2) = b.2 - a.2 by omega] at h
 rcases sg3 (a.1 - b.1) (a.2 - b.2) with c | c | c
 ·exact .inl (by unfold les; omega)
 ·obtain ⟨h1, h2⟩ := hX c
  exact .inr (.inl (Prod.ext (by omega) (by omega)))
 ·exact .inr (.inr (by unfold les; omega))
theorem KT {a b c : Int × Int} (h : les a b) (h2 : ¬ les c b) : les a c := by
 rcases GB b c with d | d | d
 ·exact BE h d
 ·rwa [d] at h
 ·exact absurd d h2
theorem LN {a b c : Int × Int} (h : ¬ les b a) (h2 : les b c) : les a c := by
 rcases GB a b with d | d | d
 ·exact BE d h2
 ·rwa [← d] at h2
 ·exact absurd d h
theorem LV {a b c : Int × Int} (h : ¬ les b a) (h2 : ¬ les c b) : ¬ les c a := fun d => h2 (KT d h)
theorem FI {a b : Int × Int} (h : les a b) : ¬ les b a := fun d => BK _ (BE h d)
theorem SN {xs : List V} (m : Nat) : HQ xs (some (m : Int)) none = xs.drop m := by
 unfold HQ
 rw [HT.sIx_none, HT.sIx_nat]
 by_cases h : m ≤ xs.length
 ·rw [Nat.min_eq_left h, List.take_of_length_le (by rw [List.length_drop]; omega)]
 ·rw [Nat.min_eq_right (by omega), Nat.sub_self, List.take_zero, List.drop_of_length_le (by omega)]
structure Rw where
 la : Int
 lb : Int
 ha : Int
 hb : Int
 p : Q4
 q : Q4
def rwD (r : Rw) : L2.D := .tup [num r.la r.lb, num r.ha r.hb, q4D r.p, q4D r.q]
def w7 (a : Int) : Prop := -(10 ^ 7) ≤ a ∧ a ≤ 10 ^ 7
structure RC (h n1 n2 : Int) (r : Rw) : Prop where
 la : w7 r.la
 lb : w7 r.lb
 ha : w7 r.ha
 hb : w7 r.hb
 p : b7 r.p
 q : b7 r.q
 e1 : asA h r.p = n1
 e2 : asB h r.p = n2
 e3 : asA h r.q = n1
 e4 : asB h r.q = n2
 f1 : r.la = alA h r.p
 f2 : r.lb = alB h r.p
 f3 : r.ha = alA h r.q
 f4 : r.hb = alB h r.q
 ord : les (r.la, r.lb) (r.ha, r.hb)
theorem w7.lt {a : Int} (h : w7 a) : lt6 a := by unfold w7 at h; unfold lt6; omega
def JP (K : PySem.W.Frag) (H : Hp) (h n1 n2 : Int) (r : Rw) (v : V) : Prop := Rp K H (rwD r) v ∧ RC h n1 n2 r
theorem FX {K : PySem.W.Frag} {H : Hp} {r : Rw} {v : V} : Rp K H (rwD r) v ↔ ∃ a x y z u, v = .ref a ∧ SqT K H a [x, y, z, u] ∧ Rp K H (num r.la r.lb) x ∧ Rp K H (num r.ha r.hb) y ∧ Rp K H (q4D r.p) z ∧ Rp K H (q4D r.q) u := by
 unfold rwD
 constructor
 ·intro h
  rw [Rp] at h
  obtain ⟨a, xs, rfl, hs, h⟩ := h
  rw [RpL] at h
  obtain ⟨x, r1, rfl, h1, h⟩ := h
  rw [RpL] at h
  obtain ⟨y, r2, rfl, h2, h⟩ := h
  rw [RpL] at h
  obtain ⟨z, r3, rfl, h3, h⟩ := h
  rw [RpL] at h
  obtain ⟨u, r4, rfl, h4, h⟩ := h
  rw [RpL] at h
  subst h
  exact ⟨a, x, y, z, u, rfl, hs, h1, h2, h3, h4⟩
 ·rintro ⟨a, x, y, z, u, rfl, hs, h1, h2, h3, h4⟩
  rw [Rp]
  refine ⟨a, _, rfl, hs, ?_⟩
  rw [RpL]
  refine ⟨x, _, rfl, h1, ?_⟩
  rw [RpL]
  refine ⟨y, _, rfl, h2, ?_⟩
  rw [RpL]
  refine ⟨z, _, rfl, h3, ?_⟩
  rw [RpL]
  exact ⟨u, _, rfl, h4, by rw [RpL]⟩
theorem JP.same {K : PySem.W.Frag} {H H' : Hp} {h n1 n2 : Int} {r : Rw} {v : V} (z : JP K H h n1 n2 r v) (s : AJ H H') : JP K H' h n1 n2 r v := ⟨z.1.same s, z.2⟩
theorem JP.tt {K : PySem.W.Frag} {H H' : Hp} {h n1 n2 : Int} {r : Rw} {v : V} (z : JP K H h n1 n2 r v) (s : CD H H') : JP K H' h n1 n2 r v := ⟨z.1.t s, z.2⟩
theorem CN {α β : Type} {F : α → β → Prop} : ∀ {l₁ : List α} {l₂ : List β} {i : Nat} {y : β}, Paired F l₁ l₂ → l₂[i]? = some y → ∃ x, l₁[i]? = some x ∧ F x y
 | _, _, i, x, .nil, e => by simp at e
 | _, _, 0, x, .cons h _, e => by
  simp at e
  subst e
  exact ⟨_, rfl, h⟩
 | _, _, i + 1, x, .cons _ t, e => by
  simp at e
  simpa using CN t e
theorem kL {α β : Type} {F : α → β → Prop} {ks ks' : List α} {xs xs' : List β} (h : Paired F ks xs) (h' : Paired F ks' xs') : Paired F (ks ++ ks') (xs ++ xs') := by
 induction h with
 | nil => exact h'
 | cons a _ ih => exact .cons a ih
theorem fT {α β : Type} {F : α → β → Prop} {ks : List α} {xs : List β} (h : Paired F ks xs) : ∀ n, Paired F (ks.drop n) (xs.drop n) := by
 induction h with
 | nil => intro n; simp; exact .nil
 | cons a r ih =>
  intro n
  cases n with
  | zero => exact .cons a r
  | succ n => simpa using ih n
def OT (h : Int) (p q : Q4) : Rw := if sg (alA h q - alA h p) (alB h q - alB h p) < 0 then ⟨alA h q, alB h q, alA h p, alB h p, q, p⟩ else ⟨alA h p, alB h p, alA h q, alB h q, p, q⟩
theorem RN {h : Int} {p q : Q4} (h4 : H4 h) (e1 : asA h p = asA h q) (e2 : asB h p = asB h q) (e3 : alA h p = alA h q) (e4 : alB h p = alB h q) : p = q := by
 obtain ⟨a, b, c, d⟩ := p
 obtain ⟨a', b', c', d'⟩ := q
 rcases h4 with rfl | rfl | rfl | rfl <;> simp [asA, asB, alA, alB, cx, cy] at e1 e2 e3 e4 <;> simp only [Prod.mk.injEq] <;> omega
theorem QG {h n1 n2 : Int} {p q : Q4} (h4 : H4 h) (ne : p ≠ q) (bp : b7 p) (bq : b7 q) (e1 : asA h p = n1) (e2 : asB h p = n2) (e3 : asA h q = n1) (e4 : asB h q = n2) : RC h n1 n2 (OT h p q) := by
 have a1 := al7 (h := h) bp
 have a2 := al7 (h := h) bq
 unfold OT
 split
 ·rename_i c
  exact ⟨a2.1, a2.2, a1.1, a1.2, bq, bp, e3, e4, e1, e2, rfl, rfl, rfl, rfl, c⟩
 ·rename_i c
  exact ⟨a1.1, a1.2, a2.1, a2.2, bp, bq, e1, e2, e3, e4, rfl, rfl, rfl, rfl, (GB (alA h p, alB h p) (alA h q, alB h q)).resolve_right fun z => z.elim (fun z => ne (RN h4 (e1.trans e3.symm) (e2.trans e4.symm) (congrArg Prod.fst z) (congrArg Prod.snd z))) c⟩
section
variable {P : Program} {w : World} {K : PySem.W.Frag} {mg : Str → Option Value} {base : Heap} {t : Adr}
def TN (K : PySem.W.Frag) : Sp := fun vs H Q _ => ∃ (x y : V) (h : Int) (p q : Q4), vs = [.int h, x, y] ∧ Rp K H (q4D p) x ∧ Rp K H (q4D q) y ∧ b7 p ∧ b7 q ∧ ∀ v H', AJ H H' → Rp K H' (rwD (OT h p q)) v → Q v H'
theorem QK (T : Txt K mg t) : CL P w K mg base CX0 4 t.a_stretchof t.d_stretchof ["heading", "start", "end"] (TN K) := by
 refine T.stretchof.F.ok KO (fun vs H Q E h => ?_) (fun cdv A outer s H vs Q E hr h => ?_)
 ·obtain ⟨x, y, h, p, q, rfl, _⟩ := h; rfl
 ·obtain ⟨x, y, h, p, q, rfl, hx, hy, bp, bq, k⟩ := h
  have a1 := al7 (h := h) bp
  have a2 := al7 (h := h) bq
  refine ⟨_, s!"{DT T}{T.isless.m}{T.isless.F.kp}{T.isless.b}{JX T}{T.along.m}{T.along.F.kp}{T.along.b}0A2ADBBH{JX T}{T.along.m}{T.along.F.kp}{T.along.b}0A1ADBBHDBBHT{@dX _ _ (1) (2) _ _ _ _ _ _ _ _ _ _ _ rfl KO.nd rfl rfl (by decide) rfl rfl s!"2A1ADBB" (by rfl) (by rfl)}GML{JX T}{T.along.m}{T.along.F.kp}{T.along.b}0A1ADBBH{JX T}{T.along.m}{T.along.F.kp}{T.along.b}0A2ADBBH1A2ADBBBBRIGP", ?_⟩
  walk_at "rd"
  refine ⟨_, h, q, rfl, hy, fun v1 e1 => ⟨_, h, p, rfl, hx, fun v2 e2 => ⟨_, _, _, _, _, _, rfl, e1, e2, w7.lt a2.1, w7.lt a2.2, w7.lt a1.1, w7.lt a1.2, fun H1 s1 => ?_⟩⟩⟩
  walk_at "rd"
  by_cases c : sg (alA h q - alA h p) (alB h q - alB h p) < 0
  ·unfold OT at k
   rw [if_pos c] at k
   rw [if_pos (by first | exact decide_eq_true c | exact c)]
   exact ⟨_, h, q, rfl, hy.same s1, fun v3 e3 => ⟨_, h, p, rfl, hx.same s1, fun v4 e4 => ⟨by decide, fun a ha => k _ _ (s1.trans (AJ.upd ha)) (FX.mpr ⟨a, v3, v4, _, _, rfl, SqT.of AD, e3.same (AJ.upd ha), e4.same (AJ.upd ha), hy.same (s1.trans (AJ.upd ha)), hx.same (s1.trans (AJ.upd ha))⟩)⟩⟩⟩
  ·unfold OT at k
   rw [if_neg c] at k
   rw [if_neg (by first | exact c | (rw [decide_eq_false c]; decide))]
   exact ⟨_, h, p, rfl, hx.same s1, fun v3 e3 => ⟨_, h, q, rfl, hy.same s1, fun v4 e4 => ⟨by decide, fun a ha => k _ _ (s1.trans (AJ.upd ha)) (FX.mpr ⟨a, v3, v4, _, _, rfl, SqT.of AD, e3.same (AJ.upd ha), e4.same (AJ.upd ha), hx.same (s1.trans (AJ.upd ha)), hy.same (s1.trans (AJ.upd ha))⟩)⟩⟩⟩
def Rows (K : PySem.W.Frag) (H : Hp) (h n1 n2 : Int) (rs : List Rw) (xs : List V) : Prop := Paired (JP K H h n1 n2) rs xs
theorem EK {K : PySem.W.Frag} {H H' : Hp} {h n1 n2 : Int} {rs : List Rw} {xs : List V} (r : Rows K H h n1 n2 rs xs) (s : AJ H H') : Rows K H' h n1 n2 rs xs := Paired.mapP r fun _ _ z => z.same s
theorem HA {K : PySem.W.Frag} {H H' : Hp} {h n1 n2 : Int} {rs : List Rw} {xs : List V} (r : Rows K H h n1 n2 rs xs) (s : CD H H') : Rows K H' h n1 n2 rs xs := Paired.mapP r fun _ _ z => z.tt s
theorem GJ {K : PySem.W.Frag} {H : Hp} {h n1 n2 : Int} {rs qs : List Rw} {xs ys : List V} (r : Rows K H h n1 n2 rs xs) (r' : Rows K H h n1 n2 qs ys) : Rows K H h n1 n2 (rs ++ qs) (xs ++ ys) := kL r r'
theorem GN {K : PySem.W.Frag} {H : Hp} {h n1 n2 : Int} {r : Rw} {v : V} (z : JP K H h n1 n2 r v) : Rows K H h n1 n2 [r] [v] := .cons z .nil
theorem FR {K : PySem.W.Frag} {H : Hp} {h n1 n2 : Int} {rs : List Rw} {xs : List V} {i : Nat} {v : V} (r : Rows K H h n1 n2 rs xs) (e : xs[i]? = some v) : ∃ z, rs[i]? = some z ∧ JP K H h n1 n2 z v := CN r e
theorem EZ {K : PySem.W.Frag} {H : Hp} {h n1 n2 : Int} {rs : List Rw} {xs : List V} (r : Rows K H h n1 n2 rs xs) : rs.length = xs.length := Paired.length r
def lo (r : Rw) : Int × Int := (r.la, r.lb)
def hi (r : Rw) : Int × Int := (r.ha, r.hb)
def LeD (r s : Rw) : Prop := ¬ les (lo s) (lo r)
theorem LeD.trans {u v w : Rw} (h1 : LeD u v) (h2 : LeD v w) : LeD u w := LV h1 h2
def Srt (rs : List Rw) : Prop := rs.Pairwise LeD
structure JI (xs ys : List Rw) (n i : Nat) (ts : List Rw) : Prop where
 srt : Srt ts
 le1 : ∀ m ∈ ts, ∀ r ∈ xs.drop n, LeD m r
 le2 : ∀ m ∈ ts, ∀ r ∈ ys.drop i, LeD m r
 mem : ∀ v, v ∈ ts ↔ v ∈ xs.take n ∨ v ∈ ys.take i
theorem JI.nil {xs ys : List Rw} : JI xs ys 0 0 [] := ⟨.nil, (fun m hm => by cases hm), (fun m hm => by cases hm), fun v => by simp⟩
theorem KK {α : Type} {xs : List α} {n : Nat} {v : α} (h : xs[n]? = some v) : xs.drop n = v :: xs.drop (n + 1) := by
 obtain ⟨hl, e⟩ := List.getElem?_eq_some_iff.mp h
 rw [List.drop_eq_getElem_cons hl, e]
theorem DO {α : Type} {ls : List α} {i : Nat} {y : α} (hy : ls[i]? = some y) : ls.take (i + 1) = ls.take i ++ [y] := by rw [List.take_succ, hy]; rfl
theorem KB {xs : List Rw} {n : Nat} {v : Rw} (h : xs[n]? = some v) (s : Srt xs) : ∀ r ∈ xs.drop (n + 1), LeD v r := by
 have := List.Pairwise.sublist (List.drop_sublist n xs) s
 rw [KK h] at this
 exact (List.pairwise_cons.mp this).1
theorem or3 {a b c : Prop} : (a ∨ b) ∨ c ↔ (a ∨ c) ∨ b := by
 constructor
 ·rintro ((h | h) | h)
  ·exact .inl (.inl h)
  ·exact .inr h
  ·exact .inl (.inr h)
 ·rintro ((h | h) | h)
  ·exact .inl (.inl h)
  ·exact .inr h
  ·exact .inl (.inr h)
theorem JI.left {xs ys ts : List Rw} {n i : Nat} {v w : Rw} (h : JI xs ys n i ts) (ev : xs[n]? = some v) (ew : ys[i]? = some w) (sx : Srt xs) (sy : Srt ys) (l : LeD v w) : JI xs ys (n + 1) i (ts ++ [v]) := by
 have hx := KK ev
 refine ⟨List.pairwise_append.mpr ⟨h.srt, List.pairwise_singleton _ _, fun m hm r hr => ?_⟩, fun m hm r hr => ?_, fun m hm r hr => ?_, fun u => ?_⟩
 ·rw [List.mem_singleton.mp hr]
  exact h.le1 m hm v (by rw [hx]; exact List.mem_cons_self)
 ·rcases List.mem_append.mp hm with hm | hm
  ·exact h.le1 m hm r (by rw [hx]; exact List.mem_cons_of_mem _ hr)
  ·rw [List.mem_singleton.mp hm]
   exact KB ev sx r hr
 ·rcases List.mem_append.mp hm with hm | hm
  ·exact h.le2 m hm r hr
  ·rw [List.mem_singleton.mp hm]
   rw [KK ew] at hr
   rcases List.mem_cons.mp hr with rfl | hr
   ·exact l
   ·exact l.trans (KB ew sy r hr)
 ·rw [DO ev, List.mem_append, h.mem, List.mem_append]
  exact or3
theorem JI.right {xs ys ts : List Rw} {n i : Nat} {w : Rw} (h : JI xs ys n i ts) (ew : ys[i]? = some w) (sx : Srt xs) (sy : Srt ys) (l : ∀ v, xs[n]? = some v → LeD w v) : JI xs ys n (i + 1) (ts ++ [w]) := by
 have hy := KK ew
 refine ⟨List.pairwise_append.mpr ⟨h.srt, List.pairwise_singleton _ _, fun m hm r hr => ?_⟩, fun m hm r hr => ?_, fun m hm r hr => ?_, fun u => ?_⟩
 ·rw [List.mem_singleton.mp hr]
  exact h.le2 m hm w (by rw [hy]; exact List.mem_cons_self)
 ·rcases List.mem_append.mp hm with hm | hm
  ·exact h.le1 m hm r hr
  ·rw [List.mem_singleton.mp hm]
   cases ev : xs[n]? with
   | none =>
    rw [List.drop_of_length_le (List.getElem?_eq_none_iff.mp ev)] at hr
    cases hr
   | some v =>
    rw [KK ev] at hr
    rcases List.mem_cons.mp hr with rfl | hr
    ·exact l _ ev
    ·exact (l _ ev).trans (KB ev sx r hr)
 ·rcases List.mem_append.mp hm with hm | hm
  ·exact h.le2 m hm r (by rw [hy]; exact List.mem_cons_of_mem _ hr)
  ·rw [List.mem_singleton.mp hm]
   exact KB ew sy r hr
 ·rw [DO ew, List.mem_append, h.mem, List.mem_append, or_assoc]
theorem JI.fin {xs ys ts : List Rw} {n : Nat} (h : JI xs ys n ys.length ts) (sx : Srt xs) : Srt (ts ++ xs.drop n) ∧ ∀ v, v ∈ ts ++ xs.drop n ↔ v ∈ xs ∨ v ∈ ys := by
 refine ⟨List.pairwise_append.mpr ⟨h.srt, List.Pairwise.sublist (List.drop_sublist n xs) sx, h.le1⟩, fun v => ?_⟩
 rw [List.mem_append, h.mem, List.take_length]
 conv => rhs; rw [← List.take_append_drop n xs, List.mem_append]
 exact or3
def dZ (K : PySem.W.Frag) : Sp := fun vs H Q _ => ∃ (a b : Addr) (xs ys : List V) (rs qs : List Rw) (h n1 n2 : Int), vs = [.ref a, .ref b] ∧ SqL K H a xs ∧ SqL K H b ys ∧ Rows K H h n1 n2 rs xs ∧ Rows K H h n1 n2 qs ys ∧ Srt rs ∧ Srt qs ∧ xs.length + ys.length ≤ 200 ∧
 ∀ l zs ms H', AJ H H' → H l = none → H' l = some (.lst zs) → Rows K H' h n1 n2 ms zs → Srt ms → (∀ v, v ∈ ms ↔ v ∈ rs ∨ v ∈ qs) → zs.length = xs.length + ys.length → Q (.ref l) H'
def aQ (K : PySem.W.Frag) (a b l : Addr) (h n1 n2 : Int) (xs : List V) (rs qs : List Rw) (H : Hp) (i : Nat) (σ : L2.St) (H2 : Hp) : Prop := ∃ (n : Nat) (ts : List V) (ms : List Rw) (o : Option V), σ = [some (.ref a), some (.ref b), some (.ref l), some (.int n), o] ∧ AJ H H2 ∧ H2 l = some (.lst ts) ∧ Rows K H2 h n1 n2 ms ts ∧ ts.length = n + i ∧ n ≤ xs.length ∧ JI rs qs n i ms
def jM (K : PySem.W.Frag) (a b l : Addr) (x : V) (h n1 n2 : Int) (xs : List V) (rs qs : List Rw) (H : Hp) (i : Nat) (σ : L2.St) (H2 : Hp) : Prop := ∃ (n : Nat) (ts : List V) (ms : List Rw), σ = [some (.ref a), some (.ref b), some (.ref l), some (.int n), some x] ∧ AJ H H2 ∧ H2 l = some (.lst ts) ∧ Rows K H2 h n1 n2 ms ts ∧ ts.length = n + i ∧ n ≤ xs.length ∧ JI rs qs n i ms
def ND (xs : List V) (σ : L2.St) : Nat := match σ with | [_, _, _, some (.int n), _] => xs.length - n.toNat | _ => 0
theorem jJ (xs : List V) (a b c e : Option V) (n : Nat) : ND xs [a, b, c, some (.int n), e] = xs.length - n := by simp [ND]
theorem LS (T : Txt K mg t) : CL P w K mg base CX0 4 t.a_joinedinorder t.d_joinedinorder ["one", "other"] (dZ K) := by
 refine T.joinedinorder.F.ok CS (fun vs H Q E h => ?_) (fun cdv A outer s H vs Q E hr h => ?_)
 ·obtain ⟨a, b, xs, ys, rs, qs, h, n1, n2, rfl, _⟩ := h; rfl
 ·obtain ⟨a, b, xs, ys, rs, qs, h, n1, n2, rfl, hx, hy, rx, ry, sx, sy, hz, k⟩ := h
  have lx := EZ rx
  have ly := EZ ry
  refine ⟨_, s!"2{CS.nd}{Or.inl rfl}DUK3{CS.nd}{Or.inl rfl}CK1As4{CS.nd}O{@SF _ _ _ _ _ _ PassesOwn.never (@PW.pt _ _ _ s!"{EM}3A{AZ}{T.z_len}{PySem.boot_len}0ADBSN{DT T}{T.isless.m}{T.isless.F.kp}{T.isless.b}{AE}4ACE{AE}{AL}0A3AECEDBBHTWvu") s!"2A{AL}0A3AEDBqp{@nU _ _ (3) _ _ _ _ _ _ CS.nd rfl (Or.inl rfl) s!"C" lC (by first | exact .inl rfl | exact .inr rfl | assumption)}GP"}2A4ADBqpGPc{HN}2A{FV}0A3AmnlFIGPPP", ?_⟩
  walk_at "rd"
  refine ⟨Nat.zero_le _, fun l hl => ⟨⟨ys, (AJ.upd hl).seq hy⟩, ?_⟩⟩
  refine IS (xs := ys) (aQ K a b l h n1 n2 xs rs qs H) ⟨0, [], [], none, rfl, AJ.upd hl, AD, .nil, rfl, Nat.zero_le _, .nil⟩ (fun i σ H2 _ q => by obtain ⟨n, ts, ms, o, rfl, s2, _⟩ := q; exact s2.seq hy) ?_ ?_
  ·rintro i x σ H2 hi ⟨n, ts, ms, o, rfl, s2, h2, r2, e2, n2', j2⟩
   walk_at "rd"
   refine XV (jM K a b l x h n1 n2 xs rs qs H i) (fun σ _ => ND xs σ) ⟨n, ts, ms, rfl, s2, h2, r2, e2, n2', j2⟩ ?_
   clear e2 n2' r2 h2 s2 j2 ts ms n
   rintro σ H3 ⟨n, ts, ms, rfl, s3, h3, r3, e3, n3, j3⟩
   simp only [jJ]
   walk_at "rd"
   refine ⟨xs, .inl (s3.seq hx), ?_⟩
   walk_at "rd"
   have nl : ∀ H4, AJ H3 H4 → H4 l = some (.lst ts) := fun H4 s4 => s4 _ _ h3
   obtain ⟨r, er, z0⟩ := FR ry hi
   obtain ⟨rr, ro⟩ := z0.same s3
   obtain ⟨ax, x1, x2, x3, x4, rfl, hs, p1, p2, p3, p4⟩ := FX.mp rr
   have il := (List.getElem?_eq_some_iff.mp hi).1
   have fin : ∀ H4, AJ H3 H4 → (∀ v, rs[n]? = some v → LeD r v) → aQ K a b l h n1 n2 xs rs qs H (i + 1) [some (V.ref a), some (V.ref b), some (V.ref l), some (V.int n), some (V.ref ax)] (upd H4 l (HO.lst (ts ++ [V.ref ax]))) := fun H4 s4 lv => by
    have su : CD H4 (upd H4 l (.lst (ts ++ [.ref ax]))) := (CD.refl _).upd (HD (nl H4 s4))
    refine ⟨n, ts ++ [.ref ax], ms ++ [r], _, rfl, (s3.trans s4).upd2 hl, AD, HA (GJ (EK r3 s4) (GN (JP.same ⟨rr, ro⟩ s4))) su, ?_, n3, j3.right er sx sy lv⟩
    rw [List.length_append, e3]
    exact Nat.add_assoc ..
   by_cases c : n < xs.length
   ·rw [if_pos (by omega)]
    obtain ⟨v, ev⟩ : ∃ v, xs[n]? = some v := ⟨xs[n], by simp [c]⟩
    obtain ⟨r', er', z1⟩ := FR rx ev
    obtain ⟨rr', ro'⟩ := z1.same s3
    obtain ⟨ay, y1, y2, y3, y4, rfl, hs', q1, q2, q3, q4⟩ := FX.mp rr'
    dsimp only
    refine ⟨_, hs, _, rfl, xs, s3.seq hx, _, IZ ev, ?_⟩
    dsimp only
    refine ⟨_, hs', _, rfl, _, _, _, _, _, _, rfl, p1, q1, ro.la.lt, ro.lb.lt, ro'.la.lt, ro'.lb.lt, fun H4 s4 => ?_⟩
    dsimp only
    by_cases c2 : sg (r.la - r'.la) (r.lb - r'.lb) < 0
    ·rw [if_neg (by rw [decide_eq_true c2]; decide)]
     walk_at "rd"
     exact ⟨.inl ⟨_, SqL.of (nl H4 s4)⟩, ts, nl H4 s4, BQ (by omega), fin H4 s4 fun v e => by
      rw [er'] at e
      cases Option.some.inj e
      exact FI c2⟩
    ·rw [if_pos (decide_eq_false c2)]
     refine ⟨fun σ' H' => jM K a b l (.ref ax) h n1 n2 xs rs qs H i σ' H' ∧ ND xs σ' < xs.length - n, fun σ' H' q => ⟨_, q.2, rfl, q.1⟩, ?_⟩
     walk_at "rd"
     have su : CD H4 (upd H4 l (.lst (ts ++ [.ref ay]))) := (CD.refl _).upd (HD (nl H4 s4))
     refine ⟨.inl ⟨_, SqL.of (nl H4 s4)⟩, xs, (s3.trans s4).seq hx, _, IZ ev, ts, nl H4 s4, BQ (by omega), ⟨n + 1, ts ++ [.ref ay], ms ++ [r'], rfl, (s3.trans s4).upd2 hl, AD, HA (GJ (EK r3 s4) (GN (JP.same ⟨rr', ro'⟩ s4))) su, ?_, c, j3.left er' er sx sy c2⟩, ?_⟩
     ·rw [List.length_append, e3]
      show n + i + 1 = n + 1 + i
      omega
     ·have := jJ xs (some (V.ref a)) (some (V.ref b)) (some (V.ref l)) (some (V.ref ax)) (n + 1)
      have e : ND xs [some (V.ref a), some (V.ref b), some (V.ref l), some (V.int ((n : Int) + 1)), some (V.ref ax)] = xs.length - (n + 1) := this
      rw [e]
      omega
   ·rw [if_neg (by omega)]
    walk_at "rd"
    exact ⟨.inl ⟨_, SqL.of (nl H3 (AJ.refl _))⟩, ts, nl H3 (AJ.refl _), BQ (by omega), fin H3 (AJ.refl _) fun v e => absurd (List.getElem?_eq_some_iff.mp e).1 (by omega)⟩
  ·rintro σ H2 ⟨n, ts, ms, o, rfl, s2, h2, r2, e2, n2', j2⟩
   rw [← ly] at j2
   walk_at "rd"
   refine ⟨xs, s2.seq hx, fun p hp => ?_⟩
   rw [SN n]
   have up := AJ.upd (o := .lst (xs.drop n)) hp
   refine ⟨ts, up _ _ h2, _, AD, Nat.le_of_lt (BQ (n := ts.length + (xs.drop n).length) (by rw [List.length_drop]; omega)), fun p1 hp1 => ?_⟩
   have up1 := AJ.upd (o := .lst (ts ++ xs.drop n)) hp1
   have sa := (s2.trans up).trans up1
   refine k p1 _ (ms ++ rs.drop n) _ sa ((s2.trans up).free hp1) AD (GJ (EK r2 (up.trans up1)) (EK (fT rx n) sa)) (j2.fin sx).1 (j2.fin sx).2 ?_
   rw [List.length_append, List.length_drop]
   omega
abbrev Pa := Addr × List V × List Rw
structure Pt (K : PySem.W.Frag) (H H2 : Hp) (h n1 n2 : Int) (p : Addr) (x : Pa) : Prop where
 ne : x.1 ≠ p
 new : H x.1 = none
 at' : H2 x.1 = some (.lst x.2.1)
 rows : Rows K H2 h n1 n2 x.2.2 x.2.1
 srt : Srt x.2.2
theorem Pt.mv {K : PySem.W.Frag} {H H2 H3 : Hp} {h n1 n2 : Int} {p : Addr} {x : Pa} (q : Pt K H H2 h n1 n2 p x) (s : AJ H2 H3) : Pt K H H3 h n1 n2 p x := ⟨q.ne, q.new, s _ _ q.at', EK q.rows s, q.srt⟩
theorem Pt.wr {K : PySem.W.Frag} {H H2 : Hp} {h n1 n2 : Int} {p : Addr} {x : Pa} {zs ys : List V} (q : Pt K H H2 h n1 n2 p x) (hp : H2 p = some (.lst zs)) : Pt K H (upd H2 p (.lst ys)) h n1 n2 p x := ⟨q.ne, q.new, by rw [BM q.ne]; exact q.at', HA q.rows ((CD.refl _).upd (HD hp)), q.srt⟩
def rf (ls : List (Pa)) : List V := ls.map fun x => V.ref x.1
def sl (ls : List (Pa)) : Nat := (ls.map fun x => x.2.1.length).sum
theorem LC (a b : List (Pa)) : sl (a ++ b) = sl a + sl b := by simp [sl]
def fl (ls : List Pa) : List Rw := ls.flatMap fun x => x.2.2
theorem NJ (a b : List Pa) : fl (a ++ b) = fl a ++ fl b := by simp [fl]
theorem LG (x : Pa) : fl [x] = x.2.2 := by simp [fl]
theorem US (a b : List (Pa)) : rf (a ++ b) = rf a ++ rf b := by simp [rf]
theorem HI (a : List (Pa)) : (rf a).length = a.length := by simp [rf]
theorem XN (ls : List (Pa)) (i : Nat) (x y : Pa) (h1 : ls[2 * i]? = some x) (h2 : ls[2 * i + 1]? = some y) : sl (ls.take (2 * (i + 1))) = sl (ls.take (2 * i)) + (x.2.1.length + y.2.1.length) := by
 have e : ls.take (2 * (i + 1)) = ls.take (2 * i) ++ [x, y] := by
  rw [show 2 * (i + 1) = 2 * i + 1 + 1 by omega, List.take_succ, List.take_succ, h1, h2]
  simp
 rw [e, LC]
 simp [sl]
theorem oP (ls : List (Pa)) (i : Nat) : sl (ls.take i) ≤ sl ls := by
 have : sl ls = sl (ls.take i) + sl (ls.drop i) := by rw [← LC, List.take_append_drop]
 omega
theorem mF {ls : List (Pa)} {i : Nat} {x y : Pa} (h1 : ls[2 * i]? = some x) (h2 : ls[2 * i + 1]? = some y) : x.2.1.length + y.2.1.length ≤ sl ls := by
 have a := XN ls i x y h1 h2
 have b := oP ls (2 * (i + 1))
 omega
def pV (K : PySem.W.Frag) (h n1 n2 : Int) (p : Addr) (rs : List Rw) (H : Hp) (i : Nat) (σ : L2.St) (H2 : Hp) : Prop := ∃ (ls : List (Pa)) (o : Option V), σ = [o] ∧ AJ H H2 ∧ H2 p = some (.lst (rf ls)) ∧ (∀ x ∈ ls, Pt K H H2 h n1 n2 p x) ∧ ls.length = i ∧ sl ls = i ∧ ∀ v, v ∈ fl ls ↔ v ∈ rs.take i
def dF (K : PySem.W.Frag) (a : Addr) (h n1 n2 : Int) (xs : List V) (rs : List Rw) (H : Hp) (σ : L2.St) (H2 : Hp) : Prop := ∃ (p : Addr) (ls : List (Pa)), σ = [some (.ref a), some (.ref p)] ∧ AJ H H2 ∧ H p = none ∧ H2 p = some (.lst (rf ls)) ∧ (∀ x ∈ ls, Pt K H H2 h n1 n2 p x) ∧ ls.length ≤ 200 ∧ sl ls = xs.length ∧ (ls = [] → xs = []) ∧ ∀ v, v ∈ fl ls ↔ v ∈ rs
def SA (σ : L2.St) (H : Hp) : Nat := match σ with | [_, some (.ref p)] => (match H p with | some (.lst v) => v.length | _ => 0) | _ => 0
theorem TD {o : Option V} {p : Addr} {H : Hp} {v : List V} (h : H p = some (.lst v)) : SA [o, some (.ref p)] H = v.length := by simp [SA, h]
def nX (K : PySem.W.Frag) (h n1 n2 : Int) (p q : Addr) (ls : List (Pa)) (H : Hp) (i : Nat) (σ : L2.St) (H2 : Hp) : Prop := ∃ (ms : List (Pa)) (o : Option V), σ = [some (.ref p), o] ∧ AJ H H2 ∧ H2 p = some (.lst (rf ls)) ∧ (∀ x ∈ ls, Pt K H H2 h n1 n2 q x) ∧ H2 q = some (.lst (rf ms)) ∧ (∀ x ∈ ms, Pt K H H2 h n1 n2 q x) ∧ ms.length = i ∧ sl ms = sl (ls.take (2 * i)) ∧ ∀ v, v ∈ fl ms ↔ v ∈ fl (ls.take (2 * i))
theorem cE {ls : List (Pa)} {i : Nat} {x : Pa} (h : ls[i]? = some x) : (rf ls)[i]? = some (.ref x.1) := by unfold rf; rw [List.getElem?_map, h]; rfl
theorem XT {K : PySem.W.Frag} {H H4 : Hp} {h n1 n2 : Int} {p q : Addr} {ls : List (Pa)} {m : Nat} {Q2 : VK} (s4 : AJ H H4) (h4 : H4 p = some (.lst (rf ls))) (r4 : ∀ x ∈ ls, Pt K H H4 h n1 n2 p x) (hm : ls.length = 2 * m) (hm' : m ≤ 200) (hz : sl ls ≤ 200) (hq : H4 q = none)
  (fin : ∀ ms H5, AJ H H5 → H5 q = some (.lst (rf ms)) → (∀ x ∈ ms, Pt K H H5 h n1 n2 q x) → ms.length = m → sl ms = sl ls → (∀ v, v ∈ fl ms ↔ v ∈ fl ls) → Q2 (.ref q) H5) :
  CW (iJ m) (PV 1) gU (XM (dZ K) [] E0 (PH (tOp (PK K) (NM 0) (NM 1)) (PH (tOp (PK K) (NM 0) (tOp (OU fun i j => V.int (i + j)) (NM 1) (tC (V.int 1)))) fP))) q Q2 [some (.ref p), none] (upd H4 q (.lst [])) := by
 have uq := AJ.upd (o := .lst []) hq
 have hq0 := s4.free hq
 refine ZN (nX K h n1 n2 p q ls H) ⟨[], none, rfl, s4.trans uq, uq _ _ h4, fun x hx => ?_, AD, (fun x hx => by cases hx), rfl, rfl, fun v => Iff.rfl⟩ ?_ ?_
 ·have z := (r4 x hx).mv uq
  refine ⟨fun e => ?_, z.new, z.at', z.rows, z.srt⟩
  have := (r4 x hx).at'
  rw [e, hq] at this
  cases this
 ·rintro i σ H5 hi ⟨ms, o, rfl, s5, h5, r5, h6, r6, e6, e7, f7⟩
  obtain ⟨x, ex⟩ : ∃ x, ls[2 * i]? = some x := ⟨ls[2 * i], by rw [List.getElem?_eq_getElem]⟩
  obtain ⟨y, ey⟩ : ∃ y, ls[2 * i + 1]? = some y := ⟨ls[2 * i + 1], by rw [List.getElem?_eq_getElem]⟩
  have px := r5 x (List.mem_of_getElem? ex)
  have py := r5 y (List.mem_of_getElem? ey)
  have c1 : (2 * (i : Int)) = ((2 * i : Nat) : Int) := by omega
  have c2 : (2 * (i : Int)) + 1 = ((2 * i + 1 : Nat) : Int) := by omega
  walk_at "rd"
  refine ⟨_, SqL.of h5, .ref x.1, by rw [c1]; exact IZ (cE ex), _, SqL.of h5, .ref y.1, by rw [c2]; exact IZ (cE ey), ?_⟩
  refine ⟨x.1, y.1, x.2.1, y.2.1, x.2.2, y.2.2, h, n1, n2, rfl, SqL.of px.at', SqL.of py.at', px.rows, py.rows, px.srt, py.srt, Nat.le_trans (mF ex ey) hz, fun l zs ns H7 s7 l0 l7 r7 t7 m7 e8 => ?_⟩
  have h7 := s7 _ _ h6
  have hne : l ≠ q := fun e => by rw [e, h6] at l0; cases l0
  have pq : q ≠ p := fun e => by rw [e, h4] at hq; cases hq
  refine ⟨_, h7, BQ (by rw [HI]; omega), nx hi ⟨ms ++ [(l, zs, ns)], _, rfl, (s5.trans s7).upd2 hq0, ?_, fun x hx => ((r5 x hx).mv s7).wr h7, ?_, fun x hx => ?_, ?_, ?_, fun v => ?_⟩⟩
  ·rw [BM (Ne.symm pq)]; exact s7 _ _ h5
  ·rw [AD, US]; rfl
  ·rcases List.mem_append.mp hx with hx | hx
   ·exact ((r6 x hx).mv s7).wr h7
   ·rw [List.mem_singleton.mp hx]
    exact (⟨hne, s5.free l0, l7, r7, t7⟩ : Pt K H H7 h n1 n2 q (l, zs, ns)).wr h7
  ·rw [List.length_append, e6]; rfl
  ·rw [LC, e7, XN ls i x y ex ey, ← e8]; simp [sl]
  ·rw [show 2 * (i + 1) = 2 * i + 1 + 1 by omega, DO ey, DO ex, NJ, NJ, NJ, LG, LG, LG, List.mem_append, List.mem_append, List.mem_append, f7 v, m7 v]
   exact or_assoc.symm
 ·rintro σ H5 ⟨ms, o, rfl, s5, h5, r5, h6, r6, e6, e7, f7⟩
  exact fin ms H5 s5 h6 r6 e6 (by rw [e7, List.take_of_length_le (by omega)]) (by rw [List.take_of_length_le (by omega)] at f7; exact f7)
def VO (K : PySem.W.Frag) : Sp := fun vs H Q _ => ∃ (a : Addr) (xs : List V) (rs : List Rw) (h n1 n2 : Int), vs = [.ref a] ∧ SqL K H a xs ∧ Rows K H h n1 n2 rs xs ∧ xs.length ≤ 200 ∧
 ∀ l zs ms H', AJ H H' → H l = none → H' l = some (.lst zs) → Rows K H' h n1 n2 ms zs → Srt ms → (∀ v, v ∈ ms ↔ v ∈ rs) → zs.length = xs.length → Q (.ref l) H'
theorem UT (T : Txt K mg t) : CL P w K mg base CX0 5 t.a_inorder t.d_inorder ["rows"] (VO K) := by
 refine T.inorder.F.ok JQ (fun vs H Q E h => ?_) (fun cdv A outer s H vs Q E hr h => ?_)
 ·obtain ⟨a, xs, rs, h, n1, n2, rfl, _⟩ := h; rfl
 ·obtain ⟨a, xs, rs, h, n1, n2, rfl, hx, rx, hz, k⟩ := h
  have lx := EZ rx
  refine ⟨_, s!"1{JQ.nd}{Or.inr rfl}{AF DU}{["rows", "parts"]}{["row"]}{["row"]}{[]}0As{fun _ _ _ _ => s!"0{show List.Nodup (["row"] : List Str) by decide +kernel}O"}{fun _ _ _ _ => s!"z"}{fun _ _ _ _ => s!"0ADBU"}xK{@SF _ _ _ _ _ _ PassesOwn.never s!"{EF}{AZ}{T.z_len}{PySem.boot_len}1ADBSCN" s!"{ET}{BL}{AZ}{T.z_len}{PySem.boot_len}1ADBSCFCN1ADUDBqpGML1{JQ.nd}{Or.inr rfl}{AF DU}{["rows", "parts"]}{["parts", "at"]}{["at"]}{[1]}{@YS _ _ _ _ _ _ _ _ (by rfl) T.z_range s!"C{AZ}{T.z_len}{PySem.boot_len}1ADBSCDBBB" (by rfl) (by rfl)}{fun _ _ _ _ => s!"1{show List.Nodup (["parts", "at"] : List Str) by decide +kernel}O"}{fun _ _ _ _ => s!"z"}{fun _ _ _ _ => s!"{LS T}{T.joinedinorder.m}{T.joinedinorder.F.kp}{T.joinedinorder.b}{PM (K := K) rfl}0A1AE{PM (K := K) rfl}0A{BJ}1ACFEDBBH"}xKGP"}{@SQ _ _ _ s!"1A" (fun _ => rfl)}{AL}1ACEDU$IGPP", ?_⟩
  walk_at "rd"
  refine ⟨⟨xs, hx⟩, fun p hp => ?_⟩
  refine QI (xs := xs) (pV K h n1 n2 p rs H) ⟨[], none, rfl, AJ.upd hp, AD, (fun x hx => by cases hx), rfl, rfl, fun v => Iff.rfl⟩ (fun i σ H2 _ q => by obtain ⟨ls, o, rfl, s2, _⟩ := q; exact s2.seq hx) ?_ ?_
  ·rintro i x σ H2 hi ⟨ls, o, rfl, s2, h2, r2, e2, e3, f3⟩
   obtain ⟨r, er, z0⟩ := FR rx hi
   have il := (List.getElem?_eq_some_iff.mp hi).1
   walk_at "rd"
   refine ⟨by decide, fun q hq => ?_⟩
   have hne : q ≠ p := fun e => by rw [e, h2] at hq; cases hq
   have hq0 := s2.free hq
   have u1 := AJ.upd (o := .lst [x]) hq
   have hp1 := u1 _ _ h2
   refine ⟨_, hp1, BQ (by rw [HI]; omega), nx il ⟨ls ++ [(q, [x], [r])], _, rfl, (s2.trans u1).upd2 hp, ?_, ?_, by simp [e2], by rw [LC, e3]; rfl, fun v => by rw [DO er, NJ, LG, List.mem_append, List.mem_append, f3 v]⟩⟩
   ·rw [AD, US]; rfl
   ·intro y hy
    rcases List.mem_append.mp hy with hy | hy
    ·exact ((r2 y hy).mv u1).wr hp1
    ·rw [List.mem_singleton.mp hy]
     exact (⟨hne, hq0, AD, GN (z0.same (s2.trans u1)), List.pairwise_singleton _ _⟩ : Pt K H (upd H2 q (.lst [x])) h n1 n2 p (q, [x], [r])).wr hp1
  ·rintro σ H2 ⟨ls, o, rfl, s2, h2, r2, e2, e3, f3⟩
   rw [← lx, List.take_length] at f3
   walk_at "rd"
   refine XV (dF K a h n1 n2 xs rs H) SA ⟨p, ls, rfl, s2, hp, h2, r2, by omega, e3, (fun e => by subst e; exact List.length_eq_zero_iff.mp e2.symm), f3⟩ ?_
   clear e2 e3 r2 h2 s2 f3 ls
   rintro σ H3 ⟨p, ls, rfl, s3, p0, h3, r3, l3, e3, z3, f3⟩
   rw [TD h3, HI]
   walk_at "rd"
   refine ⟨_, .inl (SqL.of h3), ?_⟩
   rw [HI]
   walk_at "rd"
   by_cases c : (1 : Int) < ls.length
   ·rw [if_pos c]
    refine ⟨fun σ' H' => dF K a h n1 n2 xs rs H σ' H' ∧ SA σ' H' < ls.length, fun σ' H' q => ⟨_, q.2, rfl, q.1⟩, _, .inl (SqL.of h3), by decide, ?_⟩
    rw [HI]
    have last : ∀ (m : Nat) (q : Addr) (ms : List (Pa)) (H5 : Hp), m < ls.length → H q = none → AJ H H5 → H5 q = some (.lst (rf ms)) → (∀ x ∈ ms, Pt K H H5 h n1 n2 q x) → ms.length = m → 0 < m → sl ms = xs.length → (∀ v, v ∈ fl ms ↔ v ∈ rs) → dF K a h n1 n2 xs rs H [some (.ref a), some (.ref q)] H5 ∧ SA [some (.ref a), some (.ref q)] H5 < ls.length := fun m q ms H5 hm q0 s5 h5 r5 e5 pm z5 f5 =>
     ⟨⟨q, ms, rfl, s5, q0, h5, r5, by omega, z5, (fun e => by subst e; simp at e5; omega), f5⟩, by rw [TD h5, HI]; omega⟩
    by_cases d : (ls.length : Int) % 2 = 1
    ·rw [if_pos d]
     refine ⟨.inl ⟨_, SqL.of h3⟩, Nat.zero_le _, fun q hq => ?_⟩
     have hne : q ≠ p := fun e => by rw [e, h3] at hq; cases hq
     have u1 := AJ.upd (o := .lst []) hq
     have h4 := u1 _ _ h3
     refine ⟨_, h4, BQ (by rw [HI]; omega), _, .inl (SqL.of AD), ls.length + 1, by simp [HI], by omega, fun q2 hq2 => ?_⟩
     have e4 : rf ls ++ [V.ref q] = rf (ls ++ [(q, [], [])]) := by rw [US]; rfl
     rw [e4] at hq2 ⊢
     have s4 : AJ H (upd (upd H3 q (.lst [])) p (.lst (rf (ls ++ [(q, [], [])])))) := (s3.trans u1).upd2 p0
     rw [show (ls.length + 1 + 1) / 2 = (ls.length + 1) / 2 by omega]
     refine XT (h := h) (n1 := n1) (n2 := n2) s4 AD (fun x hx => ?_) (by rw [List.length_append]; show ls.length + 1 = _; omega) (by omega) (by rw [LC]; show sl ls + 0 ≤ 200; omega) hq2 fun ms H5 s5 h5 r5 e5 z5 f5 => last _ q2 ms H5 (by omega) (s4.free hq2) s5 h5 r5 e5 (by omega) ?_ fun v => by rw [f5 v, NJ, LG, List.append_nil]; exact f3 v
     ·rcases List.mem_append.mp hx with hx | hx
      ·exact ((r3 x hx).mv u1).wr h4
      ·rw [List.mem_singleton.mp hx]
       exact (⟨hne, s3.free hq, AD, .nil, .nil⟩ : Pt K H (upd H3 q (.lst [])) h n1 n2 p (q, [], [])).wr h4
     ·rw [z5, LC]
      show sl ls + 0 = xs.length
      omega
    ·rw [if_neg d]
     refine ⟨_, .inl (SqL.of h3), ls.length, by rw [HI], by omega, fun q2 hq2 => ?_⟩
     rw [show (ls.length + 1) / 2 = ls.length / 2 by omega]
     exact XT (h := h) (n1 := n1) (n2 := n2) s3 h3 r3 (by omega) (by omega) (by omega) hq2 fun ms H5 s5 h5 r5 e5 z5 f5 => last _ q2 ms H5 (by omega) (s3.free hq2) s5 h5 r5 e5 (by omega) (by omega) fun v => (f5 v).trans (f3 v)
   ·rw [if_neg c]
    walk_at "rd"
    cases ls with
    | nil =>
     refine ⟨false, .inl ⟨_, SqL.of h3, rfl⟩, ?_⟩
     rw [if_neg Bool.false_ne_true]
     have z := z3 rfl
     refine ⟨Nat.zero_le _, fun q hq => k q [] [] _ (s3.trans (AJ.upd hq)) (s3.free hq) AD .nil .nil (fun v => f3 v) (by rw [z])⟩
    | cons x r =>
     refine ⟨true, .inl ⟨_, SqL.of h3, rfl⟩, ?_⟩
     rw [if_pos rfl]
     have er : r = [] := by
      simp at c
      exact List.length_eq_zero_iff.mp (by omega)
     subst er
     have px := r3 x List.mem_cons_self
     refine ⟨_, SqL.of h3, _, rfl, k x.1 x.2.1 x.2.2 _ s3 px.new px.at' px.rows px.srt (fun v => by rw [← f3 v, LG]) ?_⟩
     rw [← e3]
     simp [sl]
end
theorem WV {xs : List V} {v : V} : ixN (xs ++ [v]).length (-1) = some xs.length := by
 unfold ixN
 rw [if_neg (by decide), List.length_append]
 rw [if_pos (by show -((xs.length + 1 : Nat) : Int) ≤ -1; omega)]
 congr 1
 show ((-1 : Int) + ((xs.length + 1 : Nat) : Int)).toNat = xs.length
 omega
theorem KP {xs : List V} {v : V} : atI (xs ++ [v]) (-1) = some v := by
 have e := WV (xs := xs) (v := v)
 unfold atI
 rw [e]
 simp
def jmg (l r : Rw) : Rw := ⟨l.la, l.lb, r.ha, r.hb, l.p, r.q⟩
def jst (js : List Rw) (r : Rw) : List Rw := match js.reverse with
 | [] => [r]
 | l :: HS => if sg (l.ha - r.la) (l.hb - r.lb) < 0 then js ++ [r] else if sg (l.ha - r.ha) (l.hb - r.hb) < 0 then HS.reverse ++ [jmg l r] else js
theorem gP (r : Rw) : jst [] r = [r] := rfl
theorem RV (us : List Rw) (l r : Rw) : jst (us ++ [l]) r = if sg (l.ha - r.la) (l.hb - r.lb) < 0 then us ++ [l] ++ [r] else if sg (l.ha - r.ha) (l.hb - r.hb) < 0 then us ++ [jmg l r] else us ++ [l] := by
 unfold jst
 rw [List.reverse_append]
 simp
def jn (rs : List Rw) : List Rw := rs.foldl jst []
theorem WY (rs : List Rw) (r : Rw) : jn (rs ++ [r]) = jst (jn rs) r := by simp [jn]
theorem SM {α β : Type} {F : α → β → Prop} : ∀ {ks : List α} {us : List β} {v : β}, Paired F ks (us ++ [v]) → ∃ js j, ks = js ++ [j] ∧ Paired F js us ∧ F j v
 | _, [], v, .cons a .nil => ⟨[], _, rfl, .nil, a⟩
 | _, u :: us, v, .cons a r => by
  obtain ⟨js, j, rfl, h1, h2⟩ := SM r
  exact ⟨_ :: js, j, rfl, .cons a h1, h2⟩
section
variable {P : Program} {w : World} {K : PySem.W.Frag} {mg : Str → Option Value} {base : Heap} {t : Adr}
def YF (K : PySem.W.Frag) : Sp := fun vs H Q _ => ∃ (a : Addr) (xs : List V) (rs : List Rw) (h n1 n2 : Int), vs = [.ref a] ∧ SqL K H a xs ∧ Rows K H h n1 n2 rs xs ∧ xs.length ≤ 200 ∧
 ∀ l zs ms H', AJ H H' → H l = none → H' l = some (.lst zs) → Srt ms → (∀ v, v ∈ ms ↔ v ∈ rs) → Rows K H' h n1 n2 (jn ms) zs → zs.length ≤ xs.length → Q (.ref l) H'
def jE (K : PySem.W.Frag) (a l l2 : Addr) (zs : List V) (ms : List Rw) (h n1 n2 : Int) (H : Hp) (i : Nat) (σ : L2.St) (H2 : Hp) : Prop := ∃ (ts : List V) (o1 o2 o3 o4 : Option V), σ = [some (.ref a), some (.ref l), o1, o2, o3, o4] ∧ AJ H H2 ∧ H2 l = some (.lst ts) ∧ Rows K H2 h n1 n2 (jn (ms.take i)) ts ∧ ts.length ≤ i ∧ H2 l2 = some (.lst zs) ∧ Rows K H2 h n1 n2 ms zs
theorem YT (T : Txt K mg t) : CL P w K mg base CX0 6 t.a_joined t.d_joined ["stretches"] (YF K) := by
 refine T.joined.F.ok FM (fun vs H Q E h => ?_) (fun cdv A outer s H vs Q E hr h => ?_)
 ·obtain ⟨a, xs, rs, h, n1, n2, rfl, _⟩ := h; rfl
 ·obtain ⟨a, xs, rs, h, n1, n2, rfl, hx, rx, hz, k⟩ := h
  refine ⟨_, s!"1{FM.nd}{Or.inl rfl}DUK{UT T}{T.inorder.m}{T.inorder.F.kp}{T.inorder.b}0ADBHs2{FM.nd}O3{FM.nd}O4{FM.nd}O5{FM.nd}OfQQQQh{@PW.pt _ _ _ s!"{@SQ _ _ _ s!"1A" (fun _ => rfl)}W{DT T}{T.isless.m}{T.isless.F.kp}{T.isless.b}{AE}{AL}1ACtECE2ADBBHTeZ"}1A2A3A4A5ADBBBBRDbqpG{DT T}{T.isless.m}{T.isless.F.kp}{T.isless.b}{AE}{AL}1ACtECE3ADBBHT{AE}{AL}1ACtECE3A{AE}{AL}1ACtECE5ADBBBBR{@lR _ _ _ _ _ _ _ s!"1A" s!"Ct" YG (by intro _; rfl)}kGMLGLGc1AIGPP", ?_⟩
  walk_at "rd"
  refine ⟨Nat.zero_le _, fun l hl => ⟨a, xs, rs, h, n1, n2, rfl, (AJ.upd hl).seq hx, EK rx (AJ.upd hl), hz, fun l2 zs ms H1 s1 l20 h1 r1 st1 mm1 e1 => ?_⟩⟩
  have s01 := (AJ.upd (o := .lst []) hl).trans s1
  have hl1 : H1 l = some (.lst []) := s1 _ _ AD
  have hne : l2 ≠ l := fun e => by rw [e, AD] at l20; cases l20
  walk_at "rd"
  refine ⟨⟨zs, SqL.of h1⟩, ?_⟩
  refine IS (xs := zs) (jE K a l l2 zs ms h n1 n2 H) ⟨[], _, _, _, _, rfl, s01, hl1, .nil, Nat.le_refl _, h1, r1⟩ (fun i σ H2 _ q => by obtain ⟨ts, o1, o2, o3, o4, rfl, s2, h2, r2, e2, h3, r3⟩ := q; exact SqL.of h3) ?_ ?_
  ·rintro i x σ H2 hi ⟨ts, o1, o2, o3, o4, rfl, s2, h2, r2, e2, h3, r3⟩
   obtain ⟨r, er, rr, ro⟩ := FR r3 hi
   have ej : jn (ms.take (i + 1)) = jst (jn (ms.take i)) r := by rw [DO er, WY]
   obtain ⟨ax, x1, x2, x3, x4, rfl, hs, p1, p2, p3, p4⟩ := FX.mp rr
   have il := (List.getElem?_eq_some_iff.mp hi).1
   walk_at "rd"
   refine ⟨_, hs, rfl, ?_⟩
   walk_at "rd"
   have put : ∀ H4 p, AJ H2 H4 → H4 p = none → jst (jn (ms.take i)) r = jn (ms.take i) ++ [r] → jE K a l l2 zs ms h n1 n2 H (i + 1) [some (.ref a), some (.ref l), some x1, some x2, some x3, some x4] (upd (upd H4 p (.tup [x1, x2, x3, x4])) l (.lst (ts ++ [.ref p]))) := fun H4 p s4 hp ee => by
    have u := AJ.upd (o := .tup [x1, x2, x3, x4]) hp
    have s5 := s4.trans u
    have h5 := s5 _ _ h2
    have su : CD (upd H4 p (.tup [x1, x2, x3, x4])) (upd (upd H4 p (.tup [x1, x2, x3, x4])) l (.lst (ts ++ [.ref p]))) := (CD.refl _).upd (HD h5)
    refine ⟨ts ++ [.ref p], _, _, _, _, rfl, (s2.trans s5).upd2 hl, AD, (by rw [ej, ee]; exact HA (GJ (EK r2 s5) (GN ⟨FX.mpr ⟨p, x1, x2, x3, x4, rfl, SqT.of AD, p1.same s5, p2.same s5, p3.same s5, p4.same s5⟩, ro⟩)) su), by rw [List.length_append]; show ts.length + 1 ≤ i + 1; omega, by rw [BM hne]; exact s5 _ _ h3, HA (EK r3 s5) su⟩
   have tc : ts = [] ∨ ∃ us v, ts = us ++ [v] := by
    rcases List.eq_nil_or_concat ts with h | ⟨u, v, h⟩
    ·exact .inl h
    ·exact .inr ⟨u, v, by rw [h, List.concat_eq_append]⟩
   rcases tc with rfl | ⟨us, v, rfl⟩
   ·refine ⟨false, .inl ⟨_, SqL.of h2, rfl⟩, ?_⟩
    rw [if_pos rfl]
    exact ⟨.inl ⟨_, SqL.of h2⟩, by decide, fun p hp => ⟨_, (AJ.upd hp) _ _ h2, BQ (Nat.zero_le _), put H2 p (AJ.refl _) hp (by have z : jn (ms.take i) = [] := List.eq_nil_of_length_eq_zero (EZ r2); rw [z]; rfl)⟩⟩
   refine ⟨true, .inl ⟨_, SqL.of h2, by simp⟩, ?_⟩
   rw [if_neg (by decide)]
   have hlen : (us ++ [v]).length ≤ 200 := by omega
   obtain ⟨js, r', ejs, r2', rr', ro'⟩ := SM r2
   have st := RV js r' r
   rw [← ejs] at st
   obtain ⟨ay, y1, y2, y3, y4, rfl, hs', q1, q2, q3, q4⟩ := FX.mp rr'
   refine ⟨_, SqL.of h2, _, KP, ?_⟩
   dsimp only
   refine ⟨_, hs', _, rfl, _, _, _, _, _, _, rfl, q2, p1, ro'.ha.lt, ro'.hb.lt, ro.la.lt, ro.lb.lt, fun H4 s4 => ?_⟩
   dsimp only
   by_cases c : sg (r'.ha - r.la) (r'.hb - r.lb) < 0
   ·rw [if_pos (decide_eq_true c)]
    exact ⟨.inl ⟨_, SqL.of (s4 _ _ h2)⟩, by decide, fun p hp => ⟨_, (s4.trans (AJ.upd hp)) _ _ h2, BQ (by omega), put H4 p s4 hp (by rw [st, if_pos c, ejs])⟩⟩
   rw [if_neg (by rw [decide_eq_false c]; decide)]
   refine ⟨_, SqL.of (s4 _ _ h2), _, KP, ?_⟩
   dsimp only
   refine ⟨_, s4.tup hs', _, rfl, _, _, _, _, _, _, rfl, q2.same s4, p2.same s4, ro'.ha.lt, ro'.hb.lt, ro.ha.lt, ro.hb.lt, fun H5 s5 => ?_⟩
   dsimp only
   have s25 := s4.trans s5
   by_cases d : sg (r'.ha - r.ha) (r'.hb - r.hb) < 0
   ·rw [if_pos (decide_eq_true d)]
    refine ⟨_, SqL.of (s25 _ _ h2), _, KP, ?_⟩
    dsimp only
    refine ⟨_, s25.tup hs', _, rfl, ?_⟩
    walk_at "rd"
    refine ⟨_, SqL.of (s25 _ _ h2), _, KP, ?_⟩
    dsimp only
    refine ⟨_, s25.tup hs', _, rfl, by decide, fun p hp => ⟨_, (s25.trans (AJ.upd hp)) _ _ h2, us.length, WV, ?_⟩⟩
    have es : (us ++ [V.ref ay]).set us.length (V.ref p) = us ++ [V.ref p] := by simp
    rw [es]
    have u := AJ.upd (o := .tup [y1, x2, y3, x4]) hp
    have s5' := s25.trans u
    have h5 := s5' _ _ h2
    have su : CD (upd H5 p (.tup [y1, x2, y3, x4])) (upd (upd H5 p (.tup [y1, x2, y3, x4])) l (.lst (us ++ [.ref p]))) := (CD.refl _).upd (HD h5)
    refine ⟨us ++ [.ref p], _, _, _, _, rfl, (s2.trans s5').upd2 hl, AD, (by rw [ej, st, if_neg c, if_pos d]; exact HA (GJ (EK r2' s5') (GN (r := jmg r' r) ⟨FX.mpr ⟨p, y1, x2, y3, x4, rfl, SqT.of AD, q1.same s5', p2.same s5', q3.same s5', p4.same s5'⟩, ro'.la, ro'.lb, ro.ha, ro.hb, ro'.p, ro.q, ro'.e1, ro'.e2, ro.e3, ro.e4, ro'.f1, ro'.f2, ro.f3, ro.f4, BE ro'.ord d⟩)) su), ?_, by rw [BM hne]; exact s5' _ _ h3, HA (EK r3 s5') su⟩
    rw [List.length_append] at e2 ⊢
    exact Nat.le_trans e2 (Nat.le_succ _)
   ·rw [if_neg (by rw [decide_eq_false d]; decide)]
    exact ⟨us ++ [.ref ay], _, _, _, _, rfl, s2.trans s25, s25 _ _ h2, (by rw [ej, st, if_neg c, if_neg d]; exact EK r2 s25), by omega, s25 _ _ h3, EK r3 s25⟩
  ·rintro σ H2 ⟨ts, o1, o2, o3, o4, rfl, s2, h2, r2, e2, h3, r3⟩
   walk_at "rd"
   rw [← EZ r1, List.take_length] at r2
   exact k l ts ms _ s2 hl h2 st1 mm1 r2 (by omega)
structure Le where
 k : NK
 ka : Addr
 l : Addr
 ys : List V
 ds : List Rw
def Le.e (x : Le) : NK × Addr × V := (x.k, x.ka, .ref x.l)
structure SS (K : PySem.W.Frag) (H0 H : Hp) (d : Addr) (x : Le) : Prop where
 ne : x.l ≠ d
 new : H0 x.l = none
 at' : H x.l = some (.lst x.ys)
 rows : Rows K H x.k.2.1 x.k.2.2.1 x.k.2.2.2 x.ds x.ys
 h4 : H4 x.k.2.1
 key : Rp K H (nkD x.k) (.ref x.ka)
theorem SS.mv {K : PySem.W.Frag} {H0 H H' : Hp} {d : Addr} {x : Le} (q : SS K H0 H d x) (s : AJ H H') : SS K H0 H' d x := ⟨q.ne, q.new, s _ _ q.at', EK q.rows s, q.h4, q.key.same s⟩
theorem SS.wr {K : PySem.W.Frag} {H0 H : Hp} {d b : Addr} {o : HO} {x : Le} (q : SS K H0 H d x) (hb : x.l ≠ b) (s : CD H (upd H b o)) : SS K H0 (upd H b o) d x := ⟨q.ne, q.new, by rw [BM hb]; exact q.at', HA q.rows s, q.h4, q.key.t s⟩
structure Lns (K : PySem.W.Frag) (P : Program) (w : World) (H0 H : Hp) (d : Addr) (ls : List Le) : Prop where
 dict : ∃ ep, H d = some (DN P w d (ls.map Le.e) ep)
 each : ∀ (i : Nat) (x : Le), ls[i]? = some x → SS K H0 H d x
 keys : (ls.map Le.k).Nodup
 lists : (ls.map Le.l).Nodup
theorem cF {H : Hp} {p : Addr} {P : Program} {w : World} {es : EnN} {ep : Nat} (h : H p = some (DN P w p es ep)) : ∀ u, H p = some u → ¬ ((∃ xs, u = .tup xs) ∨ ∃ o1 o2, u = .frz o1 o2) := fun u e => by
 rw [h] at e; cases e
 rintro (⟨xs, e⟩ | ⟨o1, o2, e⟩) <;> cases e
def tot (ls : List Le) : Nat := (ls.map fun x => x.ys.length).sum
theorem GY (a b : List Le) : tot (a ++ b) = tot a + tot b := by simp [tot]
theorem QE : ∀ {ls : List Le} {j : Nat} {x : Le} {v : V} {e : List Rw}, ls[j]? = some x → tot (ls.set j ⟨x.k, x.ka, x.l, x.ys ++ [v], e⟩) = tot ls + 1
 | [], j, x, v, e, h => by simp at h
 | y :: r, 0, x, v, e, h => by
  simp at h
  subst h
  simp [tot]
  omega
 | y :: r, j + 1, x, v, e, h => by
  have := QE (ls := r) (j := j) (x := x) (v := v) (e := e) (by simpa using h)
  simp only [List.set_cons_succ]
  unfold tot at this ⊢
  simp only [List.map_cons, List.sum_cons]
  omega
theorem VT : ∀ {ls : List Le} {j : Nat} {x : Le}, ls[j]? = some x → x.ys.length ≤ tot ls
 | [], j, x, h => by simp at h
 | y :: r, 0, x, h => by
  simp at h
  subst h
  simp [tot]
 | y :: r, j + 1, x, h => by
  have := VT (ls := r) (j := j) (x := x) (by simpa using h)
  unfold tot at this ⊢
  simp only [List.map_cons, List.sum_cons]
  omega
theorem DH {α β : Type} (f : α → β) : ∀ {ls : List α} {j : Nat} {x y : α}, ls[j]? = some x → f y = f x → (ls.set j y).map f = ls.map f
 | [], j, x, y, h, e => by simp at h
 | z :: r, 0, x, y, h, e => by
  simp at h
  subst h
  simp [e]
 | z :: r, j + 1, x, y, h, e => by
  simp only [List.set_cons_succ, List.map_cons]
  rw [DH f (by simpa using h) e]
theorem Lns.mv {K : PySem.W.Frag} {P : Program} {w : World} {H0 H H' : Hp} {d : Addr} {ls : List Le} (q : Lns K P w H0 H d ls) (s : AJ H H') : Lns K P w H0 H' d ls := ⟨let ⟨ep, e⟩ := q.dict; ⟨ep, s _ _ e⟩, fun i x h => (q.each i x h).mv s, q.keys, q.lists⟩
theorem Lns.keysN {K : PySem.W.Frag} {P : Program} {w : World} {H0 H : Hp} {d : Addr} {ls : List Le} (q : Lns K P w H0 H d ls) : ID K H (ls.map Le.e) := fun x hx => by
 obtain ⟨y, hy, rfl⟩ := List.mem_map.mp hx
 obtain ⟨i, hi⟩ := List.mem_iff_getElem?.mp hy
 exact (q.each i y hi).key
theorem GF {α : Type} {ls : List α} (h : ls.Nodup) {i j : Nat} {x y : α} (hi : ls[i]? = some x) (hj : ls[j]? = some y) (ne : i ≠ j) : x ≠ y := fun e => by
 obtain ⟨h1, e1⟩ := List.getElem?_eq_some_iff.mp hi
 obtain ⟨h2, e2⟩ := List.getElem?_eq_some_iff.mp hj
 exact ne ((List.getElem_inj h).mp (by rw [e1, e2, e]))
theorem Lns.old {K : PySem.W.Frag} {P : Program} {w : World} {H0 H : Hp} {d : Addr} {ls : List Le} {j : Nat} {x : Le} {v : V} {z : Rw} (q : Lns K P w H0 H d ls) (hj : ls[j]? = some x) (r : JP K H x.k.2.1 x.k.2.2.1 x.k.2.2.2 z v) :
  Lns K P w H0 (upd H x.l (.lst (x.ys ++ [v]))) d (ls.set j ⟨x.k, x.ka, x.l, x.ys ++ [v], x.ds ++ [z]⟩) := by
 have ox := q.each j x hj
 have st : CD H (upd H x.l (.lst (x.ys ++ [v]))) := (CD.refl _).upd (HD ox.at')
 refine ⟨?_, fun i y hy => ?_, ?_, ?_⟩
 ·rw [DH Le.e (y := ⟨x.k, x.ka, x.l, x.ys ++ [v], x.ds ++ [z]⟩) hj rfl]
  obtain ⟨ep, e⟩ := q.dict
  exact ⟨ep, by rw [BM (Ne.symm ox.ne)]; exact e⟩
 ·rw [List.getElem?_set] at hy
  split at hy
  ·rename_i e
   subst e
   split at hy
   ·cases hy
    exact ⟨ox.ne, ox.new, AD, HA (GJ ox.rows (GN r)) st, ox.h4, ox.key.t st⟩
   ·cases hy
  ·rename_i e
   refine (q.each i y hy).wr ?_ st
   exact GF q.lists (i := i) (j := j) (by rw [List.getElem?_map, hy]; rfl) (by rw [List.getElem?_map, hj]; rfl) (fun z => e z.symm)
 ·rw [DH Le.k (y := ⟨x.k, x.ka, x.l, x.ys ++ [v], x.ds ++ [z]⟩) hj rfl]; exact q.keys
 ·rw [DH Le.l (y := ⟨x.k, x.ka, x.l, x.ys ++ [v], x.ds ++ [z]⟩) hj rfl]; exact q.lists
theorem OI {ls : List Le} {k : NK} (h : lkN (ls.map Le.e) k = none) : k ∉ ls.map Le.k := fun hm => by
 obtain ⟨y, hy, e⟩ := List.mem_map.mp hm
 unfold lkN at h
 rw [Option.map_eq_none_iff] at h
 have := List.find?_eq_none.mp h (Le.e y) (List.mem_map_of_mem hy)
 simp [Le.e, e] at this
theorem SR {ls : List Le} {k : NK} {v : V} (h : lkN (ls.map Le.e) k = some v) : ∃ (j : Nat) (x : Le), ls[j]? = some x ∧ x.k = k ∧ v = .ref x.l := by
 unfold lkN at h
 rw [Option.map_eq_some_iff] at h
 obtain ⟨a, ha, e⟩ := h
 have hm := List.mem_of_find?_eq_some ha
 have hp := List.find?_some ha
 obtain ⟨y, hy, rfl⟩ := List.mem_map.mp hm
 obtain ⟨j, hj⟩ := List.mem_iff_getElem?.mp hy
 exact ⟨j, y, hj, of_decide_eq_true hp, e.symm⟩
theorem Lns.add {K : PySem.W.Frag} {P : Program} {w : World} {H0 H : Hp} {d : Addr} {ls : List Le} {x : Le} {ep : Nat} (q : Lns K P w H0 H d ls) (ox : SS K H0 H d x) (hk : lkN (ls.map Le.e) x.k = none) (hl : ∀ (i : Nat) (y : Le), ls[i]? = some y → y.l ≠ x.l) :
  Lns K P w H0 (upd H d (DN P w d (ls.map Le.e ++ [x.e]) ep)) d (ls ++ [x]) := by
 obtain ⟨ep0, e0⟩ := q.dict
 have st : CD H (upd H d (DN P w d (ls.map Le.e ++ [x.e]) ep)) := (CD.refl _).upd (cF e0)
 refine ⟨⟨ep, by rw [AD, List.map_append]; rfl⟩, fun i y hy => ?_, ?_, ?_⟩
 ·by_cases c : i < ls.length
  ·rw [List.getElem?_append_left c] at hy
   have oy := q.each i y hy
   exact oy.wr oy.ne st
  ·rw [List.getElem?_append_right (by omega)] at hy
   have hm := List.mem_of_getElem? hy
   rw [List.mem_singleton.mp hm]
   exact ox.wr ox.ne st
 ·rw [List.map_append]
  refine List.nodup_append.mpr ⟨q.keys, by simp, fun a ha b hb => ?_⟩
  rw [List.mem_singleton.mp hb]
  rintro rfl
  exact OI hk ha
 ·rw [List.map_append]
  refine List.nodup_append.mpr ⟨q.lists, by simp, fun a ha b hb => ?_⟩
  rw [List.mem_singleton.mp hb]
  rintro rfl
  obtain ⟨y, hy, e⟩ := List.mem_map.mp ha
  obtain ⟨i, hi⟩ := List.mem_iff_getElem?.mp hy
  exact hl i y hi e
def CB (k : Sk) : NK := (k.1, hdg k.2.1 k.2.2, asA (hdg k.2.1 k.2.2) k.2.1, asB (hdg k.2.1 k.2.2) k.2.1)
def stk (k : Sk) : Rw := OT (hdg k.2.1 k.2.2) k.2.1 k.2.2
def fk (ks : List Sk) (c : NK) : List Rw := (ks.filter fun k => decide (CB k = c)).map stk
theorem WK (ks : List Sk) (k : Sk) (c : NK) : fk (ks ++ [k]) c = if CB k = c then fk ks c ++ [stk k] else fk ks c := by
 unfold fk
 rw [List.filter_append]
 by_cases h : CB k = c
 ·rw [if_pos h]; simp [h]
 ·rw [if_neg h]; simp [h]
theorem lT {ks : List Sk} {c : NK} (h : ∀ k ∈ ks, CB k ≠ c) : fk ks c = [] := by
 unfold fk
 rw [List.map_eq_nil_iff, List.filter_eq_nil_iff]
 intro k hk
 simpa using h k hk
theorem DG {ks : List Sk} {c : NK} {r : Rw} : r ∈ fk ks c ↔ ∃ k ∈ ks, CB k = c ∧ stk k = r := by
 unfold fk
 rw [List.mem_map]
 constructor
 ·rintro ⟨k, h, e⟩
  rw [List.mem_filter] at h
  exact ⟨k, h.1, of_decide_eq_true h.2, e⟩
 ·rintro ⟨k, h, c, e⟩
  exact ⟨k, List.mem_filter.mpr ⟨h, decide_eq_true c⟩, e⟩
def kst (acc : List NK) (k : Sk) : List NK := if CB k ∈ acc then acc else acc ++ [CB k]
def kof (ks : List Sk) : List NK := ks.foldl kst []
theorem TJ (ks : List Sk) (k : Sk) : kof (ks ++ [k]) = kst (kof ks) k := by
 unfold kof
 rw [List.foldl_append]
 rfl
structure Fil (ks : List Sk) (ls : List Le) : Prop where
 each : ∀ x ∈ ls, x.ds = fk ks x.k
 all : ∀ k ∈ ks, CB k ∈ ls.map Le.k
 keys : ls.map Le.k = kof ks
theorem UH {α : Type} {ls : List α} {j : Nat} {x y : α} (h : y ∈ ls.set j x) : y = x ∨ ∃ i, i ≠ j ∧ ls[i]? = some y := by
 obtain ⟨i, hi⟩ := List.mem_iff_getElem?.mp h
 rw [List.getElem?_set] at hi
 split at hi
 ·split at hi
  ·cases hi; exact .inl rfl
  ·cases hi
 ·rename_i c
  exact .inr ⟨i, fun e => c e.symm, hi⟩
theorem Fil.old {ks : List Sk} {ls : List Le} {j : Nat} {x : Le} {k : Sk} {v : V} (f : Fil ks ls) (nd : (ls.map Le.k).Nodup) (hj : ls[j]? = some x) (e : x.k = CB k) : Fil (ks ++ [k]) (ls.set j ⟨x.k, x.ka, x.l, x.ys ++ [v], x.ds ++ [stk k]⟩) := by
 refine ⟨fun y hy => ?_, fun u hu => ?_, ?_⟩
 ·rw [WK]
  rcases UH hy with rfl | ⟨i, ne, hi⟩
  ·rw [if_pos e.symm]
   show x.ds ++ [stk k] = fk ks x.k ++ [stk k]
   rw [f.each x (List.mem_of_getElem? hj)]
  ·rw [if_neg (fun z => GF nd (i := i) (j := j) (x := y.k) (y := x.k) (by rw [List.getElem?_map, hi]; rfl) (by rw [List.getElem?_map, hj]; rfl) ne (by rw [← z, e]))]
   exact f.each y (List.mem_of_getElem? hi)
 ·rw [DH Le.k (y := ⟨x.k, x.ka, x.l, x.ys ++ [v], x.ds ++ [stk k]⟩) hj rfl]
  rcases List.mem_append.mp hu with hu | hu
  ·exact f.all u hu
  ·rw [List.mem_singleton.mp hu, ← e]
   exact List.mem_map_of_mem (List.mem_of_getElem? hj)
 ·rw [DH Le.k (y := ⟨x.k, x.ka, x.l, x.ys ++ [v], x.ds ++ [stk k]⟩) hj rfl, TJ, ← f.keys]
  unfold kst
  rw [if_pos (by rw [← e]; exact List.mem_map_of_mem (List.mem_of_getElem? hj))]
theorem Fil.add {ks : List Sk} {ls : List Le} {x : Le} {k : Sk} {v : V} (f : Fil ks ls) (hk : CB k ∉ ls.map Le.k) (ek : x.k = CB k) (ed : x.ds = []) : Fil (ks ++ [k]) ((ls ++ [x]).set ls.length ⟨x.k, x.ka, x.l, x.ys ++ [v], x.ds ++ [stk k]⟩) := by
 have es : (ls ++ [x]).set ls.length ⟨x.k, x.ka, x.l, x.ys ++ [v], x.ds ++ [stk k]⟩ = ls ++ [⟨x.k, x.ka, x.l, x.ys ++ [v], x.ds ++ [stk k]⟩] := by simp
 rw [es]
 refine ⟨fun y hy => ?_, fun u hu => ?_, ?_⟩
 ·rw [WK]
  rcases List.mem_append.mp hy with hy | hy
  ·rw [if_neg (fun z => hk (by rw [z]; exact List.mem_map_of_mem hy))]
   exact f.each y hy
  ·rw [List.mem_singleton.mp hy]
   rw [if_pos ek.symm]
   show x.ds ++ [stk k] = fk ks x.k ++ [stk k]
   rw [ed, lT fun u hu z => hk (by rw [← ek, ← z]; exact f.all u hu)]
 ·rw [List.map_append]
  rcases List.mem_append.mp hu with hu | hu
  ·exact List.mem_append_left _ (f.all u hu)
  ·rw [List.mem_singleton.mp hu]
   exact List.mem_append_right _ (by simp [ek])
 ·rw [List.map_append, TJ, ← f.keys]
  unfold kst
  rw [if_neg hk, List.map_cons, List.map_nil]
  show _ ++ [x.k] = _
  rw [ek]
def Jd (ks : List Sk) (z : Le) : Prop := ∃ rs, Srt rs ∧ (∀ v, v ∈ rs ↔ v ∈ fk ks z.k) ∧ z.ds = jn rs
def TW (P : Program) (w : World) (K : PySem.W.Frag) : Sp := fun vs H Q _ => ∃ (a : Addr) (xs : List V) (ks : List Sk), vs = [.ref a] ∧ (SqL K H a xs ∨ SqT K H a xs) ∧ Paired (fun k v => Rp K H (skD k) v) ks xs ∧ ks.length ≤ 200 ∧ (∀ k ∈ ks, onL k.2.1 k.2.2 ∧ b7 k.2.1 ∧ b7 k.2.2 ∧ k.2.1 ≠ k.2.2) ∧
 ∀ d ls H', AJ H H' → H d = none → Lns K P w H H' d ls → tot ls ≤ ks.length → (∀ z ∈ ls, Jd ks z) → (∀ k ∈ ks, CB k ∈ ls.map Le.k) → ls.map Le.k = kof ks → Q (.ref d) H'
def oW (P : Program) (w : World) (K : PySem.W.Frag) (ks : List Sk) (ls : List Le) (p : Addr) (H H2 : Hp) (i : Nat) (σ : L2.St) (H3 : Hp) : Prop := ∃ (ms : List Le) (o1 o2 : Option V), σ = [o1, o2] ∧ AJ H2 H3 ∧ Lns K P w H H3 p ms ∧ ms.length = i ∧ ms.map Le.k = (ls.take i).map Le.k ∧ tot ms ≤ tot (ls.take i) ∧ ∀ z ∈ ms, Jd ks z
theorem bH {ls : List Le} {k : NK} (h : k ∉ ls.map Le.k) : lkN (ls.map Le.e) k = none := by
 unfold lkN
 rw [Option.map_eq_none_iff]
 refine List.find?_eq_none.mpr fun x hx => ?_
 obtain ⟨y, hy, rfl⟩ := List.mem_map.mp hx
 intro e
 exact h (List.mem_map.mpr ⟨y, hy, of_decide_eq_true e⟩)
theorem iN {ls : List Le} {i : Nat} {y : Le} (nd : (ls.map Le.k).Nodup) (hy : ls[i]? = some y) : y.k ∉ (ls.take i).map Le.k := fun hm => by
 rw [List.map_take] at hm
 obtain ⟨j, hj⟩ := List.mem_iff_getElem?.mp hm
 rw [List.getElem?_take] at hj
 split at hj
 ·rename_i c
  exact GF nd (i := j) (j := i) hj (by rw [List.getElem?_map, hy]; rfl) (by omega) rfl
 ·cases hj
theorem GT {ls : List Le} {i : Nat} {y : Le} (hy : ls[i]? = some y) : ls.take (i + 1) = ls.take i ++ [y] := by rw [List.take_succ, hy]; rfl
def nY (P : Program) (w : World) (K : PySem.W.Frag) (ks : List Sk) (a d : Addr) (H : Hp) (i : Nat) (σ : L2.St) (H2 : Hp) : Prop := ∃ (ls : List Le) (o1 o2 o3 o4 : Option V), σ = [some (.ref a), some (.ref d), o1, o2, o3, o4] ∧ AJ H H2 ∧ Lns K P w H H2 d ls ∧ tot ls = i ∧ ls.length ≤ i ∧ Fil (ks.take i) ls
theorem JM (T : Txt K mg t) : CL P w K mg base CX0 7 t.a_linesof t.d_linesof ["strokes"] (TW P w K) := by
 refine T.linesof.F.ok ES (fun vs H Q E h => ?_) (fun cdv A outer s H vs Q E hr h => ?_)
 ·obtain ⟨a, xs, ks, rfl, _⟩ := h; rfl
 ·obtain ⟨a, xs, ks, rfl, hx, rk, hz, ok, k⟩ := h
  have hkl : ks.length = xs.length := Paired.length rk
  have hu := hr.units
  have hu4 : (A.deeper (envOfC (Str.ofString "lines_of") (AF DI) s.heap.objs.size t.a_linesof cdv)).units + 4 < cLine := by omega
  have hu8 : (A.deeper (envOfC (Str.ofString "lines_of") (AF DI) s.heap.objs.size t.a_linesof cdv)).units + 8 < cLine := by omega
  refine ⟨_, s!"1{ES.nd}{Or.inl rfl}{@iS _ _ (P) (w) rfl rfl}K{@pG _ _ _ _ s!"0A"}2{ES.nd}O3{ES.nd}O4{ES.nd}OfQQQh5{ES.nd}{Or.inl rfl}{YZ T}{T.lineof.m}{T.lineof.F.kp}{T.lineof.b}3A4ADBBHK{@ZG _ _ _ _ _ _ _ _ _ (P) (w) (K) rfl rfl rfl hu8 s!"1A" s!"2A5ADBBR" s!"DU" ⟨rfl, rfl, rfl, rfl⟩}{QK T}{T.stretchof.m}{T.stretchof.F.kp}{T.stretchof.b}{AE}5ACE3A4ADBBBHDBqpGPc{@ZY _ (P) (w) (K) _ _ _ _ _ (AF DI) _ _ _ _ _ (["strokes", "found", "ink", "start", "end", "line"]) (["key", "stretches"]) (["key", "stretches"]) ([]) rfl rfl rfl hu4 rfl rfl rfl ⟨by decide +kernel, by decide +kernel, by decide +kernel, by decide +kernel, by decide +kernel, by decide +kernel⟩ (@eB _ _ _ (P) (w) _ _ _ _ _ rfl rfl s!"1A" (by rfl) (by rfl)) (fun _ _ _ _ => (@WQ _ (K) _ _ _ _ (2) rfl rfl s!"0{show List.Nodup (["key", "stretches"] : List Str) by decide +kernel}O1{show List.Nodup (["key", "stretches"] : List Str) by decide +kernel}OfQQ" (by rfl) (by rfl))) (fun _ _ _ _ => s!"0A") (fun _ _ _ _ => s!"{YT T}{T.joined.m}{T.joined.F.kp}{T.joined.b}1ADBH") (by intro _; rfl)}IGPP", ?_⟩
  walk_at "rd"
  intro d ep hd
  have ud := AJ.upd (o := DN P w d [] ep) hd
  refine qE (xs := xs) hx (nY P w K ks a d H) ⟨[], _, _, _, _, rfl, ud, ⟨⟨ep, AD⟩, (fun i x e => by simp at e), by simp, by simp⟩, rfl, Nat.le_refl _, ⟨(fun x hx => by cases hx), (fun k hk => by simp at hk), rfl⟩⟩ (fun i σ H2 _ q => by obtain ⟨ls, o1, o2, o3, o4, rfl, s2, _⟩ := q; exact s2) ?_ ?_
  ·rintro i x σ H2 hi ⟨ls, o1, o2, o3, o4, rfl, s2, L2', e2, e3, F2⟩
   obtain ⟨kk, hkk, rsk⟩ := CN rk hi
   obtain ⟨on, bp, bq, ne⟩ := ok kk (List.mem_of_getElem? hkk)
   obtain ⟨ax, x1, y1, rfl, hs, r1, r2⟩ := CJ.mp (rsk.same s2)
   have il := (List.getElem?_eq_some_iff.mp hkk).1
   obtain ⟨g1, g2⟩ := HK on
   walk_at "rd"
   refine ⟨_, hs, rfl, ?_⟩
   walk_at "rd"
   refine ⟨_, _, kk.2.1, kk.2.2, rfl, r1, r2, fun al vn H3 s3 hal rn => ?_⟩
   have L3 := L2'.mv s3
   obtain ⟨ep3, d3⟩ := L3.dict
   dsimp only
   refine ⟨⟨_, ⟨_, d3⟩, L3.keysN⟩, by decide, fun p hp => ⟨Nat.zero_le _, fun q hq => ?_⟩⟩
   have up := AJ.upd (o := .tup [.int kk.1, .ref al]) hp
   have uq := AJ.upd (o := .lst []) hq
   have s4 := s3.trans (up.trans uq)
   have L4 := L2'.mv s4
   have rk4 : Rp K (upd (upd H3 p (.tup [.int kk.1, .ref al])) q (.lst [])) (nkD (CB kk)) (.ref p) := by
    refine Rp.same uq ?_
    exact BT.mpr ⟨p, _, _, rfl, SqT.of AD, (by rw [Rp]; rfl), BT.mpr ⟨al, _, _, rfl, up.tup hal, (by rw [Rp]; rfl), rn.same up⟩⟩
   have hal4 := (up.trans uq).tup hal
   have q4 : upd (upd H3 p (.tup [.int kk.1, .ref al])) q (.lst []) q = some (.lst []) := AD
   have q0 := (s2.trans (s3.trans up)).free hq
   obtain ⟨ep4, d4⟩ := L4.dict
   have hqd : q ≠ d := fun e => by rw [e] at hq; rw [up _ _ d3] at hq; cases hq
   have nql : ∀ (i : Nat) (y : Le), ls[i]? = some y → y.l ≠ q := fun i y hy e => by
    have := ((L2'.mv (s3.trans up)).each i y hy).at'
    rw [e, hq] at this
    cases this
   have s24 := s2.trans s4
   generalize upd (upd H3 p (.tup [.int kk.1, .ref al])) q (.lst []) = G at *
   clear up uq hq hp s3 hal rn L3 d3 L2' s2 hs
   refine ⟨_, ⟨_, d4⟩, L4.keysN, by rw [List.length_map]; omega, _, rk4, ?_, ?_⟩
   ·intro v hv
    obtain ⟨j, x, hj, ek, rfl⟩ := SR hv
    have ox := L4.each j x hj
    dsimp only
    refine ⟨.inl ⟨_, SqL.of ox.at'⟩, _, hal4, _, rfl, _, _, _, kk.2.1, kk.2.2, rfl, r1.same s4, r2.same s4, bp, bq, fun v5 H5 s5 r5 => ?_⟩
    have L5 := L4.mv s5
    have rv : JP K H5 x.k.2.1 x.k.2.2.1 x.k.2.2.2 (stk kk) v5 := by rw [ek]; exact ⟨r5, QG (KU _ _) ne bp bq rfl rfl g1.symm g2.symm⟩
    have le := VT hj
    exact ⟨x.ys, (L5.each j x hj).at', BQ (by omega), ls.set j _, _, _, _, _, rfl, (s24.trans s5).upd2 ox.new, L5.old hj rv, by rw [QE hj, e2], by rw [List.length_set]; omega, by rw [DO hkk]; exact F2.old L4.keys hj ek⟩
   ·intro hn ep'
    have L5 := L4.add (x := ⟨CB kk, p, q, [], []⟩) (ep := ep') ⟨hqd, q0, q4, .nil, KU _ _, rk4⟩ hn nql
    have st : CD G (upd G d (DN P w d (ls.map Le.e ++ [Le.e ⟨CB kk, p, q, [], []⟩]) ep')) := (CD.refl _).upd (cF d4)
    have hj : (ls ++ [(⟨CB kk, p, q, [], []⟩ : Le)])[ls.length]? = some ⟨CB kk, p, q, [], []⟩ := by simp
    have sG : AJ H (upd G d (DN P w d (ls.map Le.e ++ [Le.e ⟨CB kk, p, q, [], []⟩]) ep')) := s24.upd2 hd
    try dsimp only
    have ox := L5.each _ _ hj
    refine ⟨.inl ⟨_, SqL.of ox.at'⟩, _, st.tup hal4, _, rfl, _, _, _, kk.2.1, kk.2.2, rfl, (r1.same s4).t st, (r2.same s4).t st, bp, bq, fun v5 H5 s5 r5 => ?_⟩
    have L6 := L5.mv s5
    have rv : JP K H5 (hdg kk.2.1 kk.2.2) (asA (hdg kk.2.1 kk.2.2) kk.2.1) (asB (hdg kk.2.1 kk.2.2) kk.2.1) (stk kk) v5 := ⟨r5, QG (KU _ _) ne bp bq rfl rfl g1.symm g2.symm⟩
    exact ⟨[], (L6.each _ _ hj).at', BQ (Nat.zero_le _), _, _, _, _, _, rfl, (sG.trans s5).upd2 ox.new, L6.old hj rv, by rw [QE hj, GY, e2]; rfl, by rw [List.length_set, List.length_append]; show ls.length + 1 ≤ _; omega, by rw [DO hkk]; exact F2.add (x := ⟨CB kk, p, q, [], []⟩) (OI hn) rfl rfl⟩
  ·rintro σ H2 ⟨ls, o1, o2, o3, o4, rfl, s2, L2', e2, e3, F2⟩
   rw [← hkl, List.take_length] at F2
   walk_at "rd"
   obtain ⟨ep2, d2⟩ := L2'.dict
   refine ⟨_, _, d2, fun p ep0 hp => ?_⟩
   have up := AJ.upd (o := DN P w p [] ep0) hp
   have hp0 := s2.free hp
   have hll : ls.length = (ls.map Le.e).length := by rw [List.length_map]
   have htot : ∀ i, tot (ls.take i) ≤ tot ls := fun i => by
    have : tot ls = tot (ls.take i) + tot (ls.drop i) := by rw [← GY, List.take_append_drop]
    omega
   refine ZI (oW P w K ks ls p H H2) ⟨[], _, _, rfl, up, ⟨⟨ep0, AD⟩, (fun i x e => by simp at e), by simp, by simp⟩, rfl, rfl, Nat.le_refl _, (fun z hz => by cases hz)⟩ (fun i σ H3 _ q => by obtain ⟨ms, o1, o2, rfl, s3, _⟩ := q; exact s3 _ _ d2) ?_ ?_
   ·rintro i x q σ H3 hi ⟨ms, o1, o2, rfl, s3, L3, m3, k3, t3, J3⟩ hq
    rw [List.getElem?_map, Option.map_eq_some_iff] at hi
    obtain ⟨y, hy, rfl⟩ := hi
    have oy := (L2'.mv s3).each i y hy
    have il := (List.getElem?_eq_some_iff.mp hy).1
    have u1 := AJ.upd (o := .tup [.ref y.ka, .ref y.l]) hq
    have h4 : SqT K (upd H3 q (.tup [.ref y.ka, .ref y.l])) q [.ref y.ka, .ref y.l] := SqT.of AD
    have s4 := s3.trans u1
    have oy4 := oy.mv u1
    have L4 := L3.mv u1
    show TB K 2 _ _ _ (upd H3 q (.tup [.ref y.ka, .ref y.l])) _
    generalize upd H3 q (.tup [.ref y.ka, .ref y.l]) = G at *
    clear u1 hq L3 oy s3
    walk_at "rd"
    refine ⟨_, h4, rfl, ?_⟩
    walk_at "rd"
    have le := VT hy
    refine ⟨_, y.ys, y.ds, _, _, _, rfl, SqL.of oy4.at', oy4.rows, by omega, fun l zs rs5 H5 s5 l0 l5 st5 mm5 r5 e5 => ?_⟩
    dsimp only
    have L5 := L4.mv s5
    obtain ⟨ep5, d5⟩ := L5.dict
    have oy5 := oy4.mv s5
    have nk : lkN (ms.map Le.e) y.k = none := bH (by rw [k3]; exact iN L2'.keys hy)
    have lp : l ≠ p := fun e => by obtain ⟨_, d4⟩ := L4.dict; rw [e, d4] at l0; cases l0
    have nl : ∀ (j : Nat) (z : Le), ms[j]? = some z → z.l ≠ l := fun j z hz e => by
     have := (L4.each j z hz).at'
     rw [e, l0] at this
     cases this
    have LL : ∀ ep', Lns K P w H (upd H5 p (DN P w p (ms.map Le.e ++ [(y.k, y.ka, .ref l)]) ep')) p (ms ++ [⟨y.k, y.ka, l, zs, jn rs5⟩]) := fun ep' => L5.add (x := ⟨y.k, y.ka, l, zs, jn rs5⟩) (ep := ep') ⟨lp, (s2.trans s4).free l0, l5, r5, oy5.h4, oy5.key⟩ nk nl
    refine ⟨_, ⟨_, d5⟩, L5.keysN, by rw [List.length_map]; omega, y.k, oy5.key, nk, fun ep' => nx il ⟨_, _, _, rfl, (s4.trans s5).upd2 hp, LL ep', by rw [List.length_append, m3]; rfl, ?_, ?_, fun z hz => ?_⟩⟩
    ·rw [GT hy, List.map_append, List.map_append, k3]; rfl
    ·rw [GT hy, GY, GY]
     show tot ms + (zs.length + 0) ≤ tot (ls.take i) + (y.ys.length + 0)
     omega
    ·rcases List.mem_append.mp hz with hz | hz
     ·exact J3 z hz
     ·rw [List.mem_singleton.mp hz]
      exact ⟨rs5, st5, (fun v => by rw [mm5 v, F2.each y (List.mem_of_getElem? hy)]), rfl⟩
   ·rintro σ H3 ⟨ms, o1, o2, rfl, s3, L3, m3, k3, t3, J3⟩
    refine k p ms _ (s2.trans s3) hp0 L3 ?_ J3 (fun u hu => ?_) ?_
    ·have := htot (ls.map Le.e).length
     omega
    ·rw [k3, ← hll, List.take_length]
     exact F2.all u hu
    ·rw [k3, ← hll, List.take_length]
     exact F2.keys
end
def CZ (k : Sk) : Prop := onL k.2.1 k.2.2 ∧ b7 k.2.1 ∧ b7 k.2.2 ∧ k.2.1 ≠ k.2.2
abbrev Sks (K : PySem.W.Frag) (H : Hp) : List Sk → List V → Prop := Paired (fun k v => Rp K H (skD k) v)
theorem Sks.same {K : PySem.W.Frag} {H H' : Hp} {ks : List Sk} {xs : List V} (h : Sks K H ks xs) (s : AJ H H') : Sks K H' ks xs := Paired.mapP h fun _ _ r => r.same s
theorem Sks.tt {K : PySem.W.Frag} {H H' : Hp} {ks : List Sk} {xs : List V} (h : Sks K H ks xs) (s : CD H H') : Sks K H' ks xs := Paired.mapP h fun _ _ r => r.t s
theorem Sks.snoc {K : PySem.W.Frag} {H : Hp} {ks : List Sk} {xs : List V} {k : Sk} {v : V} (h : Sks K H ks xs) (r : Rp K H (skD k) v) : Sks K H (ks ++ [k]) (xs ++ [v]) := by
 induction h with
 | nil => exact .cons r .nil
 | cons a _ ih => exact .cons a ih
theorem QR {K : PySem.W.Frag} {H : Hp} {ks : List Sk} {xs : List V} (h : Sks K H ks xs) : ∀ (p : List Nat), (∀ j ∈ p, j < ks.length) → Sks K H (p.map fun i => ks.getD i (0, (0, 0, 0, 0), (0, 0, 0, 0))) (p.map fun i => xs.getD i .non)
 | [], _ => .nil
 | j :: p, hj => by
  have lt := hj j List.mem_cons_self
  obtain ⟨y, hy, r⟩ := IB h (i := j) (x := ks[j]) (by simp [lt])
  refine .cons ?_ (QR h p fun i hi => hj i (List.mem_cons_of_mem _ hi))
  dsimp only
  rw [List.getD_eq_getElem?_getD, List.getD_eq_getElem?_getD, hy, List.getElem?_eq_getElem lt]
  exact r
theorem jO {ls : List Le} {i : Nat} {y : Le} (nd : (ls.map Le.k).Nodup) (hy : ls[i]? = some y) : lkN (ls.map Le.e) y.k = some (.ref y.l) := by
 cases h : lkN (ls.map Le.e) y.k with
 | none => exact absurd (List.mem_map.mpr ⟨y, List.mem_of_getElem? hy, rfl⟩) (OI h)
 | some v =>
  obtain ⟨j, x, hj, ek, rfl⟩ := SR h
  by_cases c : j = i
  ·subst c
   rw [hj] at hy
   cases hy
   rfl
  ·exact absurd ek (GF nd (i := j) (j := i) (by rw [List.getElem?_map, hj]; rfl) (by rw [List.getElem?_map, hy]; rfl) c)
section
variable {P : Program} {w : World} {K : PySem.W.Frag} {mg : Str → Option Value} {base : Heap} {t : Adr}
def fr1 (y : Le) (r : Rw) : Sk := (y.k.1, r.p, r.q)
def fr (ls : List Le) : List Sk := ls.flatMap fun y => y.ds.map (fr1 y)
theorem mM (a b : List Le) : fr (a ++ b) = fr a ++ fr b := by simp [fr]
theorem kU (y : Le) : fr [y] = y.ds.map (fr1 y) := by simp [fr]
def EH (ks ks' : List Sk) : Prop := ∃ ls : List Le, (∀ z ∈ ls, Jd ks z) ∧ (∀ k ∈ ks, CB k ∈ ls.map Le.k) ∧ (ls.map Le.k).Nodup ∧ (∀ z ∈ ls, H4 z.k.2.1 ∧ ∀ r ∈ z.ds, RC z.k.2.1 z.k.2.2.1 z.k.2.2.2 r) ∧ ks' = GK (fr ls)
theorem MI {K : PySem.W.Frag} {H : Hp} {h n1 n2 : Int} {rs : List Rw} {xs : List V} (z : Rows K H h n1 n2 rs xs) : ∀ r ∈ rs, RC h n1 n2 r := by
 induction z with
 | nil => intro r hr; cases hr
 | cons a _ ih =>
  intro r hr
  rcases List.mem_cons.mp hr with rfl | hr
  ·exact a.2
  ·exact ih r hr
def Few (ks : List Sk) : Prop := ∀ F, EH ks F → (∀ k ∈ F, CZ k) → F.length ≤ 60
def ZB (K : PySem.W.Frag) : Sp := fun vs H Q _ => ∃ (a : Addr) (xs : List V) (ks : List Sk), vs = [.ref a] ∧ SqL K H a xs ∧ Sks K H ks xs ∧ ks.length ≤ 200 ∧ (ks.length ≤ 60 ∨ Few ks) ∧ (∀ k ∈ ks, CZ k) ∧
 ∀ p zs ks' H', AJ H H' → SqT K H' p zs → Sks K H' ks' zs → ks'.length ≤ ks.length → (∀ k ∈ ks', CZ k) → EH ks ks' → Q (.ref p) H'
def pP (K : PySem.W.Frag) (d p : Addr) (ls : List Le) (n : Nat) (H : Hp) (i : Nat) (σ : L2.St) (H2 : Hp) : Prop := ∃ (ts : List V) (kts : List Sk) (o1 o2 o3 o4 o5 : Option V), σ = [some (.ref d), o1, o2, o3, o4, o5] ∧ AJ H H2 ∧ H2 p = some (.lst ts) ∧ Sks K H2 kts ts ∧ (∀ k ∈ kts, CZ k) ∧ kts.length = tot (ls.take i) ∧ kts = fr (ls.take i)
def oV (K : PySem.W.Frag) (d p : Addr) (ka : V) (m : Nat) (ls : List Le) (y : Le) (H : Hp) (i : Nat) (σ : L2.St) (H2 : Hp) : Prop := ∃ (ts : List V) (kts : List Sk) (o2 o3 o4 o5 : Option V), σ = [some (.ref d), some ka, o2, o3, o4, o5] ∧ AJ H H2 ∧ H2 p = some (.lst ts) ∧ Sks K H2 kts ts ∧ (∀ k ∈ kts, CZ k) ∧ kts.length = m + i ∧ kts = fr ls ++ (y.ds.take i).map (fr1 y)
theorem PN (T : Txt K mg t) : CL P w K mg base CX0 8 t.a_formof t.d_formof ["strokes"] (ZB K) := by
 refine T.formof.F.ok PU (fun vs H Q E h => ?_) (fun cdv A outer s H vs Q E hr h => ?_)
 ·obtain ⟨a, xs, ks, rfl, _⟩ := h; rfl
 ·obtain ⟨a, xs, ks, rfl, hx, rk, hz, few, ok, k⟩ := h
  have hu := hr.units
  have hu4 : (A.deeper (envOfC (Str.ofString "form_of") (AF ED) s.heap.objs.size t.a_formof cdv)).units + 4 < cLine := by omega
  have hu7 : (A.deeper (envOfC (Str.ofString "form_of") (AF ED) s.heap.objs.size t.a_formof cdv)).units + 7 < cLine := by omega
  refine ⟨_, s!"1{PU.nd}{Or.inr rfl}{JM T}{T.linesof.m}{T.linesof.F.kp}{T.linesof.b}0ADBHK{MG}{T.z_tuple}{boot_tuple}{VG hu7}{T.z_sorted}{boot_sorted}{@eH _ _ _ _ _ _ _ (AF ED) _ _ _ _ _ _ (["strokes", "lines"]) (["lines", "key", "low", "high", "start", "end"]) (["key", "low", "high", "start", "end"]) ([1]) rfl rfl rfl ⟨by decide +kernel, by decide +kernel, by decide +kernel, by decide +kernel, by decide +kernel, by decide +kernel⟩ (@XB _ _ _ _ (P) (w) rfl rfl s!"1A") (fun _ _ _ _ => s!"1{show List.Nodup (["lines", "key", "low", "high", "start", "end"] : List Str) by decide +kernel}O") (fun _ _ _ _ => (@SZ _ _ (K) _ _ rfl (@XI _ _ _ _ _ _ (P) (w) (K) rfl rfl rfl hu4 s!"0A" s!"1A" (fun _ _ => rfl)))) (fun _ _ _ _ => (@WQ _ (K) _ _ _ _ (4) rfl rfl s!"2{show List.Nodup (["lines", "key", "low", "high", "start", "end"] : List Str) by decide +kernel}O3{show List.Nodup (["lines", "key", "low", "high", "start", "end"] : List Str) by decide +kernel}O4{show List.Nodup (["lines", "key", "low", "high", "start", "end"] : List Str) by decide +kernel}O5{show List.Nodup (["lines", "key", "low", "high", "start", "end"] : List Str) by decide +kernel}OfQQQQ" (by rfl) (by rfl))) (fun _ _ _ _ => s!"{bE (K := K) rfl}1ACE4A5ADBBBR") (by intro _; rfl) (by intro _ _; rfl)}DBSDBiIGP", ?_⟩
  walk_at "rd"
  refine ⟨a, xs, ks, rfl, .inl hx, rk, hz, ok, fun d ls H1 s1 d0 L1 t1 J1 A1 _ => ?_⟩
  obtain ⟨ep, d1⟩ := L1.dict
  walk_at "rd"
  refine ⟨_, _, d1, fun p hp => ?_⟩
  have up := AJ.upd (o := .lst []) hp
  refine eO (pP K d p ls 0 H1) ⟨[], [], _, _, _, _, _, rfl, up, AD, .nil, (fun k hk => by cases hk), rfl, rfl⟩ (fun i σ H2 _ q => by obtain ⟨ts, kts, o1, o2, o3, o4, o5, rfl, s2, _⟩ := q; exact s2 _ _ d1) ?_ ?_
  ·rintro i x σ H2 hi ⟨ts, kts, o1, o2, o3, o4, o5, rfl, s2, h2, r2, ok2, e2, f2⟩
   rw [List.getElem?_map, Option.map_eq_some_iff] at hi
   obtain ⟨y, hy, rfl⟩ := hi
   have oy := (L1.mv s2).each i y hy
   have il := (List.getElem?_eq_some_iff.mp hy).1
   walk_at "rd"
   refine ⟨_, ⟨_, s2 _ _ d1⟩, (L1.mv s2).keysN, y.k, oy.key, _, jO L1.keys hy, ?_⟩
   walk_at "rd"
   refine ⟨⟨_, SqL.of oy.at'⟩, ?_⟩
   have oz := L1.each i y hy
   have tl : tot (ls.take i) + y.ys.length ≤ tot ls := by
    have e : tot ls = tot (ls.take (i + 1)) + tot (ls.drop (i + 1)) := by rw [← GY, List.take_append_drop]
    rw [GT hy, GY] at e
    have : tot [y] = y.ys.length := by simp [tot]
    omega
   refine fV (xs := y.ys) (oV K d p (.ref y.ka) kts.length (ls.take i) y H1) ⟨ts, kts, _, _, _, _, rfl, s2, h2, r2, ok2, rfl, by rw [List.take_zero, List.map_nil, List.append_nil]; exact f2⟩ (fun j σ H3 _ q => by obtain ⟨ts, kts, o2, o3, o4, o5, rfl, s3, _⟩ := q; exact s3.seq (SqL.of oz.at')) ?_ ?_
   ·rintro j x σ H3 hj ⟨ts3, kts3, p2, p3, p4, p5, rfl, s3, h3, r3, ok3, e3, f3⟩
    obtain ⟨r, er, z0⟩ := FR oz.rows hj
    obtain ⟨rr, ro⟩ := z0.same s3
    obtain ⟨ax, x1, x2, x3, x4, rfl, hs, q1, q2, q3, q4⟩ := FX.mp rr
    obtain ⟨ak, z1, z2, ek, hk, rz1, rz2⟩ := BT.mp (oz.key.same s3)
    cases ek
    rw [Rp] at rz1
    subst rz1
    have jl := (List.getElem?_eq_some_iff.mp hj).1
    walk_at "rd"
    refine ⟨_, hs, rfl, ?_⟩
    walk_at "rd"
    refine ⟨_, hk, _, rfl, by decide, fun q hq => ?_⟩
    have u := AJ.upd (o := .tup [.int y.k.1, x3, x4]) hq
    have h4 := u _ _ h3
    have su : CD (upd H3 q (.tup [.int y.k.1, x3, x4])) (upd (upd H3 q (.tup [.int y.k.1, x3, x4])) p (.lst (ts3 ++ [.ref q]))) := (CD.refl _).upd (HD h4)
    have l3 : ts3.length = kts3.length := (Paired.length r3).symm
    refine ⟨_, h4, BQ (by omega), nx jl ⟨ts3 ++ [.ref q], kts3 ++ [(y.k.1, r.p, r.q)], _, _, _, _, rfl, (s3.trans u).upd2 hp, AD, ((r3.same u).snoc (CJ.mpr ⟨q, x3, x4, rfl, SqT.of AD, q3.same u, q4.same u⟩)).tt su, ?_, ?_, by rw [f3, DO er, List.map_append, List.append_assoc]; rfl⟩⟩
    ·intro kk hkk
     rcases List.mem_append.mp hkk with hkk | hkk
     ·exact ok3 kk hkk
     ·rw [List.mem_singleton.mp hkk]
      exact ⟨⟨_, oz.h4, ro.e1.trans ro.e3.symm, ro.e2.trans ro.e4.symm⟩, ro.p, ro.q, fun z => BK (r.la, r.lb) (by have o := ro.ord; have z' : r.p = r.q := z; rw [ro.f3, ro.f4, ← z', ← ro.f1, ← ro.f2] at o; exact o)⟩
    ·rw [List.length_append, e3]; exact Nat.add_assoc ..
   ·rintro σ H3 ⟨ts3, kts3, p2, p3, p4, p5, rfl, s3, h3, r3, ok3, e3, f3⟩
    refine nx il ⟨ts3, kts3, _, _, _, _, _, rfl, s3, h3, r3, ok3, ?_, ?_⟩
    ·rw [GT hy, GY, e3, e2]
     simp [tot]
    ·rw [← EZ oz.rows, List.take_length] at f3
     rw [GT hy, mM, kU]
     exact f3
  ·rintro σ H2 ⟨ts, kts, o1, o2, o3, o4, o5, rfl, s2, h2, r2, ok2, e2, f2⟩
   have ht : tot (ls.take (ls.map Le.e).length) = tot ls := by rw [List.length_map, List.take_length]
   have FO : EH ks (GK kts) := ⟨ls, J1, A1, L1.keys, (fun z hz => by obtain ⟨i, hi⟩ := List.mem_iff_getElem?.mp hz; exact ⟨(L1.each i z hi).h4, MI (L1.each i z hi).rows⟩), by rw [f2, List.length_map, List.take_length]⟩
   have fl : kts.length ≤ 60 := by
    rcases few with z | z
    ·omega
    ·have := z _ FO (fun k hk => ok2 k ((EQ kts).mem_iff.mp hk))
     rwa [(EQ kts).length_eq] at this
   dsimp only
   refine ⟨_, SqL.of h2, kts, r2, by omega, fun q hq => ⟨_, SqL.of AD, fun l hl => ?_⟩⟩
   have u1 := AJ.upd (o := .lst ((EY kts).map fun i => ts.getD i .non)) hq
   have u2 := AJ.upd (o := .tup ((EY kts).map fun i => ts.getD i .non)) hl
   have pm := EO kts
   have lt : ∀ j ∈ EY kts, j < kts.length := fun j hj => by simpa using pm.mem_iff.mp hj
   refine k l _ ((EY kts).map fun i => kts.getD i (0, (0, 0, 0, 0), (0, 0, 0, 0))) _ (s1.trans (s2.trans (u1.trans u2))) (SqT.of AD) (QR (r2.same (u1.trans u2)) (EY kts) lt) ?_ ?_ ⟨ls, J1, A1, L1.keys, (fun z hz => by obtain ⟨i, hi⟩ := List.mem_iff_getElem?.mp hz; exact ⟨(L1.each i z hi).h4, MI (L1.each i z hi).rows⟩), ?_⟩
   ·rw [List.length_map, pm.length_eq, List.length_range]
    omega
   ·intro kk hk
    obtain ⟨j, hj, rfl⟩ := List.mem_map.mp hk
    have := lt j hj
    refine ok2 _ ?_
    rw [List.getD_eq_getElem?_getD, List.getElem?_eq_getElem this]
    exact List.getElem_mem this
   ·show GK kts = GK (fr ls)
    rw [f2, List.length_map, List.take_length]
end
def lx (h : Int) : Int := if h = 7 then 3 else h
def sL (h : Int) : Int := if h = 1 then -1 else if h = 2 then -1 else 1
def lnA (h : Int) (p : Q4) : Int := sL h * asA h p
def lnB (h : Int) (p : Q4) : Int := sL h * asB h p
def lp (h : Int) : Int := sL h * cx h
def lq (h : Int) : Int := sL h * cy h
theorem ln0 (p : Q4) : lnA 0 p = p.2.2.1 ∧ lnB 0 p = p.2.2.2 ∧ lx 0 = 0 := by simp [lnA, lnB, lx, sL, asA, asB, cx, cy]
theorem ln2 (p : Q4) : lnA 2 p = p.1 ∧ lnB 2 p = p.2.1 ∧ lx 2 = 2 := by simp [lnA, lnB, lx, sL, asA, asB, cx, cy]
theorem ln1 (p : Q4) : lnA 1 p = p.1 - p.2.2.1 ∧ lnB 1 p = p.2.1 - p.2.2.2 ∧ lx 1 = 1 := by simp [lnA, lnB, lx, sL, asA, asB, cx, cy]; omega
theorem ln7 (p : Q4) : lnA 7 p = p.1 + p.2.2.1 ∧ lnB 7 p = p.2.1 + p.2.2.2 ∧ lx 7 = 3 := by simp [lnA, lnB, lx, sL, asA, asB, cx, cy]
section
variable {P : Program} {w : World} {K : PySem.W.Frag} {mg : Str → Option Value} {base : Heap} {t : Adr}
def cA (K : PySem.W.Frag) : Sp := fun vs H Q _ => ∃ (x y : V) (p q : Q4), vs = [x, y] ∧ Rp K H (q4D p) x ∧ Rp K H (q4D q) y ∧ (onL p q → ∀ a v H', AJ H H' → SqT K H' a [.int (lx (hdg p q)), v] → Rp K H' (num (lnA (hdg p q) p) (lnB (hdg p q) p)) v → Q (.ref a) H') ∧ (¬ onL p q → ∀ a v H', AJ H H' → SqT K H' a [.int 4, v] → Rp K H' (num 0 0) v → Q (.ref a) H')
theorem GD (T : Txt K mg t) : CL P w K mg base CX0 1 t.a_Lline t.d_Lline ["_law_begin", "_law_end"] (cA K) := by
 refine T.Lline.F.ok NT (fun vs H Q E h => ?_) (fun cdv A outer s H vs Q E hr h => ?_)
 ·obtain ⟨x, y, p, q, rfl, _⟩ := h; rfl
 ·obtain ⟨x, y, p, q, rfl, hx, hy, k0, k1⟩ := h
  have hu := hr.units
  obtain ⟨a, x1, y1, rfl, ha, r1, r2⟩ := HM.mp hx
  obtain ⟨b, x2, y2, rfl, hb, r3, r4⟩ := HM.mp hy
  obtain ⟨a1, rfl, ha1⟩ := BC.mp r1
  obtain ⟨a2, rfl, ha2⟩ := BC.mp r2
  obtain ⟨b1, rfl, hb1⟩ := BC.mp r3
  obtain ⟨b2, rfl, hb2⟩ := BC.mp r4
  refine ⟨_, s!"2{NT.nd}{Or.inl rfl}{CA}{AE}{AE}1ACECE{AE}{AE}0ACECEF{CA}{AE}{AE}1ACECE{AE}{AE}0ACECEFDBBRK3{NT.nd}{Or.inl rfl}{CA}{AE}{AE}1ACECE{AE}{AE}0ACECEF{CA}{AE}{AE}1ACECE{AE}{AE}0ACECEFDBBRK{EB hu}3AYVVXNC{AE}0ACEDBBRIGML{EB hu}2AYVVXNC{AE}0ACEDBBRIGML{EB hu}2A3ANC{CA}{AE}{AE}0ACECE{AE}{AE}0ACECEF{CA}{AE}{AE}0ACECE{AE}{AE}0ACECEFDBBRDbBRIGML{EB hu}2A{CA}C{AE}3ACEF{CA}C{AE}3ACEFDBBRNC{BJ}{AE}{AE}0ACECE{AE}{AE}0ACECEF{BJ}{AE}{AE}0ACECE{AE}{AE}0ACECEFDBBRDbBRIGMLYVVXYgVXIGPPPPPP", ?_⟩
  walk_at "rd"
  refine ⟨_, hb, _, rfl, _, hb1, _, rfl, _, ha, _, rfl, _, ha1, _, rfl, _, hb, _, rfl, _, hb1, _, rfl, _, ha, _, rfl, _, ha1, _, rfl, by decide, fun p1 h1 => ?_⟩
  have u1 := AJ.upd (o := .tup [.int (q.1 - p.1), .int (q.2.1 - p.2.1)]) h1
  have ux : SqT K (upd H p1 (.tup [.int (q.1 - p.1), .int (q.2.1 - p.2.1)])) p1 [.int (q.1 - p.1), .int (q.2.1 - p.2.1)] := SqT.of AD
  walk_at "rd"
  generalize upd H p1 (.tup [.int (q.1 - p.1), .int (q.2.1 - p.2.1)]) = H1 at u1 ux ⊢
  refine ⟨_, u1.tup hb, _, rfl, _, u1.tup hb2, _, rfl, _, u1.tup ha, _, rfl, _, u1.tup ha2, _, rfl, _, u1.tup hb, _, rfl, _, u1.tup hb2, _, rfl, _, u1.tup ha, _, rfl, _, u1.tup ha2, _, rfl, by decide, fun p2 h2 => ?_⟩
  have u2 := AJ.upd (o := .tup [.int (q.2.2.1 - p.2.2.1), .int (q.2.2.2 - p.2.2.2)]) h2
  have uy : SqT K (upd H1 p2 (.tup [.int (q.2.2.1 - p.2.2.1), .int (q.2.2.2 - p.2.2.2)])) p2 [.int (q.2.2.1 - p.2.2.1), .int (q.2.2.2 - p.2.2.2)] := SqT.of AD
  replace ux := u2.tup ux
  have u12 := u1.trans u2
  walk_at "rd"
  generalize upd H1 p2 (.tup [.int (q.2.2.1 - p.2.2.1), .int (q.2.2.2 - p.2.2.2)]) = H2 at u12 ux uy ⊢
  clear u1 u2 h2 h1
  have rx : Rp K H2 (num (q.1 - p.1) (q.2.1 - p.2.1)) (.ref p1) := BC.mpr ⟨_, rfl, ux⟩
  have ry : Rp K H2 (num (q.2.2.1 - p.2.2.1) (q.2.2.2 - p.2.2.2)) (.ref p2) := BC.mpr ⟨_, rfl, uy⟩
  intro v3 H3 s3 e3
  have s03 := u12.trans s3
  refine ⟨_, _, ry.same s3, e3, (show (0 : Nat) ≤ 60 by decide), ?_⟩
  rw [if_neg Bool.false_ne_true, TY]
  dsimp only
  by_cases c1 : q.2.2.1 - p.2.2.1 = 0 ∧ q.2.2.2 - p.2.2.2 = 0
  ·have eh : hdg p q = 0 := by unfold hdg; rw [if_pos c1]
   obtain ⟨l1, l2, l3⟩ := ln0 p
   have k := k0 ⟨0, .inl rfl, by simp [asA, cx, cy]; omega, by simp [asB, cx, cy]; omega⟩
   rw [eh, l1, l2, l3] at k
   rw [if_pos (decide_eq_true c1)]
   exact ⟨_, s03.tup ha, _, rfl, by decide, fun p3 h3 => k p3 _ _ (s03.trans (AJ.upd h3)) (SqT.of AD) (r2.same (s03.trans (AJ.upd h3)))⟩
  rw [if_neg (by rw [decide_eq_false c1]; decide)]
  intro v4 H4 s4 e4
  have s04 := s03.trans s4
  have s24 := s3.trans s4
  refine ⟨_, _, rx.same s24, e4, (show (0 : Nat) ≤ 60 by decide), ?_⟩
  rw [if_neg Bool.false_ne_true, TY]
  dsimp only
  by_cases c2 : q.1 - p.1 = 0 ∧ q.2.1 - p.2.1 = 0
  ·have eh : hdg p q = 2 := by unfold hdg; rw [if_neg c1, if_pos c2]
   obtain ⟨l1, l2, l3⟩ := ln2 p
   have k := k0 ⟨2, .inr (.inr (.inl rfl)), by simp [asA, cx, cy]; omega, by simp [asB, cx, cy]; omega⟩
   rw [eh, l1, l2, l3] at k
   rw [if_pos (decide_eq_true c2)]
   exact ⟨_, s04.tup ha, _, rfl, by decide, fun p3 h3 => k p3 _ _ (s04.trans (AJ.upd h3)) (SqT.of AD) (r1.same (s04.trans (AJ.upd h3)))⟩
  rw [if_neg (by rw [decide_eq_false c2]; decide)]
  refine ⟨_, _, rx.same s24, ry.same s24, (show (0 : Nat) ≤ 60 by decide), ?_⟩
  rw [if_neg Bool.false_ne_true, TY]
  dsimp only
  have fin : onL p q → ∀ (i a b : Int) (H5 : Hp), AJ H H5 → lx (hdg p q) = i → lnA (hdg p q) p = a → lnB (hdg p q) p = b → ∀ p3, H5 p3 = none → ∀ p4, upd H5 p3 (.tup [.int a, .int b]) p4 = none → Q (.ref p4) (upd (upd H5 p3 (.tup [.int a, .int b])) p4 (.tup [.int i, .ref p3])) := fun on i a b H5 s5 e1 e2 e3 p3 h3 p4 h4 => by
   subst e1 e2 e3
   exact k0 on p4 _ _ (s5.trans ((AJ.upd h3).trans (AJ.upd h4))) (SqT.of AD) ((BC.mpr ⟨p3, rfl, SqT.of AD⟩ : Rp K (upd H5 p3 _) (num _ _) _).same (AJ.upd h4))
  by_cases c3 : q.1 - p.1 = q.2.2.1 - p.2.2.1 ∧ q.2.1 - p.2.1 = q.2.2.2 - p.2.2.2
  ·have eh : hdg p q = 1 := by unfold hdg; rw [if_neg c1, if_neg c2, if_pos c3]
   obtain ⟨l1, l2, l3⟩ := ln1 p
   rw [eh] at fin
   rw [if_pos (decide_eq_true c3)]
   refine ⟨_, s04.tup ha, _, rfl, _, s04.tup ha1, _, rfl, _, s04.tup ha, _, rfl, _, s04.tup ha2, _, rfl, _, s04.tup ha, _, rfl, _, s04.tup ha1, _, rfl, _, s04.tup ha, _, rfl, _, s04.tup ha2, _, rfl, by decide, fun p3 h3 => ⟨by decide, fun p4 h4 => ?_⟩⟩
   exact fin ⟨1, .inr (.inl rfl), by simp [asA, cx, cy]; omega, by simp [asB, cx, cy]; omega⟩ 1 _ _ H4 s04 l3 l1 l2 p3 h3 p4 h4
  rw [if_neg (by rw [decide_eq_false c3]; decide)]
  have eh : hdg p q = 7 := by unfold hdg; rw [if_neg c1, if_neg c2, if_neg c3]
  obtain ⟨l1, l2, l3⟩ := ln7 p
  rw [eh] at fin
  have uy4 := s24.tup uy
  refine ⟨_, uy4, _, rfl, _, uy4, _, rfl, by decide, fun p3 h3 => ?_⟩
  have u3 := AJ.upd (o := .tup [.int (0 - (q.2.2.1 - p.2.2.1)), .int (0 - (q.2.2.2 - p.2.2.2))]) h3
  refine ⟨_, _, rx.same (s24.trans u3), BC.mpr ⟨p3, rfl, SqT.of AD⟩, (show (0 : Nat) ≤ 60 by decide), ?_⟩
  rw [if_neg Bool.false_ne_true, TY]
  dsimp only
  have s05 := s04.trans u3
  by_cases c4 : q.1 - p.1 = 0 - (q.2.2.1 - p.2.2.1) ∧ q.2.1 - p.2.1 = 0 - (q.2.2.2 - p.2.2.2)
  case neg =>
   rw [if_neg (by rw [decide_eq_false c4]; decide)]
   have no : ¬ onL p q := fun on => by
    obtain ⟨g1, g2⟩ := HK on
    rw [eh] at g1 g2
    simp [asA, asB, cx, cy] at g1 g2
    omega
   intro v6 H6 s6 e6
   obtain ⟨a6, z1, z2, rfl, h6, z3, z4⟩ := BT.mp (show Rp K H6 (.tup [.int 4, num 0 0]) v6 from e6)
   rw [Rp] at z3
   subst z3
   exact k1 no a6 _ _ (s05.trans s6) h6 z4
  rw [if_pos (decide_eq_true c4)]
  refine ⟨_, s05.tup ha, _, rfl, _, s05.tup ha1, _, rfl, _, s05.tup ha, _, rfl, _, s05.tup ha2, _, rfl, _, s05.tup ha, _, rfl, _, s05.tup ha1, _, rfl, _, s05.tup ha, _, rfl, _, s05.tup ha2, _, rfl, by decide, fun p4 h4 => ⟨by decide, fun p5 h5 => ?_⟩⟩
  exact fin ⟨7, .inr (.inr (.inr rfl)), by simp [asA, cx, cy]; omega, by simp [asB, cx, cy]; omega⟩ 3 _ _ _ s05 l3 l1 l2 p4 h4 p5 h5
end
def bd (n : Int) (p : Pl) : Prop := (-n ≤ p.a ∧ p.a ≤ n) ∧ (-n ≤ p.b ∧ p.b ≤ n) ∧ (-n ≤ p.c ∧ p.c ≤ n) ∧ (-n ≤ p.d ∧ p.d ≤ n)
theorem jI {n m : Int} {p : Pl} {h s : Int} (hp : bd n p) (hs : 0 ≤ s ∧ s ≤ m) : bd (n + m) (mv p h s) := by
 obtain ⟨⟨a, b⟩, ⟨c, d⟩, ⟨e, f⟩, g, i⟩ := hp
 obtain ⟨s0, s1⟩ := hs
 rcases pI h with e | e | e | e | e | e | e | e <;> simp only [bd, mv, BY, e] <;> simp <;> omega
theorem bd.mono {m n : Int} {p : Pl} (h : bd m p) (hm : m ≤ n) : bd n p := by obtain ⟨⟨a, b⟩, ⟨c, d⟩, ⟨e, f⟩, g, i⟩ := h; exact ⟨⟨by omega, by omega⟩, ⟨by omega, by omega⟩, ⟨by omega, by omega⟩, by omega, by omega⟩
def pq (p : Pl) : Q4 := (p.a, p.b, p.c, p.d)
def pl (s : Q4) : Pl := ⟨s.1, s.2.1, s.2.2.1, s.2.2.2⟩
def par (s : Q4) : Prop := (s.2.1 + s.2.2.2) % 2 = 0
def DK (k : Sk) : Prop := CZ k ∧ (0 ≤ k.1 ∧ k.1 < 8) ∧ par k.2.1 ∧ par k.2.2
theorem aT {p : Pl} (h : bd 40000 p) : b7 (pq p) := by obtain ⟨⟨a, b⟩, ⟨c, d⟩, ⟨e, f⟩, g, i⟩ := h; exact ⟨⟨by show -(10 ^ 7) ≤ p.a; omega, by show p.a ≤ 10 ^ 7; omega⟩, ⟨by show -(10 ^ 7) ≤ p.b; omega, by show p.b ≤ 10 ^ 7; omega⟩, ⟨by show -(10 ^ 7) ≤ p.c; omega, by show p.c ≤ 10 ^ 7; omega⟩, by show -(10 ^ 7) ≤ p.d; omega, by show p.d ≤ 10 ^ 7; omega⟩
theorem jA (p : Pl) (h n : Int) (h0 : 0 ≤ h) (h1 : h < 8) : onL (pq p) (pq (mv p h n)) := by
 have e : h = 0 ∨ h = 1 ∨ h = 2 ∨ h = 3 ∨ h = 4 ∨ h = 5 ∨ h = 6 ∨ h = 7 := by omega
 rcases e with rfl | rfl | rfl | rfl | rfl | rfl | rfl | rfl
 ·exact ⟨0, .inl rfl, by simp [asA, cx, cy, pq, mv, BY], by simp [asB, cx, cy, pq, mv, BY]⟩
 ·exact ⟨1, .inr (.inl rfl), by simp [asA, cx, cy, pq, mv, BY], by simp [asB, cx, cy, pq, mv, BY]; omega⟩
 ·exact ⟨2, .inr (.inr (.inl rfl)), by simp [asA, cx, cy, pq, mv, BY], by simp [asB, cx, cy, pq, mv, BY]⟩
 ·exact ⟨7, .inr (.inr (.inr rfl)), by simp [asA, cx, cy, pq, mv, BY], by simp [asB, cx, cy, pq, mv, BY]; omega⟩
 ·exact ⟨0, .inl rfl, by simp [asA, cx, cy, pq, mv, BY], by simp [asB, cx, cy, pq, mv, BY]⟩
 ·exact ⟨1, .inr (.inl rfl), by simp [asA, cx, cy, pq, mv, BY], by simp [asB, cx, cy, pq, mv, BY]; omega⟩
 ·exact ⟨2, .inr (.inr (.inl rfl)), by simp [asA, cx, cy, pq, mv, BY], by simp [asB, cx, cy, pq, mv, BY]⟩
 ·exact ⟨7, .inr (.inr (.inr rfl)), by simp [asA, cx, cy, pq, mv, BY], by simp [asB, cx, cy, pq, mv, BY]; omega⟩
section
variable {P : Program} {w : World} {K : PySem.W.Frag} {mg : Str → Option Value} {base : Heap} {t : Adr}
theorem jB (p : Pl) (h n : Int) (h0 : 0 ≤ h) (h1 : h < 8) (hn : 1 ≤ n) : pq p ≠ pq (mv p h n) := by
 intro e
 have hh : h = 0 ∨ h = 1 ∨ h = 2 ∨ h = 3 ∨ h = 4 ∨ h = 5 ∨ h = 6 ∨ h = 7 := by omega
 unfold pq at e
 simp only [Prod.mk.injEq] at e
 obtain ⟨e1, e2, e3, e4⟩ := e
 rcases hh with rfl | rfl | rfl | rfl | rfl | rfl | rfl | rfl <;> simp [mv, BY] at e1 e2 e3 e4 <;> omega
theorem cP (p : Pl) (h n : Int) (h0 : 0 ≤ h) (h1 : h < 8) (hp : par (pq p)) : par (pq (mv p h n)) := by
 have hh : h = 0 ∨ h = 1 ∨ h = 2 ∨ h = 3 ∨ h = 4 ∨ h = 5 ∨ h = 6 ∨ h = 7 := by omega
 unfold par pq at *
 dsimp only at *
 rcases hh with rfl | rfl | rfl | rfl | rfl | rfl | rfl | rfl <;> simp [mv, BY] <;> omega
def Mvd (k : Sk) : Prop := ∃ (p : Pl) (h n : Int), (0 ≤ h ∧ h < 8) ∧ (1 ≤ n ∧ n ≤ 1000) ∧ k.2.1 = pq p ∧ k.2.2 = pq (mv p h n) ∧ bd 40000 p ∧ bd 40000 (mv p h n)
def og : Pl := ⟨0, 0, 0, 0⟩
def LW (K : PySem.W.Frag) : Sp := fun vs H Q _ => ∃ (a : Addr) (ns : List Int), vs = [.ref a, .int 0, .int 30] ∧ SqL K H a (ns.map V.int) ∧ ns.length ≤ 63 ∧
 ∀ (l : Addr) (xs : List V) (ks : List Sk) (H' : Hp), AJ H H' → H' l = some (.lst xs) → Sks K H' ks xs → ks.length ≤ 30 → (∀ k ∈ ks, DK k ∧ Mvd k) → Q (.ref l) H'
def pW (K : PySem.W.Frag) (a lh lf : Addr) (hs : List Int) (z far ink : Int) (H : Hp) (i : Nat) (σ : L2.St) (H2 : Hp) : Prop := ∃ (v : V) (p : Pl) (ks : List Sk) (vs : List V) (o1 o2 o3 o4 : Option V),
 σ = [some (.ref a), some (.int 0), some (.int 30), some (.int z), some (.ref lh), some (.int far), some (.int ink), some v, some (.ref lf), o1, o2, o3, o4] ∧ AJ H H2 ∧ H2 lh = some (.lst (hs.map V.int)) ∧ H2 lf = some (.lst vs) ∧ Sks K H2 ks vs ∧ ks.length ≤ i ∧
 Rp K H2 p.D v ∧ (bd (1000 * i) p ∧ par (pq p)) ∧ ∀ k ∈ ks, DK k ∧ Mvd k
theorem MB (T : Txt K mg t) : CL P w K mg base CX0 3 t.a_Lstrokes t.d_Lstrokes ["_law_script", "_law_start", "_law_most"] (LW K) := by
 refine T.Lstrokes.F.ok BU (fun vs H Q E h => ?_) (fun cdv A outer s H vs Q E hr h => ?_)
 ·obtain ⟨a, ns, rfl, _⟩ := h; rfl
 ·obtain ⟨a, ns, rfl, hS, hl, q⟩ := h
  refine ⟨_, s!"3{BU.nd}{Or.inl rfl}{NX T}{T.Lcell.m}{T.Lcell.F.kp}{T.Lcell.b}0A1ADBBHK4{BU.nd}{Or.inl rfl}{AL}CCCCCCCCDBBBBBBBBUCCCCCDBBBBBUCCCCDBBBBUCCCCDBBBBUCCCCDBBBBUDBBBBBU{BL}3ACFEK5{BU.nd}{Or.inl rfl}{AL}CCCCDBBBBU{BL}{JB}3ACFCFEK6{BU.nd}{Or.inl rfl}{AL}CCCCDBBBBU{BL}{JB}3ACFCFEK7{BU.nd}{Or.inl rfl}YVVXYVVXYggXK8{BU.nd}{Or.inl rfl}DUK{@ZO _ _ _ _ _ _ _ (by rfl) T.z_range s!"{BJ}1ACF{BJ}{BJ}1ACF{VW rfl}{T.z_max}{boot_max}C{VP rfl}{T.z_min}{boot_min}2A{CA}{CA}{AZ}{T.z_len}{PySem.boot_len}0ADBS1AFCFDBBSDBBSFDBB" (by rfl) (by rfl)}9{BU.nd}O{10}{BU.nd}{Or.inl rfl}{XX T}{T.Lrow.m}{T.Lrow.F.kp}{T.Lrow.b}{NX T}{T.Lcell.m}{T.Lcell.F.kp}{T.Lcell.b}0A9ADBBH{WZ}CCFCDBBBHK{11}{BU.nd}{Or.inl rfl}{AL}4A{BL}{AL}{10}ACE{AZ}{T.z_len}{PySem.boot_len}4ADBSFEK{12}{BU.nd}{Or.inl rfl}{KZ T}{T.Lmoved.m}{T.Lmoved.F.kp}{T.Lmoved.b}7A{11}A{BJ}C{BL}{AL}{10}ACE5AFFDBBBHK{EF}{BL}{AL}{10}ACECFCN8A{BL}{AL}{10}ACE6AF7A{12}ADBBBRDbqpGML7{BU.nd}{Or.inl rfl}{12}AKGJJJJc8AIGJJJJJJJ", ?_⟩
  walk_at "rh"
  refine ⟨a, ns, 0, rfl, hS, hl, by decide, by decide, fun z => ?_⟩
  walk_at "rh"
  refine ⟨by decide, fun l1 h1 => ⟨by decide, fun l2 h2 => ⟨by decide, fun l3 h3 => ⟨by decide, fun l4 h4 => ⟨by decide, fun l5 h5 => ⟨by decide, fun l6 h6 => ?_⟩⟩⟩⟩⟩⟩
  have u1 := AJ.upd (o := .lst [.int 0, .int 1, .int 2, .int 3, .int 4, .int 5, .int 6, .int 7]) h1
  have u2 := AJ.upd (o := .lst [.int 0, .int 4, .int 0, .int 4, .int 2]) h2
  have u3 := AJ.upd (o := .lst [.int 0, .int 2, .int 4, .int 6]) h3
  have u4 := AJ.upd (o := .lst [.int 0, .int 4, .int 1, .int 5]) h4
  have u5 := AJ.upd (o := .lst [.int 1, .int 3, .int 5, .int 7]) h5
  have u6 := AJ.upd (o := .lst [.ref l1, .ref l2, .ref l3, .ref l4, .ref l5]) h6
  obtain ⟨lh, hs, e1, e2, hs0, hs1, hsb⟩ : ∃ (lh : Addr) (hs : List Int), atI [V.ref l1, V.ref l2, V.ref l3, V.ref l4, V.ref l5] (z % 5) = some (.ref lh) ∧ (upd (upd (upd (upd (upd (upd H l1 (.lst [.int 0, .int 1, .int 2, .int 3, .int 4, .int 5, .int 6, .int 7])) l2 (.lst [.int 0, .int 4, .int 0, .int 4, .int 2])) l3 (.lst [.int 0, .int 2, .int 4, .int 6])) l4 (.lst [.int 0, .int 4, .int 1, .int 5])) l5 (.lst [.int 1, .int 3, .int 5, .int 7])) l6 (.lst [.ref l1, .ref l2, .ref l3, .ref l4, .ref l5])) lh = some (.lst (hs.map V.int)) ∧ 0 < hs.length ∧ hs.length ≤ 8 ∧ ∀ h ∈ hs, 0 ≤ h ∧ h < 8 := by
   have e : z % 5 = 0 ∨ z % 5 = 1 ∨ z % 5 = 2 ∨ z % 5 = 3 ∨ z % 5 = 4 := by omega
   rcases e with e | e | e | e | e <;> rw [e]
   ·exact ⟨l1, [0, 1, 2, 3, 4, 5, 6, 7], rfl, u6 _ _ (u5 _ _ (u4 _ _ (u3 _ _ (u2 _ _ AD)))), by decide, by decide, by decide⟩
   ·exact ⟨l2, [0, 4, 0, 4, 2], rfl, u6 _ _ (u5 _ _ (u4 _ _ (u3 _ _ AD))), by decide, by decide, by decide⟩
   ·exact ⟨l3, [0, 2, 4, 6], rfl, u6 _ _ (u5 _ _ (u4 _ _ AD)), by decide, by decide, by decide⟩
   ·exact ⟨l4, [0, 4, 1, 5], rfl, u6 _ _ (u5 _ _ AD), by decide, by decide, by decide⟩
   ·exact ⟨l5, [1, 3, 5, 7], rfl, u6 _ _ AD, by decide, by decide, by decide⟩
  have s6 : AJ H (upd (upd (upd (upd (upd (upd H l1 (.lst [.int 0, .int 1, .int 2, .int 3, .int 4, .int 5, .int 6, .int 7])) l2 (.lst [.int 0, .int 4, .int 0, .int 4, .int 2])) l3 (.lst [.int 0, .int 2, .int 4, .int 6])) l4 (.lst [.int 0, .int 4, .int 1, .int 5])) l5 (.lst [.int 1, .int 3, .int 5, .int 7])) l6 (.lst [.ref l1, .ref l2, .ref l3, .ref l4, .ref l5])) := ((((u1.trans u2).trans u3).trans u4).trans u5).trans u6
  have hL6 : SqL K (upd (upd (upd (upd (upd (upd H l1 (.lst [.int 0, .int 1, .int 2, .int 3, .int 4, .int 5, .int 6, .int 7])) l2 (.lst [.int 0, .int 4, .int 0, .int 4, .int 2])) l3 (.lst [.int 0, .int 2, .int 4, .int 6])) l4 (.lst [.int 0, .int 4, .int 1, .int 5])) l5 (.lst [.int 1, .int 3, .int 5, .int 7])) l6 (.lst [.ref l1, .ref l2, .ref l3, .ref l4, .ref l5])) l6 [.ref l1, .ref l2, .ref l3, .ref l4, .ref l5] := SqL.of AD
  generalize upd (upd (upd (upd (upd (upd H l1 (.lst [.int 0, .int 1, .int 2, .int 3, .int 4, .int 5, .int 6, .int 7])) l2 (.lst [.int 0, .int 4, .int 0, .int 4, .int 2])) l3 (.lst [.int 0, .int 2, .int 4, .int 6])) l4 (.lst [.int 0, .int 4, .int 1, .int 5])) l5 (.lst [.int 1, .int 3, .int 5, .int 7])) l6 (.lst [.ref l1, .ref l2, .ref l3, .ref l4, .ref l5]) = G at e2 s6 hL6 ⊢
  clear u1 u2 u3 u4 u5 u6 h1 h2 h3 h4 h5 h6
  refine ⟨by decide, _, hL6, _, e1, ?_⟩
  clear hL6 e1
  walk_at "rh"
  obtain ⟨far, ef, f0, f1⟩ : ∃ far : Int, atI [V.int 3, V.int 2, V.int 5, V.int 1000] (z / 5 % 4) = some (.int far) ∧ 0 < far ∧ far ≤ 1000 := by
   have e : z / 5 % 4 = 0 ∨ z / 5 % 4 = 1 ∨ z / 5 % 4 = 2 ∨ z / 5 % 4 = 3 := by omega
   rcases e with e | e | e | e <;> rw [e]
   ·exact ⟨3, rfl, by decide, by decide⟩
   ·exact ⟨2, rfl, by decide, by decide⟩
   ·exact ⟨5, rfl, by decide, by decide⟩
   ·exact ⟨1000, rfl, by decide, by decide⟩
  refine ⟨by decide, fun l7 h7 => ⟨by decide, by decide, by decide, _, SqL.of AD, _, ef, ?_⟩⟩
  have s7 := s6.upd2 (o := .lst [.int 3, .int 2, .int 5, .int 1000]) (s6.free h7)
  have e2' := AJ.upd (o := .lst [.int 3, .int 2, .int 5, .int 1000]) h7 _ _ e2
  generalize upd G l7 (.lst [.int 3, .int 2, .int 5, .int 1000]) = G2 at s7 e2' ⊢
  clear ef h7 e2 s6
  walk_at "rh"
  obtain ⟨ink, ei, i0, i1⟩ : ∃ ink : Int, atI [V.int 1, V.int 1, V.int 2, V.int 8] (z / 20 % 4) = some (.int ink) ∧ 0 < ink ∧ ink ≤ 8 := by
   have e : z / 20 % 4 = 0 ∨ z / 20 % 4 = 1 ∨ z / 20 % 4 = 2 ∨ z / 20 % 4 = 3 := by omega
   rcases e with e | e | e | e <;> rw [e]
   ·exact ⟨1, rfl, by decide, by decide⟩
   ·exact ⟨1, rfl, by decide, by decide⟩
   ·exact ⟨2, rfl, by decide, by decide⟩
   ·exact ⟨8, rfl, by decide, by decide⟩
  refine ⟨by decide, fun l8 h8 => ⟨by decide, by decide, by decide, _, SqL.of AD, _, ei, ?_⟩⟩
  have s8 := s7.upd2 (o := .lst [.int 1, .int 1, .int 2, .int 8]) (s7.free h8)
  have e3 := AJ.upd (o := .lst [.int 1, .int 1, .int 2, .int 8]) h8 _ _ e2'
  generalize upd G2 l8 (.lst [.int 1, .int 1, .int 2, .int 8]) = G3 at s8 e3 ⊢
  clear ei h8 e2' s7
  walk_at "rh"
  intro v0 G4 s9 r9
  walk_at "rh"
  refine ⟨by decide, fun lf hlf => ?_⟩
  walk_at "rh"
  have u9 := AJ.upd (o := .lst []) hlf
  have sA := (s8.trans s9).trans u9
  have nlf : H lf = none := (s8.trans s9).free hlf
  refine ⟨_, .inl (sA.seq hS), ?_⟩
  rw [List.length_map]
  have hm : ∃ m : Nat, (if (if (ns.length : Int) - 0 - 1 < 30 then (ns.length : Int) - 0 - 1 else 30) > 5 then (if (ns.length : Int) - 0 - 1 < 30 then (ns.length : Int) - 0 - 1 else 30) else 5) = (m : Int) ∧ m ≤ 30 := by
   by_cases h : (ns.length : Int) - 0 - 1 < 30
   ·rw [if_pos h]
    by_cases h2 : (ns.length : Int) - 0 - 1 > 5
    ·rw [if_pos h2]; exact ⟨ns.length - 1, by omega, by omega⟩
    ·rw [if_neg h2]; exact ⟨5, rfl, by decide⟩
   ·rw [if_neg h]; exact ⟨30, rfl, by decide⟩
  obtain ⟨m, em, m16⟩ := hm
  rw [em]
  refine ⟨by decide, by decide, by omega, by omega, ?_⟩
  have en : ((0 : Int) + 1 + (m : Int) - (0 + 1)).toNat = m := by omega
  rw [en]
  have lhA : upd G4 lf (.lst []) lh = some (.lst (hs.map V.int)) := (s9.trans u9) _ _ e3
  have nhf : lh ≠ lf := by rintro rfl; rw [s9 _ _ e3] at hlf; cases hlf
  refine MV (pW K a lh lf hs z far ink H) ⟨v0, og, [], [], _, _, _, _, rfl, sA, lhA, AD, .nil, Nat.le_refl _, r9.same u9, ?_, fun k hk => by cases hk⟩ ?_ ?_
  ·exact ⟨by simp [bd, og], by simp [par, pq, og]⟩
  ·rintro i σ H2 hi ⟨v, p, ks, vs, o1, o2, o3, o4, rfl, sH, hh, hf, rq, hqs, rv, ⟨bp, pp⟩, ok⟩
   walk_at "rh"
   refine ⟨a, ns, _, rfl, sH.seq hS, hl, by omega, by omega, fun z1 => ?_⟩
   walk_at "rh"
   refine ⟨⟨by decide, by decide, by decide⟩, _, _, _, rfl, by decide, by decide, by decide, by decide, fun l ys H3 s3 hl3 hL hlen hb => ?_⟩
   obtain ⟨y0, y1, y2, y3, rfl⟩ : ∃ a b c d, ys = [a, b, c, d] := by
    match ys, hlen with
    | [a, b, c, d], _ => exact ⟨_, _, _, _, rfl⟩
   walk_at "rh"
   refine ⟨_, SqL.of hL, _, rfl, _, .inl (SqL.of (s3 _ _ hh)), ?_⟩
   rw [List.length_map]
   obtain ⟨h, hmem, eh⟩ := NG (ns := hs) (k := y0 % (hs.length : Int)) (Int.emod_nonneg _ (by omega)) (Int.emod_lt_of_pos _ (by omega))
   have hh8 := hsb h hmem
   refine ⟨by omega, _, SqL.of (s3 _ _ hh), _, eh, ?_⟩
   walk_at "rh"
   refine ⟨_, SqL.of hL, _, rfl, ?_⟩
   walk_at "rh"
   have n0 := Int.emod_nonneg y1 (show far ≠ 0 by omega)
   have n1 := Int.emod_lt_of_pos y1 (show 0 < far by omega)
   refine ⟨by omega, v, p, h, _, rfl, rv.same s3, hh8, ⟨by omega, by omega⟩, fun v1 H4 s4 r4 => ?_⟩
   walk_at "rh"
   have bn : bd (1000 * ((i + 1 : Nat) : Int)) (mv p h (1 + y1 % far)) := (jI (m := 1000) bp ⟨by omega, by omega⟩).mono (by omega)
   have pp' := cP p h (1 + y1 % far) hh8.1 hh8.2 pp
   have k0 := Int.emod_nonneg y2 (show ink ≠ 0 by omega)
   have k1 := Int.emod_lt_of_pos y2 i0
   have hL4 := s4 _ _ hL
   have s34 := s3.trans s4
   have hf4 := s34 _ _ hf
   have hh4 := s34 _ _ hh
   have sH4 := sH.trans s34
   have vl : vs.length = ks.length := (Paired.length rq).symm
   refine ⟨_, SqL.of hL4, _, rfl, by decide, ?_⟩
   by_cases c : 0 < y3 % 5
   ·rw [if_pos c]
    refine ⟨.inl ⟨_, SqL.of hf4⟩, _, SqL.of hL4, _, rfl, i0, by decide, fun pn hpn => ?_⟩
    have un := AJ.upd (o := .tup [.int (y2 % ink), v, v1]) hpn
    have hf5 := un _ _ hf4
    refine ⟨_, hf5, BQ (by omega), ?_⟩
    walk_at "rh"
    have su : CD (upd H4 pn (.tup [.int (y2 % ink), v, v1])) (upd (upd H4 pn (.tup [.int (y2 % ink), v, v1])) lf (.lst (vs ++ [.ref pn]))) := (CD.refl _).upd (HD hf5)
    refine ⟨v1, mv p h (1 + y1 % far), ks ++ [(y2 % ink, pq p, pq (mv p h (1 + y1 % far)))], vs ++ [.ref pn], _, _, _, _, rfl, (sH4.trans un).upd2 nlf, ?_, AD, ?_, ?_, (r4.same un).t su, ⟨bn, pp'⟩, ?_⟩
    ·rw [BM nhf]; exact un _ _ hh4
    ·refine Sks.tt (Sks.snoc ((Sks.same rq s34).same un) ?_) su
     exact CJ.mpr ⟨pn, v, v1, rfl, SqT.of AD, (rv.same s34).same un, r4.same un⟩
    ·rw [List.length_append]; exact Nat.succ_le_succ hqs
    ·intro k hk
     rcases List.mem_append.mp hk with hk | hk
     ·exact ok k hk
     ·rw [List.mem_singleton.mp hk]
      exact ⟨⟨⟨jA p h _ hh8.1 hh8.2, aT (bp.mono (by omega)), aT (bn.mono (by omega)), jB p h _ hh8.1 hh8.2 (by omega)⟩, ⟨k0, (show y2 % ink < 8 by omega)⟩, pp, pp'⟩, p, h, _, hh8, ⟨by omega, by omega⟩, rfl, rfl, bp.mono (by omega), bn.mono (by omega)⟩
   ·rw [if_neg c]
    walk_at "rh"
    exact ⟨v1, _, ks, vs, _, _, _, _, rfl, sH4, hh4, hf4, Sks.same rq s34, Nat.le_succ_of_le hqs, r4, ⟨bn, pp'⟩, ok⟩
  ·rintro σ H2 ⟨v, p, ks, vs, o1, o2, o3, o4, rfl, sH, hh, hf, rq, hqs, rv, bp, ok⟩
   walk_at "rh"
   exact q lf vs ks _ sH hf rq (by omega) ok
end
def alp (h : Int) (s : Q4) : Int × Int := (alA h s, alB h s)
theorem TL {h : Int} {p q : Q4} (h4 : H4 h) (e1 : asA h p = asA h q) (e2 : asB h p = asB h q) (ne : p ≠ q) : hdg p q = h := by
 obtain ⟨a, b, c, d⟩ := p
 obtain ⟨a', b', c', d'⟩ := q
 unfold hdg
 dsimp only
 have ne' : ¬ (a = a' ∧ b = b' ∧ c = c' ∧ d = d') := fun ⟨x, y, z, w⟩ => ne (by rw [x, y, z, w])
 rcases h4 with rfl | rfl | rfl | rfl <;> simp [asA, asB, cx, cy] at e1 e2
 ·rw [if_pos (by omega)]
 ·rw [if_neg (by omega), if_neg (by omega), if_pos (by omega)]
 ·rw [if_neg (by omega), if_pos (by omega)]
 ·rw [if_neg (by omega), if_neg (by omega), if_neg (by omega)]
theorem VA {h n1 n2 : Int} {r : Rw} (o : RC h n1 n2 r) (h4 : H4 h) : hdg r.p r.q = h ∧ lo r = alp h r.p ∧ hi r = alp h r.q := by
 have ne : r.p ≠ r.q := fun z => BK (r.la, r.lb) (by have q := o.ord; rw [o.f3, o.f4, ← z, ← o.f1, ← o.f2] at q; exact q)
 refine ⟨TL h4 (o.e1.trans o.e3.symm) (o.e2.trans o.e4.symm) ne, ?_, ?_⟩
 ·unfold lo alp; rw [o.f1, o.f2]
 ·unfold hi alp; rw [o.f3, o.f4]
theorem deqQ (p q : Q4) : deqL [num p.1 p.2.1, num p.2.2.1 p.2.2.2] [num q.1 q.2.1, num q.2.2.1 q.2.2.2] = decide (p = q) := by
 obtain ⟨a, b, c, d⟩ := p
 obtain ⟨a', b', c', d'⟩ := q
 unfold num
 simp only [deqL, deq, Bool.and_true]
 rw [Bool.eq_iff_iff]
 simp only [Bool.and_eq_true, beq_iff_eq, decide_eq_true_eq, Prod.mk.injEq]
 constructor
 ·rintro ⟨⟨e1, e2⟩, e3, e4⟩; exact ⟨e1, e2, e3, e4⟩
 ·rintro ⟨e1, e2, e3, e4⟩; exact ⟨⟨e1, e2⟩, e3, e4⟩
theorem lG {h g : Int} (a : H4 h) (b : H4 g) (e : lx h = lx g) : h = g := by
 rcases a with rfl | rfl | rfl | rfl <;> rcases b with rfl | rfl | rfl | rfl <;> first | rfl | exact absurd e (by decide)
theorem JN {a b : Int × Int} : 0 < sg (a.1 - b.1) (a.2 - b.2) ↔ les b a := by
 have h := UA (a.1 - b.1) (a.2 - b.2)
 rw [show 0 - (a.1 - b.1) = b.1 - a.1 by omega, show 0 - (a.2 - b.2) = b.2 - a.2 by omega] at h
 unfold les
 omega
theorem jK {h : Int} {p : Q4} (b : b7 p) : lt6 (alA h p) ∧ lt6 (alB h p) := by
 have := al7 (h := h) b
 unfold lt6
 omega
inductive Lk (R : List Rw) (x : Int × Int) : (Int × Int) → Prop
 | refl : Lk R x x
 | step {y : Int × Int} {r : Rw} : Lk R x y → r ∈ R → ¬ les y (lo r) → les y (hi r) → Lk R x (hi r)
theorem Lk.mono {R R' : List Rw} {x y : Int × Int} (h : Lk R x y) (s : ∀ r ∈ R, r ∈ R') : Lk R' x y := by
 induction h with
 | refl => exact .refl
 | step _ hr a b ih => exact .step ih (s _ hr) a b
structure JOk (R js : List Rw) : Prop where
 beg : ∀ j ∈ js, ∃ r ∈ R, lo j = lo r ∧ j.p = r.p
 fin : ∀ j ∈ js, ∃ r ∈ R, hi j = hi r ∧ j.q = r.q
 ord : ∀ j ∈ js, les (lo j) (hi j)
 apart : js.Pairwise fun a b => les (hi a) (lo b)
 cov : ∀ r ∈ R, ∃ j ∈ js, ¬ les (lo r) (lo j) ∧ ¬ les (hi j) (hi r)
 lk : ∀ j ∈ js, Lk R (lo j) (hi j)
theorem jY (rs : List Rw) (st : Srt rs) (od : ∀ r ∈ rs, les (lo r) (hi r)) : ∀ n, n ≤ rs.length → JOk (rs.take n) (jn (rs.take n))
 | 0, _ => by
  rw [List.take_zero]
  exact ⟨(fun j hj => by cases hj), (fun j hj => by cases hj), (fun j hj => by cases hj), .nil, (fun r hr => by cases hr), (fun j hj => by cases hj)⟩
 | n + 1, hn => by
  have ih := jY rs st od n (by omega)
  obtain ⟨r, er⟩ : ∃ r, rs[n]? = some r := ⟨rs[n], by simp [show n < rs.length by omega]⟩
  have or := od r (List.mem_of_getElem? er)
  have le : ∀ r0 ∈ rs.take n, LeD r0 r := by
   have := List.Pairwise.sublist (List.take_sublist (n + 1) rs) st
   rw [DO er] at this
   exact fun r0 h0 => (List.pairwise_append.mp this).2.2 r0 h0 r List.mem_cons_self
  rw [DO er, WY]
  generalize rs.take n = R at ih le
  generalize jn R = js at ih
  have sub : ∀ q ∈ R, q ∈ R ++ [r] := fun q hq => List.mem_append_left _ hq
  have rin : r ∈ R ++ [r] := List.mem_append_right _ List.mem_cons_self
  have one : Lk (R ++ [r]) (lo r) (hi r) := .step .refl rin (BK _) or
  have tc : js = [] ∨ ∃ us l, js = us ++ [l] := by
   rcases List.eq_nil_or_concat js with h | ⟨u, v, h⟩
   ·exact .inl h
   ·exact .inr ⟨u, v, by rw [h, List.concat_eq_append]⟩
  rcases tc with rfl | ⟨us, l, rfl⟩
  ·rw [gP]
   have R0 : R = [] := by
    cases R with
    | nil => rfl
    | cons a b =>
     obtain ⟨j, hj, _⟩ := ih.cov a List.mem_cons_self
     cases hj
   subst R0
   have e : ∀ j ∈ [r], j = r := fun j hj => List.mem_singleton.mp hj
   exact ⟨fun j hj => ⟨r, rin, by rw [e j hj], by rw [e j hj]⟩, fun j hj => ⟨r, rin, by rw [e j hj], by rw [e j hj]⟩, fun j hj => by rw [e j hj]; exact or, List.pairwise_singleton _ _, fun q hq => ⟨r, List.mem_cons_self, by rw [e q hq]; exact BK _, by rw [e q hq]; exact BK _⟩, fun j hj => by rw [e j hj]; exact one⟩
  have lm : l ∈ us ++ [l] := List.mem_append_right _ List.mem_cons_self
  have hl : ¬ les (lo r) (lo l) := by
   obtain ⟨q, hq, e, _⟩ := ih.beg l lm
   rw [e]; exact le q hq
  obtain ⟨ap1, _, ap2⟩ := List.pairwise_append.mp ih.apart
  rw [RV]
  by_cases c : sg (l.ha - r.la) (l.hb - r.lb) < 0
  ·rw [if_pos c]
   have c' : les (hi l) (lo r) := c
   refine ⟨fun j hj => ?_, fun j hj => ?_, fun j hj => ?_, List.pairwise_append.mpr ⟨ih.apart, List.pairwise_singleton _ _, fun a ha b hb => ?_⟩, fun q hq => ?_, fun j hj => ?_⟩
   ·rcases List.mem_append.mp hj with hj | hj
    ·obtain ⟨q, hq, e⟩ := ih.beg j hj
     exact ⟨q, sub q hq, e⟩
    ·rw [List.mem_singleton.mp hj]; exact ⟨r, rin, rfl, rfl⟩
   ·rcases List.mem_append.mp hj with hj | hj
    ·obtain ⟨q, hq, e⟩ := ih.fin j hj
     exact ⟨q, sub q hq, e⟩
    ·rw [List.mem_singleton.mp hj]; exact ⟨r, rin, rfl, rfl⟩
   ·rcases List.mem_append.mp hj with hj | hj
    ·exact ih.ord j hj
    ·rw [List.mem_singleton.mp hj]; exact or
   ·rw [List.mem_singleton.mp hb]
    rcases List.mem_append.mp ha with ha | ha
    ·exact BE (BE (ap2 a ha l List.mem_cons_self) (ih.ord l lm)) c'
    ·rw [List.mem_singleton.mp ha]; exact c'
   ·rcases List.mem_append.mp hq with hq | hq
    ·obtain ⟨j, hj, a, b⟩ := ih.cov q hq
     exact ⟨j, List.mem_append_left _ hj, a, b⟩
    ·rw [List.mem_singleton.mp hq]
     exact ⟨r, List.mem_append_right _ List.mem_cons_self, BK _, BK _⟩
   ·rcases List.mem_append.mp hj with hj | hj
    ·exact (ih.lk j hj).mono sub
    ·rw [List.mem_singleton.mp hj]; exact one
  rw [if_neg c]
  have c' : ¬ les (hi l) (lo r) := c
  by_cases d : sg (l.ha - r.ha) (l.hb - r.hb) < 0
  ·rw [if_pos d]
   have d' : les (hi l) (hi r) := d
   have hm : jmg l r ∈ us ++ [jmg l r] := List.mem_append_right _ List.mem_cons_self
   refine ⟨fun j hj => ?_, fun j hj => ?_, fun j hj => ?_, List.pairwise_append.mpr ⟨ap1, List.pairwise_singleton _ _, fun a ha b hb => ?_⟩, fun q hq => ?_, fun j hj => ?_⟩
   ·rcases List.mem_append.mp hj with hj | hj
    ·obtain ⟨q, hq, e⟩ := ih.beg j (List.mem_append_left _ hj)
     exact ⟨q, sub q hq, e⟩
    ·obtain ⟨q, hq, e⟩ := ih.beg l lm
     rw [List.mem_singleton.mp hj]; exact ⟨q, sub q hq, e⟩
   ·rcases List.mem_append.mp hj with hj | hj
    ·obtain ⟨q, hq, e⟩ := ih.fin j (List.mem_append_left _ hj)
     exact ⟨q, sub q hq, e⟩
    ·rw [List.mem_singleton.mp hj]; exact ⟨r, rin, rfl, rfl⟩
   ·rcases List.mem_append.mp hj with hj | hj
    ·exact ih.ord j (List.mem_append_left _ hj)
    ·rw [List.mem_singleton.mp hj]; exact BE (ih.ord l lm) d'
   ·rw [List.mem_singleton.mp hb]; exact ap2 a ha l List.mem_cons_self
   ·rcases List.mem_append.mp hq with hq | hq
    ·obtain ⟨j, hj, a, b⟩ := ih.cov q hq
     rcases List.mem_append.mp hj with hj | hj
     ·exact ⟨j, List.mem_append_left _ hj, a, b⟩
     ·rw [List.mem_singleton.mp hj] at a b
      exact ⟨jmg l r, hm, a, fun z => b (BE d' z)⟩
    ·rw [List.mem_singleton.mp hq]
     exact ⟨jmg l r, hm, hl, BK _⟩
   ·rcases List.mem_append.mp hj with hj | hj
    ·exact (ih.lk j (List.mem_append_left _ hj)).mono sub
    ·rw [List.mem_singleton.mp hj]
     exact Lk.step (r := r) ((ih.lk l lm).mono sub) rin c' d'
  ·rw [if_neg d]
   have d' : ¬ les (hi l) (hi r) := d
   refine ⟨fun j hj => ?_, fun j hj => ?_, ih.ord, ih.apart, fun q hq => ?_, fun j hj => (ih.lk j hj).mono sub⟩
   ·obtain ⟨q, hq, e⟩ := ih.beg j hj
    exact ⟨q, sub q hq, e⟩
   ·obtain ⟨q, hq, e⟩ := ih.fin j hj
    exact ⟨q, sub q hq, e⟩
   ·rcases List.mem_append.mp hq with hq | hq
    ·exact ih.cov q hq
    ·rw [List.mem_singleton.mp hq]
     exact ⟨l, lm, hl, d'⟩
def trg (x : Int × Int) (r : Rw) : Bool := decide (sg ((lo r).1 - x.1) ((lo r).2 - x.2) ≤ 0) && decide (0 < sg ((hi r).1 - x.1) ((hi r).2 - x.2))
theorem MM (x : Int × Int) (r : Rw) : trg x r = true ↔ ¬ les x (lo r) ∧ les x (hi r) := by
 unfold trg
 rw [Bool.and_eq_true, decide_eq_true_eq, decide_eq_true_eq, ← JN, ← JN, Int.not_lt]
def g1 (x : Int × Int) (r : Rw) : Int × Int := if trg x r = true then hi r else x
theorem cU (x : Int × Int) (r : Rw) : ¬ les (g1 x r) x := by
 unfold g1
 by_cases c : trg x r = true
 ·rw [if_pos c]; exact FI ((MM x r).mp c).2
 ·rw [if_neg c]; exact BK x
theorem RM : ∀ (R : List Rw) (x : Int × Int), ¬ les (R.foldl g1 x) x
 | [], x => BK x
 | r :: R, x => LV (cU x r) (RM R (g1 x r))
theorem SX : ∀ (R : List Rw) (x : Int × Int) (r : Rw), r ∈ R → ¬ les x (lo r) → ¬ les (R.foldl g1 x) (hi r)
 | [], x, r, h, _ => by cases h
 | q :: R, x, r, h, hx => by
  rw [List.foldl_cons]
  rcases List.mem_cons.mp h with rfl | h
  ·refine LV ?_ (RM R (g1 x r))
   unfold g1
   by_cases c : trg x r = true
   ·rw [if_pos c]; exact BK _
   ·rw [if_neg c]
    intro z
    exact c ((MM x r).mpr ⟨hx, z⟩)
  ·exact SX R (g1 x q) r h (LV hx (cU x q))
theorem Lk.hit {R : List Rw} {a b x : Int × Int} (h : Lk R a b) (hx : ¬ les x a) (hb : les x b) : ∃ r ∈ R, ¬ les x (lo r) ∧ les x (hi r) := by
 induction h with
 | refl => exact absurd hb hx
 | step _ hr a' b' ih =>
  rename_i y r _
  by_cases c : les x y
  ·exact ih c
  ·exact ⟨r, hr, LV a' c, hb⟩
theorem OF {js : List Rw} (h : js.Pairwise fun a b => les (hi a) (lo b)) {a b : Rw} (ha : a ∈ js) (hb : b ∈ js) : a = b ∨ les (hi a) (lo b) ∨ les (hi b) (lo a) := by
 induction h with
 | nil => cases ha
 | cons h1 _ ih =>
  rcases List.mem_cons.mp ha with rfl | ha'
  ·rcases List.mem_cons.mp hb with rfl | hb'
   ·exact .inl rfl
   ·exact .inr (.inl (h1 b hb'))
  ·rcases List.mem_cons.mp hb with rfl | hb'
   ·exact .inr (.inr (h1 a ha'))
   ·exact ih ha' hb'
theorem jF {R js : List Rw} (o : JOk R js) {j r : Rw} (hj : j ∈ js) (hr : r ∈ R) {x : Int × Int} (h1 : ¬ les x (lo j)) (h2 : ¬ les (hi j) x) : ¬ les (hi j) (g1 x r) := by
 unfold g1
 by_cases c : trg x r = true
 ·rw [if_pos c]
  obtain ⟨c1, c2⟩ := (MM x r).mp c
  obtain ⟨j', hj', a, b⟩ := o.cov r hr
  rcases OF o.apart hj hj' with rfl | z | z
  ·exact b
  ·exact absurd (KT z a) (fun w => h2 (KT w c1))
  ·exact absurd (BE (LN b z) (LN h1 c2)) (BK _)
 ·rw [if_neg c]; exact h2
theorem XF {R js : List Rw} (o : JOk R js) {j : Rw} (hj : j ∈ js) : ∀ (Q : List Rw), (∀ r ∈ Q, r ∈ R) → ∀ x, ¬ les x (lo j) → ¬ les (hi j) x → ¬ les (Q.foldl g1 x) (lo j) ∧ ¬ les (hi j) (Q.foldl g1 x)
 | [], _, x, h1, h2 => ⟨h1, h2⟩
 | r :: Q, hQ, x, h1, h2 => XF o hj Q (fun q hq => hQ q (List.mem_cons_of_mem _ hq)) (g1 x r) (LV h1 (cU x r)) (jF o hj (hQ r List.mem_cons_self) h1 h2)
def gon (R : List Rw) : Nat → (Int × Int) → Int × Int
 | 0, x => x
 | n + 1, x => gon R n (R.foldl g1 x)
def lsb (x y : Int × Int) : Bool := decide (sg (x.1 - y.1) (x.2 - y.2) < 0)
theorem CY (x y : Int × Int) : lsb x y = true ↔ les x y := by unfold lsb les; rw [decide_eq_true_eq]
def mu (R : List Rw) (e x : Int × Int) : Nat := R.countP fun r => lsb x (hi r) && !lsb e (hi r)
theorem KR (e x y : Int × Int) : (lsb x y && !lsb e y) = true ↔ les x y ∧ ¬ les e y := by
 rw [Bool.and_eq_true, CY, Bool.not_eq_true', ← Bool.not_eq_true, CY]
theorem UI {l : List Rw} {f g : Rw → Bool} (h : ∀ r, g r = true → f r = true) {r : Rw} (hr : r ∈ l) (h1 : f r = true) (h2 : g r = false) : l.countP g < l.countP f := by
 induction l with
 | nil => cases hr
 | cons a l ih =>
  rw [List.countP_cons, List.countP_cons]
  have mono : l.countP g ≤ l.countP f := List.countP_mono_left fun x _ => h x
  rcases List.mem_cons.mp hr with rfl | hr
  ·rw [h1, h2]
   simp
   omega
  ·have := ih hr
   by_cases c : g a = true
   ·rw [c, h a c]; omega
   ·rw [if_neg c]
    split <;> omega
theorem KA {R js : List Rw} (o : JOk R js) {j : Rw} (hj : j ∈ js) : ∀ (n : Nat) x, ¬ les x (lo j) → ¬ les (hi j) x → mu R (hi j) x ≤ n → gon R n x = hi j
 | n, x, h1, h2, hm => by
  have hit : les x (hi j) → ∃ r ∈ R, ¬ les x (lo r) ∧ les x (hi r) ∧ ¬ les (hi j) (hi r) := fun c => by
   obtain ⟨r, hr, a, b⟩ := (o.lk j hj).hit h1 c
   have t := (MM x r).mpr ⟨a, b⟩
   have := jF o hj hr h1 h2
   unfold g1 at this
   rw [if_pos t] at this
   exact ⟨r, hr, a, b, this⟩
  cases n with
  | zero =>
   show x = hi j
   rcases GB x (hi j) with c | c | c
   ·obtain ⟨r, hr, a, b, d⟩ := hit c
    have : 0 < mu R (hi j) x := List.countP_pos_iff.mpr ⟨r, hr, (KR _ _ _).mpr ⟨b, d⟩⟩
    omega
   ·exact c
   ·exact absurd c h2
  | succ n =>
   show gon R n (R.foldl g1 x) = hi j
   obtain ⟨a, b⟩ := XF o hj R (fun r h => h) x h1 h2
   refine KA o hj n _ a b ?_
   have mono : ∀ r, (lsb (R.foldl g1 x) (hi r) && !lsb (hi j) (hi r)) = true → (lsb x (hi r) && !lsb (hi j) (hi r)) = true := fun q hq => by
    obtain ⟨q1, q2⟩ := (KR _ _ _).mp hq
    exact (KR _ _ _).mpr ⟨LN (RM R x) q1, q2⟩
   rcases GB x (hi j) with c | c | c
   ·obtain ⟨r, hr, a1, b1, d1⟩ := hit c
    have : mu R (hi j) (R.foldl g1 x) < mu R (hi j) x := UI mono hr ((KR _ _ _).mpr ⟨b1, d1⟩) (by
     cases z : (lsb (R.foldl g1 x) (hi r) && !lsb (hi j) (hi r)) with
     | false => rfl
     | true => exact absurd ((KR _ _ _).mp z).1 (SX R x r hr a1))
    omega
   ·have : mu R (hi j) (R.foldl g1 x) = 0 := List.countP_eq_zero.mpr fun r hr z => by
     obtain ⟨q1, q2⟩ := (KR _ _ _).mp (mono r z)
     rw [c] at q1
     exact q2 q1
    omega
   ·exact absurd c h2
section
variable {P : Program} {w : World} {K : PySem.W.Frag} {mg : Str → Option Value} {base : Heap} {t : Adr}
def ZQ (K : PySem.W.Frag) : Sp := fun vs H Q _ => ∃ (x y : V) (a : Addr) (z : V) (p q : Q4) (h : Int), vs = [x, y, .ref a] ∧ Rp K H (q4D p) x ∧ Rp K H (q4D q) y ∧ SqT K H a [.int (lx h), z] ∧ b7 p ∧ b7 q ∧ ∀ H', AJ H H' → Q (.int (sg (alA h p - alA h q) (alB h p - alB h q))) H'
theorem CT (T : Txt K mg t) : CL P w K mg base CX0 2 t.a_Lfaron t.d_Lfaron ["_law_one", "_law_other_here", "_law_line_here"] (ZQ K) := by
 refine T.Lfaron.F.ok OY (fun vs H Q E h => ?_) (fun cdv A outer s H vs Q E hr h => ?_)
 ·obtain ⟨x, y, a, z, p, q, h, rfl, _⟩ := h; rfl
 ·obtain ⟨x, y, a, z, p, q, h, rfl, hx, hy, ha, bp, bq, k⟩ := h
  refine ⟨_, s!"3{OY.nd}{Or.inl rfl}{EL}{T.z_int}{boot_int}{ET}{AE}2ACECdDBiK{dI T}{T.Lsign.m}{T.Lsign.F.kp}{T.Lsign.b}{CA}{AE}{AE}0A3AECE{AE}{AE}1A3AECEF{CA}{AE}{AE}0A3AECE{AE}{AE}1A3AECEFDBBRDbHIGP", ?_⟩
  walk_at "rd"
  refine ⟨_, ha, _, rfl, ?_⟩
  obtain ⟨c1, u1, u2, rfl, hc1, ra, rb⟩ := HM.mp hx
  obtain ⟨c2, u3, u4, rfl, hc2, rc, rd⟩ := HM.mp hy
  obtain ⟨m, w1, w2, em, g1, g2, f1, f2⟩ : ∃ (m : Int) (w1 w2 : V), (if lx h = 2 then (1 : Int) else 0) = m ∧ atI [u1, u2] m = some w1 ∧ atI [u3, u4] m = some w2 ∧ Rp K H (num (alA h p) (alB h p)) w1 ∧ Rp K H (num (alA h q) (alB h q)) w2 := by
   unfold alA alB
   by_cases c : h = 2
   ·have e : lx h = 2 := by rw [c]; rfl
    rw [if_pos e]
    simp only [if_pos c]
    exact ⟨1, u2, u4, rfl, rfl, rfl, rb, rd⟩
   ·have e : ¬ lx h = 2 := by unfold lx; split <;> omega
    rw [if_neg e]
    simp only [if_neg c]
    exact ⟨0, u1, u3, rfl, rfl, rfl, ra, rc⟩
  have a1 := jK (h := h) bp
  have a2 := jK (h := h) bq
  obtain ⟨d1, rfl, hd1⟩ := BC.mp f1
  obtain ⟨d2, rfl, hd2⟩ := BC.mp f2
  walk_at "rd"
  rw [em]
  refine ⟨_, hc1, _, g1, _, hd1, _, rfl, _, hc2, _, g2, _, hd2, _, rfl, _, hc1, _, g1, _, hd1, _, rfl, _, hc2, _, g2, _, hd2, _, rfl, by decide, fun p hp => ?_⟩
  refine ⟨_, _, _, rfl, BC.mpr ⟨p, rfl, SqT.of AD⟩, ?_, ?_, k _ (AJ.upd hp)⟩
  ·unfold lt6 at *; unfold YO; omega
  ·unfold lt6 at *; unfold YO; omega
end
def hk (k : Sk) : Int := hdg k.2.1 k.2.2
def EA (k : Sk) : List L2.D := [.int k.1, .int (lx (hk k)), num (lnA (hk k) k.2.1) (lnB (hk k) k.2.1)]
section
variable {P : Program} {w : World} {K : PySem.W.Frag} {mg : Str → Option Value} {base : Heap} {t : Adr}
def SB (K : PySem.W.Frag) : Sp := fun vs H Q _ => ∃ (x : V) (s : Q4), vs = [x] ∧ Rp K H (q4D s) x ∧ par s ∧ ∀ H', AJ H H' → Q (.bl true) H'
def oR (x : V) (H : Hp) (i : Nat) (σ : L2.St) (H2 : Hp) : Prop := ∃ o : Option V, σ = [some x, o] ∧ AJ H H2
theorem LY (T : Txt K mg t) : CL P w K mg base CX0 2 t.a_Lisplace t.d_Lisplace ["_law_found"] (SB K) := by
 refine T.Lisplace.F.ok MC (fun vs H Q E h => ?_) (fun cdv A outer s H vs Q E hr h => ?_)
 ·obtain ⟨x, s, rfl, _⟩ := h; rfl
 ·obtain ⟨x, s, rfl, hx, hp, q⟩ := h
  obtain ⟨a, y, z, rfl, ha, ry, rz⟩ := HM.mp hx
  refine ⟨_, s!"{@PW.pt _ _ _ s!"{DQ (c := .type "tuple")}{T.z_isinstance}{boot_isinstance}0A{.ty "tuple"}{T.z_tuple}{boot_tuple}rDBBSTW{RE}{AZ}{T.z_len}{PySem.boot_len}0ADBSCNeZ"}aIGML0Aw1{MC.nd}O{@PW.pt _ _ _ s!"{DQ (c := .type "tuple")}{T.z_isinstance}{boot_isinstance}1A{.ty "tuple"}{T.z_tuple}{boot_tuple}rDBBSTW{RE}{AZ}{T.z_len}{PySem.boot_len}1ADBSCNeZ"}aIGML{@PW.pt _ _ _ s!"{MO T}{T.Lint.m}{T.Lint.F.kp}{T.Lint.b}{AE}1ACEDBHTW{MO T}{T.Lint.m}{T.Lint.F.kp}{T.Lint.b}{AE}1ACEDBHTWeZ"}aIGMLGJc{ET}{BL}{BJ}{AE}{AE}0ACECE{AE}{AE}0ACECEFCFCdIGJJ", ?_⟩
  walk_at "rh"
  refine ⟨rfl, ⟨_, rfl⟩, _, .inr ⟨⟨_, ha⟩, rfl⟩, _, CO, ?_⟩
  rw [if_neg (by decide)]
  refine ⟨_, .inr ha, ?_⟩
  rw [if_neg (by simp)]
  walk_at "rh"
  walk_at "rh"
  refine ⟨⟨_, ha⟩, IA (xs := [y, z]) (oR (.ref a) H) ⟨_, rfl, AJ.refl _⟩ (fun i σ H2 _ z => by obtain ⟨_, rfl, s2⟩ := z; exact s2.tup ha) ?_ ?_⟩
  ·rintro j v σ H2 hj ⟨o, rfl, s2⟩
   obtain ⟨u, d, hv⟩ : ∃ u d, Rp K H (num u d) v := by
    match j, hj with
    | 0, hj => simp at hj; subst hj; exact ⟨_, _, ry⟩
    | 1, hj => simp at hj; subst hj; exact ⟨_, _, rz⟩
    | j + 2, hj => simp at hj
   obtain ⟨c, rfl, hc⟩ := BC.mp (hv.same s2)
   walk_at "rh"
   refine ⟨rfl, ⟨_, rfl⟩, _, .inr ⟨⟨_, hc⟩, rfl⟩, _, CO, ?_⟩
   rw [if_neg (by decide)]
   refine ⟨_, .inr hc, ?_⟩
   rw [if_neg (by simp)]
   walk_at "rh"
   walk_at "rh"
   refine ⟨_, hc, _, rfl, _, rfl, ?_⟩
   walk_at "rh"
   refine ⟨_, hc, _, rfl, _, rfl, ?_⟩
   dsimp only
   rw [if_neg (by decide)]
   exact ⟨_, rfl, s2⟩
  ·rintro σ H2 ⟨o, rfl, s2⟩
   obtain ⟨c1, rfl, h1⟩ := BC.mp (ry.same s2)
   obtain ⟨c2, rfl, h2⟩ := BC.mp (rz.same s2)
   have ha2 := s2.tup ha
   walk_at "rh"
   walk_at "rh"
   refine ⟨_, ha2, _, rfl, _, h1, _, rfl, _, ha2, _, rfl, _, h2, _, rfl, by decide, ?_⟩
   rw [show decide ((s.2.1 + s.2.2.2) % 2 = 0) = true from decide_eq_true hp]
   exact q _ s2
def fN (K : PySem.W.Frag) : Sp := fun vs H Q _ => ∃ (x : V) (k : Sk), vs = [x] ∧ Rp K H (skD k) x ∧ onL k.2.1 k.2.2 ∧ ∀ v H', AJ H H' → Rp K H' (.tup (EA k)) v → Q v H'
theorem GA (T : Txt K mg t) : CL P w K mg base CX0 2 t.a_Lkey t.d_Lkey ["_law_stroke"] (fN K) := by
 refine T.Lkey.F.ok hJ (fun vs H Q E h => ?_) (fun cdv A outer s H vs Q E hr h => ?_)
 ·obtain ⟨x, k, rfl, _⟩ := h; rfl
 ·obtain ⟨x, k, rfl, hx, on, q⟩ := h
  obtain ⟨a, x1, x2, rfl, hs, r1, r2⟩ := CJ.mp hx
  refine ⟨_, s!"{RZ}{AE}0ACEDBR{GD T}{T.Lline.m}{T.Lline.F.kp}{T.Lline.b}{AE}0ACE{AE}0ACEDBBHFIG", ?_⟩
  walk_at "rd"
  refine ⟨_, hs, _, rfl, by decide, fun p hp => ?_⟩
  have u := AJ.upd (o := .tup [.int k.1]) hp
  have hp1 : SqT K (upd H p (.tup [.int k.1])) p [.int k.1] := SqT.of AD
  refine ⟨_, u.tup hs, _, rfl, _, u.tup hs, _, rfl, ?_⟩
  refine ⟨_, _, k.2.1, k.2.2, rfl, r1.same u, r2.same u, fun _ b y H2 s2 hb rb => ?_, fun n => absurd on n⟩
  refine ⟨[.int k.1], ?_, [.int (lx (hk k)), num (lnA (hk k) k.2.1) (lnB (hk k) k.2.1)], BT.mpr ⟨b, _, _, rfl, hb, (by rw [Rp]; rfl), rb⟩, (show 3 ≤ sizeLine by decide), fun v H3 s3 r3 => q _ _ ((u.trans s2).trans s3) r3⟩
  rw [Rp]
  refine ⟨p, _, rfl, s2.tup hp1, ?_⟩
  rw [RpL]
  exact ⟨_, _, rfl, by rw [Rp], by rw [RpL]⟩
def QL (K : PySem.W.Frag) : Sp := fun vs H Q _ => ∃ (x : V) (k : Sk), vs = [x] ∧ Rp K H (skD k) x ∧ DK k ∧ les (alp (hk k) k.2.1) (alp (hk k) k.2.2) ∧ ∀ H', AJ H H' → Q (.bl true) H'
theorem KQ (T : Txt K mg t) : CL P w K mg base CX0 3 t.a_Lisstroke t.d_Lisstroke ["_law_found"] (QL K) := by
 refine T.Lisstroke.F.ok JW (fun vs H Q E h => ?_) (fun cdv A outer s H vs Q E hr h => ?_)
 ·obtain ⟨x, k, rfl, _⟩ := h; rfl
 ·obtain ⟨x, k, rfl, hx, ok, le, q⟩ := h
  obtain ⟨a, x1, x2, rfl, hs, r1, r2⟩ := CJ.mp hx
  refine ⟨_, s!"{@PW.pt _ _ _ s!"{DQ (c := .type "tuple")}{T.z_isinstance}{boot_isinstance}0A{.ty "tuple"}{T.z_tuple}{boot_tuple}rDBBSTW{RE}{AZ}{T.z_len}{PySem.boot_len}0ADBSCN{MO T}{T.Lint.m}{T.Lint.F.kp}{T.Lint.b}{AE}0ACEDBHTW{@SG _ _ _ _ _ _ _ _ _ _ _ _ LP EM s!"C" s!"{AE}0ACE" s!"C" (by with_unfolding_all rfl)}WeZZZ"}aIGML{@PW.pt _ _ _ s!"{LY T}{T.Lisplace.m}{T.Lisplace.F.kp}{T.Lisplace.b}{AE}0ACEDBHTW{LY T}{T.Lisplace.m}{T.Lisplace.F.kp}{T.Lisplace.b}{AE}0ACEDBHTWeZ"}aIGML1{JW.nd}{Or.inl rfl}{GD T}{T.Lline.m}{T.Lline.F.kp}{T.Lline.b}{AE}0ACE{AE}0ACEDBBHK{EM}{AE}1ACECd{EM}{CT T}{T.Lfaron.m}{T.Lfaron.F.kp}{T.Lfaron.b}{AE}0ACE{AE}0ACE1ADBBBHCd#!IGJJJ", ?_⟩
  walk_at "rh"
  refine ⟨rfl, ⟨_, rfl⟩, _, .inr ⟨⟨_, hs⟩, rfl⟩, _, CO, ?_⟩
  rw [if_neg (by decide)]
  refine ⟨_, .inr hs, ?_⟩
  rw [if_neg (by simp)]
  refine ⟨_, hs, _, rfl, _, rfl, ?_⟩
  walk_at "rh"
  refine ⟨_, hs, _, rfl, ?_⟩
  dsimp only
  rw [if_pos ok.2.1.1, if_neg (fun z => z ok.2.1.2)]
  walk_at "rh"
  refine ⟨_, hs, _, rfl, _, k.2.1, rfl, r1, ok.2.2.1, fun H1 s1 => ?_⟩
  dsimp only
  rw [if_neg (by decide)]
  refine ⟨_, s1.tup hs, _, rfl, _, k.2.2, rfl, r2.same s1, ok.2.2.2, fun H2 s2 => ?_⟩
  dsimp only
  rw [if_neg (by decide)]
  have s12 := s1.trans s2
  walk_at "rh"
  refine ⟨_, s12.tup hs, _, rfl, _, s12.tup hs, _, rfl, ?_⟩
  refine ⟨_, _, k.2.1, k.2.2, rfl, r1.same s12, r2.same s12, fun _ b y H3 s3 hb rb => ?_, fun n => absurd ok.1.1 n⟩
  have s13 := s12.trans s3
  walk_at "rh"
  refine ⟨_, hb, _, rfl, ?_⟩
  have l4 : lx (hdg k.2.1 k.2.2) < 4 := by rcases KU k.2.1 k.2.2 with e | e | e | e <;> rw [e] <;> decide
  dsimp only
  rw [if_pos l4]
  refine ⟨_, s13.tup hs, _, rfl, _, s13.tup hs, _, rfl, _, _, b, y, k.2.1, k.2.2, hdg k.2.1 k.2.2, rfl, r1.same s13, r2.same s13, hb, ok.1.2.1, ok.1.2.2.1, fun H4 s4 => ?_⟩
  dsimp only
  rw [decide_eq_true (show sg (alA (hdg k.2.1 k.2.2) k.2.1 - alA (hdg k.2.1 k.2.2) k.2.2) (alB (hdg k.2.1 k.2.2) k.2.1 - alB (hdg k.2.1 k.2.2) k.2.2) < 0 from le)]
  exact q _ (s13.trans s4)
end
theorem IG (k : Sk) : depL (EA k) ≤ 60 := (show (1 : Nat) ≤ 60 by decide)
theorem OM (k : Sk) : (stk k).p = (if 0 < sg (alA (hk k) k.2.1 - alA (hk k) k.2.2) (alB (hk k) k.2.1 - alB (hk k) k.2.2) then k.2.2 else k.2.1) ∧ (stk k).q = (if 0 < sg (alA (hk k) k.2.1 - alA (hk k) k.2.2) (alB (hk k) k.2.1 - alB (hk k) k.2.2) then k.2.1 else k.2.2) := by
 have e : 0 < sg (alA (hk k) k.2.1 - alA (hk k) k.2.2) (alB (hk k) k.2.1 - alB (hk k) k.2.2) ↔ sg (alA (hk k) k.2.2 - alA (hk k) k.2.1) (alB (hk k) k.2.2 - alB (hk k) k.2.1) < 0 := JN (a := alp (hk k) k.2.1) (b := alp (hk k) k.2.2)
 unfold stk OT
 by_cases c : sg (alA (hk k) k.2.2 - alA (hk k) k.2.1) (alB (hk k) k.2.2 - alB (hk k) k.2.1) < 0
 ·rw [if_pos (e.mpr c), if_pos (e.mpr c)]
  unfold hk at c
  rw [if_pos c]
  exact ⟨rfl, rfl⟩
 ·rw [if_neg (fun z => c (e.mp z)), if_neg (fun z => c (e.mp z))]
  unfold hk at c
  rw [if_neg c]
  exact ⟨rfl, rfl⟩
section
variable {P : Program} {w : World} {K : PySem.W.Frag} {mg : Str → Option Value} {base : Heap} {t : Adr}
def Wth (k l : Sk) : Prop := EA l = EA k ∧ hk l = hk k ∧ ¬ les (alp (hk k) (stk k).p) (alp (hk k) l.2.1) ∧ ¬ les (alp (hk k) l.2.2) (alp (hk k) (stk k).q)
def VF (K : PySem.W.Frag) : Sp := fun vs H Q _ => ∃ (x : V) (p : Addr) (zs : List V) (ks : List Sk) (k l : Sk), vs = [x, .ref p] ∧ Rp K H (skD k) x ∧ CZ k ∧ SqT K H p zs ∧ Sks K H ks zs ∧ (∀ k ∈ ks, CZ k) ∧ l ∈ ks ∧ Wth k l ∧ ∀ H', AJ H H' → Q (.bl true) H'
def WS (x : V) (p b le : Addr) (n : Nat) (H : Hp) (i : Nat) (σ : L2.St) (H2 : Hp) : Prop := ∃ o : Option V, σ = [some x, some (.ref p), some (.ref b), some (.ref le), o] ∧ AJ H H2 ∧ i ≤ n
theorem NN (T : Txt K mg t) : CL P w K mg base CX0 3 t.a_Lwithin t.d_Lwithin ["_law_stroke", "_law_others"] (VF K) := by
 refine T.Lwithin.F.ok FU (fun vs H Q E h => ?_) (fun cdv A outer s H vs Q E hr h => ?_)
 ·obtain ⟨x, p, zs, ks, k, l, rfl, _⟩ := h; rfl
 ·obtain ⟨x, p, zs, ks, k, l, rfl, hx, ok, hp, hk', oks, hl, wt, q⟩ := h
  have hu := hr.units
  obtain ⟨a, x1, x2, rfl, hs, r1, r2⟩ := CJ.mp hx
  refine ⟨_, s!"2{FU.nd}{Or.inl rfl}{GD T}{T.Lline.m}{T.Lline.F.kp}{T.Lline.b}{AE}0ACE{AE}0ACEDBBHK3{FU.nd}{Or.inl rfl}{AE}0ACE{AE}0ACEDBBUK{EF}{CT T}{T.Lfaron.m}{T.Lfaron.F.kp}{T.Lfaron.b}{AL}3ACE{AL}3ACE2ADBBBHCN3{FU.nd}{Or.inl rfl}{AL}3ACE{AL}3ACEDBBUKGML1Aw4{FU.nd}O{EB hu}{GA T}{T.Lkey.m}{T.Lkey.F.kp}{T.Lkey.b}4ADBH{GA T}{T.Lkey.m}{T.Lkey.F.kp}{T.Lkey.b}0ADBHN{@PW.pt _ _ _ s!"{LP}{CT T}{T.Lfaron.m}{T.Lfaron.F.kp}{T.Lfaron.b}{AE}4ACE{AL}3ACE2ADBBBHCN{TU}{CT T}{T.Lfaron.m}{T.Lfaron.F.kp}{T.Lfaron.b}{AE}4ACE{AL}3ACE2ADBBBHCNvu"}aIGMLGMLGcaIGJJJJ", ?_⟩
  walk_at "rh"
  refine ⟨_, hs, _, rfl, _, hs, _, rfl, ?_⟩
  refine ⟨_, _, k.2.1, k.2.2, rfl, r1, r2, fun _ b y H1 s1 hb rb => ?_, fun n => absurd ok.1 n⟩
  walk_at "rh"
  refine ⟨_, s1.tup hs, _, rfl, _, s1.tup hs, _, rfl, by decide, fun e0 he0 => ?_⟩
  have u0 := AJ.upd (o := .lst [x1, x2]) he0
  have h0 : SqL K (upd H1 e0 (.lst [x1, x2])) e0 [x1, x2] := SqL.of AD
  have s1u := s1.trans u0
  generalize upd H1 e0 (.lst [x1, x2]) = H2 at u0 h0 s1u ⊢
  obtain ⟨ep, eq⟩ := OM k
  have bp : b7 (stk k).p := by rw [ep]; split; exact ok.2.2.1; exact ok.2.1
  have bq : b7 (stk k).q := by rw [eq]; split; exact ok.2.1; exact ok.2.2.1
  walk_at "rh"
  refine ⟨_, h0, _, rfl, _, h0, _, rfl, _, _, b, y, k.2.1, k.2.2, hk k, rfl, r1.same s1u, r2.same s1u, u0.tup hb, ok.2.1, ok.2.2.1, fun H3 s3 => ?_⟩
  dsimp only
  by_cases c : 0 < sg (alA (hk k) k.2.1 - alA (hk k) k.2.2) (alB (hk k) k.2.1 - alB (hk k) k.2.2)
  ·rw [if_pos c] at ep eq
   rw [if_pos c]
   refine ⟨_, s3.seq h0, _, rfl, _, s3.seq h0, _, rfl, by decide, fun e1 he1 => ?_⟩
   have u1 := (u0.trans s3).trans (AJ.upd (o := .lst [x2, x1]) he1)
   have g1 : SqL K (upd H3 e1 (.lst [x2, x1])) e1 [x2, x1] := SqL.of AD
   generalize upd H3 e1 (.lst [x2, x1]) = G at u1 g1 ⊢
   have ra : Rp K G (q4D (stk k).p) x2 := by rw [ep]; exact r2.same (s1.trans u1)
   have rbb : Rp K G (q4D (stk k).q) x1 := by rw [eq]; exact r1.same (s1.trans u1)
   have hbG := u1.tup hb
   walk_at "rh"
   refine ⟨⟨_, (s1.trans u1).tup hp⟩, ?_⟩
   obtain ⟨w, ew⟩ := List.mem_iff_getElem?.mp hl
   have lw := (List.getElem?_eq_some_iff.mp ew).1
   refine IA (xs := zs) (WS (.ref a) p b e1 w G) ⟨_, rfl, AJ.refl _, Nat.zero_le _⟩ (fun i σ H4 _ z => by obtain ⟨_, rfl, s4, _⟩ := z; exact ((s1.trans u1).trans s4).tup hp) ?_ ?_
   ·rintro i v σ H4 hi ⟨o, rfl, s4, iw⟩
    have s04 := (s1.trans u1).trans s4
    obtain ⟨m, em, rm⟩ := CN hk' hi
    have om := oks m (List.mem_of_getElem? em)
    obtain ⟨am, m1, m2, rfl, hms, t1, t2⟩ := CJ.mp (rm.same s04)
    have nxt : ∀ H5, AJ G H5 → i ≠ w → WS (.ref a) p b e1 w G (i + 1) [some (.ref a), some (.ref p), some (.ref b), some (.ref e1), some (.ref am)] H5 := fun H5 s5 ne => ⟨_, rfl, s5, by omega⟩
    have isw : i = w → m = l := fun e => by rw [e, ew] at em; cases em; rfl
    walk_at "rh"
    refine ⟨_, m, rfl, rm.same s04, om.1, fun v5 H5 s5 r5 => ⟨_, k, rfl, hx.same (s04.trans s5), ok.1, fun v6 H6 s6 r6 => ⟨_, _, r5.same s6, r6, IG _, ?_⟩⟩⟩
    rw [if_neg Bool.false_ne_true]
    have s46 := s5.trans s6
    by_cases d : deqL (EA m) (EA k) = true
    ·rw [d]
     dsimp only
     rw [if_pos rfl]
     have s06 := s04.trans s46
     have sG6 := s4.trans s46
     refine ⟨_, s46.tup hms, _, rfl, _, sG6.seq g1, _, rfl, _, _, b, y, m.2.1, (stk k).p, hk k, rfl, t1.same s46, ra.same sG6, sG6.tup hbG, om.2.1, bp, fun H7 s7 => ?_⟩
     dsimp only
     by_cases f1 : sg (alA (hk k) m.2.1 - alA (hk k) (stk k).p) (alB (hk k) m.2.1 - alB (hk k) (stk k).p) ≤ 0
     ·rw [if_pos f1]
      have s67 := s46.trans s7
      have sG7 := sG6.trans s7
      refine ⟨_, s67.tup hms, _, rfl, _, sG7.seq g1, _, rfl, _, _, b, y, m.2.2, (stk k).q, hk k, rfl, t2.same s67, rbb.same sG7, sG7.tup hbG, om.2.2.1, bq, fun H8 s8 => ?_⟩
      dsimp only
      by_cases f2 : 0 ≤ sg (alA (hk k) m.2.2 - alA (hk k) (stk k).q) (alB (hk k) m.2.2 - alB (hk k) (stk k).q)
      ·rw [if_pos f2]
       exact q _ ((s06.trans s7).trans s8)
      ·rw [if_neg f2]
       exact nxt _ (sG7.trans s8) fun e => wt.2.2.2 (by rw [← isw e]; show sg _ _ < 0; exact Int.not_le.mp f2)
     ·rw [if_neg f1]
      exact nxt _ (sG6.trans s7) fun e => wt.2.2.1 (by rw [← isw e]; exact JN.mp (Int.not_le.mp f1))
    ·have ne : i ≠ w := fun e => d (by rw [isw e, wt.1]; exact deqL_self _)
     rw [Bool.eq_false_iff.mpr d]
     dsimp only
     rw [if_neg Bool.false_ne_true]
     exact nxt _ (s4.trans s46) ne
   ·rintro σ H4 ⟨o, rfl, s4, iw⟩
    have := Paired.length hk'
    omega
  ·rw [if_neg c] at ep eq
   rw [if_neg c]
   have u1 := u0.trans s3
   have g1 := s3.seq h0
   have ra : Rp K H3 (q4D (stk k).p) x1 := by rw [ep]; exact r1.same (s1.trans u1)
   have rbb : Rp K H3 (q4D (stk k).q) x2 := by rw [eq]; exact r2.same (s1.trans u1)
   have hbG := u1.tup hb
   walk_at "rh"
   refine ⟨⟨_, (s1.trans u1).tup hp⟩, ?_⟩
   obtain ⟨w, ew⟩ := List.mem_iff_getElem?.mp hl
   have lw := (List.getElem?_eq_some_iff.mp ew).1
   refine IA (xs := zs) (WS (.ref a) p b e0 w H3) ⟨_, rfl, AJ.refl _, Nat.zero_le _⟩ (fun i σ H4 _ z => by obtain ⟨_, rfl, s4, _⟩ := z; exact ((s1.trans u1).trans s4).tup hp) ?_ ?_
   ·rintro i v σ H4 hi ⟨o, rfl, s4, iw⟩
    have s04 := (s1.trans u1).trans s4
    obtain ⟨m, em, rm⟩ := CN hk' hi
    have om := oks m (List.mem_of_getElem? em)
    obtain ⟨am, m1, m2, rfl, hms, t1, t2⟩ := CJ.mp (rm.same s04)
    have nxt : ∀ H5, AJ H3 H5 → i ≠ w → WS (.ref a) p b e0 w H3 (i + 1) [some (.ref a), some (.ref p), some (.ref b), some (.ref e0), some (.ref am)] H5 := fun H5 s5 ne => ⟨_, rfl, s5, by omega⟩
    have isw : i = w → m = l := fun e => by rw [e, ew] at em; cases em; rfl
    walk_at "rh"
    refine ⟨_, m, rfl, rm.same s04, om.1, fun v5 H5 s5 r5 => ⟨_, k, rfl, hx.same (s04.trans s5), ok.1, fun v6 H6 s6 r6 => ⟨_, _, r5.same s6, r6, IG _, ?_⟩⟩⟩
    rw [if_neg Bool.false_ne_true]
    have s46 := s5.trans s6
    by_cases d : deqL (EA m) (EA k) = true
    ·rw [d]
     dsimp only
     rw [if_pos rfl]
     have s06 := s04.trans s46
     have sG6 := s4.trans s46
     refine ⟨_, s46.tup hms, _, rfl, _, sG6.seq g1, _, rfl, _, _, b, y, m.2.1, (stk k).p, hk k, rfl, t1.same s46, ra.same sG6, sG6.tup hbG, om.2.1, bp, fun H7 s7 => ?_⟩
     dsimp only
     by_cases f1 : sg (alA (hk k) m.2.1 - alA (hk k) (stk k).p) (alB (hk k) m.2.1 - alB (hk k) (stk k).p) ≤ 0
     ·rw [if_pos f1]
      have s67 := s46.trans s7
      have sG7 := sG6.trans s7
      refine ⟨_, s67.tup hms, _, rfl, _, sG7.seq g1, _, rfl, _, _, b, y, m.2.2, (stk k).q, hk k, rfl, t2.same s67, rbb.same sG7, sG7.tup hbG, om.2.2.1, bq, fun H8 s8 => ?_⟩
      dsimp only
      by_cases f2 : 0 ≤ sg (alA (hk k) m.2.2 - alA (hk k) (stk k).q) (alB (hk k) m.2.2 - alB (hk k) (stk k).q)
      ·rw [if_pos f2]
       exact q _ ((s06.trans s7).trans s8)
      ·rw [if_neg f2]
       exact nxt _ (sG7.trans s8) fun e => wt.2.2.2 (by rw [← isw e]; show sg _ _ < 0; exact Int.not_le.mp f2)
     ·rw [if_neg f1]
      exact nxt _ (sG6.trans s7) fun e => wt.2.2.1 (by rw [← isw e]; exact JN.mp (Int.not_le.mp f1))
    ·have ne : i ≠ w := fun e => d (by rw [isw e, wt.1]; exact deqL_self _)
     rw [Bool.eq_false_iff.mpr d]
     dsimp only
     rw [if_neg Bool.false_ne_true]
     exact nxt _ (s4.trans s46) ne
   ·rintro σ H4 ⟨o, rfl, s4, iw⟩
    have := Paired.length hk'
    omega
end
def swp (h : Int) (o : Sk) : Bool := decide (0 < sg (alA h o.2.1 - alA h o.2.2) (alB h o.2.1 - alB h o.2.2))
def eP (h : Int) (o : Sk) : Q4 := if swp h o = true then o.2.2 else o.2.1
def eQ (h : Int) (o : Sk) : Q4 := if swp h o = true then o.2.1 else o.2.2
def gp (h : Int) (s : Q4) (o : Sk) : Q4 := if sg (alA h (eP h o) - alA h s) (alB h (eP h o) - alB h s) ≤ 0 then (if 0 < sg (alA h (eQ h o) - alA h s) (alB h (eQ h o) - alB h s) then eQ h o else s) else s
def OS (h : Int) (R : List Sk) : Nat → Q4 → Q4
 | 0, s => s
 | n + 1, s => R.foldl (gp h) (OS h R n s)
def sme (ks : List Sk) (k : Sk) : List Sk := ks.filter fun o => deqL (EA o) (EA k)
theorem gN {X : Cx} {K : PySem.W.Frag} (hK : X.K = K) (hu : X.A.units + 64 < cLine) : OpR X (compareOp .Eq) (fO K false) := by
 subst hK
 exact EB hu
theorem jH {h : Int} {o : Sk} (ho : b7 o.2.1 ∧ b7 o.2.2) : b7 (eP h o) ∧ b7 (eQ h o) := by
 unfold eP eQ
 by_cases c : swp h o = true
 ·rw [if_pos c, if_pos c]; exact ⟨ho.2, ho.1⟩
 ·rw [if_neg c, if_neg c]; exact ho
theorem iZ {h : Int} {s : Q4} {o : Sk} (hs : b7 s) (ho : b7 o.2.1 ∧ b7 o.2.2) : b7 (gp h s o) := by
 unfold gp
 split
 ·split
  ·exact (jH ho).2
  ·exact hs
 ·exact hs
theorem gS {ks : List Sk} {k m : Sk} {i : Nat} (e : ks[i]? = some m) (d : deqL (EA m) (EA k) = true) : sme (ks.take (i + 1)) k = sme (ks.take i) k ++ [m] := by
 unfold sme
 rw [DO e, List.filter_append]
 simp [d]
theorem nA {ks : List Sk} {k m : Sk} {i : Nat} (e : ks[i]? = some m) (d : deqL (EA m) (EA k) = false) : sme (ks.take (i + 1)) k = sme (ks.take i) k := by
 unfold sme
 rw [DO e, List.filter_append]
 simp [d]
section
variable {P : Program} {w : World} {K : PySem.W.Frag} {mg : Str → Option Value} {base : Heap} {t : Adr}
def eV (K : PySem.W.Frag) : Sp := fun vs H Q _ => ∃ (x : V) (l : Addr) (xs : List V) (ks : List Sk) (k : Sk), vs = [x, .ref l] ∧ Rp K H (skD k) x ∧ CZ k ∧ SqL K H l xs ∧ Sks K H ks xs ∧ (∀ k ∈ ks, CZ k) ∧ ks.length ≤ 200 ∧ ∀ H', AJ H H' → Q (.bl (decide (OS (hk k) (sme ks k) (sme ks k).length k.2.1 = k.2.2))) H'
def pN (K : PySem.W.Frag) (x : V) (q : Addr) (ks : List Sk) (k : Sk) (H : Hp) (i : Nat) (σ : L2.St) (H2 : Hp) : Prop := ∃ (us : List V) (o : Option V), σ = [some x, o] ∧ AJ H H2 ∧ H2 q = some (.lst us) ∧ Sks K H2 (sme (ks.take i) k) us
def oI (K : PySem.W.Frag) (a l b q0 : Addr) (h : Int) (R : List Sk) (s0 : Q4) (H : Hp) (i : Nat) (σ : L2.St) (H2 : Hp) : Prop := ∃ (v : V) (s : Q4) (o5 o6 o7 : Option V), σ = [some (.ref a), some (.ref l), some (.ref b), some v, some (.ref q0), o5, o6, o7] ∧ AJ H H2 ∧ Rp K H2 (q4D s) v ∧ s = OS h R i s0 ∧ b7 s
def cM (K : PySem.W.Frag) (a l b q0 : Addr) (h : Int) (R : List Sk) (s0 : Q4) (H : Hp) (i : Nat) (σ : L2.St) (H2 : Hp) : Prop := ∃ (v : V) (s : Q4) (o5 o6 o7 : Option V), σ = [some (.ref a), some (.ref l), some (.ref b), some v, some (.ref q0), o5, o6, o7] ∧ AJ H H2 ∧ Rp K H2 (q4D s) v ∧ s = (R.take i).foldl (gp h) s0 ∧ b7 s
theorem cT (T : Txt K mg t) : CL P w K mg base CX0 3 t.a_Lgone t.d_Lgone ["_law_stroke", "_law_strokes_here"] (eV K) := by
 refine T.Lgone.F.ok EG (fun vs H Q E h => ?_) (fun cdv A outer s H vs Q E hr h => ?_)
 ·obtain ⟨x, l, xs, ks, k, rfl, _⟩ := h; rfl
 ·obtain ⟨x, l, xs, ks, k, rfl, hx, ok, hl, hks, oks, lks, q⟩ := h
  have hu := hr.units
  obtain ⟨a, x1, x2, rfl, hs, r1, r2⟩ := CJ.mp hx
  refine ⟨_, s!"2{EG.nd}{Or.inl rfl}{GD T}{T.Lline.m}{T.Lline.F.kp}{T.Lline.b}{AE}0ACE{AE}0ACEDBBHK3{EG.nd}{Or.inl rfl}{AE}0ACEK{@iP _ _ _ _ _ _ (AF HB) _ _ _ _ (4) _ _ _ _ (["_law_stroke", "_law_strokes_here", "_law_line_here", "_law_here", "_law_some", "_law_turn", "_law_other_here", "_law_ends"]) (["_law_stroke", "_law_one"]) (["_law_one"]) ([0]) EG.nd rfl (Or.inl rfl) rfl rfl rfl ⟨by decide +kernel, by decide +kernel, by decide +kernel, by decide +kernel, by decide +kernel, by decide +kernel⟩ s!"1As" (fun _ _ _ _ => s!"1{show List.Nodup (["_law_stroke", "_law_one"] : List Str) by decide +kernel}O") (fun _ _ _ _ => (@SL _ _ _ s!"{gN (K := K) rfl hu}{GA T}{T.Lkey.m}{T.Lkey.F.kp}{T.Lkey.b}1ADBH{GA T}{T.Lkey.m}{T.Lkey.F.kp}{T.Lkey.b}0ADBHN")) (fun _ _ _ _ => s!"1A") (by intro _; rfl) (by rfl) (by first | exact .inl rfl | exact .inr rfl | assumption)}{AZ}{T.z_len}{PySem.boot_len}4ADBSDBy5{EG.nd}O4As6{EG.nd}O7{EG.nd}{Or.inl rfl}{AE}6ACE{AE}6ACEDBBUK{EF}{CT T}{T.Lfaron.m}{T.Lfaron.F.kp}{T.Lfaron.b}{AL}7ACE{AL}7ACE2ADBBBHCN7{EG.nd}{Or.inl rfl}{AL}7ACE{AL}7ACEDBBUKGML{@PW.pt _ _ _ s!"{LP}{CT T}{T.Lfaron.m}{T.Lfaron.F.kp}{T.Lfaron.b}{AL}7ACE3A2ADBBBHCN{EF}{CT T}{T.Lfaron.m}{T.Lfaron.F.kp}{T.Lfaron.b}{AL}7ACE3A2ADBBBHCNvu"}3{EG.nd}{Or.inl rfl}{AL}7ACEKGMLGJJcGc{EB hu}3A{AE}0ACEdIGJJJJ", ?_⟩
  walk_at "rh"
  refine ⟨_, hs, _, rfl, _, hs, _, rfl, ?_⟩
  refine ⟨_, _, k.2.1, k.2.2, rfl, r1, r2, fun _ b y H1 s1 hb rb => ?_, fun n => absurd ok.1 n⟩
  walk_at "rh"
  refine ⟨_, s1.tup hs, _, rfl, ?_⟩
  walk_at "rh"
  refine ⟨⟨_, s1.seq hl⟩, fun q0 hq0 => ?_⟩
  have lx' := Paired.length hks
  refine QI (xs := xs) (pN K (.ref a) q0 ks k H1) ⟨[], _, rfl, AJ.upd hq0, AD, .nil⟩ (fun i σ H2 _ z => by obtain ⟨_, _, rfl, s2, _⟩ := z; exact (s1.trans s2).seq hl) ?_ ?_
  ·rintro i v σ H2 hi ⟨us, o, rfl, s2, h2, r2'⟩
   have s02 := s1.trans s2
   obtain ⟨m, em, rm⟩ := CN hks hi
   have il := (List.getElem?_eq_some_iff.mp hi).1
   have om := oks m (List.mem_of_getElem? em)
   have ul : us.length ≤ 200 := by
    rw [← Paired.length r2']
    exact Nat.le_trans (Nat.le_trans (List.length_filter_le ..) (List.length_take_le' ..)) lks
   walk_at "rh"
   refine ⟨_, m, rfl, rm.same s02, om.1, fun v5 H5 s5 r5 => ⟨_, k, rfl, hx.same (s02.trans s5), ok.1, fun v6 H6 s6 r6 => ⟨_, _, r5.same s6, r6, IG _, ?_⟩⟩⟩
   rw [if_neg Bool.false_ne_true]
   have s56 := s5.trans s6
   have h6 := s56 _ _ h2
   by_cases d : deqL (EA m) (EA k) = true
   ·rw [d]
    dsimp only
    rw [if_pos rfl]
    have su : CD H6 (upd H6 q0 (.lst (us ++ [v]))) := (CD.refl _).upd (HD h6)
    refine ⟨us, h6, BQ (by omega), nx il ⟨us ++ [v], _, rfl, (s2.trans s56).upd2 hq0, AD, ?_⟩⟩
    rw [gS em d]
    exact Sks.tt (Sks.snoc (Sks.same r2' s56) (rm.same (s02.trans s56))) su
   ·have d' := Bool.eq_false_iff.mpr d
    rw [d']
    dsimp only
    rw [if_neg Bool.false_ne_true]
    refine nx il ⟨us, _, rfl, s2.trans s56, h6, ?_⟩
    rw [nA em d']
    exact Sks.same r2' s56
  ·rintro σ H2 ⟨us, o, rfl, s2, h2, r2'⟩
   rw [← lx', List.take_length] at r2'
   have s02 := s1.trans s2
   have osm : ∀ m ∈ sme ks k, CZ m := fun m hm => oks m (List.mem_filter.mp hm).1
   walk_at "rh"
   refine ⟨_, .inl (SqL.of h2), ?_⟩
   have ul : us.length = (sme ks k).length := (Paired.length r2').symm
   refine ⟨by omega, by rw [ul]; have := (List.length_filter_le (fun o => deqL (EA o) (EA k)) ks); unfold sme; omega, ?_⟩
   rw [Int.toNat_natCast]
   have sH2 := s1.trans s2
   refine MV (oI K a l b q0 (hk k) (sme ks k) k.2.1 H2) ⟨_, k.2.1, _, _, _, rfl, AJ.refl _, r1.same sH2, rfl, ok.2.1⟩ ?_ ?_
   ·rintro n σ H3 hn ⟨v, s0, o5, o6, o7, rfl, s3, rv, es0, bs0⟩
    walk_at "rh"
    refine ⟨⟨_, SqL.of (s3 _ _ h2)⟩, ?_⟩
    refine IS (xs := us) (cM K a l b q0 (hk k) (sme ks k) (OS (hk k) (sme ks k) n k.2.1) H2) ⟨v, s0, _, _, _, rfl, s3, rv, es0, bs0⟩ (fun i σ H4 _ z => by obtain ⟨_, _, _, _, _, rfl, s4, _⟩ := z; exact SqL.of (s4 _ _ h2)) ?_ ?_
    ·clear es0 bs0 rv s3
     rintro i x σ H3 hi ⟨v, sh, o5, o6, o7, rfl, s3, rv', esh, bsh⟩
     obtain ⟨m, em, rm⟩ := CN r2' hi
     have om := osm m (List.mem_of_getElem? em)
     have eb := jH (h := hk k) ⟨om.2.1, om.2.2.1⟩
     obtain ⟨am, m1, m2, rfl, hms, t1, t2⟩ := CJ.mp (rm.same s3)
     have sH3 : AJ H1 H3 := s2.trans s3
     walk_at "rh"
     refine ⟨_, hms, _, rfl, _, hms, _, rfl, by decide, fun e0 he0 => ?_⟩
     have u0 := AJ.upd (o := .lst [m1, m2]) he0
     have h0 : SqL K (upd H3 e0 (.lst [m1, m2])) e0 [m1, m2] := SqL.of AD
     generalize upd H3 e0 (.lst [m1, m2]) = H4 at u0 h0 ⊢
     walk_at "rh"
     refine ⟨_, h0, _, rfl, _, h0, _, rfl, _, _, b, y, m.2.1, m.2.2, hk k, rfl, t1.same u0, t2.same u0, (sH3.trans u0).tup hb, om.2.1, om.2.2.1, fun H5 s5 => ?_⟩
     dsimp only
     by_cases c : 0 < sg (alA (hk k) m.2.1 - alA (hk k) m.2.2) (alB (hk k) m.2.1 - alB (hk k) m.2.2)
     ·have cs : swp (hk k) m = true := decide_eq_true c
      rw [if_pos c]
      refine ⟨_, s5.seq h0, _, rfl, _, s5.seq h0, _, rfl, by decide, fun e1 he1 => ?_⟩
      have u1 := (u0.trans s5).trans (AJ.upd (o := .lst [m2, m1]) he1)
      have g1 : SqL K (upd H5 e1 (.lst [m2, m1])) e1 [m2, m1] := SqL.of AD
      generalize upd H5 e1 (.lst [m2, m1]) = G at u1 g1 ⊢
      have ra : Rp K G (q4D (eP (hk k) m)) m2 := by unfold eP; rw [if_pos cs]; exact t2.same u1
      have rbb : Rp K G (q4D (eQ (hk k) m)) m1 := by unfold eQ; rw [if_pos cs]; exact t1.same u1
      walk_at "rh"
      refine ⟨_, g1, _, rfl, _, _, b, y, eP (hk k) m, sh, hk k, rfl, ra, rv'.same u1, (sH3.trans u1).tup hb, eb.1, bsh, fun H8 s8 => ?_⟩
      dsimp only
      have fin : ∀ (v9 : V) (s9 : Q4) (H9 : Hp), AJ G H9 → Rp K H9 (q4D s9) v9 → s9 = gp (hk k) sh m → cM K a l b q0 (hk k) (sme ks k) (OS (hk k) (sme ks k) n k.2.1) H2 (i + 1) [some (.ref a), some (.ref l), some (.ref b), some v9, some (.ref q0), o5, some (.ref am), some (.ref e1)] H9 := fun v9 s9 H9 t9 r9 e9 => by
       refine ⟨v9, s9, _, _, _, rfl, (s3.trans u1).trans t9, r9, ?_, by rw [e9]; exact iZ bsh ⟨om.2.1, om.2.2.1⟩⟩
       rw [DO em, List.foldl_append, e9, esh]
       rfl
      unfold gp at fin
      by_cases f1 : sg (alA (hk k) (eP (hk k) m) - alA (hk k) sh) (alB (hk k) (eP (hk k) m) - alB (hk k) sh) ≤ 0
      ·rw [if_pos f1] at fin
       rw [if_pos f1]
       refine ⟨_, s8.seq g1, _, rfl, _, _, b, y, eQ (hk k) m, sh, hk k, rfl, rbb.same s8, rv'.same (u1.trans s8), ((sH3.trans u1).trans s8).tup hb, eb.2, bsh, fun H9 s9 => ?_⟩
       dsimp only
       by_cases f2 : 0 < sg (alA (hk k) (eQ (hk k) m) - alA (hk k) sh) (alB (hk k) (eQ (hk k) m) - alB (hk k) sh)
       ·rw [if_pos f2] at fin
        rw [if_pos f2]
        exact ⟨_, (s8.trans s9).seq g1, _, rfl, fin _ _ _ (s8.trans s9) (rbb.same (s8.trans s9)) rfl⟩
       ·rw [if_neg f2] at fin
        rw [if_neg f2]
        exact fin _ _ _ (s8.trans s9) (rv'.same (u1.trans (s8.trans s9))) rfl
      ·rw [if_neg f1] at fin
       rw [if_neg f1]
       exact fin _ _ _ s8 (rv'.same (u1.trans s8)) rfl
     ·have cs : ¬ swp (hk k) m = true := fun z => c (of_decide_eq_true z)
      rw [if_neg c]
      have u1 := u0.trans s5
      have g1 := s5.seq h0
      have ra : Rp K H5 (q4D (eP (hk k) m)) m1 := by unfold eP; rw [if_neg cs]; exact t1.same u1
      have rbb : Rp K H5 (q4D (eQ (hk k) m)) m2 := by unfold eQ; rw [if_neg cs]; exact t2.same u1
      walk_at "rh"
      refine ⟨_, g1, _, rfl, _, _, b, y, eP (hk k) m, sh, hk k, rfl, ra, rv'.same u1, (sH3.trans u1).tup hb, eb.1, bsh, fun H8 s8 => ?_⟩
      dsimp only
      have fin : ∀ (v9 : V) (s9 : Q4) (H9 : Hp), AJ H5 H9 → Rp K H9 (q4D s9) v9 → s9 = gp (hk k) sh m → cM K a l b q0 (hk k) (sme ks k) (OS (hk k) (sme ks k) n k.2.1) H2 (i + 1) [some (.ref a), some (.ref l), some (.ref b), some v9, some (.ref q0), o5, some (.ref am), some (.ref e0)] H9 := fun v9 s9 H9 t9 r9 e9 => by
       refine ⟨v9, s9, _, _, _, rfl, (s3.trans u1).trans t9, r9, ?_, by rw [e9]; exact iZ bsh ⟨om.2.1, om.2.2.1⟩⟩
       rw [DO em, List.foldl_append, e9, esh]
       rfl
      unfold gp at fin
      by_cases f1 : sg (alA (hk k) (eP (hk k) m) - alA (hk k) sh) (alB (hk k) (eP (hk k) m) - alB (hk k) sh) ≤ 0
      ·rw [if_pos f1] at fin
       rw [if_pos f1]
       refine ⟨_, s8.seq g1, _, rfl, _, _, b, y, eQ (hk k) m, sh, hk k, rfl, rbb.same s8, rv'.same (u1.trans s8), ((sH3.trans u1).trans s8).tup hb, eb.2, bsh, fun H9 s9 => ?_⟩
       dsimp only
       by_cases f2 : 0 < sg (alA (hk k) (eQ (hk k) m) - alA (hk k) sh) (alB (hk k) (eQ (hk k) m) - alB (hk k) sh)
       ·rw [if_pos f2] at fin
        rw [if_pos f2]
        exact ⟨_, (s8.trans s9).seq g1, _, rfl, fin _ _ _ (s8.trans s9) (rbb.same (s8.trans s9)) rfl⟩
       ·rw [if_neg f2] at fin
        rw [if_neg f2]
        exact fin _ _ _ (s8.trans s9) (rv'.same (u1.trans (s8.trans s9))) rfl
      ·rw [if_neg f1] at fin
       rw [if_neg f1]
       exact fin _ _ _ s8 (rv'.same (u1.trans s8)) rfl
    ·rintro σ H4 ⟨v, sh, o5, o6, o7, rfl, s4, rv', esh, bsh⟩
     rw [ul, List.take_length] at esh
     exact ⟨v, sh, _, _, _, rfl, s4, rv', esh, bsh⟩
   ·rintro σ H3 ⟨v, s0, o5, o6, o7, rfl, s3, rv, es0, bs0⟩
    have s03 := sH2.trans s3
    walk_at "rh"
    walk_at "rh"
    refine ⟨_, s03.tup hs, _, rfl, _, _, rv, r2.same s03, (show (1 : Nat) ≤ 60 by decide), ?_⟩
    rw [if_neg Bool.false_ne_true, deqQ, es0, ul]
    exact q _ s03
end
theorem cC {h a b : Int} (h4 : H4 h) (e : sL h * a = sL h * b) : a = b := by
 rcases h4 with rfl | rfl | rfl | rfl <;> simp [sL] at e <;> omega
theorem JZ (k l : Sk) : deqL (EA k) (EA l) = true ↔ CB k = CB l := by
 have e : deqL (EA k) (EA l) = true ↔ k.1 = l.1 ∧ lx (hk k) = lx (hk l) ∧ lnA (hk k) k.2.1 = lnA (hk l) l.2.1 ∧ lnB (hk k) k.2.1 = lnB (hk l) l.2.1 := by
  unfold EA num
  simp [deqL, deq]
 rw [e]
 constructor
 ·rintro ⟨e1, e2, e3, e4⟩
  have eh : hk k = hk l := lG (KU _ _) (KU _ _) e2
  unfold lnA at e3
  unfold lnB at e4
  rw [eh] at e3 e4
  have a := cC (KU l.2.1 l.2.2) e3
  have b := cC (KU l.2.1 l.2.2) e4
  unfold CB
  have eh' : hdg k.2.1 k.2.2 = hdg l.2.1 l.2.2 := eh
  rw [e1, eh']
  exact congrArg (Prod.mk l.1) (congrArg (Prod.mk _) (Prod.ext a b))
 ·intro e
  unfold CB at e
  have h1 := congrArg Prod.fst e
  have h2 := congrArg (fun x => x.2.1) e
  have h3 := congrArg (fun x => x.2.2.1) e
  have h4 := congrArg (fun x => x.2.2.2) e
  dsimp only at h1 h2 h3 h4
  unfold lnA lnB hk
  rw [h1, h3, h4, h2]
  exact ⟨rfl, rfl, rfl, rfl⟩
theorem XQ {k l : Sk} (e : CB k = CB l) : EA k = EA l := by
 unfold CB at e
 have h1 := congrArg Prod.fst e
 have h2 := congrArg (fun x => x.2.1) e
 have h3 := congrArg (fun x => x.2.2.1) e
 have h4 := congrArg (fun x => x.2.2.2) e
 dsimp only at h1 h2 h3 h4
 unfold EA lnA lnB hk
 rw [h1, h3, h4, h2]
theorem TC (R : List Rw) : ∀ n x, gon R (n + 1) x = (R.foldl g1 (gon R n x))
 | 0, x => rfl
 | n + 1, x => by
  show gon R (n + 1) (R.foldl g1 x) = _
  rw [TC R n]
  rfl
theorem kZ {h : Int} {o : Sk} (e : hk o = h) : eP h o = (stk o).p ∧ eQ h o = (stk o).q := by
 obtain ⟨a, b⟩ := OM o
 rw [e] at a b
 rw [a, b]
 unfold eP eQ swp
 constructor
 ·simp only [decide_eq_true_eq]
 ·simp only [decide_eq_true_eq]
theorem cG {h : Int} {o : Sk} (e : hk o = h) : lo (stk o) = alp h (stk o).p ∧ hi (stk o) = alp h (stk o).q := by
 unfold stk OT
 have e' : hdg o.2.1 o.2.2 = h := e
 rw [e']
 split
 ·exact ⟨rfl, rfl⟩
 ·exact ⟨rfl, rfl⟩
theorem kI {h : Int} {s : Q4} {o : Sk} (e : hk o = h) : alp h (gp h s o) = g1 (alp h s) (stk o) := by
 obtain ⟨e1, e2⟩ := kZ e
 obtain ⟨e3, e4⟩ := cG e
 unfold gp g1 trg
 rw [e1, e2, e3, e4]
 show alp h (if sg ((alp h (stk o).p).1 - (alp h s).1) ((alp h (stk o).p).2 - (alp h s).2) ≤ 0 then (if 0 < sg ((alp h (stk o).q).1 - (alp h s).1) ((alp h (stk o).q).2 - (alp h s).2) then (stk o).q else s) else s) = _
 by_cases c : sg ((alp h (stk o).p).1 - (alp h s).1) ((alp h (stk o).p).2 - (alp h s).2) ≤ 0
 ·rw [if_pos c]
  by_cases d : 0 < sg ((alp h (stk o).q).1 - (alp h s).1) ((alp h (stk o).q).2 - (alp h s).2)
  ·rw [if_pos d, if_pos (by rw [decide_eq_true c, decide_eq_true d]; rfl)]
  ·rw [if_neg d, if_neg (by rw [decide_eq_true c, decide_eq_false d]; decide)]
 ·rw [if_neg c, if_neg (by rw [decide_eq_false c, Bool.false_and]; decide)]
def Ln (h n1 n2 : Int) (s : Q4) : Prop := asA h s = n1 ∧ asB h s = n2
theorem pQ {h n1 n2 : Int} {s : Q4} {o : Sk} (hs : Ln h n1 n2 s) (h1 : Ln h n1 n2 o.2.1) (h2 : Ln h n1 n2 o.2.2) : Ln h n1 n2 (gp h s o) := by
 unfold gp eQ
 by_cases c : swp h o = true
 ·rw [if_pos c]
  split
  ·split
   ·exact h1
   ·exact hs
  ·exact hs
 ·rw [if_neg c]
  split
  ·split
   ·exact h2
   ·exact hs
  ·exact hs
theorem WF {h n1 n2 : Int} : ∀ (S : List Sk) (s : Q4), (∀ o ∈ S, hk o = h ∧ Ln h n1 n2 o.2.1 ∧ Ln h n1 n2 o.2.2) → Ln h n1 n2 s → alp h (S.foldl (gp h) s) = (S.map stk).foldl g1 (alp h s) ∧ Ln h n1 n2 (S.foldl (gp h) s)
 | [], s, _, hs => ⟨rfl, hs⟩
 | o :: S, s, H, hs => by
  obtain ⟨a, b, c⟩ := H o List.mem_cons_self
  rw [List.foldl_cons, List.map_cons, List.foldl_cons, ← kI a]
  exact WF S _ (fun q hq => H q (List.mem_cons_of_mem _ hq)) (pQ hs b c)
theorem XJ {h n1 n2 : Int} {S : List Sk} (H : ∀ o ∈ S, hk o = h ∧ Ln h n1 n2 o.2.1 ∧ Ln h n1 n2 o.2.2) {s : Q4} (hs : Ln h n1 n2 s) : ∀ n, alp h (OS h S n s) = gon (S.map stk) n (alp h s) ∧ Ln h n1 n2 (OS h S n s)
 | 0 => ⟨rfl, hs⟩
 | n + 1 => by
  obtain ⟨a, b⟩ := XJ H hs n
  rw [TC, ← a]
  exact WF S _ H b
theorem JOk.of {R R' js : List Rw} (o : JOk R js) (e : ∀ r, r ∈ R ↔ r ∈ R') : JOk R' js :=
 ⟨fun j hj => let ⟨r, h, z⟩ := o.beg j hj; ⟨r, (e r).mp h, z⟩, fun j hj => let ⟨r, h, z⟩ := o.fin j hj; ⟨r, (e r).mp h, z⟩, o.ord, o.apart, fun r hr => o.cov r ((e r).mpr hr), fun j hj => (o.lk j hj).mono fun r hr => (e r).mp hr⟩
theorem VY {k : Sk} (o : CZ k) : RC (hk k) (asA (hk k) k.2.1) (asB (hk k) k.2.1) (stk k) := by
 obtain ⟨on, b1, b2, ne⟩ := o
 obtain ⟨g1, g2⟩ := HK on
 exact QG (KU _ _) ne b1 b2 rfl rfl g1.symm g2.symm
theorem eG (ks : List Sk) (c : NK) (k' : Sk) (e : CB k' = c) : (sme ks k').map stk = fk ks c := by
 unfold sme fk
 congr 1
 refine List.filter_congr fun o _ => ?_
 rw [Bool.eq_iff_iff, JZ, e, decide_eq_true_eq]
theorem aB {ks : List Sk} (ok : ∀ k ∈ ks, CZ k) {y : Le} (h : Jd ks y) : JOk (fk ks y.k) y.ds := by
 obtain ⟨rs, st, mm, ed⟩ := h
 have od : ∀ r ∈ rs, les (lo r) (hi r) := fun r hr => by
  obtain ⟨k, hk', _, rfl⟩ := DG.mp ((mm r).mp hr)
  exact (VY (ok k hk')).ord
 have := jY rs st od rs.length (Nat.le_refl _)
 rw [List.take_length, ← ed] at this
 exact this.of mm
structure At (ks : List Sk) (y : Le) (j : Rw) (k' : Sk) : Prop where
 h : hk k' = y.k.2.1
 nk : CB k' = y.k
 lo : lo j = alp (hk k') k'.2.1
 hi : hi j = alp (hk k') k'.2.2
 j : j ∈ y.ds
 ok : JOk (fk ks y.k) y.ds
theorem HJ {ks ks' : List Sk} (ok : ∀ k ∈ ks, CZ k) (f : EH ks ks') : ∃ ls : List Le, (ls.map Le.k).Nodup ∧ (∀ k ∈ ks, CB k ∈ ls.map Le.k) ∧ (∀ k', k' ∈ ks' ↔ ∃ y ∈ ls, ∃ j ∈ y.ds, k' = fr1 y j) ∧ ks' = GK (fr ls) ∧ (∀ y ∈ ls, JOk (fk ks y.k) y.ds) ∧ ∀ y ∈ ls, ∀ j ∈ y.ds, At ks y j (fr1 y j) := by
 obtain ⟨ls, J, A, nd, rw', e⟩ := f
 refine ⟨ls, nd, A, fun k' => ?_, e, fun y hy => aB ok (J y hy), fun y hy j hj => ?_⟩
 ·rw [e, (EQ _).mem_iff]
  unfold fr
  rw [List.mem_flatMap]
  constructor
  ·rintro ⟨y, hy, hm⟩
   obtain ⟨j, hj, rfl⟩ := List.mem_map.mp hm
   exact ⟨y, hy, j, hj, rfl⟩
  ·rintro ⟨y, hy, j, hj, rfl⟩
   exact ⟨y, hy, List.mem_map_of_mem hj⟩
 ·obtain ⟨h4, okj⟩ := rw' y hy
  have o := okj j hj
  obtain ⟨e1, e2, e3⟩ := VA o h4
  have eh : hk (fr1 y j) = y.k.2.1 := e1
  refine ⟨eh, ?_, by rw [eh]; exact e2, by rw [eh]; exact e3, hj, aB ok (J y hy)⟩
  unfold CB
  show (y.k.1, hdg j.p j.q, asA (hdg j.p j.q) j.p, asB (hdg j.p j.q) j.p) = y.k
  rw [e1, o.e1, o.e2]
theorem ZM {ks : List Sk} (ok : ∀ k ∈ ks, CZ k) {y : Le} {j : Rw} {k' : Sk} (a : At ks y j k') (on : onL k'.2.1 k'.2.2) : OS (hk k') (sme ks k') (sme ks k').length k'.2.1 = k'.2.2 := by
 obtain ⟨g1', g2'⟩ := HK on
 have H : ∀ o ∈ sme ks k', hk o = hk k' ∧ Ln (hk k') (asA (hk k') k'.2.1) (asB (hk k') k'.2.1) o.2.1 ∧ Ln (hk k') (asA (hk k') k'.2.1) (asB (hk k') k'.2.1) o.2.2 := fun o ho => by
  obtain ⟨ho1, ho2⟩ := List.mem_filter.mp ho
  have e := (JZ o k').mp ho2
  unfold CB at e
  have e2 := congrArg (fun x => x.2.1) e
  have e3 := congrArg (fun x => x.2.2.1) e
  have e4 := congrArg (fun x => x.2.2.2) e
  dsimp only at e2 e3 e4
  obtain ⟨q1, q2⟩ := HK (ok o ho1).1
  refine ⟨e2, ?_, ?_⟩
  ·unfold Ln hk; rw [← e3, ← e4, e2]; exact ⟨rfl, rfl⟩
  ·unfold Ln hk; rw [← e3, ← e4, ← e2]; exact ⟨q1.symm, q2.symm⟩
 obtain ⟨e1, e2⟩ := XJ H (s := k'.2.1) ⟨rfl, rfl⟩ (sme ks k').length
 have e3 := KA a.ok a.j (sme ks k').length (lo j) (BK _) (FI (a.ok.ord j a.j)) (by
  rw [← List.length_map (f := stk), eG ks y.k k' a.nk]
  exact List.countP_le_length)
 rw [← eG ks y.k k' a.nk, a.lo, ← e1, a.hi] at e3
 exact RN (KU k'.2.1 k'.2.2) (e2.1.trans g1') (e2.2.trans g2') (congrArg Prod.fst e3) (congrArg Prod.snd e3)
theorem MK {k : Sk} : lo (stk k) = alp (hk k) (stk k).p ∧ hi (stk k) = alp (hk k) (stk k).q := cG rfl
theorem MD {ks ks' : List Sk} (ok : ∀ k ∈ ks, CZ k) (f : EH ks ks') : ∀ k ∈ ks, ∃ l ∈ ks', Wth k l := by
 obtain ⟨ls, nd, A, mem, e, jok, at'⟩ := HJ ok f
 intro k hk'
 obtain ⟨y, hy, ek⟩ := List.mem_map.mp (A k hk')
 have hr : stk k ∈ fk ks y.k := DG.mpr ⟨k, hk', ek.symm, rfl⟩
 obtain ⟨j, hj, a, b⟩ := (jok y hy).cov (stk k) hr
 have t := at' y hy j hj
 refine ⟨fr1 y j, (mem _).mpr ⟨y, hy, j, hj, rfl⟩, ?_⟩
 have nk : CB (fr1 y j) = CB k := t.nk.trans ek
 have hh : hk (fr1 y j) = hk k := congrArg (fun x => x.2.1) nk
 obtain ⟨l1, l2⟩ := MK (k := k)
 refine ⟨XQ nk, hh, ?_, ?_⟩
 ·rw [← l1, ← hh, ← t.lo]; exact a
 ·rw [← l2, ← hh, ← t.hi]; exact b
theorem OA {ks ks' : List Sk} (ok : ∀ k ∈ ks, CZ k) (f : EH ks ks') {k l : Sk} (h1 : k ∈ ks') (h2 : l ∈ ks') (ne : k ≠ l) (e : CB k = CB l) : les (alp (hk k) k.2.2) (alp (hk k) l.2.1) ∨ les (alp (hk k) l.2.2) (alp (hk k) k.2.1) := by
 obtain ⟨ls, nd, A, mem, es, jok, at'⟩ := HJ ok f
 obtain ⟨y, hy, j, hj, rfl⟩ := (mem k).mp h1
 obtain ⟨y', hy', j', hj', rfl⟩ := (mem l).mp h2
 have t := at' y hy j hj
 have t' := at' y' hy' j' hj'
 have ek : y.k = y'.k := t.nk.symm.trans (e.trans t'.nk)
 have ey : y = y' := by
  obtain ⟨a, ha⟩ := List.mem_iff_getElem?.mp hy
  obtain ⟨b, hb⟩ := List.mem_iff_getElem?.mp hy'
  by_cases c : a = b
  ·subst c; rw [ha] at hb; exact Option.some.inj hb
  ·exact absurd ek (GF nd (i := a) (j := b) (by rw [List.getElem?_map, ha]; rfl) (by rw [List.getElem?_map, hb]; rfl) c)
 subst ey
 have hh : hk (fr1 y j') = hk (fr1 y j) := t'.h.trans t.h.symm
 have l2 := t'.lo
 have h2' := t'.hi
 rw [hh] at l2 h2'
 rcases OF t.ok.apart hj hj' with z | z | z
 ·exact absurd (by rw [z]) ne
 ·rw [← t.hi, ← l2]; exact .inl z
 ·rw [← h2', ← t.lo]; exact .inr z
theorem VU (k : Sk) : ((stk k).p = k.2.1 ∨ (stk k).p = k.2.2) ∧ ((stk k).q = k.2.1 ∨ (stk k).q = k.2.2) := by
 obtain ⟨a, b⟩ := OM k
 rw [a, b]
 split
 ·exact ⟨.inr rfl, .inl rfl⟩
 ·exact ⟨.inl rfl, .inr rfl⟩
theorem RD {ks ks' : List Sk} (ok : ∀ k ∈ ks, DK k) (f : EH ks ks') (oks : ∀ k ∈ ks', CZ k) : ∀ k ∈ ks', DK k ∧ les (alp (hk k) k.2.1) (alp (hk k) k.2.2) := by
 have ok1 : ∀ k ∈ ks, CZ k := fun k h => (ok k h).1
 obtain ⟨ls, nd, A, mem, es, jok, at'⟩ := HJ ok1 f
 intro k hk'
 obtain ⟨y, hy, j, hj, rfl⟩ := (mem k).mp hk'
 have t := at' y hy j hj
 obtain ⟨r, hr, _, ep⟩ := t.ok.beg j hj
 obtain ⟨r2, hr2, _, eq⟩ := t.ok.fin j hj
 obtain ⟨q, hq, enk, rfl⟩ := DG.mp hr
 obtain ⟨q2, hq2, _, rfl⟩ := DG.mp hr2
 have o := ok q hq
 have o2 := ok q2 hq2
 refine ⟨⟨oks _ hk', ?_, ?_, ?_⟩, ?_⟩
 ·have : q.1 = y.k.1 := congrArg Prod.fst enk
  show 0 ≤ y.k.1 ∧ y.k.1 < 8
  rw [← this]; exact o.2.1
 ·show par j.p
  rw [ep]
  rcases (VU q).1 with z | z <;> rw [z]
  ·exact o.2.2.1
  ·exact o.2.2.2
 ·show par j.q
  rw [eq]
  rcases (VU q2).2 with z | z <;> rw [z]
  ·exact o2.2.2.1
  ·exact o2.2.2.2
 ·rw [← t.lo, ← t.hi]; exact t.ok.ord j hj
theorem aR {ks : List Sk} {ls : List Le} (at' : ∀ y ∈ ls, ∀ j ∈ y.ds, At ks y j (fr1 y j)) (nd : (ls.map Le.k).Nodup) : (fr ls).Nodup := by
 unfold fr List.Nodup
 rw [List.pairwise_flatMap]
 refine ⟨fun y hy => ?_, ?_⟩
 ·rw [List.pairwise_map]
  cases hd : y.ds with
  | nil => exact .nil
  | cons j0 ds =>
   have o := (at' y hy j0 (by rw [hd]; exact List.mem_cons_self)).ok
   rw [← hd]
   refine List.Pairwise.imp_of_mem (fun {a b} ha hb h e => ?_) o.apart
   have ta := at' y hy a ha
   have tb := at' y hy b hb
   have el : lo a = lo b := by rw [ta.lo, tb.lo, e]
   rw [← el] at h
   exact BK _ (BE h (o.ord a ha))
 ·have := List.pairwise_map.mp nd
  refine List.Pairwise.imp_of_mem (fun {a b} ha hb h x hx z hz e => ?_) this
  obtain ⟨j, hj, rfl⟩ := List.mem_map.mp hx
  obtain ⟨j', hj', rfl⟩ := List.mem_map.mp hz
  exact h ((at' a ha j hj).nk.symm.trans ((congrArg CB e).trans (at' b hb j' hj').nk))
theorem JR {ks ks' : List Sk} (ok : ∀ k ∈ ks, CZ k) (f : EH ks ks') : ks'.Nodup ∧ ks'.Pairwise skl := by
 obtain ⟨ls, nd, A, mem, e, jok, at'⟩ := HJ ok f
 have n := aR at' nd
 rw [e]
 exact ⟨(EQ _).nodup_iff.mpr n, PJ n⟩
theorem JOk.hi_eq {R js js' : List Rw} (o : JOk R js) (o' : JOk R js') (od : ∀ r ∈ R, les (lo r) (hi r)) {j : Rw} (hj : j ∈ js) : ∃ j' ∈ js', ¬ les (lo j) (lo j') ∧ hi j' = hi j := by
 obtain ⟨r, hr, el, _⟩ := o.beg j hj
 obtain ⟨j', hj', a, b⟩ := o'.cov r hr
 rw [← el] at a
 refine ⟨j', hj', a, ?_⟩
 have c : ¬ les (hi j') (lo j) := fun z => b (BE (by rw [el] at z; exact z) (od r hr))
 have e1 := KA o hj R.length (lo j) (BK _) (FI (o.ord j hj)) List.countP_le_length
 have e2 := KA o' hj' R.length (lo j) a c List.countP_le_length
 exact e2.symm.trans e1
theorem JOk.same {R js js' : List Rw} (o : JOk R js) (o' : JOk R js') (od : ∀ r ∈ R, les (lo r) (hi r)) {j : Rw} (hj : j ∈ js) : ∃ j' ∈ js', lo j' = lo j ∧ hi j' = hi j := by
 obtain ⟨j', hj', a, e⟩ := o.hi_eq o' od hj
 obtain ⟨j2, hj2, a2, e2⟩ := o'.hi_eq o od hj'
 have ej : j2 = j := by
  rcases OF o.apart hj2 hj with z | z | z
  ·exact z
  ·rw [e2, e] at z
   exact absurd (BE z (o.ord j hj)) (BK _)
  ·rw [← e, ← e2] at z
   exact absurd (BE z (o.ord j2 hj2)) (BK _)
 rw [ej] at a2
 refine ⟨j', hj', ?_, e⟩
 rcases GB (lo j') (lo j) with z | z | z
 ·exact absurd z a2
 ·exact z
 ·exact absurd z a
theorem XH {K : PySem.W.Frag} {H : Hp} {ks : List Sk} {xs : List V} (h : Sks K H ks xs) : RpL K H (ks.map skD) xs := by
 induction h with
 | nil => rw [List.map_nil, RpL]
 | cons a _ ih => rw [List.map_cons, RpL]; exact ⟨_, _, rfl, a, ih⟩
theorem WM (ks : List Sk) : depL (ks.map skD) ≤ 60 := by
 have : depL (ks.map skD) ≤ 3 := by
  induction ks with
  | nil => rw [List.map_nil, depL]; decide
  | cons k ks ih =>
   rw [List.map_cons, depL]
   exact Nat.max_le.mpr ⟨(show (3 : Nat) ≤ 3 from Nat.le_refl _), ih⟩
 omega
def skL (k : Sk) : List L2.D := [.int k.1, q4D k.2.1, q4D k.2.2]
theorem pU (m k : Sk) : deqL (skL m) (skL k) = decide (m = k) := by
 rw [Bool.eq_iff_iff, decide_eq_true_eq]
 constructor
 ·intro h
  unfold skL at h
  simp only [deqL, Bool.and_eq_true, OL] at h
  obtain ⟨a, b, c, _⟩ := h
  have a : m.1 = k.1 := by simpa [deq] using a
  exact Prod.ext a (Prod.ext b c)
 ·rintro rfl
  exact deqL_self _
theorem VC {ks ks' : List Sk} (ok : ∀ k ∈ ks, CZ k) (f : EH ks ks') (oks : ∀ k ∈ ks', CZ k) : ∀ k ∈ ks', OS (hk k) (sme ks k) (sme ks k).length k.2.1 = k.2.2 := by
 obtain ⟨ls, nd, A, mem, e, jok, at'⟩ := HJ ok f
 intro k hk'
 have on := (oks k hk').1
 obtain ⟨y, hy, j, hj, rfl⟩ := (mem k).mp hk'
 exact ZM ok (at' y hy j hj) on
section
variable {P : Program} {w : World} {K : PySem.W.Frag} {mg : Str → Option Value} {base : Heap} {t : Adr}
def UR (K : PySem.W.Frag) : Sp := fun vs H Q _ => ∃ (p l : Addr) (zs xs : List V) (ks ks' : List Sk), vs = [.ref p, .ref l] ∧ SqT K H p zs ∧ Sks K H ks' zs ∧ ks'.length ≤ 50 ∧ (∀ k ∈ ks', CZ k) ∧ SqL K H l xs ∧ Sks K H ks xs ∧ ks.length ≤ 200 ∧ (∀ k ∈ ks, DK k) ∧ EH ks ks' ∧ ∀ H', AJ H H' → Q (.bl true) H'
def pF (p l : Addr) (H : Hp) (i : Nat) (σ : L2.St) (H2 : Hp) : Prop := ∃ o2 o3 o4 : Option V, σ = [some (.ref p), some (.ref l), o2, o3, o4] ∧ AJ H H2
def jU (p l : Addr) (x : V) (H : Hp) (i : Nat) (σ : L2.St) (H2 : Hp) : Prop := ∃ o3 o4 : Option V, σ = [some (.ref p), some (.ref l), some x, o3, o4] ∧ AJ H H2
def oX (p q : Addr) (H : Hp) (i : Nat) (σ : L2.St) (H2 : Hp) : Prop := ∃ o : Option V, σ = [some (.ref p), o] ∧ AJ H H2 ∧ H2 q = some (.lst [])
theorem NE (T : Txt K mg t) : CL P w K mg base CX0 8 t.a_Lisform t.d_Lisform ["_law_form", "_law_strokes_here"] (UR K) := by
 refine T.Lisform.F.ok HP (fun vs H Q E h => ?_) (fun cdv A outer s H vs Q E hr h => ?_)
 ·obtain ⟨p, l, zs, xs, ks, ks', rfl, _⟩ := h; rfl
 ·obtain ⟨p, l, zs, xs, ks, ks', rfl, hp, rz, lz, okz, hl, rx, lx', okx, fo, q⟩ := h
  have hu := hr.units
  have hu7 : (A.deeper (envOfC (Str.ofString "_law_is_form") (AF DJ) s.heap.objs.size t.a_Lisform cdv)).units + 7 < cLine := by omega
  have hu8 : (A.deeper (envOfC (Str.ofString "_law_is_form") (AF DJ) s.heap.objs.size t.a_Lisform cdv)).units + 8 < cLine := by omega
  have okx1 : ∀ k ∈ ks, CZ k := fun k hk' => (okx k hk').1
  obtain ⟨nd, inc⟩ := JR okx1 fo
  have fis := RD okx fo okz
  have fgo := VC okx1 fo okz
  refine ⟨_, s!"{@PW.pt _ _ _ s!"{DQ (c := .type "tuple")}{T.z_isinstance}{boot_isinstance}0A{.ty "tuple"}{T.z_tuple}{boot_tuple}rDBBSTW{kR hu}{OQ}{T.z_list}{boot_list}0ADBi{UX hu7}{T.z_sorted}{boot_sorted}0ADBSNeZ"}aIGML0Aw2{HP.nd}O{@PW.pt _ _ _ s!"{KQ T}{T.Lisstroke.m}{T.Lisstroke.F.kp}{T.Lisstroke.b}2ADBHTW{cT T}{T.Lgone.m}{T.Lgone.F.kp}{T.Lgone.b}2A1ADBBHTWeZ"}aIGML0Aw3{HP.nd}O4{HP.nd}{Or.inl rfl}{GD T}{T.Lline.m}{T.Lline.F.kp}{T.Lline.b}{AE}2ACE{AE}2ACEDBBHK{@PW.pt _ _ _ s!"{lD hu}3A2AN{EB hu}{GA T}{T.Lkey.m}{T.Lkey.F.kp}{T.Lkey.b}3ADBH{GA T}{T.Lkey.m}{T.Lkey.F.kp}{T.Lkey.b}2ADBHNvu"}{@PW.pt _ _ _ s!"{LP}{CT T}{T.Lfaron.m}{T.Lfaron.F.kp}{T.Lfaron.b}{AE}3ACE{AE}2ACE4ADBBBHCN{LP}{CT T}{T.Lfaron.m}{T.Lfaron.F.kp}{T.Lfaron.b}{AE}2ACE{AE}3ACE4ADBBBHCNvu"}aIGMLGMLGJcGJc{ET}{YK}{T.z_len}{PySem.boot_len}{YJ rfl hu8}{T.z_set}{boot_set}0ADBiDBS{AZ}{T.z_len}{PySem.boot_len}0ADBSd{ET}{AZ}{T.z_len}{PySem.boot_len}{AF DJ}{["_law_form", "_law_strokes_here", "_law_one", "_law_other_here", "_law_line_here"]}{["_law_form", "_law_one"]}{["_law_one"]}{[0]}1As{fun _ _ _ _ => s!"1{show List.Nodup (["_law_form", "_law_one"] : List Str) by decide +kernel}O"}{fun _ _ _ _ => (@SL _ _ _ s!"{NN T}{T.Lwithin.m}{T.Lwithin.F.kp}{T.Lwithin.b}1A0ADBBHTW")}{fun _ _ _ _ => s!"1A"}xDBSCd#!IGJJ", ?_⟩
  walk_at "rh"
  refine ⟨rfl, ⟨_, rfl⟩, _, .inr ⟨⟨_, hp⟩, rfl⟩, _, CO, ?_⟩
  rw [if_neg (by decide)]
  refine ⟨_, hp, fun l0 h0 => ⟨_, (AJ.upd h0).tup hp, ks', rz.same (AJ.upd h0), by omega, fun q0 hq0 => ?_⟩⟩
  have ss := (AJ.upd (o := .lst zs) h0).trans (AJ.upd (o := .lst ((EY ks').map fun i => zs.getD i .non)) hq0)
  have lt : ∀ j ∈ EY ks', j < ks'.length := fun j hj => by simpa using (EO ks').mem_iff.mp hj
  have rs := QR (rz.same ss) (EY ks') lt
  rw [show ((EY ks').map fun i => ks'.getD i (0, (0, 0, 0, 0), (0, 0, 0, 0))) = ks' from UJ inc] at rs
  refine ⟨_, (AJ.upd hq0).seq (SqL.of AD), _, SqL.of AD, ks'.map skD, XH (rz.same ss), ks'.map skD, XH rs, WM _, ?_⟩
  rw [if_neg (by rw [deqL_self]; decide)]
  clear rs lt
  generalize upd (upd H l0 (.lst zs)) q0 (.lst ((EY ks').map fun i => zs.getD i .non)) = H1 at ss ⊢
  walk_at "rh"
  refine ⟨⟨_, ss.tup hp⟩, IA (xs := zs) (pF p l H) ⟨_, _, _, rfl, ss⟩ (fun i σ H2 _ z => by obtain ⟨_, _, _, rfl, s2⟩ := z; exact s2.tup hp) ?_ ?_⟩
  ·rintro i x σ H2 hi ⟨o2, o3, o4, rfl, s2⟩
   obtain ⟨k, ek, rk⟩ := CN rz hi
   have mk := List.mem_of_getElem? ek
   obtain ⟨fk2, fle⟩ := fis k mk
   walk_at "rh"
   refine ⟨_, k, rfl, rk.same s2, fk2, fle, fun H3 s3 => ?_⟩
   dsimp only
   rw [if_neg (by decide)]
   have s23 := s2.trans s3
   refine ⟨_, l, xs, ks, k, rfl, rk.same s23, okz k mk, s23.seq hl, rx.same s23, okx1, lx', fun H4 s4 => ?_⟩
   have s24 := s23.trans s4
   rw [decide_eq_true (fgo k mk)]
   dsimp only
   rw [if_neg (by decide)]
   walk_at "rh"
   refine ⟨⟨_, s24.tup hp⟩, IA (xs := zs) (jU p l x H) ⟨_, _, rfl, s24⟩ (fun i σ H5 _ z => by obtain ⟨_, _, rfl, s5⟩ := z; exact s5.tup hp) ?_ ?_⟩
   ·clear s24 s4 s23 s3 s2
    rintro j v σ H5 hj ⟨p3, p4, rfl, s5⟩
    obtain ⟨m, em, rm⟩ := CN rz hj
    have mm := List.mem_of_getElem? em
    have ok1 := okz k mk
    have ok2 := okz m mm
    obtain ⟨a, x1, x2, rfl, hs, r1, r2⟩ := CJ.mp (rk.same s5)
    obtain ⟨am, m1, m2, rfl, hms, t1, t2⟩ := CJ.mp (rm.same s5)
    walk_at "rh"
    refine ⟨_, hs, _, rfl, _, hs, _, rfl, ?_⟩
    refine ⟨_, _, k.2.1, k.2.2, rfl, r1, r2, fun _ b y H6 s6 hb rb => ?_, fun n => absurd ok1.1 n⟩
    have s56 := s5.trans s6
    walk_at "rh"
    refine ⟨skL m, skL k, rm.same s56, rk.same s56, (show (2 : Nat) ≤ 60 by decide), ?_⟩
    rw [pU, if_pos rfl]
    have nxt : ∀ H7, AJ H H7 → jU p l (.ref a) H (j + 1) [some (.ref p), some (.ref l), some (.ref a), some (.ref am), some (.ref b)] H7 := fun H7 s7 => ⟨_, _, rfl, s7⟩
    by_cases c : m = k
    ·rw [decide_eq_true c]
     dsimp only
     rw [if_neg (by decide)]
     exact nxt _ s56
    ·rw [decide_eq_false c]
     dsimp only
     rw [if_pos (by decide)]
     refine ⟨_, m, rfl, rm.same s56, ok2.1, fun v7 H7 s7 r7 => ⟨_, k, rfl, rk.same (s56.trans s7), ok1.1, fun v8 H8 s8 r8 => ⟨_, _, r7.same s8, r8, IG _, ?_⟩⟩⟩
     rw [if_neg Bool.false_ne_true]
     have s68 := s7.trans s8
     have s58 := s6.trans s68
     have s08 := s5.trans s58
     by_cases d : deqL (EA m) (EA k) = true
     ·have ap := OA okx1 fo mk mm (fun e => c e.symm) ((JZ m k).mp d).symm
      rw [d]
      dsimp only
      rw [if_pos rfl]
      refine ⟨_, s58.tup hms, _, rfl, _, s58.tup hs, _, rfl, _, _, b, y, m.2.1, k.2.2, hk k, rfl, t1.same s58, r2.same s58, s68.tup hb, ok2.2.1, ok1.2.2.1, fun H9 s9 => ?_⟩
      dsimp only
      by_cases f1 : sg (alA (hk k) m.2.1 - alA (hk k) k.2.2) (alB (hk k) m.2.1 - alB (hk k) k.2.2) ≤ 0
      ·rw [if_pos f1]
       have s59 := s58.trans s9
       refine ⟨_, s59.tup hs, _, rfl, _, s59.tup hms, _, rfl, _, _, b, y, k.2.1, m.2.2, hk k, rfl, r1.same s59, t2.same s59, (s68.trans s9).tup hb, ok1.2.1, ok2.2.2.1, fun H10 s10 => ?_⟩
       dsimp only
       have f2 : ¬ sg (alA (hk k) k.2.1 - alA (hk k) m.2.2) (alB (hk k) k.2.1 - alB (hk k) m.2.2) ≤ 0 := by
        rcases ap with z | z
        ·exact absurd (JN.mpr z) (Int.not_lt.mpr f1)
        ·exact Int.not_le.mpr (JN.mpr z)
       rw [if_neg f2]
       exact nxt _ ((s08.trans s9).trans s10)
      ·rw [if_neg f1]
       exact nxt _ (s08.trans s9)
     ·rw [Bool.eq_false_iff.mpr d]
      dsimp only
      rw [if_neg Bool.false_ne_true]
      exact nxt _ s08
   ·rintro σ H5 ⟨p3, p4, rfl, s5⟩
    exact ⟨_, _, _, rfl, s5⟩
  ·rintro σ H2 ⟨o2, o3, o4, rfl, s2⟩
   walk_at "rh"
   walk_at "rh"
   refine ⟨_, s2.tup hp, ks', rz.same s2, nd, by omega, fun b hb => ⟨_, AD, by omega, ?_⟩⟩
   have ub := AJ.upd (o := bS b ks'.length) hb
   have s3 := s2.trans ub
   refine ⟨_, .inr (s3.tup hp), ?_⟩
   have ez : (ks'.length : Int) = zs.length := by rw [Paired.length rz]
   rw [if_pos ez]
   generalize upd H2 b (bS b ks'.length) = H3 at s3 ⊢
   clear ub s2
   refine ⟨⟨_, s3.seq hl⟩, fun q0 hq0 => ?_⟩
   refine QI (xs := xs) (oX p q0 H) ⟨_, rfl, s3.trans (AJ.upd hq0), AD⟩ (fun i σ H2 _ z => by obtain ⟨_, rfl, s2, _⟩ := z; exact s2.seq hl) ?_ ?_
   ·rintro i x σ H4 hi ⟨o, rfl, s4, h4⟩
    obtain ⟨k, ek, rk⟩ := CN rx hi
    have mk := List.mem_of_getElem? ek
    have il := (List.getElem?_eq_some_iff.mp hi).1
    obtain ⟨l', hl', wt⟩ := MD okx1 fo k mk
    walk_at "rh"
    refine ⟨_, p, zs, ks', k, l', rfl, rk.same s4, okx1 k mk, s4.tup hp, rz.same s4, okz, hl', wt, fun H5 s5 => ?_⟩
    dsimp only
    rw [if_neg (by decide)]
    exact nx il ⟨_, rfl, s4.trans s5, s5 _ _ h4⟩
   ·rintro σ H4 ⟨o, rfl, s4, h4⟩
    dsimp only
    exact ⟨_, .inl (SqL.of h4), q _ s4⟩
end
def WI (k l : Sk) : Prop := CB k = CB l ∧ ¬ les (lo (stk k)) (lo (stk l)) ∧ ¬ les (hi (stk l)) (hi (stk k))
theorem WI.refl (k : Sk) : WI k k := ⟨rfl, BK _, BK _⟩
theorem WI.trans {k l m : Sk} (a : WI k l) (b : WI l m) : WI k m := ⟨a.1.trans b.1, LV b.2.1 a.2.1, LV a.2.2 b.2.2⟩
structure Fam (Y : List Sk) : Prop where
 on : ∀ k ∈ Y, onL k.2.1 k.2.2
 ori : ∀ k ∈ Y, les (alp (hk k) k.2.1) (alp (hk k) k.2.2)
 ap : ∀ k ∈ Y, ∀ l ∈ Y, k ≠ l → CB k = CB l → les (hi (stk k)) (lo (stk l)) ∨ les (hi (stk l)) (lo (stk k))
theorem EX {k : Sk} (o : les (alp (hk k) k.2.1) (alp (hk k) k.2.2)) : lo (stk k) = alp (hk k) k.2.1 ∧ hi (stk k) = alp (hk k) k.2.2 := by
 have n' : ¬ les (alp (hk k) k.2.2) (alp (hk k) k.2.1) := FI o
 have n : ¬ sg (alA (hk k) k.2.2 - alA (hk k) k.2.1) (alB (hk k) k.2.2 - alB (hk k) k.2.1) < 0 := n'
 unfold stk OT
 unfold hk at n
 rw [if_neg n]
 exact ⟨rfl, rfl⟩
theorem JY {ks ks' : List Sk} (ok : ∀ k ∈ ks, CZ k) (f : EH ks ks') (oks : ∀ k ∈ ks', CZ k) : Fam ks' := by
 have ori : ∀ k ∈ ks', les (alp (hk k) k.2.1) (alp (hk k) k.2.2) := fun k hk' => by
  obtain ⟨ls, nd, A, mem, e, jok, at'⟩ := HJ ok f
  obtain ⟨y, hy, j, hj, rfl⟩ := (mem k).mp hk'
  have t := at' y hy j hj
  have := t.ok.ord j hj
  rw [t.lo, t.hi] at this
  exact this
 refine ⟨fun k hk' => (oks k hk').1, ori, fun k h1 l h2 ne e => ?_⟩
 obtain ⟨a1, a2⟩ := EX (ori k h1)
 obtain ⟨b1, b2⟩ := EX (ori l h2)
 have hh : hk l = hk k := (congrArg (fun x => x.2.1) e).symm
 rw [a1, a2, b1, b2, hh]
 exact OA ok f h1 h2 ne e
theorem eJ {B G Y : List Sk} (ok : ∀ k ∈ B, CZ k) (f : EH B G) (fy : Fam Y) (w : ∀ b ∈ B, ∃ y ∈ Y, WI b y) : ∀ g ∈ G, ∃ y ∈ Y, WI g y := by
 obtain ⟨ls, nd, A, mem, e, jok, at'⟩ := HJ ok f
 intro g hg
 obtain ⟨y, hy, j, hj, rfl⟩ := (mem g).mp hg
 have t := at' y hy j hj
 obtain ⟨r, hr, el, _⟩ := t.ok.beg j hj
 obtain ⟨b, hb, nb, rfl⟩ := DG.mp hr
 obtain ⟨y1, hy1, w1⟩ := w b hb
 have ord := t.ok.ord j hj
 have o' := ord
 rw [t.lo, t.hi] at o'
 obtain ⟨s1, s2⟩ := EX o'
 have ob := (VY (ok b hb)).ord
 have key : ∀ x, Lk (fk B y.k) (lo j) x → ¬ les x (lo (stk y1)) ∧ ¬ les (hi (stk y1)) x := by
  intro x h
  induction h with
  | refl =>
   rw [el]
   exact ⟨w1.2.1, fun z => w1.2.2 (BE z ob)⟩
  | @step x2 r _ hr2 c d ih =>
   obtain ⟨b2, hb2, nb2, rfl⟩ := DG.mp hr2
   obtain ⟨y2, hy2, w2⟩ := w b2 hb2
   have ey : y1 = y2 := by
    by_cases q : y1 = y2
    ·exact q
    ·exfalso
     rcases fy.ap y1 hy1 y2 hy2 q (w1.1.symm.trans (nb.trans (nb2.symm.trans w2.1))) with z | z
     ·exact ih.2 (KT (KT z w2.2.1) c)
     ·exact w2.2.2 (BE z (LN ih.1 d))
   subst ey
   exact ⟨fun z => ih.1 (BE d z), w2.2.2⟩
 have kh := key _ (t.ok.lk j hj)
 refine ⟨y1, hy1, t.nk.trans (nb.symm.trans w1.1), ?_, ?_⟩
 ·rw [s1, ← t.lo, el]; exact w1.2.1
 ·rw [s2, ← t.hi]; exact kh.2
theorem fJ {ks ks' : List Sk} (ok : ∀ k ∈ ks, CZ k) (f : EH ks ks') (oks : ∀ k ∈ ks', CZ k) : ∀ k ∈ ks, ∃ l ∈ ks', WI k l := by
 intro k hk'
 obtain ⟨l, hl, w⟩ := MD ok f k hk'
 obtain ⟨e, hh, a, b⟩ := w
 have nk : CB l = CB k := (JZ l k).mp (by rw [e]; exact deqL_self _)
 obtain ⟨s1, s2⟩ := EX ((JY ok f oks).ori l hl)
 obtain ⟨l1, l2⟩ := MK (k := k)
 refine ⟨l, hl, nk.symm, ?_, ?_⟩
 ·rw [l1, s1, hh]; exact a
 ·rw [l2, s2, hh]; exact b
theorem WI.anti {k l : Sk} (o1 : onL k.2.1 k.2.2) (o2 : onL l.2.1 l.2.2) (q1 : les (alp (hk k) k.2.1) (alp (hk k) k.2.2)) (q2 : les (alp (hk l) l.2.1) (alp (hk l) l.2.2)) (a : WI k l) (b : WI l k) : k = l := by
 obtain ⟨s1, s2⟩ := EX q1
 obtain ⟨s3, s4⟩ := EX q2
 obtain ⟨nk, a1, a2⟩ := a
 obtain ⟨_, b1, b2⟩ := b
 have el : lo (stk k) = lo (stk l) := by
  rcases GB (lo (stk k)) (lo (stk l)) with z | z | z
  ·exact absurd z a1
  ·exact z
  ·exact absurd z b1
 have eh : hi (stk k) = hi (stk l) := by
  rcases GB (hi (stk k)) (hi (stk l)) with z | z | z
  ·exact absurd z b2
  ·exact z
  ·exact absurd z a2
 have n1 : hk k = hk l := congrArg (fun x => x.2.1) nk
 have n0 : k.1 = l.1 := congrArg (fun x => x.1) nk
 have n2 : asA (hk k) k.2.1 = asA (hk l) l.2.1 := congrArg (fun x => x.2.2.1) nk
 have n3 : asB (hk k) k.2.1 = asB (hk l) l.2.1 := congrArg (fun x => x.2.2.2) nk
 obtain ⟨p1, p2⟩ := HK o1
 obtain ⟨r1, r2⟩ := HK o2
 have p1 : asA (hk k) k.2.1 = asA (hk k) k.2.2 := p1
 have p2 : asB (hk k) k.2.1 = asB (hk k) k.2.2 := p2
 have r1 : asA (hk l) l.2.1 = asA (hk l) l.2.2 := r1
 have r2 : asB (hk l) l.2.1 = asB (hk l) l.2.2 := r2
 rw [s1, s3] at el
 rw [s2, s4] at eh
 rw [n1] at n2 n3 p1 p2 el eh
 have h4 : H4 (hk l) := KU l.2.1 l.2.2
 have e1 : k.2.1 = l.2.1 := RN h4 n2 n3 (congrArg Prod.fst el) (congrArg Prod.snd el)
 have e2 : k.2.2 = l.2.2 := RN h4 (p1.symm.trans (n2.trans r1)) (p2.symm.trans (n3.trans r2)) (congrArg Prod.fst eh) (congrArg Prod.snd eh)
 exact Prod.ext n0 (Prod.ext e1 e2)
theorem FT {k : Sk} (o : les (alp (hk k) k.2.1) (alp (hk k) k.2.2)) : les (lo (stk k)) (hi (stk k)) := by
 obtain ⟨a, b⟩ := EX o
 rw [a, b]; exact o
theorem KG {F G : List Sk} (fF : Fam F) (fG : Fam G) (a : ∀ k ∈ F, ∃ l ∈ G, WI k l) (b : ∀ l ∈ G, ∃ k ∈ F, WI l k) : ∀ k ∈ F, k ∈ G := by
 intro k hk'
 obtain ⟨l, hl, w⟩ := a k hk'
 obtain ⟨m, hm, v⟩ := b l hl
 have e : k = m := by
  by_cases q : k = m
  ·exact q
  ·exfalso
   have u := w.trans v
   rcases fF.ap k hk' m hm q u.1 with z | z
   ·exact u.2.1 (BE (FT (fF.ori k hk')) z)
   ·exact u.2.2 (BE z (FT (fF.ori k hk')))
 subst e
 rw [WI.anti (fF.on k hk') (fG.on l hl) (fF.ori k hk') (fG.ori l hl) w v]
 exact hl
def bpc (hi' : Int × Int) (e : Q4) : (Int × Int) → Q4 → List Rw → Option (Q4 × Q4)
 | _, s, [] => some (s, e)
 | low, s, q :: qs => if lsb (lo q) hi' = true then (if lsb low (lo q) = true then some (s, q.p) else if lsb low (hi q) = true then (if lsb (hi q) hi' = true then bpc hi' e (hi q) q.q qs else none) else if lsb low hi' = true then bpc hi' e low s qs else none) else some (s, e)
abbrev Apt (qs : List Rw) : Prop := qs.Pairwise fun a b => les (hi a) (lo b)
theorem OJ {hi' : Int × Int} {e : Q4} : ∀ {qs : List Rw} {low : Int × Int} {s : Q4}, Apt qs → les low hi' → bpc hi' e low s qs = none → ∃ q ∈ qs, ¬ les low (lo q) ∧ ¬ les (hi q) hi'
 | [], _, _, _, _, h => by cases h
 | q :: qs, low, s, ap, lh, h => by
  obtain ⟨a1, a2⟩ := List.pairwise_cons.mp ap
  unfold bpc at h
  by_cases c1 : lsb (lo q) hi' = true
  ·rw [if_pos c1] at h
   by_cases c2 : lsb low (lo q) = true
   ·rw [if_pos c2] at h; cases h
   rw [if_neg c2] at h
   have n2 : ¬ les low (lo q) := fun z => c2 ((CY _ _).mpr z)
   by_cases c3 : lsb low (hi q) = true
   ·rw [if_pos c3] at h
    by_cases c4 : lsb (hi q) hi' = true
    ·rw [if_pos c4] at h
     obtain ⟨q', hq', b1, _⟩ := OJ a2 ((CY _ _).mp c4) h
     exact absurd (a1 q' hq') b1
    ·exact ⟨q, List.mem_cons_self, n2, fun z => c4 ((CY _ _).mpr z)⟩
   ·rw [if_neg c3, if_pos ((CY _ _).mpr lh)] at h
    obtain ⟨q', hq', b⟩ := OJ a2 lh h
    exact ⟨q', List.mem_cons_of_mem _ hq', b⟩
  ·rw [if_neg c1] at h; cases h
theorem KM {hi' : Int × Int} {e : Q4} {s' e' : Q4} : ∀ {qs : List Rw} {low : Int × Int} {s : Q4}, Apt qs → (∀ q ∈ qs, les (lo q) (hi q)) → les low hi' → bpc hi' e low s qs = some (s', e') →
  ∃ a b : Int × Int, les a b ∧ ¬ les a low ∧ ¬ les hi' b ∧ (∀ q ∈ qs, ¬ (les (lo q) b ∧ les a (hi q))) ∧ ((s' = s ∧ a = low) ∨ ∃ q ∈ qs, s' = q.q ∧ a = hi q) ∧ ((e' = e ∧ b = hi') ∨ ∃ q ∈ qs, e' = q.p ∧ b = lo q)
 | [], low, s, _, _, lh, h => by
  unfold bpc at h
  cases h
  exact ⟨low, hi', lh, BK _, BK _, (fun q hq => by cases hq), .inl ⟨rfl, rfl⟩, .inl ⟨rfl, rfl⟩⟩
 | q :: qs, low, s, ap, od, lh, h => by
  obtain ⟨a1, a2⟩ := List.pairwise_cons.mp ap
  have oq := od q List.mem_cons_self
  have od' : ∀ q ∈ qs, les (lo q) (hi q) := fun x hx => od x (List.mem_cons_of_mem _ hx)
  have far : ∀ x ∈ qs, les (lo q) (lo x) := fun x hx => BE oq (a1 x hx)
  unfold bpc at h
  by_cases c1 : lsb (lo q) hi' = true
  ·rw [if_pos c1] at h
   have c1 := (CY _ _).mp c1
   by_cases c2 : lsb low (lo q) = true
   ·rw [if_pos c2] at h
    cases h
    refine ⟨low, lo q, (CY _ _).mp c2, BK _, FI c1, fun x hx z => ?_, .inl ⟨rfl, rfl⟩, .inr ⟨q, List.mem_cons_self, rfl, rfl⟩⟩
    rcases List.mem_cons.mp hx with rfl | hx
    ·exact BK _ z.1
    ·exact FI (far x hx) z.1
   rw [if_neg c2] at h
   by_cases c3 : lsb low (hi q) = true
   ·rw [if_pos c3] at h
    by_cases c4 : lsb (hi q) hi' = true
    ·rw [if_pos c4] at h
     obtain ⟨a, b, p1, p2, p3, p4, p5, p6⟩ := KM a2 od' ((CY _ _).mp c4) h
     refine ⟨a, b, p1, fun z => p2 (BE z ((CY _ _).mp c3)), p3, fun x hx z => ?_, ?_, ?_⟩
     ·rcases List.mem_cons.mp hx with rfl | hx
      ·exact p2 z.2
      ·exact p4 x hx z
     ·rcases p5 with ⟨y1, y2⟩ | ⟨x, hx, y⟩
      ·exact .inr ⟨q, List.mem_cons_self, y1, y2⟩
      ·exact .inr ⟨x, List.mem_cons_of_mem _ hx, y⟩
     ·rcases p6 with y | ⟨x, hx, y⟩
      ·exact .inl y
      ·exact .inr ⟨x, List.mem_cons_of_mem _ hx, y⟩
    ·rw [if_neg c4] at h; cases h
   ·rw [if_neg c3, if_pos ((CY _ _).mpr lh)] at h
    obtain ⟨a, b, p1, p2, p3, p4, p5, p6⟩ := KM a2 od' lh h
    refine ⟨a, b, p1, p2, p3, fun x hx z => ?_, ?_, ?_⟩
    ·rcases List.mem_cons.mp hx with rfl | hx
     ·exact c3 ((CY _ _).mpr (LN p2 z.2))
     ·exact p4 x hx z
    ·rcases p5 with y | ⟨x, hx, y⟩
     ·exact .inl y
     ·exact .inr ⟨x, List.mem_cons_of_mem _ hx, y⟩
    ·rcases p6 with y | ⟨x, hx, y⟩
     ·exact .inl y
     ·exact .inr ⟨x, List.mem_cons_of_mem _ hx, y⟩
  ·rw [if_neg c1] at h
   cases h
   have c1 : ¬ les (lo q) hi' := fun z => c1 ((CY _ _).mpr z)
   refine ⟨low, hi', lh, BK _, BK _, fun x hx z => ?_, .inl ⟨rfl, rfl⟩, .inl ⟨rfl, rfl⟩⟩
   rcases List.mem_cons.mp hx with rfl | hx
   ·exact c1 z.1
   ·exact c1 (BE (far x hx) z.1)
abbrev Lin := NK × List Rw
def bp (r : Rw) (qs : List Rw) : Option (Q4 × Q4) := bpc (hi r) r.q (lo r) r.p qs
def lok (os : List Lin) (c : NK) : List Rw := ((os.find? fun x => decide (x.1 = c)).map Prod.snd).getD []
def mo1 (os : List Lin) (c : NK) (r : Rw) : Option Sk := (bp r (lok os c)).map fun z => (c.1, z.1, z.2)
def mo2 (os : List Lin) (x : Lin) : Option Sk := x.2.findSome? (mo1 os x.1)
def mo (ls os : List Lin) : Option Sk := ls.findSome? (mo2 os)
def un (a b : List Lin) : Option (Int × Sk) := match mo a b with
 | some k => some (0, k)
 | none => (mo b a).map fun k => (1, k)
structure Ln' (F : List Sk) (L : List Lin) : Prop where
 keys : L.map Prod.fst = kof F
 apt : ∀ x ∈ L, Apt x.2
 mem : ∀ x ∈ L, ∀ r, r ∈ x.2 ↔ r ∈ fk F x.1
theorem dN : ∀ {xs ys : List Rw}, (∀ r ∈ xs, les (lo r) (hi r)) → Apt xs → Apt ys → (∀ r, r ∈ xs ↔ r ∈ ys) → xs = ys
 | [], [], _, _, _, _ => rfl
 | [], y :: _, _, _, _, h => by have := (h y).mpr List.mem_cons_self; cases this
 | x :: _, [], _, _, _, h => by have := (h x).mp List.mem_cons_self; cases this
 | x :: xs, y :: ys, od, a, b, h => by
  obtain ⟨a1, a2⟩ := List.pairwise_cons.mp a
  obtain ⟨b1, b2⟩ := List.pairwise_cons.mp b
  have oy : les (lo y) (hi y) := od y ((h y).mpr List.mem_cons_self)
  have ox := od x List.mem_cons_self
  have e : x = y := by
   rcases List.mem_cons.mp ((h x).mp List.mem_cons_self) with e | m
   ·exact e
   rcases List.mem_cons.mp ((h y).mpr List.mem_cons_self) with e | m'
   ·exact e.symm
   exact absurd (BE (BE (b1 x m) ox) (a1 y m')) (FI oy)
  subst e
  refine congrArg (x :: ·) (dN (fun r hr => od r (List.mem_cons_of_mem _ hr)) a2 b2 fun r => ⟨fun hr => ?_, fun hr => ?_⟩)
  ·rcases List.mem_cons.mp ((h r).mp (List.mem_cons_of_mem _ hr)) with e | m
   ·subst e; exact absurd (BE (a1 r hr) ox) (BK _)
   ·exact m
  ·rcases List.mem_cons.mp ((h r).mpr (List.mem_cons_of_mem _ hr)) with e | m
   ·subst e; exact absurd (BE (b1 r hr) ox) (BK _)
   ·exact m
theorem MZ {F : List Sk} (od : ∀ k ∈ F, les (lo (stk k)) (hi (stk k))) {L L' : List Lin} (a : Ln' F L) (b : Ln' F L') : L = L' := by
 have go : ∀ {L L' : List Lin}, L.map Prod.fst = L'.map Prod.fst → (∀ x ∈ L, Apt x.2) → (∀ x ∈ L', Apt x.2) → (∀ x ∈ L, ∀ r, r ∈ x.2 ↔ r ∈ fk F x.1) → (∀ x ∈ L', ∀ r, r ∈ x.2 ↔ r ∈ fk F x.1) → L = L' := by
  intro L
  induction L with
  | nil =>
   intro L' e _ _ _ _
   cases L' with
   | nil => rfl
   | cons y ys => cases e
  | cons x xs ih =>
   intro L' e p q u v
   cases L' with
   | nil => cases e
   | cons y ys =>
    rw [List.map_cons, List.map_cons] at e
    obtain ⟨e1, e2⟩ := List.cons.inj e
    have m1 := u x List.mem_cons_self
    have m2 := v y List.mem_cons_self
    rw [← e1] at m2
    have e3 : x.2 = y.2 := dN (fun r hr => by
     obtain ⟨k, hk', _, rfl⟩ := DG.mp ((m1 r).mp hr)
     exact od k hk') (p x List.mem_cons_self) (q y List.mem_cons_self) fun r => (m1 r).trans (m2 r).symm
    rw [show x = y from Prod.ext e1 e3, ih e2 (fun z hz => p z (List.mem_cons_of_mem _ hz)) (fun z hz => q z (List.mem_cons_of_mem _ hz)) (fun z hz => u z (List.mem_cons_of_mem _ hz)) (fun z hz => v z (List.mem_cons_of_mem _ hz))]
 exact go (a.keys.trans b.keys.symm) a.apt b.apt a.mem b.mem
theorem XS (ks : List Sk) : ∀ k ∈ ks, CB k ∈ kof ks := by
 have mono : ∀ (l : List Sk) (acc : List NK) (c : NK), c ∈ acc → c ∈ l.foldl kst acc := by
  intro l
  induction l with
  | nil => intro acc c h; exact h
  | cons x l ih =>
   intro acc c h
   refine ih _ _ ?_
   unfold kst
   split
   ·exact h
   ·exact List.mem_append_left _ h
 have go : ∀ (l : List Sk) (acc : List NK), ∀ k ∈ l, CB k ∈ l.foldl kst acc := by
  intro l
  induction l with
  | nil => intro acc k h; cases h
  | cons x l ih =>
   intro acc k h
   rcases List.mem_cons.mp h with rfl | h
   ·refine mono l _ _ ?_
    unfold kst
    split
    ·assumption
    ·exact List.mem_append_right _ List.mem_cons_self
   ·exact ih _ k h
 exact go ks []
theorem HF {F : List Sk} {L : List Lin} (a : Ln' F L) (c : NK) (r : Rw) : r ∈ lok L c ↔ r ∈ fk F c := by
 unfold lok
 cases h : L.find? fun x => decide (x.1 = c) with
 | some x =>
  have e : x.1 = c := by simpa using List.find?_some h
  show r ∈ x.2 ↔ _
  rw [← e]
  exact a.mem x (List.mem_of_find?_eq_some h) r
 | none =>
  show r ∈ [] ↔ _
  constructor
  ·intro z; cases z
  ·intro z
   obtain ⟨k, hk', e, _⟩ := DG.mp z
   have m := XS F k hk'
   rw [← a.keys] at m
   obtain ⟨x, hx, ex⟩ := List.mem_map.mp m
   have := List.find?_eq_none.mp h x hx
   exact absurd (decide_eq_true (ex.trans e)) this
theorem RG {F : List Sk} {L : List Lin} (a : Ln' F L) (c : NK) : Apt (lok L c) := by
 unfold lok
 cases h : L.find? fun x => decide (x.1 = c) with
 | some x => exact a.apt x (List.mem_of_find?_eq_some h)
 | none => exact .nil
theorem gI {L0 L1 : List Lin} (h : mo L0 L1 = none) : ∀ x ∈ L0, ∀ r ∈ x.2, bp r (lok L1 x.1) = none := by
 intro x hx r hr
 have h1 := List.findSome?_eq_none_iff.mp h x hx
 have h2 := List.findSome?_eq_none_iff.mp h1 r hr
 unfold mo1 at h2
 exact Option.map_eq_none_iff.mp h2
theorem WT {L0 L1 : List Lin} {k : Sk} (h : mo L0 L1 = some k) : ∃ x ∈ L0, ∃ r ∈ x.2, k.1 = x.1.1 ∧ bp r (lok L1 x.1) = some (k.2.1, k.2.2) := by
 obtain ⟨x, hx, h1⟩ := List.exists_of_findSome?_eq_some h
 obtain ⟨r, hr, h2⟩ := List.exists_of_findSome?_eq_some h1
 unfold mo1 at h2
 obtain ⟨z, hz, e⟩ := Option.map_eq_some_iff.mp h2
 subst e
 exact ⟨x, hx, r, hr, rfl, hz⟩
theorem jT {F0 F1 : List Sk} {L0 L1 : List Lin} (a : Ln' F0 L0) (b : Ln' F1 L1) (od : ∀ k ∈ F0, les (lo (stk k)) (hi (stk k))) (h : mo L0 L1 = none) : ∀ k ∈ F0, ∃ l ∈ F1, WI k l := by
 intro k hk'
 have m := XS F0 k hk'
 rw [← a.keys] at m
 obtain ⟨x, hx, ex⟩ := List.mem_map.mp m
 have hr : stk k ∈ x.2 := (a.mem x hx _).mpr (DG.mpr ⟨k, hk', ex.symm, rfl⟩)
 obtain ⟨q, hq, c1, c2⟩ := OJ (RG b x.1) (od k hk') (gI h x hx _ hr)
 obtain ⟨l, hl, el, rfl⟩ := DG.mp ((HF b x.1 q).mp hq)
 exact ⟨l, hl, ex.symm.trans el.symm, c1, c2⟩
theorem fH {F : List Sk} {L : List Lin} (a : Ln' F L) (od : ∀ k ∈ F, les (lo (stk k)) (hi (stk k))) : mo L L = none := by
 cases h : mo L L with
 | none => rfl
 | some k =>
  exfalso
  obtain ⟨x, hx, r, hr, _, e⟩ := WT h
  have hr' := (a.mem x hx r).mp hr
  have ordr : ∀ q ∈ lok L x.1, les (lo q) (hi q) := fun q hq => by
   obtain ⟨l, hl, _, rfl⟩ := DG.mp ((HF a x.1 q).mp hq)
   exact od l hl
  have hr2 := (HF a x.1 r).mpr hr'
  obtain ⟨u, v, p1, p2, p3, p4, _⟩ := KM (RG a x.1) ordr (ordr r hr2) e
  exact p4 r hr2 ⟨LN p2 p1, KT p1 p3⟩
theorem RH {F : List Sk} {L : List Lin} (a : Ln' F L) (od : ∀ k ∈ F, les (lo (stk k)) (hi (stk k))) : un L L = none := by
 unfold un
 rw [fH a od]
 rfl
theorem gH {F0 F1 : List Sk} {L0 L1 : List Lin} (a : Ln' F0 L0) (b : Ln' F1 L1) (f0 : Fam F0) (f1 : Fam F1) (h : un L0 L1 = none) : ∀ k, k ∈ F0 ↔ k ∈ F1 := by
 unfold un at h
 cases h0 : mo L0 L1 with
 | some k => rw [h0] at h; cases h
 | none =>
  rw [h0] at h
  have h1 : mo L1 L0 = none := Option.map_eq_none_iff.mp h
  have w0 := jT a b (fun k hk' => FT (f0.ori k hk')) h0
  have w1 := jT b a (fun k hk' => FT (f1.ori k hk')) h1
  exact fun k => ⟨KG f0 f1 w0 w1 k, KG f1 f0 w1 w0 k⟩
structure gQ (A B : List Sk) (k : Sk) : Prop where
 ok : DK k
 ori : les (alp (hk k) k.2.1) (alp (hk k) k.2.2)
 inn : ∃ f ∈ A, Wth k f
 out : ∀ g ∈ B, CB g = CB k → ¬ (les (alp (hk k) g.2.1) (alp (hk k) k.2.2) ∧ les (alp (hk k) k.2.1) (alp (hk k) g.2.2))
theorem fX {k : Sk} (o : DK k) : par (stk k).p ∧ par (stk k).q ∧ b7 (stk k).p ∧ b7 (stk k).q := by
 obtain ⟨a, b⟩ := VU k
 obtain ⟨⟨_, b1, b2, _⟩, _, p1, p2⟩ := o
 refine ⟨?_, ?_, ?_, ?_⟩
 ·rcases a with e | e <;> rw [e] <;> assumption
 ·rcases b with e | e <;> rw [e] <;> assumption
 ·rcases a with e | e <;> rw [e] <;> assumption
 ·rcases b with e | e <;> rw [e] <;> assumption
theorem iY {A B : List Sk} {L0 L1 : List Lin} (a : Ln' A L0) (b : Ln' B L1) (fA : Fam A) (fB : Fam B) (oA : ∀ k ∈ A, DK k) (oB : ∀ k ∈ B, DK k) {k : Sk} (h : mo L0 L1 = some k) : gQ A B k := by
 obtain ⟨x, hx, r, hr, ek, e⟩ := WT h
 obtain ⟨f, hf, ef, rfl⟩ := DG.mp ((a.mem x hx r).mp hr)
 have ordr : ∀ q ∈ lok L1 x.1, les (lo q) (hi q) := fun q hq => by
  obtain ⟨l, hl, _, rfl⟩ := DG.mp ((HF b x.1 q).mp hq)
  exact FT (fB.ori l hl)
 obtain ⟨u, v, p1, p2, p3, p4, p5, p6⟩ := KM (RG b x.1) ordr (FT (fA.ori f hf)) e
 have pt : ∀ (g : Sk), DK g → CB g = x.1 → RC x.1.2.1 x.1.2.2.1 x.1.2.2.2 (stk g) ∧ par (stk g).p ∧ par (stk g).q := fun g og eg => by
  have z := VY og.1
  have z2 := fX og
  rw [← eg]
  exact ⟨z, z2.1, z2.2.1⟩
 have onS : asA x.1.2.1 k.2.1 = x.1.2.2.1 ∧ asB x.1.2.1 k.2.1 = x.1.2.2.2 ∧ alp x.1.2.1 k.2.1 = u ∧ b7 k.2.1 ∧ par k.2.1 := by
  rcases p5 with ⟨y1, y2⟩ | ⟨q, hq, y1, y2⟩
  ·obtain ⟨w, q1, q2⟩ := pt f (oA f hf) ef
   rw [y1, y2]
   exact ⟨w.e1, w.e2, Prod.ext w.f1.symm w.f2.symm, w.p, q1⟩
  ·obtain ⟨g, hg, eg, rfl⟩ := DG.mp ((HF b x.1 q).mp hq)
   obtain ⟨w, q1, q2⟩ := pt g (oB g hg) eg
   rw [y1, y2]
   exact ⟨w.e3, w.e4, Prod.ext w.f3.symm w.f4.symm, w.q, q2⟩
 have onE : asA x.1.2.1 k.2.2 = x.1.2.2.1 ∧ asB x.1.2.1 k.2.2 = x.1.2.2.2 ∧ alp x.1.2.1 k.2.2 = v ∧ b7 k.2.2 ∧ par k.2.2 := by
  rcases p6 with ⟨y1, y2⟩ | ⟨q, hq, y1, y2⟩
  ·obtain ⟨w, q1, q2⟩ := pt f (oA f hf) ef
   rw [y1, y2]
   exact ⟨w.e3, w.e4, Prod.ext w.f3.symm w.f4.symm, w.q, q2⟩
  ·obtain ⟨g, hg, eg, rfl⟩ := DG.mp ((HF b x.1 q).mp hq)
   obtain ⟨w, q1, q2⟩ := pt g (oB g hg) eg
   rw [y1, y2]
   exact ⟨w.e1, w.e2, Prod.ext w.f1.symm w.f2.symm, w.p, q1⟩
 obtain ⟨a1, a2, a3, a4, a5⟩ := onS
 obtain ⟨c1, c2, c3, c4, c5⟩ := onE
 have h4 : H4 x.1.2.1 := by rw [← ef]; exact KU _ _
 have ne : k.2.1 ≠ k.2.2 := fun z => by rw [z, c3] at a3; rw [a3] at p1; exact BK _ p1
 have hh : hk k = x.1.2.1 := TL h4 (a1.trans c1.symm) (a2.trans c2.symm) ne
 have nk : CB k = x.1 := by
  unfold CB
  have hh' : hdg k.2.1 k.2.2 = x.1.2.1 := hh
  rw [hh', a1, a2, ek]
 have ori : les (alp (hk k) k.2.1) (alp (hk k) k.2.2) := by rw [hh, a3, c3]; exact p1
 obtain ⟨s1, s2⟩ := EX ori
 obtain ⟨f1, f2⟩ := EX (fA.ori f hf)
 have hf' : hk f = hk k := by rw [hh, ← ef]; rfl
 refine ⟨⟨⟨⟨_, h4, a1.trans c1.symm, a2.trans c2.symm⟩, a4, c4, ne⟩, by rw [ek, ← ef]; exact (oA f hf).2.1, a5, c5⟩, ori, ⟨f, hf, XQ (ef.trans nk.symm), hf', ?_, ?_⟩, fun g hg eg z => ?_⟩
 ·rw [← (MK (k := k)).1, s1, ← hf', ← f1, hf', hh, a3]
  exact p2
 ·rw [← (MK (k := k)).2, s2, ← hf', ← f2, hf', hh, c3]
  exact p3
 ·obtain ⟨g1, g2⟩ := EX (fB.ori g hg)
  have hg' : hk g = hk k := by rw [hh, ← nk, ← eg]; rfl
  refine p4 (stk g) ((HF b x.1 _).mpr (DG.mpr ⟨g, hg, eg.trans nk, rfl⟩)) ?_
  rw [g1, g2, hg', ← a3, ← c3, ← hh]
  exact z
theorem oK {F0 F1 : List Sk} {L0 L1 : List Lin} (a : Ln' F0 L0) (b : Ln' F1 L1) (f0 : Fam F0) (f1 : Fam F1) (o0 : ∀ k ∈ F0, DK k) (o1 : ∀ k ∈ F1, DK k) {i : Int} {k : Sk} (h : un L0 L1 = some (i, k)) : (i = 0 ∧ gQ F0 F1 k) ∨ (i = 1 ∧ gQ F1 F0 k) := by
 unfold un at h
 cases h0 : mo L0 L1 with
 | some k' =>
  rw [h0] at h
  cases h
  exact .inl ⟨rfl, iY a b f0 f1 o0 o1 h0⟩
 | none =>
  rw [h0] at h
  obtain ⟨k', hk', e⟩ := Option.map_eq_some_iff.mp h
  cases e
  exact .inr ⟨rfl, iY b a f1 f0 o1 o0 hk'⟩
section
variable {P : Program} {w : World} {K : PySem.W.Frag} {mg : Str → Option Value} {base : Heap} {t : Adr}
def RpP (K : PySem.W.Frag) (H : Hp) (z : Option (Q4 × Q4)) (v : V) : Prop := match z with
 | none => v = .non
 | some p => Rp K H (.tup [q4D p.1, q4D p.2]) v
def iV (K : PySem.W.Frag) : Sp := fun vs H Q _ => ∃ (x : V) (l : Addr) (us : List V) (r : Rw) (qs : List Rw) (h n1 n2 : Int), vs = [x, .ref l] ∧ JP K H h n1 n2 r x ∧ SqL K H l us ∧ Rows K H h n1 n2 qs us ∧ ∀ v H', AJ H H' → RpP K H' (bp r qs) v → Q v H'
def oU (K : PySem.W.Frag) (x : V) (l : Addr) (v3 v5 : V) (r : Rw) (qs : List Rw) (H : Hp) (i : Nat) (σ : L2.St) (H2 : Hp) : Prop := ∃ (a : Int × Int) (s : Q4) (v2 v4 : V) (o6 o7 o8 o9 : Option V), σ = [some x, some (.ref l), some v2, some v3, some v4, some v5, o6, o7, o8, o9] ∧ AJ H H2 ∧ Rp K H2 (num a.1 a.2) v2 ∧ Rp K H2 (q4D s) v4 ∧ w7 a.1 ∧ w7 a.2 ∧ les a (hi r) ∧ bp r qs = bpc (hi r) r.q a s (qs.drop i)
theorem QJ (T : Txt K mg t) : CL P w K mg base CX0 4 t.a_barepiece t.d_barepiece ["stretch", "others"] (iV K) := by
 refine T.barepiece.F.ok BZ (fun vs H Q E h => ?_) (fun cdv A outer s H vs Q E hr h => ?_)
 ·obtain ⟨x, l, us, r, qs, h, n1, n2, rfl, _⟩ := h; rfl
 ·obtain ⟨x, l, us, r, qs, h, n1, n2, rfl, ⟨rx, ro⟩, hl, rq, q⟩ := h
  have hu := hr.units
  obtain ⟨a, x1, x2, x3, x4, rfl, hs, q1, q2, q3, q4⟩ := FX.mp rx
  have fin : ∀ (s e : Q4) (y z : V) (H' : Hp), AJ H H' → Rp K H' (q4D s) y → Rp K H' (q4D e) z → bp r qs = some (s, e) → 2 ≤ sizeLine ∧ ∀ p, H' p = none → Q (.ref p) (upd H' p (.tup [y, z])) := fun s e y z H' sH ry rz eb => ⟨by decide, fun p hp => q _ _ (sH.trans (AJ.upd hp)) (by
   rw [eb]
   show Rp K _ (.tup [q4D s, q4D e]) _
   exact BT.mpr ⟨p, y, z, rfl, SqT.of AD, ry.same (AJ.upd hp), rz.same (AJ.upd hp)⟩)⟩
  refine ⟨_, s!"0A2{BZ.nd}O3{BZ.nd}O4{BZ.nd}O5{BZ.nd}OfQQQQhk1As6{BZ.nd}O7{BZ.nd}O8{BZ.nd}O9{BZ.nd}OfQQQQh{DT T}{T.isless.m}{T.isless.F.kp}{T.isless.b}6A3ADBBHTW4A5ADBBRIGML{DT T}{T.isless.m}{T.isless.F.kp}{T.isless.b}2A6ADBBHT4A8ADBBRIGML{DT T}{T.isless.m}{T.isless.F.kp}{T.isless.b}2A7ADBBHT{@dX _ _ (2) (4) _ _ _ _ _ _ _ _ _ _ _ rfl BZ.nd rfl rfl (by decide) rfl rfl s!"7A9ADBB" (by rfl) (by rfl)}GML{DT T}{T.isless.m}{T.isless.F.kp}{T.isless.b}2A3ADBBHTWoIGMLGJJJc4A5ADBBRIGJJ", ?_⟩
  walk_at "rh"
  refine ⟨_, hs, rfl, ?_⟩
  walk_at "rh"
  refine ⟨⟨_, hl⟩, IS (xs := us) (oU K (.ref a) l x2 x4 r qs H) ⟨lo r, r.p, x1, x3, _, _, _, _, rfl, AJ.refl _, q1, q3, ro.la, ro.lb, ro.ord, rfl⟩ (fun i σ H2 _ z => by obtain ⟨_, _, _, _, _, _, _, _, rfl, s2, _⟩ := z; exact s2.seq hl) ?_ ?_⟩
  ·rintro i x σ H2 hi' ⟨a2, s2, v2, v4, o6, o7, o8, o9, rfl, sH, r2, r4, w1, w2, lh, eb⟩
   obtain ⟨r', er, z0⟩ := FR rq hi'
   obtain ⟨rr, ro'⟩ := z0.same sH
   obtain ⟨ax, y1, y2, y3, y4, rfl, hs', t1, t2, t3, t4⟩ := FX.mp rr
   have ed : qs.drop i = r' :: qs.drop (i + 1) := List.drop_eq_getElem?_toList_append.trans (by rw [er]; rfl)
   walk_at "rh"
   refine ⟨_, hs', rfl, ?_⟩
   refine ⟨_, _, r'.la, r'.lb, r.ha, r.hb, rfl, t1, q2.same sH, ro'.la.lt, ro'.lb.lt, ro.ha.lt, ro.hb.lt, fun H3 s3 => ?_⟩
   rw [ed] at eb
   unfold bpc at eb
   dsimp only
   have e1 : decide (sg (r'.la - r.ha) (r'.lb - r.hb) < 0) = lsb (lo r') (hi r) := rfl
   rw [e1]
   cases c1 : lsb (lo r') (hi r) with
   | false =>
    rw [if_pos rfl]
    rw [c1, if_neg Bool.false_ne_true] at eb
    exact fin _ _ _ _ _ (sH.trans s3) (r4.same s3) (q4.same (sH.trans s3)) eb
   | true =>
   rw [if_neg (by decide)]
   rw [c1, if_pos rfl] at eb
   have sH3 := sH.trans s3
   walk_at "rh"
   refine ⟨_, _, a2.1, a2.2, r'.la, r'.lb, rfl, r2.same s3, t1.same s3, w1.lt, w2.lt, ro'.la.lt, ro'.lb.lt, fun H4 s4 => ?_⟩
   have e2 : decide (sg (a2.1 - r'.la) (a2.2 - r'.lb) < 0) = lsb a2 (lo r') := rfl
   rw [e2]
   have s34 := s3.trans s4
   have sH4 := sH.trans s34
   cases c2 : lsb a2 (lo r') with
   | true =>
    rw [c2, if_pos rfl] at eb
    dsimp only
    rw [if_pos rfl]
    exact fin _ _ _ _ _ sH4 (r4.same s34) (t3.same s34) eb
   | false =>
   rw [c2, if_neg Bool.false_ne_true] at eb
   dsimp only
   rw [if_neg Bool.false_ne_true]
   walk_at "rh"
   refine ⟨_, _, a2.1, a2.2, r'.ha, r'.hb, rfl, r2.same s34, t2.same s34, w1.lt, w2.lt, ro'.ha.lt, ro'.hb.lt, fun H5 s5 => ?_⟩
   have e3 : decide (sg (a2.1 - r'.ha) (a2.2 - r'.hb) < 0) = lsb a2 (hi r') := rfl
   rw [e3]
   have s35 := s34.trans s5
   have sH5 := sH.trans s35
   cases c3 : lsb a2 (hi r') with
   | true =>
    rw [c3, if_pos rfl] at eb
    dsimp only
    rw [if_pos rfl]
    walk_at "rh"
    refine ⟨_, _, r'.ha, r'.hb, r.ha, r.hb, rfl, t2.same s35, q2.same sH5, ro'.ha.lt, ro'.hb.lt, ro.ha.lt, ro.hb.lt, fun H6 s6 => ?_⟩
    have e4 : decide (sg (r'.ha - r.ha) (r'.hb - r.hb) < 0) = lsb (hi r') (hi r) := rfl
    rw [e4]
    have s36 := s35.trans s6
    have sH6 := sH.trans s36
    cases c4 : lsb (hi r') (hi r) with
    | false =>
     rw [c4, if_neg Bool.false_ne_true] at eb
     dsimp only
     rw [if_pos rfl]
     exact q _ _ sH6 (by rw [eb]; rfl)
    | true =>
     rw [c4, if_pos rfl] at eb
     dsimp only
     rw [if_neg (by decide)]
     exact ⟨hi r', r'.q, _, _, _, _, _, _, rfl, sH6, t2.same s36, t4.same s36, ro'.ha, ro'.hb, (CY _ _).mp c4, eb⟩
   | false =>
    have lb := (CY _ _).mpr lh
    rw [c3, if_neg Bool.false_ne_true, lb, if_pos rfl] at eb
    dsimp only
    rw [if_neg Bool.false_ne_true]
    walk_at "rh"
    refine ⟨_, _, a2.1, a2.2, r.ha, r.hb, rfl, r2.same s35, q2.same sH5, w1.lt, w2.lt, ro.ha.lt, ro.hb.lt, fun H6 s6 => ?_⟩
    have e4 : decide (sg (a2.1 - r.ha) (a2.2 - r.hb) < 0) = lsb a2 (hi r) := rfl
    have s36 := s35.trans s6
    rw [e4, lb]
    dsimp only
    rw [if_neg (by decide)]
    exact ⟨a2, s2, _, _, _, _, _, _, rfl, sH.trans s36, r2.same s36, r4.same s36, w1, w2, lh, eb⟩
  ·rintro σ H2 ⟨a2, s2, v2, v4, o6, o7, o8, o9, rfl, sH, r2, r4, w1, w2, lh, eb⟩
   rw [← EZ rq, List.drop_length] at eb
   dsimp only
   walk_at "rh"
   exact fin _ _ _ _ _ sH r4 (q4.same sH) eb
end
def lin (ls : List Le) : List Lin := ls.map fun y => (y.k, y.ds)
theorem fS (ls : List Le) (c : NK) : lkN (ls.map Le.e) c = (ls.find? fun y => decide (y.k = c)).map fun y => .ref y.l := by
 unfold lkN
 rw [List.find?_map, Option.map_map]
 rfl
theorem cX (ls : List Le) (c : NK) : lok (lin ls) c = ((ls.find? fun y => decide (y.k = c)).map Le.ds).getD [] := by
 unfold lok lin
 rw [List.find?_map, Option.map_map]
 rfl
theorem fM (x : Lin) (ls os : List Lin) : mo (x :: ls) os = (mo2 os x).or (mo ls os) := by
 unfold mo
 rw [List.findSome?_cons]
 cases mo2 os x <;> rfl
section
variable {P : Program} {w : World} {K : PySem.W.Frag} {mg : Str → Option Value} {base : Heap} {t : Adr}
def RpM (K : PySem.W.Frag) (H : Hp) (z : Option Sk) (v : V) : Prop := match z with
 | none => v = .non
 | some k => Rp K H (skD k) v
def gG (P : Program) (w : World) (K : PySem.W.Frag) : Sp := fun vs H Q _ => ∃ (d0 d1 : Addr) (ls0 ls1 : List Le) (Ha Hb : Hp), vs = [.ref d0, .ref d1] ∧ Lns K P w Ha H d0 ls0 ∧ Lns K P w Hb H d1 ls1 ∧ ∀ v H', AJ H H' → RpM K H' (mo (lin ls0) (lin ls1)) v → Q v H'
def pR (d0 d1 : Addr) (ls0 ls1 : List Le) (H : Hp) (i : Nat) (σ : L2.St) (H2 : Hp) : Prop := ∃ o2 o3 o4 : Option V, σ = [some (.ref d0), some (.ref d1), o2, o3, o4] ∧ AJ H H2 ∧ mo (lin ls0) (lin ls1) = mo ((lin ls0).drop i) (lin ls1)
def oY (d0 d1 : Addr) (ls0 ls1 : List Le) (y : Le) (i : Nat) (H : Hp) (j : Nat) (σ : L2.St) (H2 : Hp) : Prop := ∃ o3 o4 : Option V, σ = [some (.ref d0), some (.ref d1), some (.ref y.ka), o3, o4] ∧ AJ H H2 ∧ mo (lin ls0) (lin ls1) = ((y.ds.drop j).findSome? (mo1 (lin ls1) y.k)).or (mo ((lin ls0).drop (i + 1)) (lin ls1))
theorem ZS (T : Txt K mg t) : CL P w K mg base CX0 5 t.a_moreof t.d_moreof ["lines", "others"] (gG P w K) := by
 refine T.moreof.F.ok JA (fun vs H Q E h => ?_) (fun cdv A outer s H vs Q E hr h => ?_)
 ·obtain ⟨d0, d1, ls0, ls1, Ha, Hb, rfl, _⟩ := h; rfl
 ·obtain ⟨d0, d1, ls0, ls1, Ha, Hb, rfl, L0, L1, q⟩ := h
  have hu := hr.units
  have hu4 : (A.deeper (envOfC (Str.ofString "more_of") (AF FD) s.heap.objs.size t.a_moreof cdv)).units + 4 < cLine := by omega
  have hu8 : (A.deeper (envOfC (Str.ofString "more_of") (AF FD) s.heap.objs.size t.a_moreof cdv)).units + 8 < cLine := by omega
  obtain ⟨ep0, e0⟩ := L0.dict
  obtain ⟨ep1, e1⟩ := L1.dict
  refine ⟨_, s!"{@XB _ _ _ _ (P) (w) rfl rfl s!"0A"}2{JA.nd}O{@SZ _ _ (K) _ _ rfl (@XI _ _ _ _ _ _ (P) (w) (K) rfl rfl rfl hu4 s!"0A" s!"2A" (fun _ _ => rfl))}3{JA.nd}O4{JA.nd}{Or.inl rfl}{QJ T}{T.barepiece.m}{T.barepiece.F.kp}{T.barepiece.b}3A{@gF _ (P) (w) (K) _ _ _ _ _ _ _ _ rfl rfl rfl hu8 s!"1A" s!"2A" s!"DU" ⟨rfl, rfl, rfl, rfl⟩}DBBHK{KF}4AoN{AE}2ACE{AE}4ACE{AE}4ACEDBBBRIGMLGJcGcoIGJ", ?_⟩
  walk_at "rh"
  refine ⟨_, _, e0, iH (pR d0 d1 ls0 ls1 H) ⟨_, _, _, rfl, AJ.refl _, rfl⟩ (fun i σ H2 _ z => by obtain ⟨_, _, _, rfl, s2, _⟩ := z; exact s2 _ _ e0) ?_ ?_⟩
  ·rintro i x σ H2 hi ⟨o2, o3, o4, rfl, s2, em⟩
   rw [List.getElem?_map, Option.map_eq_some_iff] at hi
   obtain ⟨y, hy, rfl⟩ := hi
   have oy := (L0.mv s2).each i y hy
   have dd : (lin ls0).drop i = (y.k, y.ds) :: (lin ls0).drop (i + 1) := by
    unfold lin
    exact List.drop_eq_getElem?_toList_append.trans (by rw [List.getElem?_map, hy]; rfl)
   rw [dd, fM] at em
   walk_at "rh"
   refine ⟨_, ⟨_, s2 _ _ e0⟩, (L0.mv s2).keysN, y.k, oy.key, _, jO L0.keys hy, ?_⟩
   refine ⟨⟨_, SqL.of oy.at'⟩, IS (xs := y.ys) (oY d0 d1 ls0 ls1 y i H) ⟨_, _, rfl, s2, em⟩ (fun j σ H3 _ z => by obtain ⟨_, _, rfl, s3, _⟩ := z; exact SqL.of ((L0.mv s3).each i y hy).at') ?_ ?_⟩
   ·rintro j x σ H3 hj ⟨p3, p4, rfl, s3, em3⟩
    have oy := (L0.mv s3).each i y hy
    obtain ⟨r, er, z0⟩ := FR oy.rows hj
    have ed : y.ds.drop j = r :: y.ds.drop (j + 1) := List.drop_eq_getElem?_toList_append.trans (by rw [er]; rfl)
    rw [ed, List.findSome?_cons] at em3
    obtain ⟨ak, z1, z2, ek, hk, rz1, rz2⟩ := BT.mp oy.key
    cases ek
    rw [Rp] at rz1
    subst rz1
    walk_at "rh"
    refine ⟨⟨_, ⟨_, s3 _ _ e1⟩, (L1.mv s3).keysN⟩, by decide, fun g hg => ?_⟩
    have ug := AJ.upd (o := .lst []) hg
    have s3g := s3.trans ug
    have oyg := (L0.mv s3g).each i y hy
    refine ⟨_, ⟨_, s3g _ _ e1⟩, (L1.mv s3g).keysN, y.k, oyg.key, ?_⟩
    obtain ⟨lq, uq, eq1, hq, rq⟩ : ∃ (lq : Addr) (uq : List V), (lkN (ls1.map Le.e) y.k).getD (.ref g) = .ref lq ∧ SqL K (upd H3 g (.lst [])) lq uq ∧ Rows K (upd H3 g (.lst [])) y.k.2.1 y.k.2.2.1 y.k.2.2.2 (lok (lin ls1) y.k) uq := by
     rw [fS, cX]
     cases hf : ls1.find? fun z => decide (z.k = y.k) with
     | none => exact ⟨g, [], rfl, SqL.of AD, .nil⟩
     | some y1 =>
      have ey : y1.k = y.k := by simpa using List.find?_some hf
      obtain ⟨i1, hi1⟩ := List.mem_iff_getElem?.mp (List.mem_of_find?_eq_some hf)
      have o1 := (L1.mv s3g).each i1 y1 hi1
      refine ⟨y1.l, y1.ys, rfl, SqL.of o1.at', ?_⟩
      have := o1.rows
      rw [ey] at this
      exact this
    rw [eq1]
    refine ⟨_, lq, uq, r, lok (lin ls1) y.k, _, _, _, rfl, z0.same ug, hq, rq, fun v H4 s4 rv => ?_⟩
    have s04 := s3g.trans s4
    have hk4 := (ug.trans s4).tup hk
    unfold mo1 at em3
    walk_at "rh"
    cases hb : bp r (lok (lin ls1) y.k) with
    | none =>
     rw [hb] at rv em3
     have ev : v = .non := rv
     subst ev
     rw [if_neg (by decide)]
     exact ⟨_, _, rfl, s04, em3⟩
    | some pc =>
     rw [hb] at rv em3
     obtain ⟨ap, w1, w2, rfl, hp, rw1, rw2⟩ := BT.mp (show Rp K H4 (.tup [q4D pc.1, q4D pc.2]) v from rv)
     rw [if_pos rfl]
     refine ⟨_, hk4, _, rfl, _, hp, _, rfl, _, hp, _, rfl, by decide, fun p hp' => ?_⟩
     have u := AJ.upd (o := .tup [.int y.k.1, w1, w2]) hp'
     refine q _ _ (s04.trans u) ?_
     rw [em3]
     show Rp K _ (skD (y.k.1, pc.1, pc.2)) (.ref p)
     exact CJ.mpr ⟨p, w1, w2, rfl, SqT.of AD, rw1.same u, rw2.same u⟩
   ·rintro σ H3 ⟨p3, p4, rfl, s3, em3⟩
    rw [← EZ oy.rows, List.drop_length] at em3
    exact ⟨_, _, _, rfl, s3, em3⟩
  ·rintro σ H2 ⟨o2, o3, o4, rfl, s2, em⟩
   rw [List.length_map, show ls0.length = (lin ls0).length from (List.length_map _).symm, List.drop_length] at em
   dsimp only
   walk_at "rh"
   exact q _ _ s2 (by rw [em]; rfl)
end
theorem lV (u : Int) {h n1 n2 : Int} {r : Rw} (o : RC h n1 n2 r) (h4 : H4 h) : stk (u, r.p, r.q) = r := by
 obtain ⟨e1, e2, e3⟩ := VA o h4
 have n : ¬ les (alp h r.q) (alp h r.p) := by
  rw [← e2, ← e3]
  exact FI o.ord
 have n' : ¬ sg (alA h r.q - alA h r.p) (alB h r.q - alB h r.p) < 0 := n
 unfold stk OT
 dsimp only
 rw [e1, if_neg n', ← o.f1, ← o.f2, ← o.f3, ← o.f4]
theorem jS {F : List Sk} {ls : List Le} (ok : ∀ k ∈ F, CZ k) (fF : Fam F) (J : ∀ z ∈ ls, Jd F z) (A : ∀ k ∈ F, CB k ∈ ls.map Le.k) (nd : (ls.map Le.k).Nodup) (rw' : ∀ z ∈ ls, H4 z.k.2.1 ∧ ∀ r ∈ z.ds, RC z.k.2.1 z.k.2.2.1 z.k.2.2.2 r) (ek : ls.map Le.k = kof F) : Ln' F (lin ls) := by
 have f : EH F (GK (fr ls)) := ⟨ls, J, A, nd, rw', rfl⟩
 have mem : ∀ k', k' ∈ GK (fr ls) ↔ ∃ y ∈ ls, ∃ j ∈ y.ds, k' = fr1 y j := fun k' => by
  rw [(EQ _).mem_iff]
  unfold fr
  rw [List.mem_flatMap]
  constructor
  ·rintro ⟨y, hy, hm⟩
   obtain ⟨j, hj, rfl⟩ := List.mem_map.mp hm
   exact ⟨y, hy, j, hj, rfl⟩
  ·rintro ⟨y, hy, j, hj, rfl⟩
   exact ⟨y, hy, List.mem_map_of_mem hj⟩
 have st : ∀ y ∈ ls, ∀ j ∈ y.ds, stk (fr1 y j) = j ∧ CB (fr1 y j) = y.k := fun y hy j hj => by
  obtain ⟨h4, okj⟩ := rw' y hy
  have o := okj j hj
  obtain ⟨e1, e2, e3⟩ := VA o h4
  refine ⟨lV y.k.1 o h4, ?_⟩
  unfold CB
  show (y.k.1, hdg j.p j.q, asA (hdg j.p j.q) j.p, asB (hdg j.p j.q) j.p) = y.k
  rw [e1, o.e1, o.e2]
 have okG : ∀ k ∈ GK (fr ls), CZ k := fun k hk' => by
  obtain ⟨y, hy, j, hj, rfl⟩ := (mem k).mp hk'
  obtain ⟨h4, okj⟩ := rw' y hy
  have o := okj j hj
  refine ⟨⟨_, h4, o.e1.trans o.e3.symm, o.e2.trans o.e4.symm⟩, o.p, o.q, fun z => ?_⟩
  have o' := o.ord
  have z' : j.p = j.q := z
  rw [o.f3, o.f4, ← z', ← o.f1, ← o.f2] at o'
  exact BK _ o'
 have fG := JY ok f okG
 have h1 := eJ ok f fF (fun b hb => ⟨b, hb, WI.refl b⟩)
 have h2 := fJ ok f okG
 have same : ∀ k, k ∈ F ↔ k ∈ GK (fr ls) := fun k => ⟨KG fF fG h2 h1 k, KG fG fF h1 h2 k⟩
 refine ⟨?_, fun x hx => ?_, fun x hx r => ?_⟩
 ·rw [← ek]
  unfold lin
  rw [List.map_map]
  rfl
 ·obtain ⟨y, hy, rfl⟩ := List.mem_map.mp hx
  exact (aB ok (J y hy)).apart
 ·obtain ⟨y, hy, rfl⟩ := List.mem_map.mp hx
  show r ∈ y.ds ↔ r ∈ fk F y.k
  rw [DG]
  constructor
  ·intro hr
   obtain ⟨s1, s2⟩ := st y hy r hr
   exact ⟨fr1 y r, (same _).mpr ((mem _).mpr ⟨y, hy, r, hr, rfl⟩), s2, s1⟩
  ·rintro ⟨k, hk', e, rfl⟩
   obtain ⟨y', hy', j, hj, rfl⟩ := (mem k).mp ((same k).mp hk')
   obtain ⟨s1, s2⟩ := st y' hy' j hj
   have ey : y' = y := by
    obtain ⟨a, ha⟩ := List.mem_iff_getElem?.mp hy'
    obtain ⟨b, hb⟩ := List.mem_iff_getElem?.mp hy
    by_cases c : a = b
    ·subst c; rw [ha] at hb; exact Option.some.inj hb
    ·exact absurd (s2.symm.trans e) (GF nd (i := a) (j := b) (by rw [List.getElem?_map, ha]; rfl) (by rw [List.getElem?_map, hb]; rfl) c)
   subst ey
   rw [s1]
   exact hj
section
variable {P : Program} {w : World} {K : PySem.W.Frag} {mg : Str → Option Value} {base : Heap} {t : Adr}
def RpU (K : PySem.W.Frag) (H : Hp) (z : Option (Int × Sk)) (v : V) : Prop := match z with
 | none => v = .non
 | some (i, k) => Rp K H (.tup (.int i :: skL k)) v
def PF (K : PySem.W.Frag) : Sp := fun vs H Q _ => ∃ (p0 p1 : Addr) (zs0 zs1 : List V) (F0 F1 : List Sk), vs = [.ref p0, .ref p1] ∧ SqT K H p0 zs0 ∧ Sks K H F0 zs0 ∧ SqT K H p1 zs1 ∧ Sks K H F1 zs1 ∧ F0.length ≤ 100 ∧ F1.length ≤ 100 ∧ (∀ k ∈ F0, CZ k) ∧ (∀ k ∈ F1, CZ k) ∧ Fam F0 ∧ Fam F1 ∧ ∀ L0 L1, Ln' F0 L0 → Ln' F1 L1 → ∀ v H', AJ H H' → RpU K H' (un L0 L1) v → Q v H'
def pT (p0 p1 tl : Addr) (L0 L1 : List Lin) (H : Hp) (i : Nat) (σ : L2.St) (H2 : Hp) : Prop := ∃ o3 o4 : Option V, σ = [some (.ref p0), some (.ref p1), some (.ref tl), o3, o4] ∧ AJ H H2 ∧ (1 ≤ i → mo L0 L1 = none) ∧ (2 ≤ i → mo L1 L0 = none)
theorem FN (T : Txt K mg t) : CL P w K mg base CX0 8 t.a_unlike t.d_unlike ["one", "other"] (PF K) := by
 refine T.unlike.F.ok IV (fun vs H Q E h => ?_) (fun cdv A outer s H vs Q E hr h => ?_)
 ·obtain ⟨p0, p1, zs0, zs1, F0, F1, rfl, _⟩ := h; rfl
 ·obtain ⟨p0, p1, zs0, zs1, F0, F1, rfl, h0, r0, h1, r1, n0, n1, o0, o1, f0, f1, q⟩ := h
  have hu := hr.units
  refine ⟨_, s!"2{IV.nd}{Or.inl rfl}{JM T}{T.linesof.m}{T.linesof.F.kp}{T.linesof.b}0ADBH{JM T}{T.linesof.m}{T.linesof.F.kp}{T.linesof.b}1ADBHDBBRKYVVXw3{IV.nd}O4{IV.nd}{Or.inl rfl}{ZS T}{T.moreof.m}{T.moreof.F.kp}{T.moreof.b}{AE}2A3AE{AE}2A{CA}C3AFEDBBHK{KF}4AoN{RZ}3ADBR4AFIGMLGJcoIGJJ", ?_⟩
  walk_at "rh"
  refine ⟨p0, zs0, F0, rfl, .inr h0, r0, by omega, o0, fun d0 ls0 H1 s1 _ L0 _ J0 A0 k0 => ?_⟩
  refine ⟨p1, zs1, F1, rfl, .inr (s1.tup h1), Sks.same r1 s1, by omega, o1, fun d1 ls1 H2 s2 _ L1 _ J1 A1 k1 => ?_⟩
  have N0 : Ln' F0 (lin ls0) := jS o0 f0 J0 A0 L0.keys (fun z hz => by obtain ⟨i, hi⟩ := List.mem_iff_getElem?.mp hz; exact ⟨(L0.each i z hi).h4, MI (L0.each i z hi).rows⟩) k0
  have N1 : Ln' F1 (lin ls1) := jS o1 f1 J1 A1 L1.keys (fun z hz => by obtain ⟨i, hi⟩ := List.mem_iff_getElem?.mp hz; exact ⟨(L1.each i z hi).h4, MI (L1.each i z hi).rows⟩) k1
  have q := q _ _ N0 N1
  have L0 := L0.mv s2
  have s02 := s1.trans s2
  refine ⟨by decide, fun tl htl => ?_⟩
  have ut := AJ.upd (o := .tup [.ref d0, .ref d1]) htl
  have L0 := L0.mv ut
  have L1 := L1.mv ut
  have s0t := s02.trans ut
  have ht : SqT K (upd H2 tl (.tup [.ref d0, .ref d1])) tl [.ref d0, .ref d1] := SqT.of AD
  generalize upd H2 tl (.tup [.ref d0, .ref d1]) = G at L0 L1 s0t ht ⊢
  walk_at "rh"
  intro v3 H3 s3 r3
  obtain ⟨aw, rfl, hw⟩ := BC.mp r3
  have L0 := L0.mv s3
  have L1 := L1.mv s3
  have s03 := s0t.trans s3
  have ht := s3.tup ht
  refine ⟨⟨_, hw⟩, IA (xs := [.int 0, .int 1]) (pT p0 p1 tl (lin ls0) (lin ls1) H3) ⟨_, _, rfl, AJ.refl _, (fun h => by omega), (fun h => by omega)⟩ (fun i σ H4 _ z => by obtain ⟨_, _, rfl, s4, _⟩ := z; exact s4.tup hw) ?_ ?_⟩
  ·rintro i x σ H4 hi ⟨o3, o4, rfl, s4, m0, m1⟩
   have L0 := L0.mv s4
   have L1 := L1.mv s4
   have ht := s4.tup ht
   have s04 := s03.trans s4
   match i, hi with
   | 0, hi =>
    cases hi
    walk_at "rh"
    refine ⟨_, ht, _, rfl, _, ht, _, rfl, d0, d1, ls0, ls1, _, _, rfl, L0, L1, fun v5 H5 s5 r5 => ?_⟩
    walk_at "rh"
    cases hm : mo (lin ls0) (lin ls1) with
    | none =>
     rw [hm] at r5
     have ev : v5 = .non := r5
     subst ev
     rw [if_neg (by decide)]
     exact ⟨_, _, rfl, s4.trans s5, (fun _ => hm), (fun h => by omega)⟩
    | some k =>
     rw [hm] at r5
     have r5 : Rp K H5 (.tup (skL k)) v5 := r5
     obtain ⟨a5, w1, w2, rfl, h5, _, _⟩ := CJ.mp r5
     rw [if_pos rfl]
     refine ⟨by decide, fun p hp => ?_⟩
     have u := AJ.upd (o := .tup [.int 0]) hp
     refine ⟨[.int 0], (show Rp K _ (.tup [.int 0]) (.ref p) by rw [Rp]; exact ⟨_, _, rfl, SqT.of AD, by rw [RpL]; exact ⟨_, _, rfl, by rw [Rp], by rw [RpL]⟩⟩), skL k, r5.same u, (show (4 : Nat) ≤ sizeLine by decide), fun v6 H6 s6 r6 => q _ _ (((s04.trans s5).trans u).trans s6) ?_⟩
     unfold un
     rw [hm]
     exact r6
   | 1, hi =>
    cases hi
    have m0 := m0 (by decide)
    walk_at "rh"
    refine ⟨_, ht, _, rfl, _, ht, _, rfl, d1, d0, ls1, ls0, _, _, rfl, L1, L0, fun v5 H5 s5 r5 => ?_⟩
    walk_at "rh"
    cases hm : mo (lin ls1) (lin ls0) with
    | none =>
     rw [hm] at r5
     have ev : v5 = .non := r5
     subst ev
     rw [if_neg (by decide)]
     exact ⟨_, _, rfl, s4.trans s5, (fun _ => m0), (fun _ => hm)⟩
    | some k =>
     rw [hm] at r5
     have r5 : Rp K H5 (.tup (skL k)) v5 := r5
     obtain ⟨a5, w1, w2, rfl, h5, _, _⟩ := CJ.mp r5
     rw [if_pos rfl]
     refine ⟨by decide, fun p hp => ?_⟩
     have u := AJ.upd (o := .tup [.int 1]) hp
     refine ⟨[.int 1], (show Rp K _ (.tup [.int 1]) (.ref p) by rw [Rp]; exact ⟨_, _, rfl, SqT.of AD, by rw [RpL]; exact ⟨_, _, rfl, by rw [Rp], by rw [RpL]⟩⟩), skL k, r5.same u, (show (4 : Nat) ≤ sizeLine by decide), fun v6 H6 s6 r6 => q _ _ (((s04.trans s5).trans u).trans s6) ?_⟩
     unfold un
     rw [m0, hm]
     exact r6
   | i + 2, hi => cases hi
  ·rintro σ H4 ⟨o3, o4, rfl, s4, m0, m1⟩
   dsimp only
   walk_at "rh"
   refine q _ _ (s03.trans s4) ?_
   unfold un
   rw [m0 (by decide), m1 (by decide)]
   rfl
end
theorem EN {α β : Type} {F : α → β → Prop} : ∀ {l l' : List α} {m m' : List β}, Paired F l m → Paired F l' m' → Paired F (l ++ l') (m ++ m')
 | _, _, _, _, .nil, h => h
 | _, _, _, _, .cons x r, h => .cons x (EN r h)
theorem II {α β : Type} {F : α → β → Prop} : ∀ (n : Nat) {l : List α} {m : List β}, Paired F l m → Paired F (l.take n) (m.take n)
 | 0, _, _, _ => by rw [List.take_zero, List.take_zero]; exact .nil
 | _ + 1, _, _, .nil => .nil
 | n + 1, _, _, .cons x r => .cons x (II n r)
theorem IF {α β : Type} {F : α → β → Prop} : ∀ (n : Nat) {l : List α} {m : List β}, Paired F l m → Paired F (l.drop n) (m.drop n)
 | 0, _, _, h => h
 | _ + 1, _, _, .nil => .nil
 | n + 1, _, _, .cons _ r => IF n r
theorem TZ {xs : List V} (m : Nat) : HQ xs none (some (m : Int)) = xs.take m := by
 unfold HQ
 rw [HT.sIx_none, HT.sIx_nat, List.drop_zero, Nat.sub_zero]
 by_cases h : m ≤ xs.length
 ·rw [Nat.min_eq_left h]
 ·rw [Nat.min_eq_right (by omega), List.take_of_length_le (Nat.le_refl _), List.take_of_length_le (by omega)]
theorem MT {α β : Type} {F : α → β → Prop} : ∀ {l : List α} {m : List β}, Paired F l m → Paired F l.reverse m.reverse
 | _, _, .nil => .nil
 | _, _, .cons x r => by rw [List.reverse_cons, List.reverse_cons]; exact EN (MT r) (.cons x .nil)
theorem kP {p : Pl} (h : bd 50000 p) : b7 (pq p) := by
 obtain ⟨⟨a, b⟩, ⟨c, d⟩, ⟨e, f⟩, g, i⟩ := h
 exact ⟨⟨by show -(10 ^ 7) ≤ p.a; omega, by show p.a ≤ 10 ^ 7; omega⟩, ⟨by show -(10 ^ 7) ≤ p.b; omega, by show p.b ≤ 10 ^ 7; omega⟩, ⟨by show -(10 ^ 7) ≤ p.c; omega, by show p.c ≤ 10 ^ 7; omega⟩, by show -(10 ^ 7) ≤ p.d; omega, by show p.d ≤ 10 ^ 7; omega⟩
theorem aX {u : Int} (u0 : 0 ≤ u ∧ u < 8) {p : Pl} (b : bd 40000 p) (pp : par (pq p)) {h n : Int} (h0 : 0 ≤ h) (h1 : h < 8) (n1 : 1 ≤ n) (n2 : n ≤ 10) : DK (u, pq p, pq (mv p h n)) :=
 ⟨⟨jA p h n h0 h1, aT b, kP ((jI (m := 10) b ⟨by omega, n2⟩).mono (by decide)), jB p h n h0 h1 n1⟩, u0, pp, cP p h n h0 h1 pp⟩
section
variable {P : Program} {w : World} {K : PySem.W.Frag} {mg : Str → Option Value} {base : Heap} {t : Adr}
def YL (K : PySem.W.Frag) : Sp := fun vs H Q _ => ∃ (a l : Addr) (ns : List Int) (xs : List V) (ks : List Sk), vs = [.ref a, .ref l] ∧ SqL K H a (ns.map V.int) ∧ ns.length ≤ 63 ∧ H l = some (.lst xs) ∧ Sks K H ks xs ∧ ks.length ≤ 30 ∧ (∀ k ∈ ks, DK k ∧ Mvd k) ∧ ∀ l' ys js H', AJ H H' → H' l' = some (.lst ys) → Sks K H' js ys → js.length ≤ 40 → (∀ k ∈ js, DK k) → Q (.ref l') H'
theorem YD (T : Txt K mg t) : CL P w K mg base CX0 4 t.a_Lother t.d_Lother ["_law_script", "_law_strokes_here"] (YL K) := by
 refine T.Lother.F.ok EU (fun vs H Q E h => ?_) (fun cdv A outer s H vs Q E hr h => ?_)
 ·obtain ⟨a, l, ns, xs, ks, rfl, _⟩ := h; rfl
 ·obtain ⟨a, l, ns, xs, ks, rfl, ha, hn, hl, rk, lk, ok, q⟩ := h
  have hu := hr.units
  have xl : xs.length = ks.length := (Paired.length rk).symm
  refine ⟨_, s!"2{EU.nd}{Or.inl rfl}{XX T}{T.Lrow.m}{T.Lrow.F.kp}{T.Lrow.b}{NX T}{T.Lcell.m}{T.Lcell.F.kp}{T.Lcell.b}0ACDBBHCCDBBBHK{@PW.pt _ _ _ s!"{ET}{AZ}{T.z_len}{PySem.boot_len}1ADBSCN{ET}{BL}{AL}2ACECFCNeZ"}{MB T}{T.Lstrokes.m}{T.Lstrokes.F.kp}{T.Lstrokes.b}{@OE _ _ _ _ _ _ _ rfl (by rfl) T.z_list (by rfl) T.z_reversed s!"0A" (by rfl) (by rfl)}CCDBBBHIGML3{EU.nd}{Or.inl rfl}{BL}{AL}2ACE{AZ}{T.z_len}{PySem.boot_len}1ADBSFK{AL}1A3AE4{EU.nd}O5{EU.nd}O6{EU.nd}OfQQQhk{ET}{BL}{AL}2ACECFCN{HN}{FV}1An3Aml{FV}1A{BJ}3ACFmnlFIGML{ET}{BL}{AL}2ACECFCN{HN}1A4A6A{KZ T}{T.Lmoved.m}{T.Lmoved.F.kp}{T.Lmoved.b}6A{BL}{AL}2ACECF{BJ}C{BL}{AL}2ACECFFDBBBHDBBBRDbUFIGML{ET}{BL}{AL}2ACECFCN{HN}{HN}{FV}1An3Aml{BL}{BJ}{BJ}4ACF{BL}{AL}2ACECFFCF5A6ADBBBRDbUF{FV}1A{BJ}3ACFmnlFIGML{ET}{BL}{AL}2ACECFCN{@OE _ _ _ _ _ _ _ rfl (by rfl) T.z_list (by rfl) T.z_reversed s!"1A" (by rfl) (by rfl)}IGML7{EU.nd}{Or.inl rfl}{KZ T}{T.Lmoved.m}{T.Lmoved.F.kp}{T.Lmoved.b}5A{BL}{AL}2ACECFCDBBBHK{HN}{HN}{FV}1An3Aml4A5A7ADBBBRDbUF{FV}1A{BJ}3ACFmnlFIGJJJJJJJJJ", ?_⟩
  walk_at "rh"
  refine ⟨a, ns, 2, rfl, ha, hn, by decide, by decide, fun z => ⟨_, _, _, rfl, by decide, by decide, by decide, by decide, fun l4 zs H3 s3 hl3 hL hlen hb => ?_⟩⟩
  obtain ⟨y0, y1, y2, y3, rfl⟩ : ∃ a b c d, zs = [a, b, c, d] := by
   match zs, hlen with
   | [a, b, c, d], _ => exact ⟨_, _, _, _, rfl⟩
  clear hb hl3
  have hl3 := s3 _ _ hl
  have rk3 := Sks.same rk s3
  walk_at "rh"
  refine ⟨_, .inl (SqL.of hl3), ?_⟩
  have st0 : ∃ xs, SqL K H3 a xs ∧ ∀ (l : Addr), H3 l = none → LW K [V.ref l, V.int 0, V.int 30] (upd H3 l (HO.lst xs.reverse)) Q E0 :=
   ⟨_, s3.seq ha, fun l6 h6 => ⟨l6, ns.reverse, rfl, by rw [← List.map_reverse]; exact SqL.of AD, by rw [List.length_reverse]; exact hn, fun l7 xs7 ks7 H7 s7 h7 r7 n7 ok7 => q _ _ _ _ ((s3.trans (AJ.upd h6)).trans s7) h7 r7 (by omega) fun k hk => (ok7 k hk).1⟩⟩
  by_cases c0 : (xs.length : Int) = 0
  ·rw [if_pos c0]; exact st0
  rw [if_neg c0]
  refine ⟨_, SqL.of hL, _, rfl, by decide, ?_⟩
  by_cases c1 : y0 % 6 = 0
  ·rw [if_pos c1]; exact st0
  rw [if_neg c1]
  clear st0
  obtain ⟨m, em, ml⟩ : ∃ m : Nat, y1 % (xs.length : Int) = (m : Int) ∧ m < xs.length := ⟨(y1 % (xs.length : Int)).toNat, by have := Int.emod_nonneg y1 c0; omega, by have := Int.emod_nonneg y1 c0; have := Int.emod_lt_of_pos y1 (show 0 < (xs.length : Int) by omega); omega⟩
  obtain ⟨x, ex⟩ : ∃ x, xs[m]? = some x := ⟨xs[m], by simp [ml]⟩
  obtain ⟨k, ek, rk0⟩ := CN rk ex
  obtain ⟨okk, p, h, n, hh, hn', e1, e2, b1, b2⟩ := ok k (List.mem_of_getElem? ek)
  obtain ⟨ax, x1, x2, rfl, hs, r1, r2⟩ := CJ.mp (rk0.same s3)
  have ok' : ∀ j ∈ ks, DK j := fun j hj => (ok j hj).1
  walk_at "rh"
  refine ⟨_, SqL.of hL, _, rfl, _, .inl (SqL.of hl3), by omega, ?_⟩
  rw [em]
  walk_at "rh"
  refine ⟨_, SqL.of hl3, _, IZ ex, _, hs, rfl, ?_⟩
  walk_at "rh"
  refine ⟨_, SqL.of hL, _, rfl, by decide, ?_⟩
  have cut1 : HQ xs (some ((m : Int) + 1)) none = xs.drop (m + 1) := SN (m + 1)
  by_cases c2 : y0 % 6 = 1
  ·rw [if_pos c2]
   refine ⟨_, SqL.of hl3, fun g1 hg1 => ?_⟩
   rw [TZ]
   have u1 := AJ.upd (o := .lst (xs.take m)) hg1
   refine ⟨_, u1.seq (SqL.of hl3), fun g2 hg2 => ?_⟩
   rw [cut1]
   have u2 := AJ.upd (o := .lst (xs.drop (m + 1))) hg2
   refine ⟨_, u2 _ _ AD, _, AD, ?_, fun g3 hg3 => ?_⟩
   ·rw [List.length_take, List.length_drop]
    exact Nat.le_of_lt (BQ (by omega))
   have u := (u1.trans u2).trans (AJ.upd (o := .lst (xs.take m ++ xs.drop (m + 1))) hg3)
   have rF := Sks.same rk3 u
   refine q _ _ (ks.take m ++ ks.drop (m + 1)) _ (s3.trans u) AD (EN (II m rF) (IF (m + 1) rF)) (by rw [List.length_append, List.length_take, List.length_drop]; omega) fun j hj => ?_
   rcases List.mem_append.mp hj with hj | hj
   ·exact ok' j (List.mem_of_mem_take hj)
   ·exact ok' j (List.mem_of_mem_drop hj)
  rw [if_neg c2]
  walk_at "rh"
  refine ⟨_, SqL.of hL, _, rfl, by decide, ?_⟩
  obtain ⟨okk', u8, pp1, pp2⟩ := okk
  rw [e1] at pp1 r1
  rw [e2] at pp2 r2
  have m0 := Int.emod_nonneg y2 (show (8 : Int) ≠ 0 by decide)
  have m1 := Int.emod_lt_of_pos y2 (show (0 : Int) < 8 by decide)
  by_cases c3 : y0 % 6 = 2
  ·rw [if_pos c3]
   have m2 := Int.emod_nonneg y3 (show (4 : Int) ≠ 0 by decide)
   have m3 := Int.emod_lt_of_pos y3 (show (0 : Int) < 4 by decide)
   refine ⟨_, SqL.of hL, _, rfl, by decide, _, SqL.of hL, _, rfl, by decide, x2, mv p h n, _, _, rfl, r2, ⟨m0, m1⟩, ⟨by omega, by omega⟩, fun v6 H6 s6 r6 => ⟨by decide, fun g1 hg1 => ⟨by decide, fun g2 hg2 => ?_⟩⟩⟩
   have u1 := AJ.upd (o := .tup [.int k.1, x2, v6]) hg1
   have u2 := AJ.upd (o := .lst [.ref g1]) hg2
   have s62 := (s6.trans u1).trans u2
   refine ⟨_, s62 _ _ hl3, _, AD, ?_, fun g3 hg3 => ?_⟩
   ·show xs.length + 1 ≤ sizeLine
    exact Nat.le_of_lt (BQ (by omega))
   have u3 := AJ.upd (o := .lst (xs ++ [.ref g1])) hg3
   have u := s62.trans u3
   refine q _ _ (ks ++ [(k.1, pq (mv p h n), pq (mv (mv p h n) (y2 % 8) (1 + y3 % 4)))]) _ (s3.trans u) AD (EN (Sks.same rk3 u) (.cons (CJ.mpr ⟨g1, x2, v6, rfl, (u2.trans u3).tup (SqT.of AD), r2.same u, r6.same ((u1.trans u2).trans u3)⟩) .nil)) (by rw [List.length_append]; show ks.length + 1 ≤ 40; omega) fun j hj => ?_
   rcases List.mem_append.mp hj with hj | hj
   ·exact ok' j hj
   ·rw [List.mem_singleton.mp hj]
    exact aX u8 b2 pp2 m0 m1 (by omega) (by omega)
  rw [if_neg c3]
  walk_at "rh"
  refine ⟨_, SqL.of hL, _, rfl, by decide, ?_⟩
  have mid : ∀ (G : Hp) (v : V) (k' : Sk) (g1 : Addr), AJ H3 G → G g1 = some (.lst (xs.take m)) → Rp K G (skD k') v → DK k' → ∀ g2, G g2 = none → ∃ ys, upd G g2 (.lst [v]) g1 = some (.lst ys) ∧ ∃ zs, upd G g2 (.lst [v]) g2 = some (.lst zs) ∧ ys.length + zs.length ≤ sizeLine ∧ ∀ g3, upd G g2 (.lst [v]) g3 = none → ∃ us, SqL K (upd (upd G g2 (.lst [v])) g3 (.lst (ys ++ zs))) l us ∧ ∀ g4, upd (upd G g2 (.lst [v])) g3 (.lst (ys ++ zs)) g4 = none →
    ∃ vs, upd (upd (upd G g2 (.lst [v])) g3 (.lst (ys ++ zs))) g4 (.lst (HQ us (some ((m : Int) + 1)) none)) g3 = some (.lst vs) ∧ ∃ ws, upd (upd (upd G g2 (.lst [v])) g3 (.lst (ys ++ zs))) g4 (.lst (HQ us (some ((m : Int) + 1)) none)) g4 = some (.lst ws) ∧ vs.length + ws.length ≤ sizeLine ∧ ∀ g5, upd (upd (upd G g2 (.lst [v])) g3 (.lst (ys ++ zs))) g4 (.lst (HQ us (some ((m : Int) + 1)) none)) g5 = none → Q (.ref g5) (upd (upd (upd (upd G g2 (.lst [v])) g3 (.lst (ys ++ zs))) g4 (.lst (HQ us (some ((m : Int) + 1)) none))) g5 (.lst (vs ++ ws))) := by
   intro G v k' g1 sG hg1 rv ov g2 hg2
   have u2 := AJ.upd (o := .lst [v]) hg2
   refine ⟨_, u2 _ _ hg1, _, AD, ?_, fun g3 hg3 => ?_⟩
   ·rw [List.length_take]
    show _ + 1 ≤ sizeLine
    exact Nat.le_of_lt (BQ (by omega))
   have u3 := AJ.upd (o := .lst (xs.take m ++ [v])) hg3
   refine ⟨_, (sG.trans (u2.trans u3)).seq (SqL.of hl3), fun g4 hg4 => ?_⟩
   rw [cut1]
   have u4 := AJ.upd (o := .lst (xs.drop (m + 1))) hg4
   refine ⟨_, u4 _ _ AD, _, AD, ?_, fun g5 hg5 => ?_⟩
   ·rw [List.length_append, List.length_take, List.length_drop]
    show _ + 1 + _ ≤ sizeLine
    exact Nat.le_of_lt (BQ (by omega))
   have u5 := AJ.upd (o := .lst (xs.take m ++ [v] ++ xs.drop (m + 1))) hg5
   have sH := ((u2.trans u3).trans u4).trans u5
   have rF := Sks.same rk3 (sG.trans sH)
   refine q _ _ (ks.take m ++ [k'] ++ ks.drop (m + 1)) _ (s3.trans (sG.trans sH)) AD (EN (EN (II m rF) (.cons (rv.same sH) .nil)) (IF (m + 1) rF)) (by rw [List.length_append, List.length_append, List.length_take, List.length_drop]; show _ + 1 + _ ≤ 40; omega) fun j hj => ?_
   rcases List.mem_append.mp hj with hj | hj
   ·rcases List.mem_append.mp hj with hj | hj
    ·exact ok' j (List.mem_of_mem_take hj)
    ·rw [List.mem_singleton.mp hj]; exact ov
   ·exact ok' j (List.mem_of_mem_drop hj)
  by_cases c4 : y0 % 6 = 3
  ·rw [if_pos c4]
   refine ⟨_, SqL.of hl3, fun g1 hg1 => ?_⟩
   rw [TZ]
   have u1 := AJ.upd (o := .lst (xs.take m)) hg1
   refine ⟨_, SqL.of (u1 _ _ hL), _, rfl, by decide, by decide, by decide, fun g0 hg0 => ⟨by decide, ?_⟩⟩
   have u0 := AJ.upd (o := .tup [.int ((k.1 + 1 + y2 % 7) % 8), x1, x2]) hg0
   have u01 := u1.trans u0
   have i0 := Int.emod_nonneg (k.1 + 1 + y2 % 7) (show (8 : Int) ≠ 0 by decide)
   have i1 := Int.emod_lt_of_pos (k.1 + 1 + y2 % 7) (show (0 : Int) < 8 by decide)
   refine mid _ (.ref g0) ((k.1 + 1 + y2 % 7) % 8, k.2) g1 u01 (u0 _ _ AD) ?_ ⟨okk', ⟨i0, i1⟩, ?_, ?_⟩
   ·refine CJ.mpr ⟨g0, x1, x2, rfl, SqT.of AD, ?_, ?_⟩
    ·show Rp K _ (q4D k.2.1) _
     rw [e1]; exact r1.same u01
    ·show Rp K _ (q4D k.2.2) _
     rw [e2]; exact r2.same u01
   ·show par k.2.1
    rw [e1]; exact pp1
   ·show par k.2.2
    rw [e2]; exact pp2
  rw [if_neg c4]
  walk_at "rh"
  refine ⟨_, SqL.of hL, _, rfl, by decide, ?_⟩
  by_cases c5 : y0 % 6 = 4
  ·rw [if_pos c5]
   refine ⟨_, SqL.of hl3, fun g1 hg1 => ?_⟩
   have u1 := AJ.upd (o := .lst xs.reverse) hg1
   exact q _ _ ks.reverse _ (s3.trans u1) AD (MT (Sks.same rk3 u1)) (by rw [List.length_reverse]; omega) fun j hj => ok' j (List.mem_reverse.mp hj)
  rw [if_neg c5]
  walk_at "rh"
  refine ⟨_, SqL.of hL, _, rfl, by decide, x1, p, _, 1, rfl, r1, ⟨m0, m1⟩, ⟨by decide, by decide⟩, fun v6 H6 s6 r6 => ?_⟩
  walk_at "rh"
  refine ⟨_, s6.seq (SqL.of hl3), fun g1 hg1 => ?_⟩
  rw [TZ]
  have u1 := AJ.upd (o := .lst (xs.take m)) hg1
  refine ⟨by decide, fun g0 hg0 => ⟨by decide, ?_⟩⟩
  have u0 := AJ.upd (o := .tup [.int k.1, x1, v6]) hg0
  have u01 := (s6.trans u1).trans u0
  exact mid _ (.ref g0) (k.1, pq p, pq (mv p (y2 % 8) 1)) g1 u01 (u0 _ _ AD) (CJ.mpr ⟨g0, x1, v6, rfl, SqT.of AD, r1.same u01, r6.same (u1.trans u0)⟩) (aX u8 b1 pp1 m0 m1 (by decide) (by decide))
end
theorem qH : ∀ (F G : List Sk), deqL (F.map skD) (G.map skD) = decide (F = G)
 | [], [] => rfl
 | [], _ :: _ => rfl
 | _ :: _, [] => rfl
 | a :: F, b :: G => by
  rw [List.map_cons, List.map_cons, deqL, qH F G]
  have e : deq (skD a) (skD b) = decide (a = b) := pU a b
  rw [e, Bool.eq_iff_iff, Bool.and_eq_true, decide_eq_true_eq, decide_eq_true_eq, decide_eq_true_eq, List.cons.injEq]
section
variable {P : Program} {w : World} {K : PySem.W.Frag} {mg : Str → Option Value} {base : Heap} {t : Adr}
structure NS (K : PySem.W.Frag) (H : Hp) (p : Addr) (zs : List V) (F : List Sk) (L : List Lin) : Prop where
 t : SqT K H p zs
 r : Sks K H F zs
 n : F.length ≤ 50
 ok : ∀ k ∈ F, DK k
 fam : Fam F
 inc : F.Pairwise skl
 ln : Ln' F L
theorem NS.same {H H' : Hp} {p : Addr} {zs : List V} {F : List Sk} {L : List Lin} (h : NS K H p zs F L) (s : AJ H H') : NS K H' p zs F L := ⟨s.tup h.t, Sks.same h.r s, h.n, h.ok, h.fam, h.inc, h.ln⟩
theorem NS.od {H : Hp} {p : Addr} {zs : List V} {F : List Sk} {L : List Lin} (h : NS K H p zs F L) : ∀ k ∈ F, les (lo (stk k)) (hi (stk k)) := fun k hk' => FT (h.fam.ori k hk')
def ZD (K : PySem.W.Frag) : Sp := fun vs H Q _ => ∃ (lf p0 p1 : Addr) (zs0 zs1 : List V) (F0 F1 : List Sk) (L0 L1 : List Lin) (v : V), vs = [.ref lf, v] ∧ SqL K H lf [.ref p0, .ref p1] ∧ NS K H p0 zs0 F0 L0 ∧ NS K H p1 zs1 F1 L1 ∧ RpU K H (un L0 L1) v ∧ ∀ H', AJ H H' → Q (.bl true) H'
def pY (lf : Addr) (v : V) (pc b : Addr) (H : Hp) (i : Nat) (σ : L2.St) (H2 : Hp) : Prop := ∃ o : Option V, σ = [some (.ref lf), some v, some (.ref pc), some (.ref b), o] ∧ AJ H H2
theorem LI (T : Txt K mg t) : CL P w K mg base CX0 4 t.a_Lright t.d_Lright ["_law_forms", "_law_found"] (ZD K) := by
 refine T.Lright.F.ok IM (fun vs H Q E h => ?_) (fun cdv A outer s H vs Q E hr h => ?_)
 ·obtain ⟨lf, p0, p1, zs0, zs1, F0, F1, L0, L1, v, rfl, _⟩ := h; rfl
 ·obtain ⟨lf, p0, p1, zs0, zs1, F0, F1, L0, L1, v, rfl, hf, m0, m1, rv, q⟩ := h
  have hu := hr.units
  refine ⟨_, s!"{EB hu}{AL}0ACE{AL}0ACEN{iR}1AodIGML{@PW.pt _ _ _ s!"{DQ (c := .type "tuple")}{T.z_isinstance}{boot_isinstance}1A{.ty "tuple"}{T.z_tuple}{boot_tuple}rDBBSTW{RE}{AZ}{T.z_len}{PySem.boot_len}1ADBSCN{MO T}{T.Lint.m}{T.Lint.F.kp}{T.Lint.b}{AE}1ACEDBHTW{@SG _ _ _ _ _ _ _ _ _ _ _ _ LP EM s!"C" s!"{AE}1ACE" s!"C" (by with_unfolding_all rfl)}WeZZZ"}aIGML2{IM.nd}{Or.inl rfl}{iC}1ACmnlK{@PW.pt _ _ _ s!"{KQ T}{T.Lisstroke.m}{T.Lisstroke.F.kp}{T.Lisstroke.b}2ADBHTW{NN T}{T.Lwithin.m}{T.Lwithin.F.kp}{T.Lwithin.b}2A{AL}0A{AE}1ACEEDBBHTWeZ"}aIGML3{IM.nd}{Or.inl rfl}{GD T}{T.Lline.m}{T.Lline.F.kp}{T.Lline.b}{AE}2ACE{AE}2ACEDBBHK{AL}0A{CA}C{AE}1ACEFEw4{IM.nd}O{EB hu}{GA T}{T.Lkey.m}{T.Lkey.F.kp}{T.Lkey.b}4ADBH{GA T}{T.Lkey.m}{T.Lkey.F.kp}{T.Lkey.b}2ADBHN{@PW.pt _ _ _ s!"{EM}{CT T}{T.Lfaron.m}{T.Lfaron.F.kp}{T.Lfaron.b}{AE}4ACE{AE}2ACE3ADBBBHCN{EM}{CT T}{T.Lfaron.m}{T.Lfaron.F.kp}{T.Lfaron.b}{AE}2ACE{AE}4ACE3ADBBBHCNvu"}aIGMLGMLGcaIGJJJJJJ", ?_⟩
  walk_at "rh"
  refine ⟨_, hf, _, rfl, _, hf, _, rfl, F0.map skD, F1.map skD, by rw [Rp]; exact ⟨_, _, rfl, m0.t, XH m0.r⟩, by rw [Rp]; exact ⟨_, _, rfl, m1.t, XH m1.r⟩, WM _, ?_⟩
  rw [qH, if_neg Bool.false_ne_true]
  dsimp only
  by_cases c : F0 = F1
  ·rw [decide_eq_true c, if_pos rfl]
   have eL : L0 = L1 := by
    have a := m0.ln
    rw [c] at a
    exact MZ m1.od a m1.ln
   rw [eL, RH m1.ln m1.od] at rv
   have ev : v = .non := rv
   subst ev
   exact q _ (AJ.refl _)
  rw [decide_eq_false c, if_neg Bool.false_ne_true]
  obtain ⟨i, k, eu⟩ : ∃ i k, un L0 L1 = some (i, k) := by
   cases h : un L0 L1 with
   | some z => exact ⟨z.1, z.2, rfl⟩
   | none => exact absurd (TQ m0.inc m1.inc (gH m0.ln m1.ln m0.fam m1.fam h)) c
  rw [eu] at rv
  have rv : Rp K H (.tup (.int i :: skL k)) v := rv
  obtain ⟨pA, pB, zsA, zsB, FA, FB, LA, LB, i0, i1, iA, iB, mA, mB, pc⟩ : ∃ pA pB zsA zsB FA FB LA LB, 0 ≤ i ∧ i < 2 ∧ atI [V.ref p0, V.ref p1] i = some (.ref pA) ∧ atI [V.ref p0, V.ref p1] (1 - i) = some (.ref pB) ∧ NS K H pA zsA FA LA ∧ NS K H pB zsB FB LB ∧ gQ FA FB k := by
   rcases oK m0.ln m1.ln m0.fam m1.fam m0.ok m1.ok eu with ⟨rfl, pc⟩ | ⟨rfl, pc⟩
   ·exact ⟨p0, p1, zs0, zs1, F0, F1, L0, L1, by decide, by decide, rfl, rfl, m0, m1, pc⟩
   ·exact ⟨p1, p0, zs1, zs0, F1, F0, L1, L0, by decide, by decide, rfl, rfl, m1, m0, pc⟩
  clear m0 m1 c eu
  obtain ⟨av, x1, x2, rfl, hv, r1, r2⟩ : ∃ av x1 x2, v = .ref av ∧ SqT K H av [.int i, .int k.1, x1, x2] ∧ Rp K H (q4D k.2.1) x1 ∧ Rp K H (q4D k.2.2) x2 := by
   unfold skL at rv
   rw [Rp] at rv
   obtain ⟨av, xs, rfl, hv, rl⟩ := rv
   rw [RpL] at rl
   obtain ⟨x0, _, rfl, z0, rl⟩ := rl
   rw [RpL] at rl
   obtain ⟨y0, _, rfl, z1, rl⟩ := rl
   rw [RpL] at rl
   obtain ⟨y1, _, rfl, z2, rl⟩ := rl
   rw [RpL] at rl
   obtain ⟨y2, _, rfl, z3, rl⟩ := rl
   rw [RpL] at rl
   subst rl
   rw [Rp] at z0 z1
   subst z0 z1
   exact ⟨av, y1, y2, rfl, hv, z2, z3⟩
  walk_at "rh"
  refine ⟨rfl, ⟨_, rfl⟩, _, .inr ⟨⟨_, hv⟩, rfl⟩, _, CO, ?_⟩
  rw [if_neg (by decide)]
  refine ⟨_, .inr hv, ?_⟩
  rw [if_neg (fun z => z rfl)]
  refine ⟨_, hv, _, rfl, _, rfl, ?_⟩
  dsimp only
  rw [if_neg (by decide)]
  refine ⟨_, hv, _, rfl, ?_⟩
  dsimp only
  rw [if_pos i0, if_neg (fun z => z i1)]
  walk_at "rh"
  refine ⟨_, hv, fun pp H1 s1 hpp => ?_⟩
  have hpp : SqT K H1 pp [.int k.1, x1, x2] := hpp
  have rpp : Rp K H1 (skD k) (.ref pp) := CJ.mpr ⟨pp, x1, x2, rfl, hpp, r1.same s1, r2.same s1⟩
  walk_at "rh"
  refine ⟨_, k, rfl, rpp, pc.ok, pc.ori, fun H2 s2 => ?_⟩
  dsimp only
  rw [if_neg (by decide)]
  have s02 := s1.trans s2
  obtain ⟨f, hfA, wf⟩ := pc.inn
  have mA := mA.same s02
  refine ⟨_, s02.tup hv, _, rfl, _, s02.seq hf, _, iA, _, pA, zsA, FA, k, f, rfl, rpp.same s2, pc.ok.1, mA.t, mA.r, (fun j hj => (mA.ok j hj).1), hfA, wf, fun H3 s3 => ?_⟩
  dsimp only
  rw [if_neg (by decide)]
  have s23 := s2.trans s3
  have s03 := s1.trans s23
  have hp3 := s23.tup hpp
  walk_at "rh"
  refine ⟨_, hp3, _, rfl, _, hp3, _, rfl, _, _, k.2.1, k.2.2, rfl, r1.same s03, r2.same s03, fun _ b y H4 s4 hb rb => ?_, fun n => absurd pc.ok.1.1 n⟩
  have s04 := s03.trans s4
  have hp4 := s4.tup hp3
  have mB := mB.same s04
  walk_at "rh"
  refine ⟨_, s04.tup hv, _, rfl, _, s04.seq hf, _, iB, ?_⟩
  refine ⟨⟨_, mB.t⟩, IA (xs := zsB) (pY lf (.ref av) pp b H4) ⟨_, rfl, AJ.refl _⟩ (fun i σ H5 _ z => by obtain ⟨_, rfl, s5⟩ := z; exact s5.tup mB.t) ?_ ?_⟩
  ·rintro j x σ H5 hj ⟨o, rfl, s5⟩
   obtain ⟨g, eg, rg⟩ := CN mB.r hj
   have mg' := List.mem_of_getElem? eg
   have og := (mB.ok g mg').1
   obtain ⟨ag, g1, g2, rfl, hgs, t1, t2⟩ := CJ.mp (rg.same s5)
   have s05 := s04.trans s5
   have hp5 := s5.tup hp4
   have rp5 : Rp K H5 (skD k) (.ref pp) := rpp.same ((s23.trans s4).trans s5)
   walk_at "rh"
   refine ⟨_, g, rfl, rg.same s5, og.1, fun v6 H6 s6 r6 => ⟨_, k, rfl, rp5.same s6, pc.ok.1.1, fun v7 H7 s7 r7 => ⟨_, _, r6.same s7, r7, IG _, ?_⟩⟩⟩
   rw [if_neg Bool.false_ne_true]
   dsimp only
   have s57 := s6.trans s7
   by_cases d : deqL (EA g) (EA k) = true
   ·rw [d, if_pos rfl]
    have nk := (JZ g k).mp d
    have out := pc.out g mg' nk
    refine ⟨_, s57.tup hgs, _, rfl, _, s57.tup hp5, _, rfl, _, _, b, y, g.2.1, k.2.2, hk k, rfl, t1.same s57, r2.same (s05.trans s57), (s5.trans s57).tup hb, og.2.1, pc.ok.1.2.2.1, fun H8 s8 => ?_⟩
    have s58 := s57.trans s8
    dsimp only
    by_cases e1 : sg (alA (hk k) g.2.1 - alA (hk k) k.2.2) (alB (hk k) g.2.1 - alB (hk k) k.2.2) < 0
    ·rw [if_pos e1]
     refine ⟨_, s58.tup hp5, _, rfl, _, s58.tup hgs, _, rfl, _, _, b, y, k.2.1, g.2.2, hk k, rfl, r1.same (s05.trans s58), t2.same s58, (s5.trans s58).tup hb, pc.ok.1.2.1, og.2.2.1, fun H9 s9 => ?_⟩
     dsimp only
     have e2 : ¬ sg (alA (hk k) k.2.1 - alA (hk k) g.2.2) (alB (hk k) k.2.1 - alB (hk k) g.2.2) < 0 := fun z => out ⟨e1, z⟩
     rw [if_neg e2]
     exact ⟨_, rfl, s5.trans (s58.trans s9)⟩
    ·rw [if_neg e1]
     exact ⟨_, rfl, s5.trans s58⟩
   ·rw [Bool.eq_false_iff.mpr d, if_neg Bool.false_ne_true]
    exact ⟨_, rfl, s5.trans s57⟩
  ·rintro σ H5 ⟨o, rfl, s5⟩
   dsimp only
   walk_at "rh"
   exact q _ (s04.trans s5)
end
theorem RpU.same {K : PySem.W.Frag} {H H' : Hp} {z : Option (Int × Sk)} {v : V} (h : RpU K H z v) (s : AJ H H') : RpU K H' z v := by
 cases z with
 | none => exact h
 | some z =>
  have h : Rp K H (.tup (.int z.1 :: skL z.2)) v := h
  exact h.same s
theorem QQ {K : PySem.W.Frag} {H : Hp} {v : V} (h : Rp K H (.tup []) v) : ∃ p, v = .ref p ∧ SqT K H p [] := by
 rw [Rp] at h
 obtain ⟨p, xs, rfl, hp, r⟩ := h
 rw [RpL] at r
 subst r
 exact ⟨p, rfl, hp⟩
section
variable {P : Program} {w : World} {K : PySem.W.Frag} {mg : Str → Option Value} {base : Heap} {t : Adr}
def RL (K : PySem.W.Frag) : Sp := fun vs H Q _ => ∃ (a : Addr) (ns : List Int), vs = [.ref a] ∧ SqL K H a (ns.map V.int) ∧ ns.length ≤ 63 ∧ ∀ H', Q (.bl true) H'
theorem kM (T : Txt K mg t) : CL P w K mg base CX0 9 t.a_law t.d_law ["_law_script"] (RL K) := by
 refine T.law.F.ok NR (fun vs H Q E h => ?_) (fun cdv A outer s H vs Q E hr h => ?_)
 ·obtain ⟨a, ns, rfl, _⟩ := h; rfl
 ·obtain ⟨a, ns, rfl, hS, hl, q⟩ := h
  have hu := hr.units
  refine ⟨_, s!"1{NR.nd}{Or.inl rfl}{MB T}{T.Lstrokes.m}{T.Lstrokes.F.kp}{T.Lstrokes.b}0ACCDBBBHK2{NR.nd}{Or.inl rfl}{YD T}{T.Lother.m}{T.Lother.F.kp}{T.Lother.b}0A1ADBBHK3{NR.nd}{Or.inl rfl}{PN T}{T.formof.m}{T.formof.F.kp}{T.formof.b}1ADBH{PN T}{T.formof.m}{T.formof.F.kp}{T.formof.b}2ADBHDBBUK{@PW.pt _ _ _ s!"{NE T}{T.Lisform.m}{T.Lisform.F.kp}{T.Lisform.b}{AL}3ACE1ADBBHTW{NE T}{T.Lisform.m}{T.Lisform.F.kp}{T.Lisform.b}{AL}3ACE2ADBBHTWeZ"}aIGML4{NR.nd}{Or.inl rfl}{FN T}{T.unlike.m}{T.unlike.F.kp}{T.unlike.b}{AL}3ACE{AL}3ACEDBBHK{@PW.pt _ _ _ s!"{LI T}{T.Lright.m}{T.Lright.F.kp}{T.Lright.b}3A4ADBBHTW{LI T}{T.Lright.m}{T.Lright.F.kp}{T.Lright.b}{AL}3ACE{AL}3ACEDBBU{FN T}{T.unlike.m}{T.unlike.F.kp}{T.unlike.b}{AL}3ACE{AL}3ACEDBBHDBBHTWeZ"}aIGML{@PW.pt _ _ _ s!"{KF}{FN T}{T.unlike.m}{T.unlike.F.kp}{T.unlike.b}{AL}3ACE{AL}3ACEDBBHoN{KF}{FN T}{T.unlike.m}{T.unlike.F.kp}{T.unlike.b}YXYXDbbHoNeZ"}aIGML{LI T}{T.Lright.m}{T.Lright.F.kp}{T.Lright.b}YX{AL}3ACEDBbU{FN T}{T.unlike.m}{T.unlike.F.kp}{T.unlike.b}YX{AL}3ACEDBbHDBBHTWaIGML{nT hu}{FN T}{T.unlike.m}{T.unlike.F.kp}{T.unlike.b}{AL}3ACE{AL}3ACEDBBH4AdIGJJJJJJJJ", ?_⟩
  walk_at "rh"
  refine ⟨a, ns, rfl, hS, hl, fun l xs ks H1 s1 h1 r1 k30 ok1 => ?_⟩
  walk_at "rh"
  refine ⟨a, l, ns, xs, ks, rfl, s1.seq hS, hl, h1, r1, k30, ok1, fun l2 ys js H2 s2 h2 r2 n2 ok2 => ?_⟩
  have okA : ∀ k ∈ ks, CZ k := fun k hk => (ok1 k hk).1.1
  have okA2 : ∀ k ∈ ks, DK k := fun k hk => (ok1 k hk).1
  have okB : ∀ k ∈ js, CZ k := fun k hk => (ok2 k hk).1
  have h1 := s2 _ _ h1
  have r1 := Sks.same r1 s2
  clear s1 s2 ok1
  walk_at "rh"
  refine ⟨l, xs, ks, rfl, SqL.of h1, r1, by omega, .inl (by omega), okA, fun p0 zs0 F0 H3 s3 t0 q0 n0 o0 f0 => ?_⟩
  refine ⟨l2, ys, js, rfl, SqL.of (s3 _ _ h2), Sks.same r2 s3, by omega, .inl (by omega), okB, fun p1 zs1 F1 H4 s4 t1 q1 n1 o1 f1 => ⟨by decide, fun lf hlf => ?_⟩⟩
  have u := AJ.upd (o := .lst [.ref p0, .ref p1]) hlf
  have s4u := s4.trans u
  have s3u := s3.trans s4u
  have h1 := s3u _ _ h1
  have r1 := Sks.same r1 s3u
  have h2 := s3u _ _ h2
  have r2 := Sks.same r2 s3u
  have t0 := s4u.tup t0
  have q0 := Sks.same q0 s4u
  have t1 := u.tup t1
  have q1 := Sks.same q1 u
  have hf : upd H4 lf (.lst [.ref p0, .ref p1]) lf = some (.lst [.ref p0, .ref p1]) := AD
  generalize upd H4 lf (.lst [.ref p0, .ref p1]) = H5 at h1 r1 h2 r2 t0 q0 t1 q1 hf ⊢
  clear s3 s4 u s4u s3u hlf
  have fam0 := JY okA f0 o0
  have fam1 := JY okB f1 o1
  have so0 : ∀ k ∈ F0, DK k := fun k hk' => (RD okA2 f0 o0 k hk').1
  have so1 : ∀ k ∈ F1, DK k := fun k hk' => (RD ok2 f1 o1 k hk').1
  have inc0 := (JR okA f0).2
  have inc1 := (JR okB f1).2
  walk_at "rh"
  refine ⟨_, SqL.of hf, _, rfl, p0, l, zs0, xs, ks, F0, rfl, t0, q0, by omega, o0, SqL.of h1, r1, by omega, okA2, f0, fun H6 s6 => ?_⟩
  dsimp only
  rw [if_neg (by decide)]
  refine ⟨_, s6.seq (SqL.of hf), _, rfl, p1, l2, zs1, ys, js, F1, rfl, s6.tup t1, Sks.same q1 s6, by omega, o1, s6.seq (SqL.of h2), Sks.same r2 s6, by omega, ok2, f1, fun H7 s7 => ?_⟩
  dsimp only
  rw [if_neg (by decide)]
  have s57 := s6.trans s7
  have hf := s57 _ _ hf
  have t0 := s57.tup t0
  have q0 := Sks.same q0 s57
  have t1 := s57.tup t1
  have q1 := Sks.same q1 s57
  clear s57 s6 s7 h1 r1 h2 r2
  have n0' : F0.length ≤ 50 := by omega
  have n1' : F1.length ≤ 50 := by omega
  have mk0 : ∀ {H' : Hp} {L : List Lin}, AJ H7 H' → Ln' F0 L → NS K H' p0 zs0 F0 L := fun s n => ⟨s.tup t0, Sks.same q0 s, n0', so0, fam0, inc0, n⟩
  have mk1 : ∀ {H' : Hp} {L : List Lin}, AJ H7 H' → Ln' F1 L → NS K H' p1 zs1 F1 L := fun s n => ⟨s.tup t1, Sks.same q1 s, n1', so1, fam1, inc1, n⟩
  have fam00 : Fam ([] : List Sk) := ⟨(fun k h => by cases h), (fun k h => by cases h), (fun k h => by cases h)⟩
  have ok00 : ∀ k ∈ ([] : List Sk), CZ k := fun k h => by cases h
  have call : ∀ {Q' : VK} {H' : Hp} (pa pb : Addr) (za zb : List V) (Fa Fb : List Sk), SqT K H' pa za → Sks K H' Fa za → SqT K H' pb zb → Sks K H' Fb zb → Fa.length ≤ 50 → Fb.length ≤ 50 → (∀ k ∈ Fa, CZ k) → (∀ k ∈ Fb, CZ k) → Fam Fa → Fam Fb → (∀ L0 L1, Ln' Fa L0 → Ln' Fb L1 → ∀ v H'', AJ H' H'' → RpU K H'' (un L0 L1) v → Q' v H'') → ∀ E', PF K [.ref pa, .ref pb] H' Q' E' := fun pa pb za zb Fa Fb a1 a2 a3 a4 a5 a6 a7 a8 a9 a10 a11 E' => ⟨pa, pb, za, zb, Fa, Fb, rfl, a1, a2, a3, a4, by omega, by omega, a7, a8, a9, a10, a11⟩
  walk_at "rh"
  refine ⟨_, SqL.of hf, _, rfl, _, SqL.of hf, _, rfl, call p0 p1 zs0 zs1 F0 F1 t0 q0 t1 q1 n0' n1' o0 o1 fam0 fam1 (fun L0 L1 N0 N1 v H8 s8 rv => ?_) _⟩
  walk_at "rh"
  refine ⟨lf, p0, p1, zs0, zs1, F0, F1, L0, L1, v, rfl, s8.seq (SqL.of hf), mk0 s8 N0, mk1 s8 N1, rv, fun H9 s9 => ?_⟩
  dsimp only
  rw [if_neg (by decide)]
  have s79 := s8.trans s9
  refine ⟨_, s79.seq (SqL.of hf), _, rfl, _, s79.seq (SqL.of hf), _, rfl, by decide, fun g1 hg1 => ?_⟩
  have ug1 := AJ.upd (o := .lst [.ref p1, .ref p0]) hg1
  have s7g := s79.trans ug1
  have gg : upd H9 g1 (.lst [.ref p1, .ref p0]) g1 = some (.lst [.ref p1, .ref p0]) := AD
  have rv9 : RpU K (upd H9 g1 (.lst [.ref p1, .ref p0])) (un L0 L1) v := rv.same (s9.trans ug1)
  generalize upd H9 g1 (.lst [.ref p1, .ref p0]) = G9 at s7g gg rv9 ⊢
  refine ⟨_, s7g.seq (SqL.of hf), _, rfl, _, s7g.seq (SqL.of hf), _, rfl, call p1 p0 zs1 zs0 F1 F0 (s7g.tup t1) (Sks.same q1 s7g) (s7g.tup t0) (Sks.same q0 s7g) n1' n0' o1 o0 fam1 fam0 (fun M1 M0 N1' N0' v' H10 s10 rv' => ?_) _⟩
  refine ⟨g1, p1, p0, zs1, zs0, F1, F0, M1, M0, v', rfl, s10.seq (SqL.of gg), mk1 (s7g.trans s10) N1', mk0 (s7g.trans s10) N0', rv', fun H11 s11 => ?_⟩
  dsimp only
  rw [if_neg (by decide)]
  have s911 := s10.trans s11
  have s711 := s7g.trans s911
  have rv := rv9.same s911
  clear rv9 rv' N1' N0' gg s10 s11 s911 s7g ug1 hg1 s79 s9 s8
  walk_at "rh"
  refine ⟨_, s711.seq (SqL.of hf), _, rfl, _, s711.seq (SqL.of hf), _, rfl, call p0 p0 zs0 zs0 F0 F0 (s711.tup t0) (Sks.same q0 s711) (s711.tup t0) (Sks.same q0 s711) n0' n0' o0 o0 fam0 fam0 (fun A0 A1 a0 a1 v2 H12 s12 rv2 => ?_) _⟩
  have eA := MZ (fun k hk' => FT (fam0.ori k hk')) a0 a1
  rw [eA, RH a1 (fun k hk' => FT (fam0.ori k hk'))] at rv2
  have ev : v2 = .non := rv2
  subst ev
  dsimp only
  rw [if_neg (by decide)]
  intro v3 H13 s13 r3 v4 H14 s14 r4
  obtain ⟨e3, rfl, he3⟩ := QQ (r3.same s14)
  obtain ⟨e4, rfl, he4⟩ := QQ r4
  refine call e3 e4 [] [] [] [] he3 .nil he4 .nil (by decide) (by decide) ok00 ok00 fam00 fam00 (fun A0 A1 a0 a1 v2 H15 s15 rv2 => ?_) _
  have eA := MZ (fun k hk' => by cases hk') a0 a1
  rw [eA, RH a1 (fun k hk' => by cases hk')] at rv2
  have ev : v2 = .non := rv2
  subst ev
  dsimp only
  rw [if_neg (by decide)]
  have s715 := (((s711.trans s12).trans s13).trans s14).trans s15
  have rv := rv.same (((s12.trans s13).trans s14).trans s15)
  clear s711 s12 s13 s14 s15 r3 r4 he3 he4 rv2 a0 a1 eA
  walk_at "rh"
  intro v3 H16 s16 r3
  obtain ⟨e3, rfl, he3⟩ := QQ r3
  have s716 := s715.trans s16
  refine ⟨_, s716.seq (SqL.of hf), _, rfl, by decide, fun g1 hg1 => ?_⟩
  have ug := AJ.upd (o := .lst [.ref e3, .ref p1]) hg1
  have gg : upd H16 g1 (.lst [.ref e3, .ref p1]) g1 = some (.lst [.ref e3, .ref p1]) := AD
  have he3 := ug.tup he3
  intro v4 H17 s17 r4
  obtain ⟨e4, rfl, he4⟩ := QQ r4
  have s1617 := ug.trans s17
  have s717 := s716.trans s1617
  have gg := s17 _ _ gg
  have he3 := s17.tup he3
  refine ⟨_, s717.seq (SqL.of hf), _, rfl, call e4 p1 [] zs1 [] F1 he4 .nil (s717.tup t1) (Sks.same q1 s717) (by decide) n1' ok00 o1 fam00 fam1 (fun A0 A1 a0 a1 v5 H18 s18 rv5 => ?_) _⟩
  have s718 := s717.trans s18
  refine ⟨g1, e3, p1, [], zs1, [], F1, A0, A1, v5, rfl, s18.seq (SqL.of gg), ⟨s18.tup he3, .nil, by decide, (fun k h => by cases h), fam00, .nil, a0⟩, mk1 s718 a1, rv5, fun H19 s19 => ?_⟩
  dsimp only
  rw [if_neg (by decide)]
  have s719 := s718.trans s19
  have rv := rv.same (((s16.trans s1617).trans s18).trans s19)
  clear s718 s18 s17 s1617 s717 s716 s16 rv5 a0 a1 gg he3 he4
  walk_at "rh"
  refine ⟨_, s719.seq (SqL.of hf), _, rfl, _, s719.seq (SqL.of hf), _, rfl, call p0 p1 zs0 zs1 F0 F1 (s719.tup t0) (Sks.same q0 s719) (s719.tup t1) (Sks.same q1 s719) n0' n1' o0 o1 fam0 fam1 (fun A0 A1 a0 a1 v6 H20 s20 rv6 => ?_) _⟩
  have b0 := MZ (fun k hk' => FT (fam0.ori k hk')) a0 N0
  have b1 := MZ (fun k hk' => FT (fam1.ori k hk')) a1 N1
  subst b0 b1
  have rv := rv.same s20
  cases hz : un A0 A1 with
  | none =>
   rw [hz] at rv rv6
   exact .inl ⟨rv6, rv, q _⟩
  | some z =>
   rw [hz] at rv rv6
   refine .inr ⟨_, _, rv6, rv, (show (2 : Nat) ≤ 60 by decide), ?_⟩
   rw [deqL_self, if_neg Bool.false_ne_true]
   exact q _
end
@[elab_as_elim] theorem MH {α : Type} {Pr : List α → Prop} (us : List α) (hl : us.length = 1) (h : ∀ a, Pr [a]) : Pr us := by
 match us, hl with
 | [a], _ => exact h a
@[elab_as_elim] theorem GP {α : Type} {Pr : List α → Prop} (us : List α) (hl : us.length = 2) (h : ∀ a b, Pr [a, b]) : Pr us := by
 match us, hl with
 | [a, b], _ => exact h a b
@[elab_as_elim] theorem bR {α : Type} {Pr : List α → Prop} (us : List α) (hl : us.length = 3) (h : ∀ a b c, Pr [a, b, c]) : Pr us := by
 match us, hl with
 | [a, b, c], _ => exact h a b c
@[elab_as_elim] theorem len4 {α : Type} {Pr : List α → Prop} (us : List α) (hl : us.length = 4) (h : ∀ a b c d, Pr [a, b, c, d]) : Pr us := by
 match us, hl with
 | [a, b, c, d], _ => exact h a b c d
theorem all_mk {l : PySem.W.OpenLaw} {w : World} {K : PySem.W.Frag} {h : Heap} {mg : Str → Option Value} {fa : Addr} (X : K.In h) (G : h.Ns mainGlobals mg) (hfa : mg "law" = some (.ref fa))
  {f0 : Addr} {od0 an0 : Option Addr} {sl0 : Array (Option Value)} {oc0 kV0 dc0 pm0 cd0 ct0 : Value}
  {f1 : Addr} {od1 an1 : Option Addr} {sl1 : Array (Option Value)} {oc1 kV1 dc1 pm1 cd1 ct1 : Value}
  {f2 : Addr} {od2 an2 : Option Addr} {sl2 : Array (Option Value)} {oc2 kV2 dc2 pm2 cd2 ct2 : Value}
  {f3 : Addr} {od3 an3 : Option Addr} {sl3 : Array (Option Value)} {oc3 kV3 dc3 pm3 cd3 ct3 : Value}
  {f4 : Addr} {od4 an4 : Option Addr} {sl4 : Array (Option Value)} {oc4 kV4 dc4 pm4 cd4 ct4 : Value}
  {f5 : Addr} {od5 an5 : Option Addr} {sl5 : Array (Option Value)} {oc5 kV5 dc5 pm5 cd5 ct5 : Value}
  {f6 : Addr} {od6 an6 : Option Addr} {sl6 : Array (Option Value)} {oc6 kV6 dc6 pm6 cd6 ct6 : Value}
  {f7 : Addr} {od7 an7 : Option Addr} {sl7 : Array (Option Value)} {oc7 kV7 dc7 pm7 cd7 ct7 : Value}
  {f8 : Addr} {od8 an8 : Option Addr} {sl8 : Array (Option Value)} {oc8 kV8 dc8 pm8 cd8 ct8 : Value}
  {f9 : Addr} {od9 an9 : Option Addr} {sl9 : Array (Option Value)} {oc9 kV9 dc9 pm9 cd9 ct9 : Value}
  {f10 : Addr} {od10 an10 : Option Addr} {sl10 : Array (Option Value)} {oc10 kV10 dc10 pm10 cd10 ct10 : Value}
  {f11 : Addr} {od11 an11 : Option Addr} {sl11 : Array (Option Value)} {oc11 kV11 dc11 pm11 cd11 ct11 : Value}
  {f12 : Addr} {od12 an12 : Option Addr} {sl12 : Array (Option Value)} {oc12 kV12 dc12 pm12 cd12 ct12 : Value}
  {f13 : Addr} {od13 an13 : Option Addr} {sl13 : Array (Option Value)} {oc13 kV13 dc13 pm13 cd13 ct13 : Value}
  {f14 : Addr} {od14 an14 : Option Addr} {sl14 : Array (Option Value)} {oc14 kV14 dc14 pm14 cd14 ct14 : Value}
  {f15 : Addr} {od15 an15 : Option Addr} {sl15 : Array (Option Value)} {oc15 kV15 dc15 pm15 cd15 ct15 : Value}
  {f16 : Addr} {od16 an16 : Option Addr} {sl16 : Array (Option Value)} {oc16 kV16 dc16 pm16 cd16 ct16 : Value}
  {f17 : Addr} {od17 an17 : Option Addr} {sl17 : Array (Option Value)} {oc17 kV17 dc17 pm17 cd17 ct17 : Value}
  {f18 : Addr} {od18 an18 : Option Addr} {sl18 : Array (Option Value)} {oc18 kV18 dc18 pm18 cd18 ct18 : Value}
  {f19 : Addr} {od19 an19 : Option Addr} {sl19 : Array (Option Value)} {oc19 kV19 dc19 pm19 cd19 ct19 : Value}
  {f20 : Addr} {od20 an20 : Option Addr} {sl20 : Array (Option Value)} {oc20 kV20 dc20 pm20 cd20 ct20 : Value}
  {f21 : Addr} {od21 an21 : Option Addr} {sl21 : Array (Option Value)} {oc21 kV21 dc21 pm21 cd21 ct21 : Value}
  {f22 : Addr} {od22 an22 : Option Addr} {sl22 : Array (Option Value)} {oc22 kV22 dc22 pm22 cd22 ct22 : Value}
  {f23 : Addr} {od23 an23 : Option Addr} {sl23 : Array (Option Value)} {oc23 kV23 dc23 pm23 cd23 ct23 : Value}
  {f24 : Addr} {od24 an24 : Option Addr} {sl24 : Array (Option Value)} {oc24 kV24 dc24 pm24 cd24 ct24 : Value}
  {f25 : Addr} {od25 an25 : Option Addr} {sl25 : Array (Option Value)} {oc25 kV25 dc25 pm25 cd25 ct25 : Value}
  {f26 : Addr} {od26 an26 : Option Addr} {sl26 : Array (Option Value)} {oc26 kV26 dc26 pm26 cd26 ct26 : Value}
  {f27 : Addr} {od27 an27 : Option Addr} {sl27 : Array (Option Value)} {oc27 kV27 dc27 pm27 cd27 ct27 : Value}
  {f28 : Addr} {od28 an28 : Option Addr} {sl28 : Array (Option Value)} {oc28 kV28 dc28 pm28 cd28 ct28 : Value}
  {f29 : Addr} {od29 an29 : Option Addr} {sl29 : Array (Option Value)} {oc29 kV29 dc29 pm29 cd29 ct29 : Value}
  {f30 : Addr} {od30 an30 : Option Addr} {sl30 : Array (Option Value)} {oc30 kV30 dc30 pm30 cd30 ct30 : Value}
  {f31 : Addr} {od31 an31 : Option Addr} {sl31 : Array (Option Value)} {oc31 kV31 dc31 pm31 cd31 ct31 : Value}
  {f32 : Addr} {od32 an32 : Option Addr} {sl32 : Array (Option Value)} {oc32 kV32 dc32 pm32 cd32 ct32 : Value}
  {f33 : Addr} {od33 an33 : Option Addr} {sl33 : Array (Option Value)} {oc33 kV33 dc33 pm33 cd33 ct33 : Value}
  {f34 : Addr} {od34 an34 : Option Addr} {sl34 : Array (Option Value)} {oc34 kV34 dc34 pm34 cd34 ct34 : Value}
  {f35 : Addr} {od35 an35 : Option Addr} {sl35 : Array (Option Value)} {oc35 kV35 dc35 pm35 cd35 ct35 : Value}
  {f36 : Addr} {od36 an36 : Option Addr} {sl36 : Array (Option Value)} {oc36 kV36 dc36 pm36 cd36 ct36 : Value}
  (a0 : PySem.W.nsIn K mainGlobals "plus" = some (some (.ref f0))) (l0 : K.lookup f0 = some ⟨oc0, od0, .func (PySem.W.fnOf "plus" "plus" (AY LT) (AX LT) (AF LT) .none kV0 dc0 pm0 an0 cd0 ct0), sl0⟩) (c0 : PySem.W.codeIn K cd0 "plus" = true) (k0 : PySem.W.keepIn K (.ref f0) = true)
  (a1 : PySem.W.nsIn K mainGlobals "minus" = some (some (.ref f1))) (l1 : K.lookup f1 = some ⟨oc1, od1, .func (PySem.W.fnOf "minus" "minus" (AY IR) (AX IR) (AF IR) .none kV1 dc1 pm1 an1 cd1 ct1), sl1⟩) (c1 : PySem.W.codeIn K cd1 "minus" = true) (k1 : PySem.W.keepIn K (.ref f1) = true)
  (a2 : PySem.W.nsIn K mainGlobals "times" = some (some (.ref f2))) (l2 : K.lookup f2 = some ⟨oc2, od2, .func (PySem.W.fnOf "times" "times" (AY JC) (AX JC) (AF JC) .none kV2 dc2 pm2 an2 cd2 ct2), sl2⟩) (c2 : PySem.W.codeIn K cd2 "times" = true) (k2 : PySem.W.keepIn K (.ref f2) = true)
  (a3 : PySem.W.nsIn K mainGlobals "sign_of_int" = some (some (.ref f3))) (l3 : K.lookup f3 = some ⟨oc3, od3, .func (PySem.W.fnOf "sign_of_int" "sign_of_int" (AY DW) (AX DW) (AF DW) .none kV3 dc3 pm3 an3 cd3 ct3), sl3⟩) (c3 : PySem.W.codeIn K cd3 "sign_of_int" = true) (k3 : PySem.W.keepIn K (.ref f3) = true)
  (a4 : PySem.W.nsIn K mainGlobals "sign_of" = some (some (.ref f4))) (l4 : K.lookup f4 = some ⟨oc4, od4, .func (PySem.W.fnOf "sign_of" "sign_of" (AY GV) (AX GV) (AF GV) .none kV4 dc4 pm4 an4 cd4 ct4), sl4⟩) (c4 : PySem.W.codeIn K cd4 "sign_of" = true) (k4 : PySem.W.keepIn K (.ref f4) = true)
  (a5 : PySem.W.nsIn K mainGlobals "is_less" = some (some (.ref f5))) (l5 : K.lookup f5 = some ⟨oc5, od5, .func (PySem.W.fnOf "is_less" "is_less" (AY GS) (AX GS) (AF GS) .none kV5 dc5 pm5 an5 cd5 ct5), sl5⟩) (c5 : PySem.W.codeIn K cd5 "is_less" = true) (k5 : PySem.W.keepIn K (.ref f5) = true)
  (a6 : PySem.W.nsIn K mainGlobals "joined_in_order" = some (some (.ref f6))) (l6 : K.lookup f6 = some ⟨oc6, od6, .func (PySem.W.fnOf "joined_in_order" "joined_in_order" (AY CM) (AX CM) (AF CM) .none kV6 dc6 pm6 an6 cd6 ct6), sl6⟩) (c6 : PySem.W.codeIn K cd6 "joined_in_order" = true) (k6 : PySem.W.keepIn K (.ref f6) = true)
  (a7 : PySem.W.nsIn K mainGlobals "in_order" = some (some (.ref f7))) (l7 : K.lookup f7 = some ⟨oc7, od7, .func (PySem.W.fnOf "in_order" "in_order" (AY DU) (AX DU) (AF DU) .none kV7 dc7 pm7 an7 cd7 ct7), sl7⟩) (c7 : PySem.W.codeIn K cd7 "in_order" = true) (k7 : PySem.W.keepIn K (.ref f7) = true)
  (a8 : PySem.W.nsIn K mainGlobals "heading_of" = some (some (.ref f8))) (l8 : K.lookup f8 = some ⟨oc8, od8, .func (PySem.W.fnOf "heading_of" "heading_of" (AY DV) (AX DV) (AF DV) .none kV8 dc8 pm8 an8 cd8 ct8), sl8⟩) (c8 : PySem.W.codeIn K cd8 "heading_of" = true) (k8 : PySem.W.keepIn K (.ref f8) = true)
  (a9 : PySem.W.nsIn K mainGlobals "aside" = some (some (.ref f9))) (l9 : K.lookup f9 = some ⟨oc9, od9, .func (PySem.W.fnOf "aside" "aside" (AY IU) (AX IU) (AF IU) .none kV9 dc9 pm9 an9 cd9 ct9), sl9⟩) (c9 : PySem.W.codeIn K cd9 "aside" = true) (k9 : PySem.W.keepIn K (.ref f9) = true)
  (a10 : PySem.W.nsIn K mainGlobals "line_of" = some (some (.ref f10))) (l10 : K.lookup f10 = some ⟨oc10, od10, .func (PySem.W.fnOf "line_of" "line_of" (AY GO) (AX GO) (AF GO) .none kV10 dc10 pm10 an10 cd10 ct10), sl10⟩) (c10 : PySem.W.codeIn K cd10 "line_of" = true) (k10 : PySem.W.keepIn K (.ref f10) = true)
  (a11 : PySem.W.nsIn K mainGlobals "along" = some (some (.ref f11))) (l11 : K.lookup f11 = some ⟨oc11, od11, .func (PySem.W.fnOf "along" "along" (AY IP) (AX IP) (AF IP) .none kV11 dc11 pm11 an11 cd11 ct11), sl11⟩) (c11 : PySem.W.codeIn K cd11 "along" = true) (k11 : PySem.W.keepIn K (.ref f11) = true)
  (a12 : PySem.W.nsIn K mainGlobals "stretch_of" = some (some (.ref f12))) (l12 : K.lookup f12 = some ⟨oc12, od12, .func (PySem.W.fnOf "stretch_of" "stretch_of" (AY DY) (AX DY) (AF DY) .none kV12 dc12 pm12 an12 cd12 ct12), sl12⟩) (c12 : PySem.W.codeIn K cd12 "stretch_of" = true) (k12 : PySem.W.keepIn K (.ref f12) = true)
  (a13 : PySem.W.nsIn K mainGlobals "joined" = some (some (.ref f13))) (l13 : K.lookup f13 = some ⟨oc13, od13, .func (PySem.W.fnOf "joined" "joined" (AY GI) (AX GI) (AF GI) .none kV13 dc13 pm13 an13 cd13 ct13), sl13⟩) (c13 : PySem.W.codeIn K cd13 "joined" = true) (k13 : PySem.W.keepIn K (.ref f13) = true)
  (a14 : PySem.W.nsIn K mainGlobals "lines_of" = some (some (.ref f14))) (l14 : K.lookup f14 = some ⟨oc14, od14, .func (PySem.W.fnOf "lines_of" "lines_of" (AY DI) (AX DI) (AF DI) .none kV14 dc14 pm14 an14 cd14 ct14), sl14⟩) (c14 : PySem.W.codeIn K cd14 "lines_of" = true) (k14 : PySem.W.keepIn K (.ref f14) = true)
  (a15 : PySem.W.nsIn K mainGlobals "form_of" = some (some (.ref f15))) (l15 : K.lookup f15 = some ⟨oc15, od15, .func (PySem.W.fnOf "form_of" "form_of" (AY ED) (AX ED) (AF ED) .none kV15 dc15 pm15 an15 cd15 ct15), sl15⟩) (c15 : PySem.W.codeIn K cd15 "form_of" = true) (k15 : PySem.W.keepIn K (.ref f15) = true)
  (a16 : PySem.W.nsIn K mainGlobals "bare_piece" = some (some (.ref f16))) (l16 : K.lookup f16 = some ⟨oc16, od16, .func (PySem.W.fnOf "bare_piece" "bare_piece" (AY DR) (AX DR) (AF DR) .none kV16 dc16 pm16 an16 cd16 ct16), sl16⟩) (c16 : PySem.W.codeIn K cd16 "bare_piece" = true) (k16 : PySem.W.keepIn K (.ref f16) = true)
  (a17 : PySem.W.nsIn K mainGlobals "more_of" = some (some (.ref f17))) (l17 : K.lookup f17 = some ⟨oc17, od17, .func (PySem.W.fnOf "more_of" "more_of" (AY FD) (AX FD) (AF FD) .none kV17 dc17 pm17 an17 cd17 ct17), sl17⟩) (c17 : PySem.W.codeIn K cd17 "more_of" = true) (k17 : PySem.W.keepIn K (.ref f17) = true)
  (a18 : PySem.W.nsIn K mainGlobals "unlike" = some (some (.ref f18))) (l18 : K.lookup f18 = some ⟨oc18, od18, .func (PySem.W.fnOf "unlike" "unlike" (AY GU) (AX GU) (AF GU) .none kV18 dc18 pm18 an18 cd18 ct18), sl18⟩) (c18 : PySem.W.codeIn K cd18 "unlike" = true) (k18 : PySem.W.keepIn K (.ref f18) = true)
  (a19 : PySem.W.nsIn K mainGlobals "_law_cell" = some (some (.ref f19))) (l19 : K.lookup f19 = some ⟨oc19, od19, .func (PySem.W.fnOf "_law_cell" "_law_cell" (AY IL) (AX IL) (AF IL) .none kV19 dc19 pm19 an19 cd19 ct19), sl19⟩) (c19 : PySem.W.codeIn K cd19 "_law_cell" = true) (k19 : PySem.W.keepIn K (.ref f19) = true)
  (a20 : PySem.W.nsIn K mainGlobals "_law_mixed" = some (some (.ref f20))) (l20 : K.lookup f20 = some ⟨oc20, od20, .func (PySem.W.fnOf "_law_mixed" "_law_mixed" (AY GR) (AX GR) (AF GR) .none kV20 dc20 pm20 an20 cd20 ct20), sl20⟩) (c20 : PySem.W.codeIn K cd20 "_law_mixed" = true) (k20 : PySem.W.keepIn K (.ref f20) = true)
  (a21 : PySem.W.nsIn K mainGlobals "_law_row" = some (some (.ref f21))) (l21 : K.lookup f21 = some ⟨oc21, od21, .func (PySem.W.fnOf "_law_row" "_law_row" (AY JS) (AX JS) (AF JS) .none kV21 dc21 pm21 an21 cd21 ct21), sl21⟩) (c21 : PySem.W.codeIn K cd21 "_law_row" = true) (k21 : PySem.W.keepIn K (.ref f21) = true)
  (a22 : PySem.W.nsIn K mainGlobals "_law_int" = some (some (.ref f22))) (l22 : K.lookup f22 = some ⟨oc22, od22, .func (PySem.W.fnOf "_law_int" "_law_int" (AY LH) (AX LH) (AF LH) .none kV22 dc22 pm22 an22 cd22 ct22), sl22⟩) (c22 : PySem.W.codeIn K cd22 "_law_int" = true) (k22 : PySem.W.keepIn K (.ref f22) = true)
  (a23 : PySem.W.nsIn K mainGlobals "_law_sign" = some (some (.ref f23))) (l23 : K.lookup f23 = some ⟨oc23, od23, .func (PySem.W.fnOf "_law_sign" "_law_sign" (AY IO) (AX IO) (AF IO) .none kV23 dc23 pm23 an23 cd23 ct23), sl23⟩) (c23 : PySem.W.codeIn K cd23 "_law_sign" = true) (k23 : PySem.W.keepIn K (.ref f23) = true)
  (a24 : PySem.W.nsIn K mainGlobals "_law_moved" = some (some (.ref f24))) (l24 : K.lookup f24 = some ⟨oc24, od24, .func (PySem.W.fnOf "_law_moved" "_law_moved" (AY GG) (AX GG) (AF GG) .none kV24 dc24 pm24 an24 cd24 ct24), sl24⟩) (c24 : PySem.W.codeIn K cd24 "_law_moved" = true) (k24 : PySem.W.keepIn K (.ref f24) = true)
  (a25 : PySem.W.nsIn K mainGlobals "_law_is_place" = some (some (.ref f25))) (l25 : K.lookup f25 = some ⟨oc25, od25, .func (PySem.W.fnOf "_law_is_place" "_law_is_place" (AY EV) (AX EV) (AF EV) .none kV25 dc25 pm25 an25 cd25 ct25), sl25⟩) (c25 : PySem.W.codeIn K cd25 "_law_is_place" = true) (k25 : PySem.W.keepIn K (.ref f25) = true)
  (a26 : PySem.W.nsIn K mainGlobals "_law_line" = some (some (.ref f26))) (l26 : K.lookup f26 = some ⟨oc26, od26, .func (PySem.W.fnOf "_law_line" "_law_line" (AY IQ) (AX IQ) (AF IQ) .none kV26 dc26 pm26 an26 cd26 ct26), sl26⟩) (c26 : PySem.W.codeIn K cd26 "_law_line" = true) (k26 : PySem.W.keepIn K (.ref f26) = true)
  (a27 : PySem.W.nsIn K mainGlobals "_law_far_on" = some (some (.ref f27))) (l27 : K.lookup f27 = some ⟨oc27, od27, .func (PySem.W.fnOf "_law_far_on" "_law_far_on" (AY GQ) (AX GQ) (AF GQ) .none kV27 dc27 pm27 an27 cd27 ct27), sl27⟩) (c27 : PySem.W.codeIn K cd27 "_law_far_on" = true) (k27 : PySem.W.keepIn K (.ref f27) = true)
  (a28 : PySem.W.nsIn K mainGlobals "_law_key" = some (some (.ref f28))) (l28 : K.lookup f28 = some ⟨oc28, od28, .func (PySem.W.fnOf "_law_key" "_law_key" (AY KY) (AX KY) (AF KY) .none kV28 dc28 pm28 an28 cd28 ct28), sl28⟩) (c28 : PySem.W.codeIn K cd28 "_law_key" = true) (k28 : PySem.W.keepIn K (.ref f28) = true)
  (a29 : PySem.W.nsIn K mainGlobals "_law_strokes" = some (some (.ref f29))) (l29 : K.lookup f29 = some ⟨oc29, od29, .func (PySem.W.fnOf "_law_strokes" "_law_strokes" (AY ER) (AX ER) (AF ER) .none kV29 dc29 pm29 an29 cd29 ct29), sl29⟩) (c29 : PySem.W.codeIn K cd29 "_law_strokes" = true) (k29 : PySem.W.keepIn K (.ref f29) = true)
  (a30 : PySem.W.nsIn K mainGlobals "_law_is_stroke" = some (some (.ref f30))) (l30 : K.lookup f30 = some ⟨oc30, od30, .func (PySem.W.fnOf "_law_is_stroke" "_law_is_stroke" (AY DS) (AX DS) (AF DS) .none kV30 dc30 pm30 an30 cd30 ct30), sl30⟩) (c30 : PySem.W.codeIn K cd30 "_law_is_stroke" = true) (k30 : PySem.W.keepIn K (.ref f30) = true)
  (a31 : PySem.W.nsIn K mainGlobals "_law_within" = some (some (.ref f31))) (l31 : K.lookup f31 = some ⟨oc31, od31, .func (PySem.W.fnOf "_law_within" "_law_within" (AY FL) (AX FL) (AF FL) .none kV31 dc31 pm31 an31 cd31 ct31), sl31⟩) (c31 : PySem.W.codeIn K cd31 "_law_within" = true) (k31 : PySem.W.keepIn K (.ref f31) = true)
  (a32 : PySem.W.nsIn K mainGlobals "_law_gone" = some (some (.ref f32))) (l32 : K.lookup f32 = some ⟨oc32, od32, .func (PySem.W.fnOf "_law_gone" "_law_gone" (AY HB) (AX HB) (AF HB) .none kV32 dc32 pm32 an32 cd32 ct32), sl32⟩) (c32 : PySem.W.codeIn K cd32 "_law_gone" = true) (k32 : PySem.W.keepIn K (.ref f32) = true)
  (a33 : PySem.W.nsIn K mainGlobals "_law_is_form" = some (some (.ref f33))) (l33 : K.lookup f33 = some ⟨oc33, od33, .func (PySem.W.fnOf "_law_is_form" "_law_is_form" (AY DJ) (AX DJ) (AF DJ) .none kV33 dc33 pm33 an33 cd33 ct33), sl33⟩) (c33 : PySem.W.codeIn K cd33 "_law_is_form" = true) (k33 : PySem.W.keepIn K (.ref f33) = true)
  (a34 : PySem.W.nsIn K mainGlobals "_law_other" = some (some (.ref f34))) (l34 : K.lookup f34 = some ⟨oc34, od34, .func (PySem.W.fnOf "_law_other" "_law_other" (AY GH) (AX GH) (AF GH) .none kV34 dc34 pm34 an34 cd34 ct34), sl34⟩) (c34 : PySem.W.codeIn K cd34 "_law_other" = true) (k34 : PySem.W.keepIn K (.ref f34) = true)
  (a35 : PySem.W.nsIn K mainGlobals "_law_right" = some (some (.ref f35))) (l35 : K.lookup f35 = some ⟨oc35, od35, .func (PySem.W.fnOf "_law_right" "_law_right" (AY GM) (AX GM) (AF GM) .none kV35 dc35 pm35 an35 cd35 ct35), sl35⟩) (c35 : PySem.W.codeIn K cd35 "_law_right" = true) (k35 : PySem.W.keepIn K (.ref f35) = true)
  (a36 : PySem.W.nsIn K mainGlobals "law" = some (some (.ref f36))) (l36 : K.lookup f36 = some ⟨oc36, od36, .func (PySem.W.fnOf "law" "law" (AY PR) (AX PR) (AF PR) .none kV36 dc36 pm36 an36 cd36 ct36), sl36⟩) (c36 : PySem.W.codeIn K cd36 "law" = true) (k36 : PySem.W.keepIn K (.ref f36) = true)
  (z_bool : PySem.W.nsIn K mainGlobals "bool" = some none)
  (z_int : PySem.W.nsIn K mainGlobals "int" = some none)
  (z_isinstance : PySem.W.nsIn K mainGlobals "isinstance" = some none)
  (z_len : PySem.W.nsIn K mainGlobals "len" = some none)
  (z_list : PySem.W.nsIn K mainGlobals "list" = some none)
  (z_max : PySem.W.nsIn K mainGlobals "max" = some none)
  (z_min : PySem.W.nsIn K mainGlobals "min" = some none)
  (z_range : PySem.W.nsIn K mainGlobals "range" = some none)
  (z_reversed : PySem.W.nsIn K mainGlobals "reversed" = some none)
  (z_set : PySem.W.nsIn K mainGlobals "set" = some none)
  (z_sorted : PySem.W.nsIn K mainGlobals "sorted" = some none)
  (z_tuple : PySem.W.nsIn K mainGlobals "tuple" = some none)
  {u_EAST : Value} (g_EAST : PySem.W.nsIn K mainGlobals "EAST" = some (some u_EAST)) (k_EAST : JO K UG u_EAST = true)
  {u_NORTH_EAST : Value} (g_NORTH_EAST : PySem.W.nsIn K mainGlobals "NORTH_EAST" = some (some u_NORTH_EAST)) (k_NORTH_EAST : JO K HE u_NORTH_EAST = true)
  {u_NORTH : Value} (g_NORTH : PySem.W.nsIn K mainGlobals "NORTH" = some (some u_NORTH)) (k_NORTH : JO K MN u_NORTH = true)
  {u_SOUTH_EAST : Value} (g_SOUTH_EAST : PySem.W.nsIn K mainGlobals "SOUTH_EAST" = some (some u_SOUTH_EAST)) (k_SOUTH_EAST : JO K HL u_SOUTH_EAST = true)
  {u_NOTHING : Value} (g_NOTHING : PySem.W.nsIn K mainGlobals "NOTHING" = some (some u_NOTHING)) (k_NOTHING : JO K QA u_NOTHING = true)
  {u_ACROSS : Value} (g_ACROSS : PySem.W.nsIn K mainGlobals "ACROSS" = some (some u_ACROSS)) (x_ACROSS : lW K LK u_ACROSS = true)
  : ∃ fd : FuncData, (∀ (s : Shared) (v : Value), BindsTo s fd ⟨[v], []⟩ [("_law_script", v)]) ∧ ∀ base : Heap, K.In base → base.Ns mainGlobals mg → CL l.prog w K mg base CX0 9 fa fd ["_law_script"] (RL K) := by
 have e := hfa.symm.trans (PySem.W.mg_of X G a36)
 cases e
 have F0 := BN (st := LT) l0 c0 k0
 have b0 := F0.binds (ps := ["one", "other"]) fun _ _ _ _ _ _ us hl => GP us hl (fun _ _ => rfl)
 have F1 := BN (st := IR) l1 c1 k1
 have b1 := F1.binds (ps := ["one", "other"]) fun _ _ _ _ _ _ us hl => GP us hl (fun _ _ => rfl)
 have F2 := BN (st := JC) l2 c2 k2
 have b2 := F2.binds (ps := ["number", "factor"]) fun _ _ _ _ _ _ us hl => GP us hl (fun _ _ => rfl)
 have F3 := BN (st := DW) l3 c3 k3
 have b3 := F3.binds (ps := ["value"]) fun _ _ _ _ _ _ us hl => MH us hl (fun _ => rfl)
 have F4 := BN (st := GV) l4 c4 k4
 have b4 := F4.binds (ps := ["number"]) fun _ _ _ _ _ _ us hl => MH us hl (fun _ => rfl)
 have F5 := BN (st := GS) l5 c5 k5
 have b5 := F5.binds (ps := ["one", "other"]) fun _ _ _ _ _ _ us hl => GP us hl (fun _ _ => rfl)
 have F6 := BN (st := CM) l6 c6 k6
 have b6 := F6.binds (ps := ["one", "other"]) fun _ _ _ _ _ _ us hl => GP us hl (fun _ _ => rfl)
 have F7 := BN (st := DU) l7 c7 k7
 have b7 := F7.binds (ps := ["rows"]) fun _ _ _ _ _ _ us hl => MH us hl (fun _ => rfl)
 have F8 := BN (st := DV) l8 c8 k8
 have b8 := F8.binds (ps := ["start", "end"]) fun _ _ _ _ _ _ us hl => GP us hl (fun _ _ => rfl)
 have F9 := BN (st := IU) l9 c9 k9
 have b9 := F9.binds (ps := ["heading", "place"]) fun _ _ _ _ _ _ us hl => GP us hl (fun _ _ => rfl)
 have F10 := BN (st := GO) l10 c10 k10
 have b10 := F10.binds (ps := ["start", "end"]) fun _ _ _ _ _ _ us hl => GP us hl (fun _ _ => rfl)
 have F11 := BN (st := IP) l11 c11 k11
 have b11 := F11.binds (ps := ["heading", "place"]) fun _ _ _ _ _ _ us hl => GP us hl (fun _ _ => rfl)
 have F12 := BN (st := DY) l12 c12 k12
 have b12 := F12.binds (ps := ["heading", "start", "end"]) fun _ _ _ _ _ _ us hl => bR us hl (fun _ _ _ => rfl)
 have F13 := BN (st := GI) l13 c13 k13
 have b13 := F13.binds (ps := ["stretches"]) fun _ _ _ _ _ _ us hl => MH us hl (fun _ => rfl)
 have F14 := BN (st := DI) l14 c14 k14
 have b14 := F14.binds (ps := ["strokes"]) fun _ _ _ _ _ _ us hl => MH us hl (fun _ => rfl)
 have F15 := BN (st := ED) l15 c15 k15
 have b15 := F15.binds (ps := ["strokes"]) fun _ _ _ _ _ _ us hl => MH us hl (fun _ => rfl)
 have F16 := BN (st := DR) l16 c16 k16
 have b16 := F16.binds (ps := ["stretch", "others"]) fun _ _ _ _ _ _ us hl => GP us hl (fun _ _ => rfl)
 have F17 := BN (st := FD) l17 c17 k17
 have b17 := F17.binds (ps := ["lines", "others"]) fun _ _ _ _ _ _ us hl => GP us hl (fun _ _ => rfl)
 have F18 := BN (st := GU) l18 c18 k18
 have b18 := F18.binds (ps := ["one", "other"]) fun _ _ _ _ _ _ us hl => GP us hl (fun _ _ => rfl)
 have F19 := BN (st := IL) l19 c19 k19
 have b19 := F19.binds (ps := ["_law_script", "_law_k"]) fun _ _ _ _ _ _ us hl => GP us hl (fun _ _ => rfl)
 have F20 := BN (st := GR) l20 c20 k20
 have b20 := F20.binds (ps := ["_law_cell_here", "_law_k"]) fun _ _ _ _ _ _ us hl => GP us hl (fun _ _ => rfl)
 have F21 := BN (st := JS) l21 c21 k21
 have b21 := F21.binds (ps := ["_law_cell_here", "_law_most", "_law_many"]) fun _ _ _ _ _ _ us hl => bR us hl (fun _ _ _ => rfl)
 have F22 := BN (st := LH) l22 c22 k22
 have b22 := F22.binds (ps := ["_law_found"]) fun _ _ _ _ _ _ us hl => MH us hl (fun _ => rfl)
 have F23 := BN (st := IO) l23 c23 k23
 have b23 := F23.binds (ps := ["_law_number"]) fun _ _ _ _ _ _ us hl => MH us hl (fun _ => rfl)
 have F24 := BN (st := GG) l24 c24 k24
 have b24 := F24.binds (ps := ["_law_place", "_law_heading", "_law_steps"]) fun _ _ _ _ _ _ us hl => bR us hl (fun _ _ _ => rfl)
 have F25 := BN (st := EV) l25 c25 k25
 have b25 := F25.binds (ps := ["_law_found"]) fun _ _ _ _ _ _ us hl => MH us hl (fun _ => rfl)
 have F26 := BN (st := IQ) l26 c26 k26
 have b26 := F26.binds (ps := ["_law_begin", "_law_end"]) fun _ _ _ _ _ _ us hl => GP us hl (fun _ _ => rfl)
 have F27 := BN (st := GQ) l27 c27 k27
 have b27 := F27.binds (ps := ["_law_one", "_law_other_here", "_law_line_here"]) fun _ _ _ _ _ _ us hl => bR us hl (fun _ _ _ => rfl)
 have F28 := BN (st := KY) l28 c28 k28
 have b28 := F28.binds (ps := ["_law_stroke"]) fun _ _ _ _ _ _ us hl => MH us hl (fun _ => rfl)
 have F29 := BN (st := ER) l29 c29 k29
 have b29 := F29.binds (ps := ["_law_script", "_law_start", "_law_most"]) fun _ _ _ _ _ _ us hl => bR us hl (fun _ _ _ => rfl)
 have F30 := BN (st := DS) l30 c30 k30
 have b30 := F30.binds (ps := ["_law_found"]) fun _ _ _ _ _ _ us hl => MH us hl (fun _ => rfl)
 have F31 := BN (st := FL) l31 c31 k31
 have b31 := F31.binds (ps := ["_law_stroke", "_law_others"]) fun _ _ _ _ _ _ us hl => GP us hl (fun _ _ => rfl)
 have F32 := BN (st := HB) l32 c32 k32
 have b32 := F32.binds (ps := ["_law_stroke", "_law_strokes_here"]) fun _ _ _ _ _ _ us hl => GP us hl (fun _ _ => rfl)
 have F33 := BN (st := DJ) l33 c33 k33
 have b33 := F33.binds (ps := ["_law_form", "_law_strokes_here"]) fun _ _ _ _ _ _ us hl => GP us hl (fun _ _ => rfl)
 have F34 := BN (st := GH) l34 c34 k34
 have b34 := F34.binds (ps := ["_law_script", "_law_strokes_here"]) fun _ _ _ _ _ _ us hl => GP us hl (fun _ _ => rfl)
 have F35 := BN (st := GM) l35 c35 k35
 have b35 := F35.binds (ps := ["_law_forms", "_law_found"]) fun _ _ _ _ _ _ us hl => GP us hl (fun _ _ => rfl)
 have F36 := BN (st := PR) l36 c36 k36
 have b36 := F36.binds (ps := ["_law_script"]) fun _ _ _ _ _ _ us hl => MH us hl (fun _ => rfl)
 obtain ⟨v_EAST, r_EAST, p_EAST⟩ := NW k_EAST
 obtain ⟨v_NORTH_EAST, r_NORTH_EAST, p_NORTH_EAST⟩ := NW k_NORTH_EAST
 obtain ⟨v_NORTH, r_NORTH, p_NORTH⟩ := NW k_NORTH
 obtain ⟨v_SOUTH_EAST, r_SOUTH_EAST, p_SOUTH_EAST⟩ := NW k_SOUTH_EAST
 obtain ⟨v_NOTHING, r_NOTHING, p_NOTHING⟩ := NW k_NOTHING
 have X_ACROSS := qF x_ACROSS
 obtain ⟨v_ACROSS, q_ACROSS⟩ : ∃ v, BF v u_ACROSS := by obtain ⟨p, _, _, _, e, _⟩ := X_ACROSS.ex; exact ⟨.ref p, e⟩
 have T : Txt K mg ⟨_, _, _, _, _, _, _, _, _, _, _, _, _, _, _, _, _, _, _, _, _, _, _, _, _, _, _, _, _, _, _, _, _, _, _, _, _, _, _, _, _, _, _, _, _, _, _, _, _, _, _, _, _, _, _, _, _, _, _, _, _, _, _, _, _, _, _, _, _, _, _, _, _, _, _, _, _, _, _, _, _, _, _, _, _, _⟩ := ⟨⟨F0, b0, PySem.W.mg_of X G a0⟩, ⟨F1, b1, PySem.W.mg_of X G a1⟩, ⟨F2, b2, PySem.W.mg_of X G a2⟩, ⟨F3, b3, PySem.W.mg_of X G a3⟩, ⟨F4, b4, PySem.W.mg_of X G a4⟩, ⟨F5, b5, PySem.W.mg_of X G a5⟩, ⟨F6, b6, PySem.W.mg_of X G a6⟩, ⟨F7, b7, PySem.W.mg_of X G a7⟩, ⟨F8, b8, PySem.W.mg_of X G a8⟩, ⟨F9, b9, PySem.W.mg_of X G a9⟩, ⟨F10, b10, PySem.W.mg_of X G a10⟩, ⟨F11, b11, PySem.W.mg_of X G a11⟩, ⟨F12, b12, PySem.W.mg_of X G a12⟩, ⟨F13, b13, PySem.W.mg_of X G a13⟩, ⟨F14, b14, PySem.W.mg_of X G a14⟩, ⟨F15, b15, PySem.W.mg_of X G a15⟩, ⟨F16, b16, PySem.W.mg_of X G a16⟩, ⟨F17, b17, PySem.W.mg_of X G a17⟩, ⟨F18, b18, PySem.W.mg_of X G a18⟩, ⟨F19, b19, PySem.W.mg_of X G a19⟩, ⟨F20, b20, PySem.W.mg_of X G a20⟩, ⟨F21, b21, PySem.W.mg_of X G a21⟩, ⟨F22, b22, PySem.W.mg_of X G a22⟩, ⟨F23, b23, PySem.W.mg_of X G a23⟩, ⟨F24, b24, PySem.W.mg_of X G a24⟩, ⟨F25, b25, PySem.W.mg_of X G a25⟩, ⟨F26, b26, PySem.W.mg_of X G a26⟩, ⟨F27, b27, PySem.W.mg_of X G a27⟩, ⟨F28, b28, PySem.W.mg_of X G a28⟩, ⟨F29, b29, PySem.W.mg_of X G a29⟩, ⟨F30, b30, PySem.W.mg_of X G a30⟩, ⟨F31, b31, PySem.W.mg_of X G a31⟩, ⟨F32, b32, PySem.W.mg_of X G a32⟩, ⟨F33, b33, PySem.W.mg_of X G a33⟩, ⟨F34, b34, PySem.W.mg_of X G a34⟩, ⟨F35, b35, PySem.W.mg_of X G a35⟩, ⟨F36, b36, PySem.W.mg_of X G a36⟩, PySem.W.mg_none_of X G z_bool, PySem.W.mg_none_of X G z_int, PySem.W.mg_none_of X G z_isinstance, PySem.W.mg_none_of X G z_len, PySem.W.mg_none_of X G z_list, PySem.W.mg_none_of X G z_max, PySem.W.mg_none_of X G z_min, PySem.W.mg_none_of X G z_range, PySem.W.mg_none_of X G z_reversed, PySem.W.mg_none_of X G z_set, PySem.W.mg_none_of X G z_sorted, PySem.W.mg_none_of X G z_tuple, PySem.W.mg_of X G g_EAST, r_EAST, p_EAST, PySem.W.mg_of X G g_NORTH_EAST, r_NORTH_EAST, p_NORTH_EAST, PySem.W.mg_of X G g_NORTH, r_NORTH, p_NORTH, PySem.W.mg_of X G g_SOUTH_EAST, r_SOUTH_EAST, p_SOUTH_EAST, PySem.W.mg_of X G g_NOTHING, r_NOTHING, p_NOTHING, PySem.W.mg_of X G g_ACROSS, q_ACROSS, X_ACROSS⟩
 exact ⟨_, fun s v => .of_eq rfl, fun base _ _ => kM T⟩
theorem walk {l : PySem.W.OpenLaw} {q : Program} {loose : List Str} {XP : (Str → Option Value) → Heap → Prop} {YP : World → Heap → Prop} {d : DefRec} {K : Params → PySem.W.Frag} (hn : l.most = some 63) (hdf : d.params.defaults = [])
  (hY : ∀ (w : World) (h : Heap), YP w h → (K w.params).In h)
  (F : ∀ (w : World) (mg : Str → Option Value) (fa : Addr) (h : Heap), (K w.params).In h → h.Ns mainGlobals mg → mg d.name = some (.ref fa) →
   ∃ fd : FuncData, (∀ (s : Shared) (u : Value), BindsTo s fd ⟨[u], []⟩ [("_law_script", u)]) ∧ ∀ base : Heap, (K w.params).In base → base.Ns mainGlobals mg → CL l.prog w (K w.params) mg base CX0 9 fa fd ["_law_script"] (RL (K w.params))) :
  PySem.W.WalkO q loose XP YP l.row.toRowW d [] (fun f vs => PySem.call f vs) :=
 L2.walk_of (n := 63) (k := 9) (x := "_law_script") (CX := fun _ => CX0) (sp := fun w => RL (K w.params)) hn (by decide) hdf ⟨rfl, by decide, by decide⟩ hY F (fun _ _ a ns hl _ hS => ⟨a, ns, rfl, hS, hl, fun _ => rfl⟩) fun _ _ _ _ _ z => z
end My
namespace Hd
open PySem PySem.Spec PyProof.Rows L2
noncomputable def la : List Str := List.map Str.ofString ["_law_within", "_law_stroke", "_law_others", "_law_line_here", "_law_line", "_law_ends", "_law_far_on", "_law_other_here", "_law_key", "_law_gone", "_law_strokes_here", "_law_here", "_law_some", "_law_one", ".0", "_law_turn", "range", "len", "fast", "_law_is_form", "_law_form", "isinstance", "tuple", "list", "sorted", "_law_is_stroke", "set", "_law_other", "_law_script", "_law_row_here", "_law_row", "_law_cell", "_law_strokes", "reversed", "_law_at", "_law_ink", "_law_begin", "_law_end", "_law_moved", "_law_ahead", "_law_right", "_law_forms", "_law_found", "_law_int", "_law_piece", "law", "form_of", "unlike", "_law_is_place", "_law_number", "_law_x", "_law_y", "int", "_law_sign", "_law_start", "_law_most", "_law_cell_here", "_law_headings", "_law_far", "_law_inks", "_law_k", "max", "min", "_law_heading", "append", "_law_mixed", "_law_many", "_law_rest", "bool", "_law_a", "_law_b", "_law_more", "_law_place", "_law_steps", "_law_ways", "_law_east", "_law_north", "strokes", "lines", "lines_of", "key", "start", "end", "low", "high", "bare_piece", "stretch", "others", "other_low", "other_high", "other_start", "other_end", "is_less", "more_of", "piece", "get", "one", "other", "which", "__name__", "law_turtlehouse_k33_whole_unlike", "aside", "heading", "place", "x", "y", "plus", "times", "ACROSS", "line_of", "heading_of", "along", "NORTH", "stretch_of", "joined", "stretches", "told", "in_order", "found", "ink", "line", "setdefault", "items", "sign_of", "minus", "joined_in_order", "at", "row", "rows", "parts", "turtlehouse.forms", "east", "north", "NOTHING", "EAST", "NORTH_EAST", "SOUTH_EAST", "number", "factor", "sign_of_int", "value", "first", "second", "turtlehouse.floor", "/claim/cut.py", "__doc__", "__package__", "__loader__", "__spec__", "__annotations__", "__builtins__", "__file__", "__cached__"]
noncomputable def lb : List Str := [⟨⟨[95,108,97,119,95,119,105,116,104,105,110]⟩⟩, ⟨⟨[95,108,97,119,95,115,116,114,111,107,101]⟩⟩, ⟨⟨[95,108,97,119,95,111,116,104,101,114,115]⟩⟩, ⟨⟨[95,108,97,119,95,108,105,110,101,95,104,101,114,101]⟩⟩, ⟨⟨[95,108,97,119,95,108,105,110,101]⟩⟩, ⟨⟨[95,108,97,119,95,101,110,100,115]⟩⟩, ⟨⟨[95,108,97,119,95,102,97,114,95,111,110]⟩⟩, ⟨⟨[95,108,97,119,95,111,116,104,101,114,95,104,101,114,101]⟩⟩, ⟨⟨[95,108,97,119,95,107,101,121]⟩⟩, ⟨⟨[95,108,97,119,95,103,111,110,101]⟩⟩, ⟨⟨[95,108,97,119,95,115,116,114,111,107,101,115,95,104,101,114,101]⟩⟩, ⟨⟨[95,108,97,119,95,104,101,114,101]⟩⟩, ⟨⟨[95,108,97,119,95,115,111,109,101]⟩⟩, ⟨⟨[95,108,97,119,95,111,110,101]⟩⟩, ⟨⟨[46,48]⟩⟩, ⟨⟨[95,108,97,119,95,116,117,114,110]⟩⟩, ⟨⟨[114,97,110,103,101]⟩⟩, ⟨⟨[108,101,110]⟩⟩, ⟨⟨[102,97,115,116]⟩⟩, ⟨⟨[95,108,97,119,95,105,115,95,102,111,114,109]⟩⟩, ⟨⟨[95,108,97,119,95,102,111,114,109]⟩⟩, ⟨⟨[105,115,105,110,115,116,97,110,99,101]⟩⟩, ⟨⟨[116,117,112,108,101]⟩⟩, ⟨⟨[108,105,115,116]⟩⟩, ⟨⟨[115,111,114,116,101,100]⟩⟩, ⟨⟨[95,108,97,119,95,105,115,95,115,116,114,111,107,101]⟩⟩, ⟨⟨[115,101,116]⟩⟩, ⟨⟨[95,108,97,119,95,111,116,104,101,114]⟩⟩, ⟨⟨[95,108,97,119,95,115,99,114,105,112,116]⟩⟩, ⟨⟨[95,108,97,119,95,114,111,119,95,104,101,114,101]⟩⟩, ⟨⟨[95,108,97,119,95,114,111,119]⟩⟩, ⟨⟨[95,108,97,119,95,99,101,108,108]⟩⟩, ⟨⟨[95,108,97,119,95,115,116,114,111,107,101,115]⟩⟩, ⟨⟨[114,101,118,101,114,115,101,100]⟩⟩, ⟨⟨[95,108,97,119,95,97,116]⟩⟩, ⟨⟨[95,108,97,119,95,105,110,107]⟩⟩, ⟨⟨[95,108,97,119,95,98,101,103,105,110]⟩⟩, ⟨⟨[95,108,97,119,95,101,110,100]⟩⟩, ⟨⟨[95,108,97,119,95,109,111,118,101,100]⟩⟩, ⟨⟨[95,108,97,119,95,97,104,101,97,100]⟩⟩, ⟨⟨[95,108,97,119,95,114,105,103,104,116]⟩⟩, ⟨⟨[95,108,97,119,95,102,111,114,109,115]⟩⟩, ⟨⟨[95,108,97,119,95,102,111,117,110,100]⟩⟩, ⟨⟨[95,108,97,119,95,105,110,116]⟩⟩, ⟨⟨[95,108,97,119,95,112,105,101,99,101]⟩⟩, ⟨⟨[108,97,119]⟩⟩, ⟨⟨[102,111,114,109,95,111,102]⟩⟩, ⟨⟨[117,110,108,105,107,101]⟩⟩, ⟨⟨[95,108,97,119,95,105,115,95,112,108,97,99,101]⟩⟩, ⟨⟨[95,108,97,119,95,110,117,109,98,101,114]⟩⟩, ⟨⟨[95,108,97,119,95,120]⟩⟩, ⟨⟨[95,108,97,119,95,121]⟩⟩, ⟨⟨[105,110,116]⟩⟩, ⟨⟨[95,108,97,119,95,115,105,103,110]⟩⟩, ⟨⟨[95,108,97,119,95,115,116,97,114,116]⟩⟩, ⟨⟨[95,108,97,119,95,109,111,115,116]⟩⟩, ⟨⟨[95,108,97,119,95,99,101,108,108,95,104,101,114,101]⟩⟩, ⟨⟨[95,108,97,119,95,104,101,97,100,105,110,103,115]⟩⟩, ⟨⟨[95,108,97,119,95,102,97,114]⟩⟩, ⟨⟨[95,108,97,119,95,105,110,107,115]⟩⟩, ⟨⟨[95,108,97,119,95,107]⟩⟩, ⟨⟨[109,97,120]⟩⟩, ⟨⟨[109,105,110]⟩⟩, ⟨⟨[95,108,97,119,95,104,101,97,100,105,110,103]⟩⟩, ⟨⟨[97,112,112,101,110,100]⟩⟩, ⟨⟨[95,108,97,119,95,109,105,120,101,100]⟩⟩, ⟨⟨[95,108,97,119,95,109,97,110,121]⟩⟩, ⟨⟨[95,108,97,119,95,114,101,115,116]⟩⟩, ⟨⟨[98,111,111,108]⟩⟩, ⟨⟨[95,108,97,119,95,97]⟩⟩, ⟨⟨[95,108,97,119,95,98]⟩⟩, ⟨⟨[95,108,97,119,95,109,111,114,101]⟩⟩, ⟨⟨[95,108,97,119,95,112,108,97,99,101]⟩⟩, ⟨⟨[95,108,97,119,95,115,116,101,112,115]⟩⟩, ⟨⟨[95,108,97,119,95,119,97,121,115]⟩⟩, ⟨⟨[95,108,97,119,95,101,97,115,116]⟩⟩, ⟨⟨[95,108,97,119,95,110,111,114,116,104]⟩⟩, ⟨⟨[115,116,114,111,107,101,115]⟩⟩, ⟨⟨[108,105,110,101,115]⟩⟩, ⟨⟨[108,105,110,101,115,95,111,102]⟩⟩, ⟨⟨[107,101,121]⟩⟩, ⟨⟨[115,116,97,114,116]⟩⟩, ⟨⟨[101,110,100]⟩⟩, ⟨⟨[108,111,119]⟩⟩, ⟨⟨[104,105,103,104]⟩⟩, ⟨⟨[98,97,114,101,95,112,105,101,99,101]⟩⟩, ⟨⟨[115,116,114,101,116,99,104]⟩⟩, ⟨⟨[111,116,104,101,114,115]⟩⟩, ⟨⟨[111,116,104,101,114,95,108,111,119]⟩⟩, ⟨⟨[111,116,104,101,114,95,104,105,103,104]⟩⟩, ⟨⟨[111,116,104,101,114,95,115,116,97,114,116]⟩⟩, ⟨⟨[111,116,104,101,114,95,101,110,100]⟩⟩, ⟨⟨[105,115,95,108,101,115,115]⟩⟩, ⟨⟨[109,111,114,101,95,111,102]⟩⟩, ⟨⟨[112,105,101,99,101]⟩⟩, ⟨⟨[103,101,116]⟩⟩, ⟨⟨[111,110,101]⟩⟩, ⟨⟨[111,116,104,101,114]⟩⟩, ⟨⟨[119,104,105,99,104]⟩⟩, ⟨⟨[95,95,110,97,109,101,95,95]⟩⟩, ⟨⟨[108,97,119,95,116,117,114,116,108,101,104,111,117,115,101,95,107,51,51,95,119,104,111,108,101,95,117,110,108,105,107,101]⟩⟩, ⟨⟨[97,115,105,100,101]⟩⟩, ⟨⟨[104,101,97,100,105,110,103]⟩⟩, ⟨⟨[112,108,97,99,101]⟩⟩, ⟨⟨[120]⟩⟩, ⟨⟨[121]⟩⟩, ⟨⟨[112,108,117,115]⟩⟩, ⟨⟨[116,105,109,101,115]⟩⟩, ⟨⟨[65,67,82,79,83,83]⟩⟩, ⟨⟨[108,105,110,101,95,111,102]⟩⟩, ⟨⟨[104,101,97,100,105,110,103,95,111,102]⟩⟩, ⟨⟨[97,108,111,110,103]⟩⟩, ⟨⟨[78,79,82,84,72]⟩⟩, ⟨⟨[115,116,114,101,116,99,104,95,111,102]⟩⟩, ⟨⟨[106,111,105,110,101,100]⟩⟩, ⟨⟨[115,116,114,101,116,99,104,101,115]⟩⟩, ⟨⟨[116,111,108,100]⟩⟩, ⟨⟨[105,110,95,111,114,100,101,114]⟩⟩, ⟨⟨[102,111,117,110,100]⟩⟩, ⟨⟨[105,110,107]⟩⟩, ⟨⟨[108,105,110,101]⟩⟩, ⟨⟨[115,101,116,100,101,102,97,117,108,116]⟩⟩, ⟨⟨[105,116,101,109,115]⟩⟩, ⟨⟨[115,105,103,110,95,111,102]⟩⟩, ⟨⟨[109,105,110,117,115]⟩⟩, ⟨⟨[106,111,105,110,101,100,95,105,110,95,111,114,100,101,114]⟩⟩, ⟨⟨[97,116]⟩⟩, ⟨⟨[114,111,119]⟩⟩, ⟨⟨[114,111,119,115]⟩⟩, ⟨⟨[112,97,114,116,115]⟩⟩, ⟨⟨[116,117,114,116,108,101,104,111,117,115,101,46,102,111,114,109,115]⟩⟩, ⟨⟨[101,97,115,116]⟩⟩, ⟨⟨[110,111,114,116,104]⟩⟩, ⟨⟨[78,79,84,72,73,78,71]⟩⟩, ⟨⟨[69,65,83,84]⟩⟩, ⟨⟨[78,79,82,84,72,95,69,65,83,84]⟩⟩, ⟨⟨[83,79,85,84,72,95,69,65,83,84]⟩⟩, ⟨⟨[110,117,109,98,101,114]⟩⟩, ⟨⟨[102,97,99,116,111,114]⟩⟩, ⟨⟨[115,105,103,110,95,111,102,95,105,110,116]⟩⟩, ⟨⟨[118,97,108,117,101]⟩⟩, ⟨⟨[102,105,114,115,116]⟩⟩, ⟨⟨[115,101,99,111,110,100]⟩⟩, ⟨⟨[116,117,114,116,108,101,104,111,117,115,101,46,102,108,111,111,114]⟩⟩, ⟨⟨[47,99,108,97,105,109,47,99,117,116,46,112,121]⟩⟩, ⟨⟨[95,95,100,111,99,95,95]⟩⟩, ⟨⟨[95,95,112,97,99,107,97,103,101,95,95]⟩⟩, ⟨⟨[95,95,108,111,97,100,101,114,95,95]⟩⟩, ⟨⟨[95,95,115,112,101,99,95,95]⟩⟩, ⟨⟨[95,95,97,110,110,111,116,97,116,105,111,110,115,95,95]⟩⟩, ⟨⟨[95,95,98,117,105,108,116,105,110,115,95,95]⟩⟩, ⟨⟨[95,95,102,105,108,101,95,95]⟩⟩, ⟨⟨[95,95,99,97,99,104,101,100,95,95]⟩⟩]
theorem hl : la = lb := by
 unfold la lb
 iterate 153 (refine nW (atom _ _ (by kernel_rfl) (by kernel_rfl)) ?_)
 rfl
noncomputable def Gp : { G : Str → Str → Str → Str → Str → Str → Str → Str → Str → Str → Str → Str → Str → Str → Str → Str → Str → Str → Str → Str → Str → Str → Str → Str → Str → Str → Str → Str → Str → Str → Str → Str → Str → Str → Str → Str → Str → Str → Str → Str → Str → Str → Str → Str → Str → Str → Str → Str → Str → Str → Str → Str → Str → Str → Str → Str → Str → Str → Str → Str → Str → Str → Str → Str → Str → Str → Str → Str → Str → Str → Str → Str → Str → Str → Str → Str → Str → Str → Str → Str → Str → Str → Str → Str → Str → Str → Str → Str → Str → Str → Str → Str → Str → Str → Str → Str → Str → Str → Str → Str → Str → Str → Str → Str → Str → Str → Str → Str → Str → Str → Str → Str → Str → Str → Str → Str → Str → Str → Str → Str → Str → Str → Str → Str → Str → Str → Str → Str → Str → Str → Str → Str → Str → Str → Str → Str → Str → Str → Str → Str → Str → Str → Str → Str → Str → Program // PySem.Challenge.pw_turtlehouse_k33_whole_unlike = G (Str.ofString "_law_within") (Str.ofString "_law_stroke") (Str.ofString "_law_others") (Str.ofString "_law_line_here") (Str.ofString "_law_line") (Str.ofString "_law_ends") (Str.ofString "_law_far_on") (Str.ofString "_law_other_here") (Str.ofString "_law_key") (Str.ofString "_law_gone") (Str.ofString "_law_strokes_here") (Str.ofString "_law_here") (Str.ofString "_law_some") (Str.ofString "_law_one") (Str.ofString ".0") (Str.ofString "_law_turn") (Str.ofString "range") (Str.ofString "len") (Str.ofString "fast") (Str.ofString "_law_is_form") (Str.ofString "_law_form") (Str.ofString "isinstance") (Str.ofString "tuple") (Str.ofString "list") (Str.ofString "sorted") (Str.ofString "_law_is_stroke") (Str.ofString "set") (Str.ofString "_law_other") (Str.ofString "_law_script") (Str.ofString "_law_row_here") (Str.ofString "_law_row") (Str.ofString "_law_cell") (Str.ofString "_law_strokes") (Str.ofString "reversed") (Str.ofString "_law_at") (Str.ofString "_law_ink") (Str.ofString "_law_begin") (Str.ofString "_law_end") (Str.ofString "_law_moved") (Str.ofString "_law_ahead") (Str.ofString "_law_right") (Str.ofString "_law_forms") (Str.ofString "_law_found") (Str.ofString "_law_int") (Str.ofString "_law_piece") (Str.ofString "law") (Str.ofString "form_of") (Str.ofString "unlike") (Str.ofString "_law_is_place") (Str.ofString "_law_number") (Str.ofString "_law_x") (Str.ofString "_law_y") (Str.ofString "int") (Str.ofString "_law_sign") (Str.ofString "_law_start") (Str.ofString "_law_most") (Str.ofString "_law_cell_here") (Str.ofString "_law_headings") (Str.ofString "_law_far") (Str.ofString "_law_inks") (Str.ofString "_law_k") (Str.ofString "max") (Str.ofString "min") (Str.ofString "_law_heading") (Str.ofString "append") (Str.ofString "_law_mixed") (Str.ofString "_law_many") (Str.ofString "_law_rest") (Str.ofString "bool") (Str.ofString "_law_a") (Str.ofString "_law_b") (Str.ofString "_law_more") (Str.ofString "_law_place") (Str.ofString "_law_steps") (Str.ofString "_law_ways") (Str.ofString "_law_east") (Str.ofString "_law_north") (Str.ofString "strokes") (Str.ofString "lines") (Str.ofString "lines_of") (Str.ofString "key") (Str.ofString "start") (Str.ofString "end") (Str.ofString "low") (Str.ofString "high") (Str.ofString "bare_piece") (Str.ofString "stretch") (Str.ofString "others") (Str.ofString "other_low") (Str.ofString "other_high") (Str.ofString "other_start") (Str.ofString "other_end") (Str.ofString "is_less") (Str.ofString "more_of") (Str.ofString "piece") (Str.ofString "get") (Str.ofString "one") (Str.ofString "other") (Str.ofString "which") (Str.ofString "__name__") (Str.ofString "law_turtlehouse_k33_whole_unlike") (Str.ofString "aside") (Str.ofString "heading") (Str.ofString "place") (Str.ofString "x") (Str.ofString "y") (Str.ofString "plus") (Str.ofString "times") (Str.ofString "ACROSS") (Str.ofString "line_of") (Str.ofString "heading_of") (Str.ofString "along") (Str.ofString "NORTH") (Str.ofString "stretch_of") (Str.ofString "joined") (Str.ofString "stretches") (Str.ofString "told") (Str.ofString "in_order") (Str.ofString "found") (Str.ofString "ink") (Str.ofString "line") (Str.ofString "setdefault") (Str.ofString "items") (Str.ofString "sign_of") (Str.ofString "minus") (Str.ofString "joined_in_order") (Str.ofString "at") (Str.ofString "row") (Str.ofString "rows") (Str.ofString "parts") (Str.ofString "turtlehouse.forms") (Str.ofString "east") (Str.ofString "north") (Str.ofString "NOTHING") (Str.ofString "EAST") (Str.ofString "NORTH_EAST") (Str.ofString "SOUTH_EAST") (Str.ofString "number") (Str.ofString "factor") (Str.ofString "sign_of_int") (Str.ofString "value") (Str.ofString "first") (Str.ofString "second") (Str.ofString "turtlehouse.floor") (Str.ofString "/claim/cut.py") } := ⟨_, by
 unfold PySem.Challenge.pw_turtlehouse_k33_whole_unlike
 generalize Str.ofString "_law_within" = s0
 generalize Str.ofString "_law_stroke" = s1
 generalize Str.ofString "_law_others" = s2
 generalize Str.ofString "_law_line_here" = s3
 generalize Str.ofString "_law_line" = s4
 generalize Str.ofString "_law_ends" = s5
 generalize Str.ofString "_law_far_on" = s6
 generalize Str.ofString "_law_other_here" = s7
 generalize Str.ofString "_law_key" = s8
 generalize Str.ofString "_law_gone" = s9
 generalize Str.ofString "_law_strokes_here" = s10
 generalize Str.ofString "_law_here" = s11
 generalize Str.ofString "_law_some" = s12
 generalize Str.ofString "_law_one" = s13
 generalize Str.ofString ".0" = s14
 generalize Str.ofString "_law_turn" = s15
 generalize Str.ofString "range" = s16
 generalize Str.ofString "len" = s17
 generalize Str.ofString "fast" = s18
 generalize Str.ofString "_law_is_form" = s19
 generalize Str.ofString "_law_form" = s20
 generalize Str.ofString "isinstance" = s21
 generalize Str.ofString "tuple" = s22
 generalize Str.ofString "list" = s23
 generalize Str.ofString "sorted" = s24
 generalize Str.ofString "_law_is_stroke" = s25
 generalize Str.ofString "set" = s26
 generalize Str.ofString "_law_other" = s27
 generalize Str.ofString "_law_script" = s28
 generalize Str.ofString "_law_row_here" = s29
 generalize Str.ofString "_law_row" = s30
 generalize Str.ofString "_law_cell" = s31
 generalize Str.ofString "_law_strokes" = s32
 generalize Str.ofString "reversed" = s33
 generalize Str.ofString "_law_at" = s34
 generalize Str.ofString "_law_ink" = s35
 generalize Str.ofString "_law_begin" = s36
 generalize Str.ofString "_law_end" = s37
 generalize Str.ofString "_law_moved" = s38
 generalize Str.ofString "_law_ahead" = s39
 generalize Str.ofString "_law_right" = s40
 generalize Str.ofString "_law_forms" = s41
 generalize Str.ofString "_law_found" = s42
 generalize Str.ofString "_law_int" = s43
 generalize Str.ofString "_law_piece" = s44
 generalize Str.ofString "law" = s45
 generalize Str.ofString "form_of" = s46
 generalize Str.ofString "unlike" = s47
 generalize Str.ofString "_law_is_place" = s48
 generalize Str.ofString "_law_number" = s49
 generalize Str.ofString "_law_x" = s50
 generalize Str.ofString "_law_y" = s51
 generalize Str.ofString "int" = s52
 generalize Str.ofString "_law_sign" = s53
 generalize Str.ofString "_law_start" = s54
 generalize Str.ofString "_law_most" = s55
 generalize Str.ofString "_law_cell_here" = s56
 generalize Str.ofString "_law_headings" = s57
 generalize Str.ofString "_law_far" = s58
 generalize Str.ofString "_law_inks" = s59
 generalize Str.ofString "_law_k" = s60
 generalize Str.ofString "max" = s61
 generalize Str.ofString "min" = s62
 generalize Str.ofString "_law_heading" = s63
 generalize Str.ofString "append" = s64
 generalize Str.ofString "_law_mixed" = s65
 generalize Str.ofString "_law_many" = s66
 generalize Str.ofString "_law_rest" = s67
 generalize Str.ofString "bool" = s68
 generalize Str.ofString "_law_a" = s69
 generalize Str.ofString "_law_b" = s70
 generalize Str.ofString "_law_more" = s71
 generalize Str.ofString "_law_place" = s72
 generalize Str.ofString "_law_steps" = s73
 generalize Str.ofString "_law_ways" = s74
 generalize Str.ofString "_law_east" = s75
 generalize Str.ofString "_law_north" = s76
 generalize Str.ofString "strokes" = s77
 generalize Str.ofString "lines" = s78
 generalize Str.ofString "lines_of" = s79
 generalize Str.ofString "key" = s80
 generalize Str.ofString "start" = s81
 generalize Str.ofString "end" = s82
 generalize Str.ofString "low" = s83
 generalize Str.ofString "high" = s84
 generalize Str.ofString "bare_piece" = s85
 generalize Str.ofString "stretch" = s86
 generalize Str.ofString "others" = s87
 generalize Str.ofString "other_low" = s88
 generalize Str.ofString "other_high" = s89
 generalize Str.ofString "other_start" = s90
 generalize Str.ofString "other_end" = s91
 generalize Str.ofString "is_less" = s92
 generalize Str.ofString "more_of" = s93
 generalize Str.ofString "piece" = s94
 generalize Str.ofString "get" = s95
 generalize Str.ofString "one" = s96
 generalize Str.ofString "other" = s97
 generalize Str.ofString "which" = s98
 generalize Str.ofString "__name__" = s99
 generalize Str.ofString "law_turtlehouse_k33_whole_unlike" = s100
 generalize Str.ofString "aside" = s101
 generalize Str.ofString "heading" = s102
 generalize Str.ofString "place" = s103
 generalize Str.ofString "x" = s104
 generalize Str.ofString "y" = s105
 generalize Str.ofString "plus" = s106
 generalize Str.ofString "times" = s107
 generalize Str.ofString "ACROSS" = s108
 generalize Str.ofString "line_of" = s109
 generalize Str.ofString "heading_of" = s110
 generalize Str.ofString "along" = s111
 generalize Str.ofString "NORTH" = s112
 generalize Str.ofString "stretch_of" = s113
 generalize Str.ofString "joined" = s114
 generalize Str.ofString "stretches" = s115
 generalize Str.ofString "told" = s116
 generalize Str.ofString "in_order" = s117
 generalize Str.ofString "found" = s118
 generalize Str.ofString "ink" = s119
 generalize Str.ofString "line" = s120
 generalize Str.ofString "setdefault" = s121
 generalize Str.ofString "items" = s122
 generalize Str.ofString "sign_of" = s123
 generalize Str.ofString "minus" = s124
 generalize Str.ofString "joined_in_order" = s125
 generalize Str.ofString "at" = s126
 generalize Str.ofString "row" = s127
 generalize Str.ofString "rows" = s128
 generalize Str.ofString "parts" = s129
 generalize Str.ofString "turtlehouse.forms" = s130
 generalize Str.ofString "east" = s131
 generalize Str.ofString "north" = s132
 generalize Str.ofString "NOTHING" = s133
 generalize Str.ofString "EAST" = s134
 generalize Str.ofString "NORTH_EAST" = s135
 generalize Str.ofString "SOUTH_EAST" = s136
 generalize Str.ofString "number" = s137
 generalize Str.ofString "factor" = s138
 generalize Str.ofString "sign_of_int" = s139
 generalize Str.ofString "value" = s140
 generalize Str.ofString "first" = s141
 generalize Str.ofString "second" = s142
 generalize Str.ofString "turtlehouse.floor" = s143
 generalize Str.ofString "/claim/cut.py" = s144
 exact rfl⟩
noncomputable def GL (l : List Str) : Program := Gp.1 (nm l 0) (nm l 1) (nm l 2) (nm l 3) (nm l 4) (nm l 5) (nm l 6) (nm l 7) (nm l 8) (nm l 9) (nm l 10) (nm l 11) (nm l 12) (nm l 13) (nm l 14) (nm l 15) (nm l 16) (nm l 17) (nm l 18) (nm l 19) (nm l 20) (nm l 21) (nm l 22) (nm l 23) (nm l 24) (nm l 25) (nm l 26) (nm l 27) (nm l 28) (nm l 29) (nm l 30) (nm l 31) (nm l 32) (nm l 33) (nm l 34) (nm l 35) (nm l 36) (nm l 37) (nm l 38) (nm l 39) (nm l 40) (nm l 41) (nm l 42) (nm l 43) (nm l 44) (nm l 45) (nm l 46) (nm l 47) (nm l 48) (nm l 49) (nm l 50) (nm l 51) (nm l 52) (nm l 53) (nm l 54) (nm l 55) (nm l 56) (nm l 57) (nm l 58) (nm l 59) (nm l 60) (nm l 61) (nm l 62) (nm l 63) (nm l 64) (nm l 65) (nm l 66) (nm l 67) (nm l 68) (nm l 69) (nm l 70) (nm l 71) (nm l 72) (nm l 73) (nm l 74) (nm l 75) (nm l 76) (nm l 77) (nm l 78) (nm l 79) (nm l 80) (nm l 81) (nm l 82) (nm l 83) (nm l 84) (nm l 85) (nm l 86) (nm l 87) (nm l 88) (nm l 89) (nm l 90) (nm l 91) (nm l 92) (nm l 93) (nm l 94) (nm l 95) (nm l 96) (nm l 97) (nm l 98) (nm l 99) (nm l 100) (nm l 101) (nm l 102) (nm l 103) (nm l 104) (nm l 105) (nm l 106) (nm l 107) (nm l 108) (nm l 109) (nm l 110) (nm l 111) (nm l 112) (nm l 113) (nm l 114) (nm l 115) (nm l 116) (nm l 117) (nm l 118) (nm l 119) (nm l 120) (nm l 121) (nm l 122) (nm l 123) (nm l 124) (nm l 125) (nm l 126) (nm l 127) (nm l 128) (nm l 129) (nm l 130) (nm l 131) (nm l 132) (nm l 133) (nm l 134) (nm l 135) (nm l 136) (nm l 137) (nm l 138) (nm l 139) (nm l 140) (nm l 141) (nm l 142) (nm l 143) (nm l 144)
theorem hp : PySem.Challenge.pw_turtlehouse_k33_whole_unlike = GL lb := Gp.2.trans (congrArg GL hl)
noncomputable def _root_.PySem.W.Fast.tw3345670096357526205 : Program := GL lb
theorem _root_.PySem.W.Fast.te3345670096357526205 : PySem.Challenge.pw_turtlehouse_k33_whole_unlike = PySem.W.Fast.tw3345670096357526205 := hp
noncomputable def KL (p : Program) (l : List Str) (P : Params) : PySem.W.Frag := [
 (3, ⟨(.type "dict"), none, .dict ⟨[de P (nm l 99) 165 (.str (nm l 100) 394), de P (nm l 145) 166 .none, de P (nm l 146) 167 .none, de P (nm l 147) 168 (.builtin "__main__.__loader__#opaque"), de P (nm l 148) 169 .none, de P (nm l 149) 170 (.ref 6), de P (nm l 150) 171 (.ref 4), de P (nm l 151) 173 (.str (nm l 144) 172), de P (nm l 152) 174 .none, de P (nm l 134) 190 (.int (0) 189), de P (nm l 135) 192 (.int (1) 191), de P (nm l 112) 194 (.int (2) 193), de P (nm l 136) 196 (.int (7) 195), de P (nm l 133) 199 (.ref 15), de P (nm l 106) 207 (.ref 22), de P (nm l 124) 215 (.ref 29), de P (nm l 107) 223 (.ref 36), de P (nm l 139) 230 (.ref 43), de P (nm l 123) 239 (.ref 50), de P (nm l 92) 247 (.ref 57), de P (nm l 125) 258 (.ref 64), de P (nm l 117) 264 (.ref 69), de P (nm l 108) 285 (.ref 70), de P (nm l 110) 295 (.ref 81), de P (nm l 101) 305 (.ref 88), de P (nm l 109) 314 (.ref 95), de P (nm l 111) 322 (.ref 102), de P (nm l 113) 331 (.ref 109), de P (nm l 114) 343 (.ref 116), de P (nm l 79) 349 (.ref 121), de P (nm l 46) 355 (.ref 126), de P (nm l 85) 371 (.ref 133), de P (nm l 93) 382 (.ref 140), de P (nm l 47) 393 (.ref 147), de P (nm l 31) 404 (.ref 154), de P (nm l 65) 413 (.ref 161), de P (nm l 30) 419 (.ref 166), de P (nm l 43) 426 (.ref 173), de P (nm l 53) 436 (.ref 180), de P (nm l 38) 451 (.ref 187), de P (nm l 48) 459 (.ref 194), de P (nm l 4) 469 (.ref 201), de P (nm l 6) 479 (.ref 208), de P (nm l 8) 486 (.ref 215), de P (nm l 32) 505 (.ref 222), de P (nm l 25) 513 (.ref 229), de P (nm l 0) 524 (.ref 236), de P (nm l 9) 530 (.ref 241), de P (nm l 19) 536 (.ref 246), de P (nm l 27) 550 (.ref 253), de P (nm l 40) 561 (.ref 260), de P (nm l 45) 572 (.ref 267)]⟩ 52, ⟨[]⟩⟩),
 (15, ⟨(.type "tuple"), none, .seq ⟨[(.int (0) 197), (.int (0) 198)]⟩ 0, ⟨[]⟩⟩),
 (21, ⟨(.type "code"), none, .fields ⟨[(.str (nm l 106) 200), (.str (nm l 106) 201), (.str (nm l 144) 202), (.int (7) 0), (.int (2) 0), (.int (0) 0), (.int (0) 0), (.int (3) 0), (.ref 16), (.bool true), (.int (181) 0), (.ref 17), .none, (.ref 18), (.ref 19), (.ref 20), (.int (205) 0), (.int (7) 0), (.str (nm l 144) 206)]⟩, ⟨[]⟩⟩),
 (22, fnO p (nm l 106) 6 .none .none (.str (nm l 143) 187) none (.ref 21) .none),
 (28, ⟨(.type "code"), none, .fields ⟨[(.str (nm l 124) 208), (.str (nm l 124) 209), (.str (nm l 144) 210), (.int (9) 0), (.int (2) 0), (.int (0) 0), (.int (0) 0), (.int (3) 0), (.ref 23), (.bool true), (.int (181) 0), (.ref 24), .none, (.ref 25), (.ref 26), (.ref 27), (.int (213) 0), (.int (9) 0), (.str (nm l 144) 214)]⟩, ⟨[]⟩⟩),
 (29, fnO p (nm l 124) 7 .none .none (.str (nm l 143) 187) none (.ref 28) .none),
 (35, ⟨(.type "code"), none, .fields ⟨[(.str (nm l 107) 216), (.str (nm l 107) 217), (.str (nm l 144) 218), (.int (11) 0), (.int (2) 0), (.int (0) 0), (.int (0) 0), (.int (3) 0), (.ref 30), (.bool true), (.int (181) 0), (.ref 31), .none, (.ref 32), (.ref 33), (.ref 34), (.int (221) 0), (.int (11) 0), (.str (nm l 144) 222)]⟩, ⟨[]⟩⟩),
 (36, fnO p (nm l 107) 8 .none .none (.str (nm l 143) 187) none (.ref 35) .none),
 (42, ⟨(.type "code"), none, .fields ⟨[(.str (nm l 139) 224), (.str (nm l 139) 225), (.str (nm l 144) 226), (.int (13) 0), (.int (1) 0), (.int (0) 0), (.int (0) 0), (.int (3) 0), (.ref 37), (.bool true), (.int (181) 0), (.ref 38), .none, (.ref 39), (.ref 40), (.ref 41), (.int (228) 0), (.int (13) 0), (.str (nm l 144) 229)]⟩, ⟨[]⟩⟩),
 (43, fnO p (nm l 139) 9 .none .none (.str (nm l 143) 187) none (.ref 42) .none),
 (49, ⟨(.type "code"), none, .fields ⟨[(.str (nm l 123) 231), (.str (nm l 123) 232), (.str (nm l 144) 233), (.int (19) 0), (.int (1) 0), (.int (0) 0), (.int (0) 0), (.int (3) 0), (.ref 44), (.bool true), (.int (181) 0), (.ref 45), .none, (.ref 46), (.ref 47), (.ref 48), (.int (237) 0), (.int (19) 0), (.str (nm l 144) 238)]⟩, ⟨[]⟩⟩),
 (50, fnO p (nm l 123) 10 .none .none (.str (nm l 143) 187) none (.ref 49) .none),
 (56, ⟨(.type "code"), none, .fields ⟨[(.str (nm l 92) 240), (.str (nm l 92) 241), (.str (nm l 144) 242), (.int (26) 0), (.int (2) 0), (.int (0) 0), (.int (0) 0), (.int (3) 0), (.ref 51), (.bool true), (.int (181) 0), (.ref 52), .none, (.ref 53), (.ref 54), (.ref 55), (.int (245) 0), (.int (26) 0), (.str (nm l 144) 246)]⟩, ⟨[]⟩⟩),
 (57, fnO p (nm l 92) 11 .none .none (.str (nm l 143) 187) none (.ref 56) .none),
 (63, ⟨(.type "code"), none, .fields ⟨[(.str (nm l 125) 248), (.str (nm l 125) 249), (.str (nm l 144) 250), (.int (28) 0), (.int (2) 0), (.int (0) 0), (.int (0) 0), (.int (3) 0), (.ref 58), (.bool true), (.int (181) 0), (.ref 59), .none, (.ref 60), (.ref 61), (.ref 62), (.int (256) 0), (.int (28) 0), (.str (nm l 144) 257)]⟩, ⟨[]⟩⟩),
 (64, fnO p (nm l 125) 12 .none .none (.str (nm l 143) 187) none (.ref 63) .none),
 (68, ⟨(.type "code"), none, .fields ⟨[(.str (nm l 117) 259), (.str (nm l 117) 260), (.str (nm l 144) 261), (.int (37) 0), (.int (1) 0), (.int (0) 0), (.int (0) 0), (.int (3) 0), (.ref 65), (.bool true), (.int (181) 0), (.ref 66), .none, .none, .none, (.ref 67), (.int (262) 0), (.int (37) 0), (.str (nm l 144) 263)]⟩, ⟨[]⟩⟩),
 (69, fnO p (nm l 117) 13 .none .none (.str (nm l 143) 187) none (.ref 68) .none),
 (70, ⟨(.type "dict"), none, .dict ⟨[⟨0, (.int (0) 267), (.ref 71)⟩, ⟨1, (.int (1) 270), (.ref 72)⟩, ⟨2, (.int (2) 274), (.ref 73)⟩, ⟨7, (.int (7) 278), (.ref 74)⟩]⟩ 4, ⟨[]⟩⟩),
 (71, ⟨(.type "tuple"), none, .seq ⟨[(.int (0) 268), (.int (1) 269)]⟩ 0, ⟨[]⟩⟩),
 (72, ⟨(.type "tuple"), none, .seq ⟨[(.int (-1) 272), (.int (1) 273)]⟩ 0, ⟨[]⟩⟩),
 (73, ⟨(.type "tuple"), none, .seq ⟨[(.int (-1) 276), (.int (0) 277)]⟩ 0, ⟨[]⟩⟩),
 (74, ⟨(.type "tuple"), none, .seq ⟨[(.int (1) 279), (.int (1) 280)]⟩ 0, ⟨[]⟩⟩),
 (80, ⟨(.type "code"), none, .fields ⟨[(.str (nm l 110) 286), (.str (nm l 110) 287), (.str (nm l 144) 288), (.int (46) 0), (.int (2) 0), (.int (0) 0), (.int (0) 0), (.int (3) 0), (.ref 75), (.bool true), (.int (181) 0), (.ref 76), .none, (.ref 77), (.ref 78), (.ref 79), (.int (293) 0), (.int (46) 0), (.str (nm l 144) 294)]⟩, ⟨[]⟩⟩),
 (81, fnO p (nm l 110) 16 .none .none (.str (nm l 130) 265) none (.ref 80) .none),
 (87, ⟨(.type "code"), none, .fields ⟨[(.str (nm l 101) 296), (.str (nm l 101) 297), (.str (nm l 144) 298), (.int (54) 0), (.int (2) 0), (.int (0) 0), (.int (0) 0), (.int (3) 0), (.ref 82), (.bool true), (.int (181) 0), (.ref 83), .none, (.ref 84), (.ref 85), (.ref 86), (.int (303) 0), (.int (54) 0), (.str (nm l 144) 304)]⟩, ⟨[]⟩⟩),
 (88, fnO p (nm l 101) 17 .none .none (.str (nm l 130) 265) none (.ref 87) .none),
 (94, ⟨(.type "code"), none, .fields ⟨[(.str (nm l 109) 306), (.str (nm l 109) 307), (.str (nm l 144) 308), (.int (57) 0), (.int (2) 0), (.int (0) 0), (.int (0) 0), (.int (3) 0), (.ref 89), (.bool true), (.int (181) 0), (.ref 90), .none, (.ref 91), (.ref 92), (.ref 93), (.int (312) 0), (.int (57) 0), (.str (nm l 144) 313)]⟩, ⟨[]⟩⟩),
 (95, fnO p (nm l 109) 18 .none .none (.str (nm l 130) 265) none (.ref 94) .none),
 (101, ⟨(.type "code"), none, .fields ⟨[(.str (nm l 111) 315), (.str (nm l 111) 316), (.str (nm l 144) 317), (.int (60) 0), (.int (2) 0), (.int (0) 0), (.int (0) 0), (.int (3) 0), (.ref 96), (.bool true), (.int (181) 0), (.ref 97), .none, (.ref 98), (.ref 99), (.ref 100), (.int (320) 0), (.int (60) 0), (.str (nm l 144) 321)]⟩, ⟨[]⟩⟩),
 (102, fnO p (nm l 111) 19 .none .none (.str (nm l 130) 265) none (.ref 101) .none),
 (108, ⟨(.type "code"), none, .fields ⟨[(.str (nm l 113) 323), (.str (nm l 113) 324), (.str (nm l 144) 325), (.int (62) 0), (.int (3) 0), (.int (0) 0), (.int (0) 0), (.int (3) 0), (.ref 103), (.bool true), (.int (181) 0), (.ref 104), .none, (.ref 105), (.ref 106), (.ref 107), (.int (329) 0), (.int (62) 0), (.str (nm l 144) 330)]⟩, ⟨[]⟩⟩),
 (109, fnO p (nm l 113) 20 .none .none (.str (nm l 130) 265) none (.ref 108) .none),
 (115, ⟨(.type "code"), none, .fields ⟨[(.str (nm l 114) 332), (.str (nm l 114) 333), (.str (nm l 144) 334), (.int (66) 0), (.int (1) 0), (.int (0) 0), (.int (0) 0), (.int (3) 0), (.ref 110), (.bool true), (.int (181) 0), (.ref 111), .none, (.ref 112), (.ref 113), (.ref 114), (.int (341) 0), (.int (66) 0), (.str (nm l 144) 342)]⟩, ⟨[]⟩⟩),
 (116, fnO p (nm l 114) 21 .none .none (.str (nm l 130) 265) none (.ref 115) .none),
 (120, ⟨(.type "code"), none, .fields ⟨[(.str (nm l 79) 344), (.str (nm l 79) 345), (.str (nm l 144) 346), (.int (74) 0), (.int (1) 0), (.int (0) 0), (.int (0) 0), (.int (3) 0), (.ref 117), (.bool true), (.int (181) 0), (.ref 118), .none, .none, .none, (.ref 119), (.int (347) 0), (.int (74) 0), (.str (nm l 144) 348)]⟩, ⟨[]⟩⟩),
 (121, fnO p (nm l 79) 22 .none .none (.str (nm l 130) 265) none (.ref 120) .none),
 (125, ⟨(.type "code"), none, .fields ⟨[(.str (nm l 46) 350), (.str (nm l 46) 351), (.str (nm l 144) 352), (.int (80) 0), (.int (1) 0), (.int (0) 0), (.int (0) 0), (.int (3) 0), (.ref 122), (.bool true), (.int (181) 0), (.ref 123), .none, .none, .none, (.ref 124), (.int (353) 0), (.int (80) 0), (.str (nm l 144) 354)]⟩, ⟨[]⟩⟩),
 (126, fnO p (nm l 46) 23 .none .none (.str (nm l 130) 265) none (.ref 125) .none),
 (132, ⟨(.type "code"), none, .fields ⟨[(.str (nm l 85) 356), (.str (nm l 85) 357), (.str (nm l 144) 358), (.int (83) 0), (.int (2) 0), (.int (0) 0), (.int (0) 0), (.int (3) 0), (.ref 127), (.bool true), (.int (181) 0), (.ref 128), .none, (.ref 129), (.ref 130), (.ref 131), (.int (369) 0), (.int (83) 0), (.str (nm l 144) 370)]⟩, ⟨[]⟩⟩),
 (133, fnO p (nm l 85) 24 .none .none (.str (nm l 130) 265) none (.ref 132) .none),
 (139, ⟨(.type "code"), none, .fields ⟨[(.str (nm l 93) 372), (.str (nm l 93) 373), (.str (nm l 144) 374), (.int (95) 0), (.int (2) 0), (.int (0) 0), (.int (0) 0), (.int (3) 0), (.ref 134), (.bool true), (.int (181) 0), (.ref 135), .none, (.ref 136), (.ref 137), (.ref 138), (.int (380) 0), (.int (95) 0), (.str (nm l 144) 381)]⟩, ⟨[]⟩⟩),
 (140, fnO p (nm l 93) 25 .none .none (.str (nm l 130) 265) none (.ref 139) .none),
 (146, ⟨(.type "code"), none, .fields ⟨[(.str (nm l 47) 383), (.str (nm l 47) 384), (.str (nm l 144) 385), (.int (102) 0), (.int (2) 0), (.int (0) 0), (.int (0) 0), (.int (3) 0), (.ref 141), (.bool true), (.int (181) 0), (.ref 142), .none, (.ref 143), (.ref 144), (.ref 145), (.int (391) 0), (.int (102) 0), (.str (nm l 144) 392)]⟩, ⟨[]⟩⟩),
 (147, fnO p (nm l 47) 26 .none .none (.str (nm l 130) 265) none (.ref 146) .none),
 (153, ⟨(.type "code"), none, .fields ⟨[(.str (nm l 31) 396), (.str (nm l 31) 397), (.str (nm l 144) 398), (.int (110) 0), (.int (2) 0), (.int (0) 0), (.int (0) 0), (.int (3) 0), (.ref 148), (.bool true), (.int (181) 0), (.ref 149), .none, (.ref 150), (.ref 151), (.ref 152), (.int (402) 0), (.int (110) 0), (.str (nm l 144) 403)]⟩, ⟨[]⟩⟩),
 (154, fnO p (nm l 31) 28 .none .none (.str (nm l 100) 394) none (.ref 153) .none),
 (160, ⟨(.type "code"), none, .fields ⟨[(.str (nm l 65) 405), (.str (nm l 65) 406), (.str (nm l 144) 407), (.int (117) 0), (.int (2) 0), (.int (0) 0), (.int (0) 0), (.int (3) 0), (.ref 155), (.bool true), (.int (181) 0), (.ref 156), .none, (.ref 157), (.ref 158), (.ref 159), (.int (411) 0), (.int (117) 0), (.str (nm l 144) 412)]⟩, ⟨[]⟩⟩),
 (161, fnO p (nm l 65) 29 .none .none (.str (nm l 100) 394) none (.ref 160) .none),
 (165, ⟨(.type "code"), none, .fields ⟨[(.str (nm l 30) 414), (.str (nm l 30) 415), (.str (nm l 144) 416), (.int (122) 0), (.int (3) 0), (.int (0) 0), (.int (0) 0), (.int (3) 0), (.ref 162), (.bool true), (.int (181) 0), (.ref 163), .none, .none, .none, (.ref 164), (.int (417) 0), (.int (122) 0), (.str (nm l 144) 418)]⟩, ⟨[]⟩⟩),
 (166, fnO p (nm l 30) 30 .none .none (.str (nm l 100) 394) none (.ref 165) .none),
 (172, ⟨(.type "code"), none, .fields ⟨[(.str (nm l 43) 420), (.str (nm l 43) 421), (.str (nm l 144) 422), (.int (131) 0), (.int (1) 0), (.int (0) 0), (.int (0) 0), (.int (3) 0), (.ref 167), (.bool true), (.int (181) 0), (.ref 168), .none, (.ref 169), (.ref 170), (.ref 171), (.int (424) 0), (.int (131) 0), (.str (nm l 144) 425)]⟩, ⟨[]⟩⟩),
 (173, fnO p (nm l 43) 31 .none .none (.str (nm l 100) 394) none (.ref 172) .none),
 (179, ⟨(.type "code"), none, .fields ⟨[(.str (nm l 53) 427), (.str (nm l 53) 428), (.str (nm l 144) 429), (.int (133) 0), (.int (1) 0), (.int (0) 0), (.int (0) 0), (.int (3) 0), (.ref 174), (.bool true), (.int (181) 0), (.ref 175), .none, (.ref 176), (.ref 177), (.ref 178), (.int (434) 0), (.int (133) 0), (.str (nm l 144) 435)]⟩, ⟨[]⟩⟩),
 (180, fnO p (nm l 53) 32 .none .none (.str (nm l 100) 394) none (.ref 179) .none),
 (186, ⟨(.type "code"), none, .fields ⟨[(.str (nm l 38) 437), (.str (nm l 38) 438), (.str (nm l 144) 439), (.int (141) 0), (.int (3) 0), (.int (0) 0), (.int (0) 0), (.int (3) 0), (.ref 181), (.bool true), (.int (181) 0), (.ref 182), .none, (.ref 183), (.ref 184), (.ref 185), (.int (449) 0), (.int (141) 0), (.str (nm l 144) 450)]⟩, ⟨[]⟩⟩),
 (187, fnO p (nm l 38) 33 .none .none (.str (nm l 100) 394) none (.ref 186) .none),
 (193, ⟨(.type "code"), none, .fields ⟨[(.str (nm l 48) 452), (.str (nm l 48) 453), (.str (nm l 144) 454), (.int (149) 0), (.int (1) 0), (.int (0) 0), (.int (0) 0), (.int (3) 0), (.ref 188), (.bool true), (.int (181) 0), (.ref 189), .none, (.ref 190), (.ref 191), (.ref 192), (.int (457) 0), (.int (149) 0), (.str (nm l 144) 458)]⟩, ⟨[]⟩⟩),
 (194, fnO p (nm l 48) 34 .none .none (.str (nm l 100) 394) none (.ref 193) .none),
 (200, ⟨(.type "code"), none, .fields ⟨[(.str (nm l 4) 460), (.str (nm l 4) 461), (.str (nm l 144) 462), (.int (158) 0), (.int (2) 0), (.int (0) 0), (.int (0) 0), (.int (3) 0), (.ref 195), (.bool true), (.int (181) 0), (.ref 196), .none, (.ref 197), (.ref 198), (.ref 199), (.int (467) 0), (.int (158) 0), (.str (nm l 144) 468)]⟩, ⟨[]⟩⟩),
 (201, fnO p (nm l 4) 35 .none .none (.str (nm l 100) 394) none (.ref 200) .none),
 (207, ⟨(.type "code"), none, .fields ⟨[(.str (nm l 6) 470), (.str (nm l 6) 471), (.str (nm l 144) 472), (.int (170) 0), (.int (3) 0), (.int (0) 0), (.int (0) 0), (.int (3) 0), (.ref 202), (.bool true), (.int (181) 0), (.ref 203), .none, (.ref 204), (.ref 205), (.ref 206), (.int (477) 0), (.int (170) 0), (.str (nm l 144) 478)]⟩, ⟨[]⟩⟩),
 (208, fnO p (nm l 6) 36 .none .none (.str (nm l 100) 394) none (.ref 207) .none),
 (214, ⟨(.type "code"), none, .fields ⟨[(.str (nm l 8) 480), (.str (nm l 8) 481), (.str (nm l 144) 482), (.int (173) 0), (.int (1) 0), (.int (0) 0), (.int (0) 0), (.int (3) 0), (.ref 209), (.bool true), (.int (181) 0), (.ref 210), .none, (.ref 211), (.ref 212), (.ref 213), (.int (484) 0), (.int (173) 0), (.str (nm l 144) 485)]⟩, ⟨[]⟩⟩),
 (215, fnO p (nm l 8) 37 .none .none (.str (nm l 100) 394) none (.ref 214) .none),
 (221, ⟨(.type "code"), none, .fields ⟨[(.str (nm l 32) 487), (.str (nm l 32) 488), (.str (nm l 144) 489), (.int (175) 0), (.int (3) 0), (.int (0) 0), (.int (0) 0), (.int (3) 0), (.ref 216), (.bool true), (.int (181) 0), (.ref 217), .none, (.ref 218), (.ref 219), (.ref 220), (.int (503) 0), (.int (175) 0), (.str (nm l 144) 504)]⟩, ⟨[]⟩⟩),
 (222, fnO p (nm l 32) 38 .none .none (.str (nm l 100) 394) none (.ref 221) .none),
 (228, ⟨(.type "code"), none, .fields ⟨[(.str (nm l 25) 506), (.str (nm l 25) 507), (.str (nm l 144) 508), (.int (190) 0), (.int (1) 0), (.int (0) 0), (.int (0) 0), (.int (3) 0), (.ref 223), (.bool true), (.int (181) 0), (.ref 224), .none, (.ref 225), (.ref 226), (.ref 227), (.int (511) 0), (.int (190) 0), (.str (nm l 144) 512)]⟩, ⟨[]⟩⟩),
 (229, fnO p (nm l 25) 39 .none .none (.str (nm l 100) 394) none (.ref 228) .none),
 (235, ⟨(.type "code"), none, .fields ⟨[(.str (nm l 0) 514), (.str (nm l 0) 515), (.str (nm l 144) 516), (.int (197) 0), (.int (2) 0), (.int (0) 0), (.int (0) 0), (.int (3) 0), (.ref 230), (.bool true), (.int (181) 0), (.ref 231), .none, (.ref 232), (.ref 233), (.ref 234), (.int (522) 0), (.int (197) 0), (.str (nm l 144) 523)]⟩, ⟨[]⟩⟩),
 (236, fnO p (nm l 0) 40 .none .none (.str (nm l 100) 394) none (.ref 235) .none),
 (240, ⟨(.type "code"), none, .fields ⟨[(.str (nm l 9) 525), (.str (nm l 9) 526), (.str (nm l 144) 527), (.int (207) 0), (.int (2) 0), (.int (0) 0), (.int (0) 0), (.int (3) 0), (.ref 237), (.bool true), (.int (181) 0), (.ref 238), .none, .none, .none, (.ref 239), (.int (528) 0), (.int (207) 0), (.str (nm l 144) 529)]⟩, ⟨[]⟩⟩),
 (241, fnO p (nm l 9) 41 .none .none (.str (nm l 100) 394) none (.ref 240) .none),
 (245, ⟨(.type "code"), none, .fields ⟨[(.str (nm l 19) 531), (.str (nm l 19) 532), (.str (nm l 144) 533), (.int (219) 0), (.int (2) 0), (.int (0) 0), (.int (0) 0), (.int (3) 0), (.ref 242), (.bool true), (.int (181) 0), (.ref 243), .none, .none, .none, (.ref 244), (.int (534) 0), (.int (219) 0), (.str (nm l 144) 535)]⟩, ⟨[]⟩⟩),
 (246, fnO p (nm l 19) 42 .none .none (.str (nm l 100) 394) none (.ref 245) .none),
 (252, ⟨(.type "code"), none, .fields ⟨[(.str (nm l 27) 537), (.str (nm l 27) 538), (.str (nm l 144) 539), (.int (231) 0), (.int (2) 0), (.int (0) 0), (.int (0) 0), (.int (3) 0), (.ref 247), (.bool true), (.int (181) 0), (.ref 248), .none, (.ref 249), (.ref 250), (.ref 251), (.int (548) 0), (.int (231) 0), (.str (nm l 144) 549)]⟩, ⟨[]⟩⟩),
 (253, fnO p (nm l 27) 43 .none .none (.str (nm l 100) 394) none (.ref 252) .none),
 (259, ⟨(.type "code"), none, .fields ⟨[(.str (nm l 40) 551), (.str (nm l 40) 552), (.str (nm l 144) 553), (.int (247) 0), (.int (2) 0), (.int (0) 0), (.int (0) 0), (.int (3) 0), (.ref 254), (.bool true), (.int (181) 0), (.ref 255), .none, (.ref 256), (.ref 257), (.ref 258), (.int (559) 0), (.int (247) 0), (.str (nm l 144) 560)]⟩, ⟨[]⟩⟩),
 (260, fnO p (nm l 40) 44 .none .none (.str (nm l 100) 394) none (.ref 259) .none),
 (266, ⟨(.type "code"), none, .fields ⟨[(.str (nm l 45) 562), (.str (nm l 45) 563), (.str (nm l 144) 564), (.int (261) 0), (.int (1) 0), (.int (0) 0), (.int (0) 0), (.int (3) 0), (.ref 261), (.bool true), (.int (181) 0), (.ref 262), .none, (.ref 263), (.ref 264), (.ref 265), (.int (570) 0), (.int (261) 0), (.str (nm l 144) 571)]⟩, ⟨[]⟩⟩),
 (267, fnO p (nm l 45) 45 .none .none (.str (nm l 100) 394) none (.ref 266) .none)]
noncomputable def loose (l : List Str) : List Str := [nm l 134, nm l 135, nm l 112, nm l 136, nm l 133, nm l 106, nm l 124, nm l 107, nm l 139, nm l 123, nm l 92, nm l 125, nm l 117, nm l 108, nm l 110, nm l 101, nm l 109, nm l 111, nm l 113, nm l 114, nm l 79, nm l 46, nm l 85, nm l 93, nm l 47, nm l 31, nm l 65, nm l 30, nm l 43, nm l 53, nm l 38, nm l 48, nm l 4, nm l 6, nm l 8, nm l 32, nm l 25, nm l 0, nm l 9, nm l 19, nm l 27, nm l 40]
noncomputable def vw (p : Program) : Program := PySem.W.view p [45]
noncomputable def ad : List Addr := [3, 15, 21, 22, 28, 29, 35, 36, 42, 43, 49, 50, 56, 57, 63, 64, 68, 69, 70, 71, 72, 73, 74, 80, 81, 87, 88, 94, 95, 101, 102, 108, 109, 115, 116, 120, 121, 125, 126, 132, 133, 139, 140, 146, 147, 153, 154, 160, 161, 165, 166, 172, 173, 179, 180, 186, 187, 193, 194, 200, 201, 207, 208, 214, 215, 221, 222, 228, 229, 235, 236, 240, 241, 245, 246, 252, 253, 259, 260, 266, 267]
noncomputable abbrev yf (s : Shared) : List (Option Obj) := ad.map s.heap.get?
noncomputable abbrev ya (p : Program) (l : List Str) (w : World) : List (Option Obj) := (KL p l w.params).map fun x => some x.2
abbrev aG (p : Program) (l : List Str) (w : World) : Prop := XD p (vw p) (loose l) (fun s => PySem.W.recOk [] s) yf (ya p l) 2748 w
theorem run0 (w : World) : aG (GL lb) lb (w.withFollow "special-get-raises" false) := by unfold aG XD; kernel_rfl
theorem run1 (w : World) : aG (GL lb) lb (w.withFollow "special-get-raises" true) := by unfold aG XD; kernel_rfl
theorem left : PySem.W.LeftO PySem.Challenge.pw_turtlehouse_k33_whole_unlike (vw PySem.Challenge.pw_turtlehouse_k33_whole_unlike) (loose la) (fun s => PySem.W.recOk [] s) yf (ya PySem.Challenge.pw_turtlehouse_k33_whole_unlike la) 2748 :=
 tr2 (C := fun p l => PySem.W.LeftO p (vw p) (loose l) (fun s => PySem.W.recOk [] s) yf (ya p l) 2748) hp hl
  (ZJ (by kernel_rfl) (by kernel_rfl) (fun s => by kernel_rfl) (PySem.W.byRow2 "special-get-raises" (P := fun w => aG (GL lb) lb w) run0 run1))
def CV (p : Program) (l : List Str) (P : Params) (x i f c m t : Nat) : Prop := PySem.W.nsIn (KL p l P) mainGlobals (nm l x) = some (some (.ref f)) ∧ (KL p l P).lookup f = some (fnO p (nm l x) i .none .none (.str (nm l m) t) none (.ref c) .none) ∧ PySem.W.codeIn (KL p l P) (.ref c) (nm l x) = true ∧ PySem.W.keepIn (KL p l P) (.ref f) = true
theorem BW {P : Params} (x i f c m t : Nat) (h : CV (GL lb) lb P x i f c m t) : CV PySem.Challenge.pw_turtlehouse_k33_whole_unlike la P x i f c m t := tr2 (C := fun p l => CV p l P x i f c m t) hp hl h
theorem ns_in {P : Params} (x : Nat) (v : Option Value) (h : PySem.W.nsIn (KL (GL lb) lb P) mainGlobals (nm lb x) = some v) : PySem.W.nsIn (KL PySem.Challenge.pw_turtlehouse_k33_whole_unlike la P) mainGlobals (nm la x) = some v := tr2 (C := fun p l => PySem.W.nsIn (KL p l P) mainGlobals (nm l x) = some v) hp hl h
theorem ff0 (P : Params) : CV PySem.Challenge.pw_turtlehouse_k33_whole_unlike la P 106 6 22 21 143 187 := BW 106 6 22 21 143 187 ⟨by kernel_rfl, by kernel_rfl, by kernel_rfl, by kernel_rfl⟩
theorem ff1 (P : Params) : CV PySem.Challenge.pw_turtlehouse_k33_whole_unlike la P 124 7 29 28 143 187 := BW 124 7 29 28 143 187 ⟨by kernel_rfl, by kernel_rfl, by kernel_rfl, by kernel_rfl⟩
theorem ff2 (P : Params) : CV PySem.Challenge.pw_turtlehouse_k33_whole_unlike la P 107 8 36 35 143 187 := BW 107 8 36 35 143 187 ⟨by kernel_rfl, by kernel_rfl, by kernel_rfl, by kernel_rfl⟩
theorem ff3 (P : Params) : CV PySem.Challenge.pw_turtlehouse_k33_whole_unlike la P 139 9 43 42 143 187 := BW 139 9 43 42 143 187 ⟨by kernel_rfl, by kernel_rfl, by kernel_rfl, by kernel_rfl⟩
theorem ff4 (P : Params) : CV PySem.Challenge.pw_turtlehouse_k33_whole_unlike la P 123 10 50 49 143 187 := BW 123 10 50 49 143 187 ⟨by kernel_rfl, by kernel_rfl, by kernel_rfl, by kernel_rfl⟩
theorem ff5 (P : Params) : CV PySem.Challenge.pw_turtlehouse_k33_whole_unlike la P 92 11 57 56 143 187 := BW 92 11 57 56 143 187 ⟨by kernel_rfl, by kernel_rfl, by kernel_rfl, by kernel_rfl⟩
theorem ff6 (P : Params) : CV PySem.Challenge.pw_turtlehouse_k33_whole_unlike la P 125 12 64 63 143 187 := BW 125 12 64 63 143 187 ⟨by kernel_rfl, by kernel_rfl, by kernel_rfl, by kernel_rfl⟩
theorem ff7 (P : Params) : CV PySem.Challenge.pw_turtlehouse_k33_whole_unlike la P 117 13 69 68 143 187 := BW 117 13 69 68 143 187 ⟨by kernel_rfl, by kernel_rfl, by kernel_rfl, by kernel_rfl⟩
theorem ff8 (P : Params) : CV PySem.Challenge.pw_turtlehouse_k33_whole_unlike la P 110 16 81 80 130 265 := BW 110 16 81 80 130 265 ⟨by kernel_rfl, by kernel_rfl, by kernel_rfl, by kernel_rfl⟩
theorem ff9 (P : Params) : CV PySem.Challenge.pw_turtlehouse_k33_whole_unlike la P 101 17 88 87 130 265 := BW 101 17 88 87 130 265 ⟨by kernel_rfl, by kernel_rfl, by kernel_rfl, by kernel_rfl⟩
theorem ff10 (P : Params) : CV PySem.Challenge.pw_turtlehouse_k33_whole_unlike la P 109 18 95 94 130 265 := BW 109 18 95 94 130 265 ⟨by kernel_rfl, by kernel_rfl, by kernel_rfl, by kernel_rfl⟩
theorem ff11 (P : Params) : CV PySem.Challenge.pw_turtlehouse_k33_whole_unlike la P 111 19 102 101 130 265 := BW 111 19 102 101 130 265 ⟨by kernel_rfl, by kernel_rfl, by kernel_rfl, by kernel_rfl⟩
theorem ff12 (P : Params) : CV PySem.Challenge.pw_turtlehouse_k33_whole_unlike la P 113 20 109 108 130 265 := BW 113 20 109 108 130 265 ⟨by kernel_rfl, by kernel_rfl, by kernel_rfl, by kernel_rfl⟩
theorem ff13 (P : Params) : CV PySem.Challenge.pw_turtlehouse_k33_whole_unlike la P 114 21 116 115 130 265 := BW 114 21 116 115 130 265 ⟨by kernel_rfl, by kernel_rfl, by kernel_rfl, by kernel_rfl⟩
theorem ff14 (P : Params) : CV PySem.Challenge.pw_turtlehouse_k33_whole_unlike la P 79 22 121 120 130 265 := BW 79 22 121 120 130 265 ⟨by kernel_rfl, by kernel_rfl, by kernel_rfl, by kernel_rfl⟩
theorem ff15 (P : Params) : CV PySem.Challenge.pw_turtlehouse_k33_whole_unlike la P 46 23 126 125 130 265 := BW 46 23 126 125 130 265 ⟨by kernel_rfl, by kernel_rfl, by kernel_rfl, by kernel_rfl⟩
theorem ff16 (P : Params) : CV PySem.Challenge.pw_turtlehouse_k33_whole_unlike la P 85 24 133 132 130 265 := BW 85 24 133 132 130 265 ⟨by kernel_rfl, by kernel_rfl, by kernel_rfl, by kernel_rfl⟩
theorem ff17 (P : Params) : CV PySem.Challenge.pw_turtlehouse_k33_whole_unlike la P 93 25 140 139 130 265 := BW 93 25 140 139 130 265 ⟨by kernel_rfl, by kernel_rfl, by kernel_rfl, by kernel_rfl⟩
theorem ff18 (P : Params) : CV PySem.Challenge.pw_turtlehouse_k33_whole_unlike la P 47 26 147 146 130 265 := BW 47 26 147 146 130 265 ⟨by kernel_rfl, by kernel_rfl, by kernel_rfl, by kernel_rfl⟩
theorem ff19 (P : Params) : CV PySem.Challenge.pw_turtlehouse_k33_whole_unlike la P 31 28 154 153 100 394 := BW 31 28 154 153 100 394 ⟨by kernel_rfl, by kernel_rfl, by kernel_rfl, by kernel_rfl⟩
theorem ff20 (P : Params) : CV PySem.Challenge.pw_turtlehouse_k33_whole_unlike la P 65 29 161 160 100 394 := BW 65 29 161 160 100 394 ⟨by kernel_rfl, by kernel_rfl, by kernel_rfl, by kernel_rfl⟩
theorem ff21 (P : Params) : CV PySem.Challenge.pw_turtlehouse_k33_whole_unlike la P 30 30 166 165 100 394 := BW 30 30 166 165 100 394 ⟨by kernel_rfl, by kernel_rfl, by kernel_rfl, by kernel_rfl⟩
theorem ff22 (P : Params) : CV PySem.Challenge.pw_turtlehouse_k33_whole_unlike la P 43 31 173 172 100 394 := BW 43 31 173 172 100 394 ⟨by kernel_rfl, by kernel_rfl, by kernel_rfl, by kernel_rfl⟩
theorem ff23 (P : Params) : CV PySem.Challenge.pw_turtlehouse_k33_whole_unlike la P 53 32 180 179 100 394 := BW 53 32 180 179 100 394 ⟨by kernel_rfl, by kernel_rfl, by kernel_rfl, by kernel_rfl⟩
theorem ff24 (P : Params) : CV PySem.Challenge.pw_turtlehouse_k33_whole_unlike la P 38 33 187 186 100 394 := BW 38 33 187 186 100 394 ⟨by kernel_rfl, by kernel_rfl, by kernel_rfl, by kernel_rfl⟩
theorem ff25 (P : Params) : CV PySem.Challenge.pw_turtlehouse_k33_whole_unlike la P 48 34 194 193 100 394 := BW 48 34 194 193 100 394 ⟨by kernel_rfl, by kernel_rfl, by kernel_rfl, by kernel_rfl⟩
theorem ff26 (P : Params) : CV PySem.Challenge.pw_turtlehouse_k33_whole_unlike la P 4 35 201 200 100 394 := BW 4 35 201 200 100 394 ⟨by kernel_rfl, by kernel_rfl, by kernel_rfl, by kernel_rfl⟩
theorem ff27 (P : Params) : CV PySem.Challenge.pw_turtlehouse_k33_whole_unlike la P 6 36 208 207 100 394 := BW 6 36 208 207 100 394 ⟨by kernel_rfl, by kernel_rfl, by kernel_rfl, by kernel_rfl⟩
theorem ff28 (P : Params) : CV PySem.Challenge.pw_turtlehouse_k33_whole_unlike la P 8 37 215 214 100 394 := BW 8 37 215 214 100 394 ⟨by kernel_rfl, by kernel_rfl, by kernel_rfl, by kernel_rfl⟩
theorem ff29 (P : Params) : CV PySem.Challenge.pw_turtlehouse_k33_whole_unlike la P 32 38 222 221 100 394 := BW 32 38 222 221 100 394 ⟨by kernel_rfl, by kernel_rfl, by kernel_rfl, by kernel_rfl⟩
theorem ff30 (P : Params) : CV PySem.Challenge.pw_turtlehouse_k33_whole_unlike la P 25 39 229 228 100 394 := BW 25 39 229 228 100 394 ⟨by kernel_rfl, by kernel_rfl, by kernel_rfl, by kernel_rfl⟩
theorem ff31 (P : Params) : CV PySem.Challenge.pw_turtlehouse_k33_whole_unlike la P 0 40 236 235 100 394 := BW 0 40 236 235 100 394 ⟨by kernel_rfl, by kernel_rfl, by kernel_rfl, by kernel_rfl⟩
theorem ff32 (P : Params) : CV PySem.Challenge.pw_turtlehouse_k33_whole_unlike la P 9 41 241 240 100 394 := BW 9 41 241 240 100 394 ⟨by kernel_rfl, by kernel_rfl, by kernel_rfl, by kernel_rfl⟩
theorem ff33 (P : Params) : CV PySem.Challenge.pw_turtlehouse_k33_whole_unlike la P 19 42 246 245 100 394 := BW 19 42 246 245 100 394 ⟨by kernel_rfl, by kernel_rfl, by kernel_rfl, by kernel_rfl⟩
theorem ff34 (P : Params) : CV PySem.Challenge.pw_turtlehouse_k33_whole_unlike la P 27 43 253 252 100 394 := BW 27 43 253 252 100 394 ⟨by kernel_rfl, by kernel_rfl, by kernel_rfl, by kernel_rfl⟩
theorem ff35 (P : Params) : CV PySem.Challenge.pw_turtlehouse_k33_whole_unlike la P 40 44 260 259 100 394 := BW 40 44 260 259 100 394 ⟨by kernel_rfl, by kernel_rfl, by kernel_rfl, by kernel_rfl⟩
theorem ff36 (P : Params) : CV PySem.Challenge.pw_turtlehouse_k33_whole_unlike la P 45 45 267 266 100 394 := BW 45 45 267 266 100 394 ⟨by kernel_rfl, by kernel_rfl, by kernel_rfl, by kernel_rfl⟩
end Hd
open PySem PySem.W PyProof.Rows
set_option maxRecDepth 100000 in
set_option maxHeartbeats 0 in
theorem PySem.Challenge.cw_turtlehouse_k33_whole_unlike_holds : PySem.Challenge.rw_turtlehouse_k33_whole_unlike.Holds := by
 w_on; o_law
 refine PySem.W.holds_open (r := PySem.Challenge.rw_turtlehouse_k33_whole_unlike.row) (q := Hd.vw PySem.Challenge.pw_turtlehouse_k33_whole_unlike) (loose := Hd.loose Hd.la) (Xt := fun s => recOk [] s) (XP := fun _ _ => True) (Yf := Hd.yf) (Ya := Hd.ya PySem.Challenge.pw_turtlehouse_k33_whole_unlike Hd.la) (YP := InK (Hd.KL PySem.Challenge.pw_turtlehouse_k33_whole_unlike Hd.la)) (N := 2748) Hd.left (InK.of fun P => by kernel_rfl) InK.keeps (fun _ _ => trivial) (fun _ _ _ _ _ => trivial) (by rfl) (by rfl) (by rfl) (fun _ e => recFacts_of e) (by rfl) (by assumption) (by decide +kernel) ⟨rfl, rfl, rfl, rfl, rfl, by decide +kernel⟩ ?hw ?hc
 case hw => w_witness2
 case hc =>
  refine My.walk (l := PySem.Challenge.rw_turtlehouse_k33_whole_unlike) rfl rfl (fun w h Y => Y) ?F
  intro w mg fa h KX G hmg
  exact My.all_mk KX G hmg (Hd.ff0 _).1 (Hd.ff0 _).2.1 (Hd.ff0 _).2.2.1 (Hd.ff0 _).2.2.2 (Hd.ff1 _).1 (Hd.ff1 _).2.1 (Hd.ff1 _).2.2.1 (Hd.ff1 _).2.2.2 (Hd.ff2 _).1 (Hd.ff2 _).2.1 (Hd.ff2 _).2.2.1 (Hd.ff2 _).2.2.2 (Hd.ff3 _).1 (Hd.ff3 _).2.1 (Hd.ff3 _).2.2.1 (Hd.ff3 _).2.2.2 (Hd.ff4 _).1 (Hd.ff4 _).2.1 (Hd.ff4 _).2.2.1 (Hd.ff4 _).2.2.2 (Hd.ff5 _).1 (Hd.ff5 _).2.1 (Hd.ff5 _).2.2.1 (Hd.ff5 _).2.2.2 (Hd.ff6 _).1 (Hd.ff6 _).2.1 (Hd.ff6 _).2.2.1 (Hd.ff6 _).2.2.2 (Hd.ff7 _).1 (Hd.ff7 _).2.1 (Hd.ff7 _).2.2.1 (Hd.ff7 _).2.2.2 (Hd.ff8 _).1 (Hd.ff8 _).2.1 (Hd.ff8 _).2.2.1 (Hd.ff8 _).2.2.2 (Hd.ff9 _).1 (Hd.ff9 _).2.1 (Hd.ff9 _).2.2.1 (Hd.ff9 _).2.2.2 (Hd.ff10 _).1 (Hd.ff10 _).2.1 (Hd.ff10 _).2.2.1 (Hd.ff10 _).2.2.2 (Hd.ff11 _).1 (Hd.ff11 _).2.1 (Hd.ff11 _).2.2.1 (Hd.ff11 _).2.2.2 (Hd.ff12 _).1 (Hd.ff12 _).2.1 (Hd.ff12 _).2.2.1 (Hd.ff12 _).2.2.2 (Hd.ff13 _).1 (Hd.ff13 _).2.1 (Hd.ff13 _).2.2.1 (Hd.ff13 _).2.2.2 (Hd.ff14 _).1 (Hd.ff14 _).2.1 (Hd.ff14 _).2.2.1 (Hd.ff14 _).2.2.2 (Hd.ff15 _).1 (Hd.ff15 _).2.1 (Hd.ff15 _).2.2.1 (Hd.ff15 _).2.2.2 (Hd.ff16 _).1 (Hd.ff16 _).2.1 (Hd.ff16 _).2.2.1 (Hd.ff16 _).2.2.2 (Hd.ff17 _).1 (Hd.ff17 _).2.1 (Hd.ff17 _).2.2.1 (Hd.ff17 _).2.2.2 (Hd.ff18 _).1 (Hd.ff18 _).2.1 (Hd.ff18 _).2.2.1 (Hd.ff18 _).2.2.2 (Hd.ff19 _).1 (Hd.ff19 _).2.1 (Hd.ff19 _).2.2.1 (Hd.ff19 _).2.2.2 (Hd.ff20 _).1 (Hd.ff20 _).2.1 (Hd.ff20 _).2.2.1 (Hd.ff20 _).2.2.2 (Hd.ff21 _).1 (Hd.ff21 _).2.1 (Hd.ff21 _).2.2.1 (Hd.ff21 _).2.2.2 (Hd.ff22 _).1 (Hd.ff22 _).2.1 (Hd.ff22 _).2.2.1 (Hd.ff22 _).2.2.2 (Hd.ff23 _).1 (Hd.ff23 _).2.1 (Hd.ff23 _).2.2.1 (Hd.ff23 _).2.2.2 (Hd.ff24 _).1 (Hd.ff24 _).2.1 (Hd.ff24 _).2.2.1 (Hd.ff24 _).2.2.2 (Hd.ff25 _).1 (Hd.ff25 _).2.1 (Hd.ff25 _).2.2.1 (Hd.ff25 _).2.2.2 (Hd.ff26 _).1 (Hd.ff26 _).2.1 (Hd.ff26 _).2.2.1 (Hd.ff26 _).2.2.2 (Hd.ff27 _).1 (Hd.ff27 _).2.1 (Hd.ff27 _).2.2.1 (Hd.ff27 _).2.2.2 (Hd.ff28 _).1 (Hd.ff28 _).2.1 (Hd.ff28 _).2.2.1 (Hd.ff28 _).2.2.2 (Hd.ff29 _).1 (Hd.ff29 _).2.1 (Hd.ff29 _).2.2.1 (Hd.ff29 _).2.2.2 (Hd.ff30 _).1 (Hd.ff30 _).2.1 (Hd.ff30 _).2.2.1 (Hd.ff30 _).2.2.2 (Hd.ff31 _).1 (Hd.ff31 _).2.1 (Hd.ff31 _).2.2.1 (Hd.ff31 _).2.2.2 (Hd.ff32 _).1 (Hd.ff32 _).2.1 (Hd.ff32 _).2.2.1 (Hd.ff32 _).2.2.2 (Hd.ff33 _).1 (Hd.ff33 _).2.1 (Hd.ff33 _).2.2.1 (Hd.ff33 _).2.2.2 (Hd.ff34 _).1 (Hd.ff34 _).2.1 (Hd.ff34 _).2.2.1 (Hd.ff34 _).2.2.2 (Hd.ff35 _).1 (Hd.ff35 _).2.1 (Hd.ff35 _).2.2.1 (Hd.ff35 _).2.2.2 (Hd.ff36 _).1 (Hd.ff36 _).2.1 (Hd.ff36 _).2.2.1 (Hd.ff36 _).2.2.2 (Hd.ns_in 68 none (by kernel_rfl)) (Hd.ns_in 52 none (by kernel_rfl)) (Hd.ns_in 21 none (by kernel_rfl)) (Hd.ns_in 17 none (by kernel_rfl)) (Hd.ns_in 23 none (by kernel_rfl)) (Hd.ns_in 61 none (by kernel_rfl)) (Hd.ns_in 62 none (by kernel_rfl)) (Hd.ns_in 16 none (by kernel_rfl)) (Hd.ns_in 33 none (by kernel_rfl)) (Hd.ns_in 26 none (by kernel_rfl)) (Hd.ns_in 24 none (by kernel_rfl)) (Hd.ns_in 22 none (by kernel_rfl)) (Hd.ns_in 134 (some (.int (0) 189)) (by kernel_rfl)) (by kernel_rfl) (Hd.ns_in 135 (some (.int (1) 191)) (by kernel_rfl)) (by kernel_rfl) (Hd.ns_in 112 (some (.int (2) 193)) (by kernel_rfl)) (by kernel_rfl) (Hd.ns_in 136 (some (.int (7) 195)) (by kernel_rfl)) (by kernel_rfl) (Hd.ns_in 133 (some (.ref 15)) (by kernel_rfl)) (by kernel_rfl) (Hd.ns_in 108 (some (.ref 70)) (by kernel_rfl)) (by kernel_rfl)
