import PyProof.Rows.All
import Wide.All
import OpenK.AllK
import Wide.FinOn
import Lean
import PyProof.EqAt
import PyProof.EqKinds
import PyProof.TupleCall
import PyProof.NeKinds
import PyProof.MeetsDict
import PyProof.TupleOfGen
import PyProof.CollectIter
import KE.KRevIter
import PyProof.ZipIter
import PyProof.DictItems
import PyProof.DictWalks
import KE.KPairComp
import KE.KSortTup
import PyProof.Rows.SetFrom
import PyProof.WalksMore
import PySem.Challenge.RW_turtlehouse_k54_whole_backwards
set_option Elab.async false
set_option linter.all false
set_option maxRecDepth 100000
set_option maxHeartbeats 4000000
namespace L2
open PySem PySem.Spec PyProof.Rows
abbrev Key := Sum Int Str
def aG : Key → Value → Bool
 | .inl k, v => Value.isInt k v
 | .inr x, v => Value.isStrOf x v
def keyH (w : World) : Key → Int
 | .inl k => hashInt k
 | .inr x => hashStr w x
theorem CJ : ∀ {k : Key} {v : Value}, aG k v = true → (∃ i t, k = Sum.inl i ∧ v = Value.int i t) ∨ (∃ x t, k = Sum.inr x ∧ v = Value.str x t)
 | .inl i, v, h => by
  obtain ⟨t, e⟩ := Value.isInt_shape (k := i) (v := v) h
  exact .inl ⟨i, t, rfl, e⟩
 | .inr x, v, h => by
  obtain ⟨t, e⟩ := Value.isStrOf_shape (x := x) (v := v) h
  exact .inr ⟨x, t, rfl, e⟩
theorem cB (a b : Int) : decide ((Sum.inl a : Key) = Sum.inl b) = (a == b) := by
 by_cases e : a = b
 ·subst e; simp
 ·have h : ¬ (Sum.inl a : Key) = Sum.inl b := fun q => e (Sum.inl.inj q)
  rw [decide_eq_false h]
  exact (beq_eq_false_iff_ne.mpr e).symm
theorem bH (a b : Str) : decide ((Sum.inr a : Key) = Sum.inr b) = decide (a = b) := by
 by_cases e : a = b
 ·subst e; simp
 ·have h : ¬ (Sum.inr a : Key) = Sum.inr b := fun q => e (Sum.inr.inj q)
  rw [decide_eq_false h, decide_eq_false e]
theorem bK (a : Int) (b : Str) : decide ((Sum.inl a : Key) = Sum.inr b) = false := decide_eq_false (fun q => nomatch q)
theorem aX (a : Str) (b : Int) : decide ((Sum.inr a : Key) = Sum.inl b) = false := decide_eq_false (fun q => nomatch q)
def MT (prog : Program) (w : World) : PySem.KeyKind prog w Key where
 is := aG
 hash := keyH w
 inj := fun v a b ha hb => by
  rcases CJ ha with ⟨i, t, rfl, rfl⟩ | ⟨x, t, rfl, rfl⟩
  ·rcases CJ hb with ⟨j, u, rfl, e⟩ | ⟨y, u, rfl, e⟩
   ·injection e with e1 _; rw [e1]
   ·exact nomatch e
  ·rcases CJ hb with ⟨j, u, rfl, e⟩ | ⟨y, u, rfl, e⟩
   ·exact nomatch e
   ·injection e with e1 _; rw [e1]
 byValue := fun k v h => by
  rcases CJ h with ⟨i, t, rfl, rfl⟩ | ⟨x, t, rfl, rfl⟩ <;> rfl
 pyHash := fun hv h => by
  rcases CJ hv with ⟨i, t, rfl, rfl⟩ | ⟨x, t, rfl, rfl⟩
  ·exact wpAny_pyHash_int h
  ·exact wpAny_pyHash_str h
 eqBool := fun hu hv h => by
  rcases CJ hu with ⟨i, t, rfl, rfl⟩ | ⟨x, t, rfl, rfl⟩
  ·rcases CJ hv with ⟨j, u, rfl, rfl⟩ | ⟨y, u, rfl, rfl⟩
   ·rw [cB] at h; exact wpAny_eqBool_int h
   ·rw [bK] at h; exact SeqAt.EqAt.int_str i t y u _ _ _ _ h
  ·rcases CJ hv with ⟨j, u, rfl, rfl⟩ | ⟨y, u, rfl, rfl⟩
   ·rw [aX] at h; exact SeqAt.EqAt.str_int x t j u _ _ _ _ h
   ·rw [bH] at h; exact wpAny_eqBool_str h
 «strs» := fun k x t v h => by
  rcases CJ h with ⟨i, u, rfl, e⟩ | ⟨y, u, rfl, e⟩
  ·exact nomatch e
  ·injection e with e1 _
   subst e1
   cases v <;> rfl
inductive V where
 | non | bl (b : Bool) | int (i : Int) | str (x : Str) | byt (b : Array UInt8) | flt (b : UInt64) | ref (a : Addr) | ty (n : String)
 deriving DecidableEq
def BF : V → Value → Prop
 | .non, u => u = Value.none
 | .bl b, u => u = Value.bool b
 | .int i, u => ∃ t, u = Value.int i t
 | .str x, u => ∃ t, u = Value.str x t
 | .byt b, u => ∃ t, u = Value.bytes b t
 | .flt b, u => ∃ t, u = Value.float b t
 | .ref a, u => u = Value.ref a
 | .ty n, u => u = Value.type n
abbrev AO : List V → List Value → Prop := Paired BF
theorem AO.length {xs : List V} {us : List Value} (r : AO xs us) : xs.length = us.length := Paired.length r
theorem AO.get : ∀ {xs : List V} {us : List Value} {i : Nat} {x : V}, AO xs us → xs[i]? = some x → ∃ u, us[i]? = some u ∧ BF x u
 | _, _, _, _, .nil, e => by simp at e
 | _, _, 0, _, .cons r _, e => by simp at e; subst e; exact ⟨_, rfl, r⟩
 | _, _, i + 1, x, .cons _ t, e => by
  obtain ⟨u, h1, h2⟩ := AO.get (i := i) (x := x) t (by simpa using e)
  exact ⟨u, by simpa using h1, h2⟩
theorem AO.set {x : V} {u : Value} (r : BF x u) : ∀ {xs : List V} {us : List Value} (i : Nat), AO xs us → AO (xs.set i x) (us.set i u)
 | _, _, _, .nil => .nil
 | _, _, 0, .cons _ t => .cons r t
 | _, _, i + 1, .cons q t => .cons q (AO.set r i t)
theorem AO.append : ∀ {xs ys : List V} {us ws : List Value}, AO xs us → AO ys ws → AO (xs ++ ys) (us ++ ws)
 | _, _, _, _, .nil, s => s
 | _, _, _, _, .cons r t, s => .cons r (AO.append t s)
theorem AO.take : ∀ {xs : List V} {us : List Value} (n : Nat), AO xs us → AO (xs.take n) (us.take n)
 | _, _, 0, _ => .nil
 | _, _, _ + 1, .nil => .nil
 | _, _, n + 1, .cons r t => .cons r (AO.take n t)
theorem AO.drop : ∀ {xs : List V} {us : List Value} (n : Nat), AO xs us → AO (xs.drop n) (us.drop n)
 | _, _, 0, r => r
 | _, _, _ + 1, .nil => .nil
 | _, _, n + 1, .cons _ t => AO.drop n t
theorem AO.none_of : ∀ {xs : List V} {us : List Value} {i : Nat}, AO xs us → xs[i]? = none → us[i]? = none := fun {xs us i} r e => by
 have h1 := r.length
 have h2 : xs.length ≤ i := List.getElem?_eq_none_iff.mp e
 exact List.getElem?_eq_none_iff.mpr (by omega)
def LN : Option V → Option Value → Prop
 | some v, some u => BF v u
 | none, none => True
 | _, _ => False
def KV {κ : Type} : List (κ × V) → List (κ × Value) → Prop := Paired fun (p : κ × V) (q : κ × Value) => p.1 = q.1 ∧ BF p.2 q.2
def kV : Key → V
 | .inl i => .int i
 | .inr x => .str x
inductive HO where
 | lst (xs : List V)
 | tup (xs : List V)
 | dK (kvs : List (Key × V)) | dT (kvs : List (List Key × V))
 | set (S : Int → Bool) (n : Nat)
 | ins (C dx : Addr) (fs : List (Str × V))
 | own (x : Addr)
 | xd (fs : List (Str × V))
 | met (f x : Addr)
 | rng (lo hi : Int)
 | frz (o : Obj) (u : HO)
 | tbl (ps : Array Value)
 | ext (φ : Heap → Prop)
abbrev Hp := Addr → Option HO
def upd (H : Hp) (a : Addr) (o : HO) : Hp := fun b => if b = a then some o else H b
theorem AB {H : Hp} {a : Addr} {o : HO} : upd H a o a = some o := by unfold upd; rw [if_pos rfl]
theorem AH {H : Hp} {a b : Addr} {o : HO} (h : b ≠ a) : upd H a o b = H b := by unfold upd; rw [if_neg h]
theorem RM {H : Hp} {a : Addr} {o u : HO} : upd (upd H a o) a u = upd H a u := by
 funext b; unfold upd; split <;> rfl
theorem DA {H : Hp} {a b : Addr} {o : HO} (h : H a = some o) (h' : H b = none) : a ≠ b := by
 intro e; subst e; rw [h] at h'; cases h'
section
variable (P : Program) (w : World)
def CZ (H : Hp) (h : Heap) (a : Addr) : HO → Prop
 | .lst xs => xs.length ≤ sizeLine ∧ ∃ (its : List Value) (n : Nat), AO xs its ∧ h.get? a = some { cls := .type "list", data := .seq its.toArray n }
 | .tup xs => xs.length ≤ sizeLine ∧ ∃ its : List Value, AO xs its ∧ IsTup h a its.toArray
 | .dK kvs => kvs.length ≤ sizeLine ∧ (a == sysModules) = false ∧ ∃ vs, KV kvs vs ∧ h.DictOf (MT P w) a vs
 | .dT kvs => kvs.length ≤ sizeLine ∧ (a == sysModules) = false ∧ ∃ xs : List (List Key × Addr × Value),
   Paired (fun (p : List Key × V) (q : List Key × Addr × Value) => p.1 = q.1 ∧ H q.2.1 = some (.tup (p.1.map kV)) ∧ BF p.2 q.2.2) kvs xs ∧
   ∃ o es ep, h.get? a = some o ∧ o.ExactDict ∧ o.data = .dict es ep ∧ es.toList = xs.map (entryOfKey (tupleKind (MT P w))) ∧ (xs.map (·.1)).Nodup
 | .set S n => h.SetOf (intKind P w) a S n
 | .ins C dx fs => H dx = some (.own a) ∧ fs.length ≤ 1000 ∧ dx ≠ a ∧ h.get? a = some (PySem.W.instObj C dx) ∧
   ∃ mA, h.Ns1 dx mA ∧ (∀ f, LN (fs.lookup f) (mA f)) ∧ PySem.Within mA (fs.map (·.1))
 | .own _ => ∃ o, h.get? a = some o
 | .xd fs => ∃ mA, h.Ns1 a mA ∧ ∀ f, LN (fs.lookup f) (mA f)
 | .rng lo hi => ∃ t u v, h.get? a = some { cls := .type "range", data := .fields #[.int lo t, .int hi u, .int 1 v] }
 | .frz o u => h.get? a = some o ∧ CZ H h a u
 | .tbl ps => h.get? a = some { cls := .none, data := .fields ps }
 | .met f x => h.get? a = some (PySem.W.methodObj (.ref f) (.ref x))
 | .ext φ => φ h ∧ (∃ o, h.get? a = some o) ∧ ∀ h1 h2 : Heap, φ h1 → (∀ o, h1.get? a = some o → h2.get? a = some o) → φ h2
def HOk (H : Hp) (h : Heap) : Prop := ∀ a o, H a = some o → CZ P w H h a o
end
section
variable {P : Program} {w : World} {H H' : Hp} {h h' : Heap} {a : Addr} {o : HO}
theorem CZ.lt (x : CZ P w H h a o) : a < h.objs.size := by
 cases o with
 | lst xs => obtain ⟨_, _, _, _, e⟩ := x; exact Heap.lt_size e
 | tup xs => obtain ⟨_, _, _, p⟩ := x; exact p.lt
 | dK kvs => obtain ⟨_, _, _, _, o, _, _, e, _⟩ := x; exact Heap.lt_size e
 | dT kvs => obtain ⟨_, _, _, _, o, _, _, e, _⟩ := x; exact Heap.lt_size e
 | set S n => obtain ⟨o, _, _, _, e, _⟩ := x; exact Heap.lt_size e
 | ins C dx fs => obtain ⟨_, _, _, e, _⟩ := x; exact Heap.lt_size e
 | own y => obtain ⟨_, e⟩ := x; exact Heap.lt_size e
 | xd fs => obtain ⟨_, ⟨_, _, _, e, _⟩, _⟩ := x; exact Heap.lt_size e
 | rng lo hi => obtain ⟨_, _, _, e⟩ := x; exact Heap.lt_size e
 | frz ob u => obtain ⟨e, _⟩ := x; exact Heap.lt_size e
 | tbl ps => exact Heap.lt_size (show h.get? a = some _ from x)
 | met f y => exact Heap.lt_size (show h.get? a = some _ from x)
 | ext φ => obtain ⟨_, ⟨_, e⟩, _⟩ := x; exact Heap.lt_size e
theorem Paired.mapP {α β : Type} {F G : α → β → Prop} : ∀ {l₁ : List α} {l₂ : List β}, Paired F l₁ l₂ → (∀ a b, F a b → G a b) → Paired G l₁ l₂
 | _, _, .nil, _ => .nil
 | _, _, .cons r t, f => .cons (f _ _ r) (Paired.mapP t f)
theorem CZ.stay (x : CZ P w H h a o) (k : ∀ b u, (b = a ∨ H b = some (.own a)) → h.get? b = some u → h'.get? b = some u)
  (ho : ∀ b, H b = some (.own a) → H' b = some (.own a)) (ht : ∀ b xs, H b = some (.tup xs) → H' b = some (.tup xs)) : CZ P w H' h' a o := by
 induction o with
 | lst xs => obtain ⟨z, its, n, r, e⟩ := x; exact ⟨z, its, n, r, k _ _ (.inl rfl) e⟩
 | tup xs => obtain ⟨z, its, r, ob, e, c⟩ := x; exact ⟨z, its, r, ob, k _ _ (.inl rfl) e, c⟩
 | dK kvs => obtain ⟨z, y, vs, r, ob, es, ep, e, c⟩ := x; exact ⟨z, y, vs, r, ob, es, ep, k _ _ (.inl rfl) e, c⟩
 | dT kvs =>
  obtain ⟨z, y, xs, r, ob, es, ep, e, c⟩ := x
  exact ⟨z, y, xs, Paired.mapP r fun p q z => ⟨z.1, ht _ _ z.2.1, z.2.2⟩, ob, es, ep, k _ _ (.inl rfl) e, c⟩
 | set S n => obtain ⟨ob, es, ep, t, e, c⟩ := x; exact ⟨ob, es, ep, t, k _ _ (.inl rfl) e, c⟩
 | ins C dx fs =>
  obtain ⟨d, z, ne, e, mA, ⟨od, es, ep, e2, c⟩, r⟩ := x
  exact ⟨ho _ d, z, ne, k _ _ (.inl rfl) e, mA, ⟨od, es, ep, k _ _ (.inr d) e2, c⟩, r⟩
 | own y => obtain ⟨ob, e⟩ := x; exact ⟨ob, k _ _ (.inl rfl) e⟩
 | xd fs => obtain ⟨mA, ⟨od, es, ep, e, c⟩, r⟩ := x; exact ⟨mA, ⟨od, es, ep, k _ _ (.inl rfl) e, c⟩, r⟩
 | rng lo hi => obtain ⟨t, u, v, e⟩ := x; exact ⟨t, u, v, k _ _ (.inl rfl) e⟩
 | frz ob u ih => obtain ⟨e, q⟩ := x; exact ⟨k _ _ (.inl rfl) e, ih q⟩
 | tbl ps =>
  have e : h.get? a = some { cls := .none, data := .fields ps } := x
  show h'.get? a = some { cls := .none, data := .fields ps }
  exact k a _ (.inl rfl) e
 | met f y =>
  have e : h.get? a = some (PySem.W.methodObj (.ref f) (.ref y)) := x
  show h'.get? a = some (PySem.W.methodObj (.ref f) (.ref y))
  exact k a _ (.inl rfl) e
 | ext φ => obtain ⟨p, ⟨o, e⟩, st⟩ := x; exact ⟨st _ _ p fun o q => k _ _ (.inl rfl) q, ⟨o, k _ _ (.inl rfl) e⟩, st⟩
theorem HOk.lt (x : HOk P w H h) (e : H a = some o) : a < h.objs.size := (x a o e).lt
theorem HOk.fresh (x : HOk P w H h) (e : h.objs.size ≤ a) : H a = none := by
 cases q : H a with
 | none => rfl
 | some u => exact absurd (Nat.lt_of_lt_of_le (x.lt q) e) (Nat.lt_irrefl _)
theorem HOk.kept (x : HOk P w H h) (k : ∀ b u, h.get? b = some u → h'.get? b = some u) : HOk P w H h' := fun a o e =>
 (x a o e).stay (fun b u _ q => k b u q) (fun _ q => q) fun _ _ q => q
theorem HOk.laid (x : HOk P w H h) (k : ∀ b u, h.get? b = some u → h'.get? b = some u) (hp : h.objs.size ≤ a) (new : CZ P w (upd H a o) h' a o) : HOk P w (upd H a o) h' := fun b u e => by
 have hn := x.fresh hp
 by_cases hb : b = a
 ·subst hb; rw [AB] at e; cases e; exact new
 ·rw [AH hb] at e
  exact (x b u e).stay (fun c v _ q => k c v q) (fun c q => by rw [AH (DA q hn)]; exact q) fun c xs q => by rw [AH (DA q hn)]; exact q
end
def Rd (H : Hp) (a : Addr) (u : HO) : Prop := H a = some u ∨ ∃ o, H a = some (.frz o u)
theorem Rd.ok {P : Program} {w : World} {H : Hp} {h : Heap} {a : Addr} {u : HO} (r : Rd H a u) (x : HOk P w H h) : CZ P w H h a u := by
 rcases r with r | ⟨o, r⟩
 ·exact x a u r
 ·obtain ⟨_, q⟩ := x a _ r
  exact q
def Mut : Option HO → Prop
 | some (.lst _) => True
 | some (.dK _) => True
 | some (.dT _) => True
 | some (.set _ _) => True
 | some (.ins _ _ _) => True
 | some (.ext _) => True
 | _ => False
section
variable {P : Program} {w : World} {H : Hp} {h h' : Heap} {x e : Addr} {o' : HO}
theorem HOk.write (ok : HOk P w H h) (mu : Mut (H x)) (he : e = x ∨ H e = some (.own x)) (k : ∀ b u, b ≠ e → h.get? b = some u → h'.get? b = some u) (heo : ∃ u, h'.get? e = some u)
  (new : CZ P w (upd H x o') h' x o') : HOk P w (upd H x o') h' := fun b u q => by
 have nown : ∀ c y, H c = some (.own y) → c ≠ x := fun c y r z => by subst z; rw [r] at mu; exact mu
 have ntup : ∀ c xs, H c = some (.tup xs) → c ≠ x := fun c xs r z => by subst z; rw [r] at mu; exact mu
 by_cases hb : b = x
 ·subst hb; rw [AB] at q; cases q; exact new
 ·rw [AH hb] at q
  by_cases hbe : b = e
  ·have q' : H b = some (.own x) := by
    rcases he with z | z
    ·exact absurd (hbe.trans z) hb
    ·rw [hbe]; exact z
   rw [q] at q'; cases q'
   obtain ⟨v, hv⟩ := heo
   exact ⟨v, by rw [hbe]; exact hv⟩
  ·refine (ok b u q).stay (fun c v hc r => k c v ?_ r) (fun c r => by rw [AH (nown c b r)]; exact r) fun c xs r => by rw [AH (ntup c xs r)]; exact r
   rcases hc with rfl | hc
   ·exact hbe
   ·rintro rfl
    rcases he with z | z
    ·exact nown c b hc z
    ·rw [hc] at z; cases z; exact hb rfl
end
structure Un (fs ex : List Addr) (H H' : Hp) (h h' : Heap) : Prop where
 keep : ∀ b o, h.get? b = some o → H b = none → b ∉ fs → b ∉ ex → h'.get? b = some o
 slot : ∀ b o, h.get? b = some o → H b = none → b ∈ fs → b ∉ ex → ∃ sl, h'.get? b = some { o with slots := sl }
 free : ∀ b o, h.get? b = some o → H b = none → b ∉ ex → H' b = none
 there : ∀ b o, h.get? b = some o → b ∉ ex → ∃ o', h'.get? b = some o'
 tups : ∀ b xs, H b = some (.tup xs) → H' b = some (.tup xs)
 frzs : ∀ b o u, H b = some (.frz o u) → H' b = some (.frz o u)
 tbls : ∀ b ps, H b = some (.tbl ps) → ∃ more, H' b = some (.tbl (ps ++ more))
section
variable {fs fs' ex ex' : List Addr} {H H1 H2 : Hp} {h h1 h2 h' : Heap} {a x e : Addr} {o : HO}
theorem Un.any (u : Un fs ex H H1 h h1) {b : Addr} {ob : Obj} (q : h.get? b = some ob) (n : H b = none) (hx : b ∉ ex) : ∃ sl, h1.get? b = some { ob with slots := sl } := by
 by_cases hb : b ∈ fs
 ·exact u.slot b ob q n hb hx
 ·exact ⟨ob.slots, u.keep b ob q n hb hx⟩
theorem Un.kept (k : ∀ b u, h.get? b = some u → h'.get? b = some u) : Un fs ex H H h h' :=
 ⟨fun b ob q _ _ _ => k b ob q, fun b ob q _ _ _ => ⟨ob.slots, k b ob q⟩, fun _ _ _ n _ => n, fun b ob q _ => ⟨ob, k b ob q⟩, fun _ _ q => q, fun _ _ _ q => q, fun _ ps q => ⟨#[], by rw [q]; simp⟩⟩
theorem Un.refl : Un fs ex H H h h := Un.kept fun _ _ q => q
theorem Un.laid (k : ∀ b u, h.get? b = some u → h'.get? b = some u) (hp : h.objs.size ≤ a) (hn : H a = none) : Un fs ex H (upd H a o) h h' where
 keep := fun b u q _ _ _ => k b u q
 slot := fun b u q _ _ _ => ⟨u.slots, k b u q⟩
 free := fun b u q n _ => by rw [AH (Nat.ne_of_lt (Nat.lt_of_lt_of_le (Heap.lt_size q) hp))]; exact n
 there := fun b u q _ => ⟨u, k b u q⟩
 tups := fun b xs q => by rw [AH (DA q hn)]; exact q
 frzs := fun b u xs q => by rw [AH (DA q hn)]; exact q
 tbls := fun b ps q => ⟨#[], by rw [AH (DA q hn), q]; simp⟩
theorem Un.write (mu : Mut (H x)) (he : e = x ∨ H e = some (.own x)) (k : ∀ b u, b ≠ e → h.get? b = some u → h'.get? b = some u) (heo : ∃ u, h'.get? e = some u) : Un fs ex H (upd H x o) h h' := by
 have hx : ∀ b, H b = none → b ≠ x := fun b n z => by subst z; rw [n] at mu; exact mu
 have hb : ∀ b, H b = none → b ≠ e := fun b n z => by
  subst z
  rcases he with r | r
  ·exact hx b n r
  ·rw [n] at r; cases r
 have hm : ∀ b u, H b = some u → ¬ Mut (some u) → b ≠ x := fun b u q nm z => by subst z; rw [q] at mu; exact nm mu
 refine ⟨fun b u q n _ _ => k b u (hb b n) q, fun b u q n _ _ => ⟨u.slots, k b u (hb b n) q⟩, fun b u q n _ => by rw [AH (hx b n)]; exact n, fun b u q _ => ?_,
  fun b xs q => by rw [AH (hm b _ q fun z => z)]; exact q, fun b u xs q => by rw [AH (hm b _ q fun z => z)]; exact q, fun b ps q => ⟨#[], by rw [AH (hm b _ q fun z => z), q]; simp⟩⟩
 by_cases hbe : b = e
 ·subst hbe; exact heo
 ·exact ⟨u, k b u hbe q⟩
end
def trk (h : Heap) (H : Hp) : List Addr := (List.range h.objs.size).filter fun a => (H a).isSome
def NM (h : Heap) (H : Hp) : Heap := PySem.W.hideAll h (trk h H)
theorem TB (h : Heap) (H : Hp) : (NM h H).objs.size = h.objs.size := PySem.W.hideAll_size _ _
theorem WG {h : Heap} {H : Hp} {b : Addr} {o : Obj} (e : h.get? b = some o) (n : H b = none) : (NM h H).get? b = some o :=
 PySem.W.hideAll_get _ e fun hm => by
  have q : (H b).isSome = true := (List.mem_filter.mp hm).2
  rw [n] at q; simp at q
theorem ZK {h : Heap} {H : Hp} {b : Addr} {o : Obj} (e : (NM h H).get? b = some o) : h.get? b = some o ∧ H b = none := by
 have e' : h.get? b = some o := PySem.W.of_hideAll (trk h H) e
 refine ⟨e', ?_⟩
 cases q : H b with
 | none => rfl
 | some x =>
  have hm : b ∈ trk h H := List.mem_filter.mpr ⟨List.mem_range.mpr (Heap.lt_size e'), by simp [q]⟩
  have z : (NM h H).get? b = none := PySem.W.hideAll_none (trk h H) hm
  rw [z] at e; cases e
def ZQ (g h : Heap) (L : Addr) : List (Addr × Obj) := (List.range h.objs.size).filterMap fun a => if a = L ∨ (g.get? a).isSome = true then none else (h.get? a).map fun o => (a, o)
def FD (g h : Heap) (L d : Addr) : List (Addr × Obj) := (ZQ g h L).filter fun p => decide (p.1 ≠ d)
structure Mod (K : PySem.W.Frag) (mg : Str → Option Value) (base : Heap) : Prop where
 kin : K.In base
 glob : base.Ns mainGlobals mg
 blt : ∃ mb, base.Ns builtinsNs mb ∧ ∀ x : Str, x ≠ "__name__" → mb x = bootBuiltins x
 nolimit : base.NoLimit
structure Cx where
 prog : Program
 w : World
 K : PySem.W.Frag
 mg : Str → Option Value
 base : Heap
 A : Around
 N : List Str
 s₀ : Shared
 H₀ : Hp
 env : Env
 outer : List Env
 stack : List Env
 ex : List Addr
 fn : Str → Bool
 calm : Bool
 pn : List (Addr × Obj)
 xe : Value → Shared → Prop
def frs (l : List Env) : List Addr := l.filterMap (·.frame)
abbrev Cx.fs (X : Cx) : List Addr := frs X.outer
def Vis (sc : Scope) (x : Str) : Prop := sc.names.lookup x = some .local ∨ sc.names.lookup x = some .cell ∨ sc.names.lookup x = some .free
def Loc (sc : Scope) (x : Str) : Prop := sc.names.lookup x = some .local ∨ sc.names.lookup x = some .cell
def Look (env : Env) (h : Heap) (m : Str → Option Value) (x : Str) (u : Value) : Prop :=
 (env.kindOf x = some .local ∧ m x = some u) ∨ ((env.kindOf x = some .cell ∨ env.kindOf x = some .free) ∧ ∃ c, env.cells.lookup x = some c ∧ h.IsCell c (some u))
structure Cx.Ok (X : Cx) : Prop where
 mod : Mod X.K X.mg X.base
 kind : X.env.scope.kind = .function
 glob : X.env.globals = mainGlobals
 blt : X.env.builtins = builtinsNs
 above : X.s₀.heap.objs.size ≤ X.env.locals
 inj : ∀ x y c, X.env.cells.lookup x = some c → X.env.cells.lookup y = some c → x = y
 has : ∀ x, (X.env.kindOf x = some .cell ∨ X.env.kindOf x = some .free) → ∃ c, X.env.cells.lookup x = some c
 cab : ∀ x c, X.fn x = true → X.env.cells.lookup x = some c → X.s₀.heap.objs.size ≤ c
 hd : X.calm = true → X.A.handled = none
 frames : X.A.frames = some X.stack
 stk : X.stack = X.outer ∨ (X.stack = X.env :: X.outer ∧ X.env.frame = some X.env.locals)
 exf : ∀ b ∈ X.ex, b ≠ X.env.locals ∧ ∀ x c, X.env.cells.lookup x = some c → c ≠ b
 bs : ∀ b o, X.base.get? b = some o → X.s₀.heap.get? b = some o ∧ X.H₀ b = none
 bsz : X.base.objs.size ≤ X.s₀.heap.objs.size
 noex : ∀ b o, X.base.get? b = some o → b ∉ X.ex
 exfs : ∀ b ∈ X.ex, b ∉ X.fs
 funs : X.s₀.heap.FunFrames X.base X.outer
 frf : ∀ b ∈ X.fs, X.H₀ b = none
structure Inv (X : Cx) (pins : List (Addr × Obj)) (σ : List (Option V)) (H : Hp) (s : Shared) : Prop where
 ok : X.Ok
 os : s.os = X.s₀.os
 bare : AllBare s.gens
 base : Un X.fs X.ex X.H₀ H X.s₀.heap s.heap
 loc : ∃ m, s.heap.Ns X.env.locals m ∧ ∀ (i : Nat) (x : Str) (v : V), X.N[i]? = some x → σ[i]? = some (some v) → Vis X.env.scope x → ∃ u, BF v u ∧ Look X.env s.heap m x u
 cell : ∀ x c, X.env.cells.lookup x = some c → ∃ v, s.heap.IsCell c v
 free : H X.env.locals = none
 freeC : ∀ x c, X.env.cells.lookup x = some c → H c = none
 pin : ∀ p ∈ X.pn ++ pins, s.heap.get? p.1 = some p.2 ∧ H p.1 = none ∧ p.1 ≠ X.env.locals ∧ p.1 ∉ X.fs ∧ ∀ v, p.2.data ≠ .cell v
 hok : HOk X.prog X.w H s.heap
 len : σ.length = X.N.length
section
variable {X : Cx} {pins : List (Addr × Obj)} {σ : List (Option V)} {H H' : Hp} {s : Shared} {h' : Heap}
theorem Cx.Ok.nofr (ok : X.Ok) {b : Addr} {o : Obj} (e : X.base.get? b = some o) : b ∉ X.fs := fun hb => by
 have := (ok.funs.mem hb).1
 rw [e] at this; cases this
theorem Inv.bs (I : Inv X pins σ H s) : ∀ b o, X.base.get? b = some o → s.heap.get? b = some o ∧ H b = none := fun b o e =>
 ⟨I.base.keep b o (I.ok.bs b o e).1 (I.ok.bs b o e).2 (I.ok.nofr e) (I.ok.noex b o e), I.base.free b o (I.ok.bs b o e).1 (I.ok.bs b o e).2 (I.ok.noex b o e)⟩
theorem Inv.bk (I : Inv X pins σ H s) : ∀ b o, X.base.get? b = some o → s.heap.get? b = some o := fun b o e => (I.bs b o e).1
theorem Inv.mod (I : Inv X pins σ H s) : Mod X.K X.mg X.base := I.ok.mod
theorem Inv.kIn (I : Inv X pins σ H s) : X.K.In s.heap := I.ok.mod.kin.keeps I.bk
theorem Inv.fr (I : Inv X pins σ H s) : ∃ m, Fr X.base X.env.locals s.heap m :=
 let ⟨m, hn, _⟩ := I.loc
 ⟨m, hn, I.bk, Nat.le_trans I.ok.bsz I.ok.above⟩
theorem Inv.lt (I : Inv X pins σ H s) : X.env.locals < s.heap.objs.size := let ⟨_, hn, _⟩ := I.loc; hn.lt
theorem Inv.sz (I : Inv X pins σ H s) : X.s₀.heap.objs.size ≤ s.heap.objs.size := Nat.le_trans I.ok.above (Nat.le_of_lt I.lt)
theorem Inv.nofs (I : Inv X pins σ H s) {a : Addr} (h : s.heap.objs.size ≤ a) : a ∉ X.fs := fun hb => by
 obtain ⟨_, o, ho, _⟩ := I.ok.funs.mem hb
 exact absurd (Nat.lt_of_lt_of_le (Heap.lt_size ho) (Nat.le_trans I.sz h)) (Nat.lt_irrefl _)
theorem Inv.cne (I : Inv X pins σ H s) : ∀ x c, X.env.cells.lookup x = some c → c ≠ X.env.locals := fun x c e z => by
 obtain ⟨v, o, ho, hd⟩ := I.cell x c e
 obtain ⟨m, ⟨o', es, ep, ho', hd', _⟩, _⟩ := I.loc
 rw [z, ho'] at ho; cases ho; rw [hd'] at hd; cases hd
theorem Inv.funs (I : Inv X pins σ H s) : s.heap.FunFrames X.base X.outer := by
 have all : ∀ (l : List Env), (∀ b ∈ frs l, b ∈ X.fs) → X.s₀.heap.FunFrames X.base l → s.heap.FunFrames X.base l := by
  intro l
  induction l with
  | nil => intro _ _; trivial
  | cons env r ih =>
   intro hs hl
   obtain ⟨hk, ⟨L, o, hf, hn, ho, hd⟩, hr⟩ := hl
   have hL : L ∈ X.fs := hs L (by unfold frs; rw [List.filterMap_cons, hf]; exact List.mem_cons_self)
   obtain ⟨sl, e⟩ := I.base.slot L o ho (I.ok.frf L hL) hL fun z => I.ok.exfs L z hL
   exact ⟨hk, ⟨L, _, hf, hn, e, hd⟩, ih (fun b hb => hs b (by unfold frs; rw [List.filterMap_cons, hf]; exact List.mem_cons_of_mem _ hb)) hr⟩
 exact all X.outer (fun _ hb => hb) I.ok.funs
theorem Inv.stack (I : Inv X pins σ H s) : s.heap.FunFrames X.base X.stack := by
 rcases I.ok.stk with e | ⟨e, hf⟩
 ·rw [e]; exact I.funs
 ·rw [e]
  obtain ⟨m, hn, _⟩ := I.loc
  refine .cons (by rw [I.ok.kind]; decide) hf hn ?_ I.funs
  exact Heap.get?_none_of_le (Nat.le_trans I.ok.bsz I.ok.above)
theorem Inv.stkSub (I : Inv X pins σ H s) : ∀ b ∈ frs X.stack, b ∈ X.env.locals :: X.fs := fun b hb => by
 rcases I.ok.stk with e | ⟨e, hf⟩
 ·rw [e] at hb; exact List.mem_cons_of_mem _ hb
 ·rw [e] at hb
  unfold frs at hb
  rw [List.filterMap_cons, hf] at hb
  exact hb
theorem Inv.stkFree (I : Inv X pins σ H s) : ∀ b ∈ frs X.stack, H b = none := fun b hb => by
 rcases List.mem_cons.mp (I.stkSub b hb) with e | hb
 ·rw [e]; exact I.free
 ·obtain ⟨_, o, ho, _⟩ := I.ok.funs.mem hb
  exact I.base.free b o ho (I.ok.frf b hb) fun z => I.ok.exfs b z hb
theorem Inv.step {g' : Array GenState} {t' : Nat} {d' : Drawn} {ch : List Addr} (I : Inv X pins σ H s)
  (hch : ∀ b ∈ ch, (b ∈ X.ex ∨ X.s₀.heap.objs.size ≤ b) ∧ b ≠ X.env.locals ∧ (∀ x c, X.env.cells.lookup x = some c → c ≠ b) ∧ ∀ p ∈ X.pn ++ pins, p.1 ≠ b)
  (keep : ∀ b o, b ≠ X.env.locals → b ∉ X.fs → b ∉ ch → s.heap.get? b = some o → H b = none → h'.get? b = some o)
  (slot : ∀ b o, b ≠ X.env.locals → b ∈ X.fs → b ∉ ch → s.heap.get? b = some o → H b = none → ∃ sl, h'.get? b = some { o with slots := sl }) (free : ∀ b o, b ∉ ch → s.heap.get? b = some o → H b = none → H' b = none)
  (there : ∀ b o, b ∉ ch → s.heap.get? b = some o → ∃ o', h'.get? b = some o')
  (tups : ∀ b xs, H b = some (.tup xs) → H' b = some (.tup xs)) (frzs : ∀ b o u, H b = some (.frz o u) → H' b = some (.frz o u)) (tbls : ∀ b ps, H b = some (.tbl ps) → ∃ more, H' b = some (.tbl (ps ++ more)))
  (ns : ∀ m, s.heap.Ns X.env.locals m → h'.Ns X.env.locals m) (hok : HOk X.prog X.w H' h') (hg : AllBare g') :
  Inv X pins σ H' { s with heap := h', gens := g', drawn := d', toks := t' } := by
 have neL : ∀ b o, X.s₀.heap.get? b = some o → b ≠ X.env.locals := fun b o e => Nat.ne_of_lt (Nat.lt_of_lt_of_le (Heap.lt_size e) I.ok.above)
 have neC : ∀ b o, X.s₀.heap.get? b = some o → b ∉ X.ex → b ∉ ch := fun b o e hx hb => by
  rcases (hch b hb).1 with z | z
  ·exact hx z
  ·exact absurd (Nat.lt_of_lt_of_le (Heap.lt_size e) z) (Nat.lt_irrefl _)
 have cellK : ∀ x c, X.env.cells.lookup x = some c → ∀ v, s.heap.IsCell c v → h'.IsCell c v := fun x c e v ⟨o, ho, hd⟩ => by
  have nch : c ∉ ch := fun z => (hch c z).2.2.1 x c e rfl
  by_cases hc : c ∈ X.fs
  ·obtain ⟨sl, q⟩ := slot c o (I.cne x c e) hc nch ho (I.freeC x c e)
   exact ⟨_, q, hd⟩
  ·exact ⟨o, keep c o (I.cne x c e) hc nch ho (I.freeC x c e), hd⟩
 refine ⟨I.ok, I.os, hg, ⟨fun b o e n hb hx => ?_, fun b o e n hb hx => ?_, fun b o e n hx => ?_, fun b o e hx => ?_, fun b xs e => tups b xs (I.base.tups b xs e), fun b o xs e => frzs b o xs (I.base.frzs b o xs e), fun b ps e => ?_⟩, ?_, fun x c e => ?_, ?_, fun x c e => ?_, fun p hp => ?_, hok, I.len⟩
 ·exact keep b o (neL b o e) hb (neC b o e hx) (I.base.keep b o e n hb hx) (I.base.free b o e n hx)
 ·obtain ⟨sl, e1⟩ := I.base.slot b o e n hb hx
  obtain ⟨sl', e2⟩ := slot b _ (neL b o e) hb (neC b o e hx) e1 (I.base.free b o e n hx)
  exact ⟨sl', e2⟩
 ·obtain ⟨o', e1⟩ := I.base.there b o e hx
  exact free b o' (neC b o e hx) e1 (I.base.free b o e n hx)
 ·obtain ⟨o', e1⟩ := I.base.there b o e hx
  exact there b o' (neC b o e hx) e1
 ·obtain ⟨m1, e1⟩ := I.base.tbls b ps e
  obtain ⟨m2, e2⟩ := tbls b _ e1
  exact ⟨m1 ++ m2, by rw [e2, Array.append_assoc]⟩
 ·obtain ⟨m, hn, hl⟩ := I.loc
  refine ⟨m, ns m hn, fun i x v e1 e2 e3 => ?_⟩
  obtain ⟨u, r, l⟩ := hl i x v e1 e2 e3
  refine ⟨u, r, ?_⟩
  rcases l with l | ⟨k, c, e, z⟩
  ·exact .inl l
  ·exact .inr ⟨k, c, e, cellK x c e _ z⟩
 ·obtain ⟨v, z⟩ := I.cell x c e
  exact ⟨v, cellK x c e v z⟩
 ·obtain ⟨m, ⟨o, _, _, ho, _⟩, _⟩ := I.loc
  exact free _ o (fun z => (hch _ z).2.1 rfl) ho I.free
 ·obtain ⟨v, o, ho, hd⟩ := I.cell x c e
  exact free c o (fun z => (hch c z).2.2.1 x c e rfl) ho (I.freeC x c e)
 ·obtain ⟨e, n, ne, nf, d⟩ := I.pin p hp
  have nch : p.1 ∉ ch := fun z => (hch p.1 z).2.2.2 p hp rfl
  exact ⟨keep p.1 p.2 ne nf nch e n, free p.1 p.2 nch e n, ne, nf, d⟩
theorem Inv.un {t' : Nat} (I : Inv X pins σ H s) (u : Un X.fs [] H H' s.heap h') (hok : HOk X.prog X.w H' h') : Inv X pins σ H' { s with heap := h', toks := t' } := by
 obtain ⟨m, ⟨o, es, ep, ho, r⟩, _⟩ := id I.loc
 obtain ⟨sl, hL⟩ := u.any ho I.free (by simp)
 exact I.step (g' := s.gens) (d' := s.drawn) (ch := []) (fun _ z => nomatch z) (fun b o _ hb _ e n => u.keep b o e n hb (by simp)) (fun b o _ hb _ e n => u.slot b o e n hb (by simp)) (fun b o _ e n => u.free b o e n (by simp)) (fun b o _ e => u.there b o e (by simp)) u.tups u.frzs u.tbls (fun m' hm => by
  obtain ⟨o', es', ep', ho', r'⟩ := hm
  rw [ho] at ho'; cases ho'
  exact ⟨_, es', ep', hL, r'⟩) hok I.bare
theorem Inv.call {g' : Array GenState} {t' : Nat} {d' : Drawn} {ch : List Addr} (I : Inv X pins σ H s) (u : Un (frs X.stack) ch H H' s.heap h') (hok : HOk X.prog X.w H' h') (hg : AllBare g')
  (hch : ∀ b ∈ ch, (b ∈ X.ex ∨ X.s₀.heap.objs.size ≤ b) ∧ b ≠ X.env.locals ∧ (∀ x c, X.env.cells.lookup x = some c → c ≠ b) ∧ ∀ p ∈ X.pn ++ pins, p.1 ≠ b) :
  Inv X pins σ H' { s with heap := h', gens := g', drawn := d', toks := t' } := by
 obtain ⟨m, ⟨o, es, ep, ho, r⟩, _⟩ := id I.loc
 obtain ⟨sl, hL⟩ := u.any ho I.free fun z => (hch _ z).2.1 rfl
 exact I.step (ch := ch) hch (fun b o hL hb hc e n => u.keep b o e n (fun z => (List.mem_cons.mp (I.stkSub b z)).elim hL hb) hc) (fun b o _ _ hc e n => u.any e n hc) (fun b o hc e n => u.free b o e n hc) (fun b o hc e => u.there b o e hc) u.tups u.frzs u.tbls (fun m' hm => by
  obtain ⟨o', es', ep', ho', r'⟩ := hm
  rw [ho] at ho'; cases ho'
  exact ⟨_, es', ep', hL, r'⟩) hok hg
theorem Inv.turned {t' : Nat} {it : Addr} (I : Inv X pins σ H s) (k : ∀ b o, b ≠ it → s.heap.get? b = some o → h'.get? b = some o) (hn : H it = none) (hL : it ≠ X.env.locals)
  (h1 : it ∈ X.ex ∨ X.s₀.heap.objs.size ≤ it) (h2 : ∀ x c, X.env.cells.lookup x = some c → c ≠ it) (h3 : ∀ p ∈ X.pn ++ pins, p.1 ≠ it) : Inv X pins σ H { s with heap := h', toks := t' } := by
 have nit : ∀ b u, H b = some u → b ≠ it := fun b u e z => by rw [z, hn] at e; cases e
 refine I.step (g' := s.gens) (d' := s.drawn) (ch := [it]) (fun b hb => ?_) (fun b o _ _ hc e _ => k b o (fun z => hc (by simp [z])) e) (fun b o _ _ hc e _ => ⟨o.slots, k b o (fun z => hc (by simp [z])) e⟩) (fun _ _ _ _ n => n)
  (fun b o hc e => ⟨o, k b o (fun z => hc (by simp [z])) e⟩) (fun _ _ e => e) (fun _ _ _ e => e) (fun b ps e => ⟨#[], by rw [e]; simp⟩) (fun m hm => ?_) (fun b u e => ?_) I.bare
 ·have e : b = it := by simpa using hb
  subst e
  exact ⟨h1, hL, h2, h3⟩
 ·obtain ⟨o, es, ep, ho, r⟩ := hm
  exact ⟨o, es, ep, k _ o (Ne.symm hL) ho, r⟩
 ·refine (I.hok b u e).stay (fun c v hc q => k c v ?_ q) (fun _ q => q) fun _ _ q => q
  rcases hc with z | z
  ·rw [z]; exact nit b u e
  ·exact nit c _ z
theorem Inv.tok (I : Inv X pins σ H s) (t : Nat) : Inv X pins σ H { s with toks := t } := I.un (h' := s.heap) (t' := t) Un.refl I.hok
theorem Inv.kept {t' : Nat} (I : Inv X pins σ H s) (k : ∀ b u, s.heap.get? b = some u → h'.get? b = some u) : Inv X pins σ H { s with heap := h', toks := t' } := I.un (Un.kept k) (I.hok.kept k)
theorem Inv.laid {a : Addr} {o : HO} {t' : Nat} (I : Inv X pins σ H s) (k : ∀ b u, s.heap.get? b = some u → h'.get? b = some u) (hp : s.heap.objs.size ≤ a) (new : CZ X.prog X.w (upd H a o) h' a o) :
  Inv X pins σ (upd H a o) { s with heap := h', toks := t' } := I.un (Un.laid k hp (I.hok.fresh hp)) (I.hok.laid k hp new)
theorem Inv.write {x e : Addr} {o : HO} {t' : Nat} (I : Inv X pins σ H s) (mu : Mut (H x)) (he : e = x ∨ H e = some (.own x)) (k : ∀ b u, b ≠ e → s.heap.get? b = some u → h'.get? b = some u) (heo : ∃ u, h'.get? e = some u)
  (new : CZ X.prog X.w (upd H x o) h' x o) : Inv X pins σ (upd H x o) { s with heap := h', toks := t' } := I.un (Un.write mu he k heo) (I.hok.write mu he k heo new)
theorem Inv.pins_of {pins' : List (Addr × Obj)} (I : Inv X pins σ H s) (h : ∀ p ∈ pins', s.heap.get? p.1 = some p.2 ∧ H p.1 = none ∧ p.1 ≠ X.env.locals ∧ p.1 ∉ X.fs ∧ ∀ v, p.2.data ≠ .cell v) : Inv X pins' σ H s :=
 ⟨I.ok, I.os, I.bare, I.base, I.loc, I.cell, I.free, I.freeC, fun p hp => (List.mem_append.mp hp).elim (fun z => I.pin p (List.mem_append_left _ z)) (h p), I.hok, I.len⟩
theorem NX {N : List Str} (hN : N.Nodup) {i j : Nat} {x : Str} (a : N[i]? = some x) (b : N[j]? = some x) : i = j := by
 obtain ⟨h1, e1⟩ := List.getElem?_eq_some_iff.mp a
 obtain ⟨h2, e2⟩ := List.getElem?_eq_some_iff.mp b
 exact (List.getElem_inj hN).mp (e1.trans e2.symm)
theorem SF {M : Model} {A : Around} {E : Value → Shared → Prop} {i : Nat} {x : Str} {v : V} {u : Value} {Q : Unit → Shared → Prop} (I : Inv X pins σ H s) (hN : X.N.Nodup) (hi : X.N[i]? = some x) (hx : Loc X.env.scope x) (r : BF v u)
  (h : ∀ s', Inv X pins (σ.set i (some v)) H s' → (∃ a, Heap.SameBut a s.heap s'.heap ∧ (a = X.env.locals ∨ X.env.cells.lookup x = some a)) → Q () s') (hf : X.fn x = true ∨ X.env.scope.names.lookup x = some .local := by first | exact .inl rfl | exact .inr rfl | assumption) : wpAny M A (storeName X.env x u) Q E s := by
 obtain ⟨m, hn, hl⟩ := id I.loc
 have hcls : (X.env.scope.kind == .class || (X.env.scope.kind == .module && X.env.locals != X.env.globals)) = false := by rw [I.ok.kind]; rfl
 have hiσ : i < σ.length := by rw [I.len]; exact (List.getElem?_eq_some_iff.mp hi).1
 have cne := I.cne
 have tracked : ∀ {a : Addr} {h' : Heap}, (∃ o, s.heap.get? a = some o ∧ H a = none) → Heap.SameBut a s.heap h' → HOk X.prog X.w H h' := fun {a h'} ha hs b ob e => by
  obtain ⟨_, _, hfree⟩ := ha
  refine (I.hok b ob e).stay (fun c w' hc q => (hs.2 c ?_).trans q) (fun _ q => q) fun _ _ q => q
  rintro rfl
  rcases hc with rfl | hc
  ·rw [hfree] at e; cases e
  ·rw [hfree] at hc; cases hc
 rcases hx with hk | hk
 ·refine wpAny_storeName_local hk hn (fun h' hn' hs => ?_) hcls
  obtain ⟨oL, _, _, hoL, _⟩ := id hn
  refine h _ ⟨I.ok, I.os, I.bare, ⟨fun b o e n hb hx => ?_, fun b o e n hb hx => ?_, I.base.free, fun b o e hx => ?_, I.base.tups, I.base.frzs, I.base.tbls⟩, ⟨_, hn', fun j y v' e1 e2 e3 => ?_⟩, fun y c e => ?_, I.free, I.freeC, fun p hp => ?_, tracked ⟨oL, hoL, I.free⟩ hs, by simpa using I.len⟩ ⟨_, hs, .inl rfl⟩
  ·exact (hs.2 b (Nat.ne_of_lt (Nat.lt_of_lt_of_le (Heap.lt_size e) I.ok.above))).trans (I.base.keep b o e n hb hx)
  ·obtain ⟨sl, e1⟩ := I.base.slot b o e n hb hx
   exact ⟨sl, (hs.2 b (Nat.ne_of_lt (Nat.lt_of_lt_of_le (Heap.lt_size e) I.ok.above))).trans e1⟩
  ·obtain ⟨o', e1⟩ := I.base.there b o e hx
   exact ⟨o', (hs.2 b (Nat.ne_of_lt (Nat.lt_of_lt_of_le (Heap.lt_size e) I.ok.above))).trans e1⟩
  ·by_cases hj : j = i
   ·subst hj
    rw [hi] at e1; cases e1
    rw [List.getElem?_set_self hiσ] at e2
    cases e2
    exact ⟨u, r, .inl ⟨hk, by simp⟩⟩
   ·rw [List.getElem?_set_ne (Ne.symm hj)] at e2
    obtain ⟨u', r', q⟩ := hl j y v' e1 e2 e3
    refine ⟨u', r', ?_⟩
    rcases q with ⟨k, e⟩ | ⟨k, c, e, z⟩
    ·refine .inl ⟨k, ?_⟩
     have : y ≠ x := fun e => hj (NX hN e1 (e ▸ hi))
     simp [this, e]
    ·exact .inr ⟨k, c, e, z.sameBut hs (cne y c e)⟩
  ·obtain ⟨w', z⟩ := I.cell y c e
   exact ⟨w', z.sameBut hs (cne y c e)⟩
  ·obtain ⟨e, n, ne, nf, d⟩ := I.pin p hp
   exact ⟨(hs.2 p.1 ne).trans e, n, ne, nf, d⟩
 ·have hfn : X.fn x = true := by
   rcases hf with z | z
   ·exact z
   ·rw [z] at hk; cases hk
  obtain ⟨c, hc⟩ := I.ok.has x (.inl hk)
  obtain ⟨w', z⟩ := I.cell x c hc
  refine wpAny_storeName_cell I.ok.kind hk hc z (fun h' hc' hs => ?_)
  obtain ⟨oc, hoc, hocd⟩ := id z
  refine h { s with heap := h' } ⟨I.ok, I.os, I.bare, ⟨fun b o e n hb hx => ?_, fun b o e n hb hx => ?_, I.base.free, fun b o e hx => ?_, I.base.tups, I.base.frzs, I.base.tbls⟩, ⟨m, hn.sameBut hs (Ne.symm (cne x c hc)), fun j y v' e1 e2 e3 => ?_⟩, fun y c' e => ?_, I.free, I.freeC, fun p hp => ?_, tracked ⟨oc, hoc, I.freeC x c hc⟩ hs, by simpa using I.len⟩ ⟨c, hs, .inr hc⟩
  ·exact (hs.2 b (Nat.ne_of_lt (Nat.lt_of_lt_of_le (Heap.lt_size e) (I.ok.cab x c hfn hc)))).trans (I.base.keep b o e n hb hx)
  ·obtain ⟨sl, e1⟩ := I.base.slot b o e n hb hx
   exact ⟨sl, (hs.2 b (Nat.ne_of_lt (Nat.lt_of_lt_of_le (Heap.lt_size e) (I.ok.cab x c hfn hc)))).trans e1⟩
  ·obtain ⟨o', e1⟩ := I.base.there b o e hx
   exact ⟨o', (hs.2 b (Nat.ne_of_lt (Nat.lt_of_lt_of_le (Heap.lt_size e) (I.ok.cab x c hfn hc)))).trans e1⟩
  ·by_cases hj : j = i
   ·subst hj
    rw [hi] at e1; cases e1
    rw [List.getElem?_set_self hiσ] at e2
    cases e2
    exact ⟨u, r, .inr ⟨.inl hk, c, hc, hc'⟩⟩
   ·rw [List.getElem?_set_ne (Ne.symm hj)] at e2
    obtain ⟨u', r', q⟩ := hl j y v' e1 e2 e3
    refine ⟨u', r', ?_⟩
    rcases q with q | ⟨k, c', e, z'⟩
    ·exact .inl q
    ·refine .inr ⟨k, c', e, z'.sameBut hs ?_⟩
     rintro rfl
     exact hj (NX hN e1 (I.ok.inj _ _ _ e hc ▸ hi))
  ·by_cases hcc : c' = c
   ·subst hcc; exact ⟨_, hc'⟩
   ·obtain ⟨w2, z2⟩ := I.cell y c' e
    exact ⟨w2, z2.sameBut hs hcc⟩
  ·obtain ⟨e, n, ne, nf, d⟩ := I.pin p hp
   refine ⟨(hs.2 p.1 ?_).trans e, n, ne, nf, d⟩
   intro q
   rw [q, hoc] at e
   have q' : oc = p.2 := Option.some.inj e
   exact d w' (by rw [← q']; exact hocd)
theorem KO {M : Model} {A : Around} {E : Value → Shared → Prop} {i : Nat} {x : Str} {v : V} {u : Value} {Q : Unit → Shared → Prop} (I : Inv X pins σ H s) (hN : X.N.Nodup) (hi : X.N[i]? = some x) (hx : Loc X.env.scope x) (r : BF v u)
  (h : ∀ s', Inv X pins (σ.set i (some v)) H s' → Q () s') (hf : X.fn x = true ∨ X.env.scope.names.lookup x = some .local := by first | exact .inl rfl | exact .inr rfl | assumption) : wpAny M A (storeName X.env x u) Q E s :=
 SF I hN hi hx r (fun s' I' _ => h s' I') hf
theorem Inv.call' {s' : Shared} {ch : List Addr} (I : Inv X pins σ H s) (ho : s'.os = s.os) (u : Un (frs X.stack) ch H H' s.heap s'.heap) (hok : HOk X.prog X.w H' s'.heap) (hg : AllBare s'.gens)
  (hch : ∀ b ∈ ch, (b ∈ X.ex ∨ X.s₀.heap.objs.size ≤ b) ∧ b ≠ X.env.locals ∧ (∀ x c, X.env.cells.lookup x = some c → c ≠ b) ∧ ∀ p ∈ X.pn ++ pins, p.1 ≠ b) : Inv X pins σ H' s' := by
 obtain ⟨h', g', d', t', o'⟩ := s'
 have e : o' = s.os := ho
 subst e
 exact I.call (g' := g') (t' := t') (d' := d') u hok hg hch
end
abbrev XK := Value → Option Addr → Hp → Prop
abbrev St := List (Option V)
abbrev VK := V → Hp → Prop
abbrev TE := St → Hp → VK → Prop
abbrev TT := St → Hp → (Bool → Hp → Prop) → Prop
abbrev TA := St → Hp → (List V → Hp → Prop) → Prop
structure JB where
 nx : St → Hp → Prop
 rt : VK
 bk : St → Hp → Prop := fun _ _ => False
 ct : St → Hp → Prop := fun _ _ => False
abbrev TS := JB → St → Hp → Prop
def EP (X : Cx) (pins : List (Addr × Obj)) (σ : St) (Q : VK) (u : Value) (s' : Shared) : Prop := ∃ v H', Inv X pins σ H' s' ∧ BF v u ∧ Q v H'
def TP (X : Cx) (pins : List (Addr × Obj)) (σ : St) (Q : Bool → Hp → Prop) (b : Bool) (s' : Shared) : Prop := ∃ H', Inv X pins σ H' s' ∧ Q b H'
def AP (X : Cx) (pins : List (Addr × Obj)) (σ : St) (Q : List V → Hp → Prop) (us : List Value) (s' : Shared) : Prop := ∃ vs H', Inv X pins σ H' s' ∧ AO vs us ∧ Q vs H'
def SP (X : Cx) (pins : List (Addr × Obj)) (D : JB) (f : Flow) (s' : Shared) : Prop :=
 match f with
 | .next => ∃ σ' H', Inv X pins σ' H' s' ∧ D.nx σ' H'
 | .brk => ∃ σ' H', Inv X pins σ' H' s' ∧ D.bk σ' H'
 | .cont => ∃ σ' H', Inv X pins σ' H' s' ∧ D.ct σ' H'
 | .ret u => ∃ v σ' H', Inv X pins σ' H' s' ∧ BF v u ∧ D.rt v H'
def PE (X : Cx) (e : Expr) (t : TE) : Prop :=
 ∀ (pins : List (Addr × Obj)) (s : Shared) (σ : St) (H : Hp) (Q : VK), Inv X pins σ H s → t σ H Q → wpAny (model X.prog X.w) X.A (eval e X.env) (EP X pins σ Q) X.xe s
def PT (X : Cx) (e : Expr) (t : TT) : Prop :=
 ∀ (pins : List (Addr × Obj)) (s : Shared) (σ : St) (H : Hp) (Q : Bool → Hp → Prop), Inv X pins σ H s → t σ H Q → wpAny (model X.prog X.w) X.A (isTrue e X.env (eval e X.env)) (TP X pins σ Q) X.xe s
def PW (X : Cx) (e : Expr) (t : TT) : Prop :=
 ∀ (whole : Sem Value) (pins : List (Addr × Obj)) (s : Shared) (σ : St) (H : Hp) (Q : Bool → Hp → Prop), Inv X pins σ H s → t σ H Q → wpAny (model X.prog X.w) X.A (isTrue e X.env whole) (TP X pins σ Q) X.xe s
theorem PW.pt {X : Cx} {e : Expr} {t : TT} (h : PW X e t) : PT X e t := h _
def PA (X : Cx) (es : List Expr) (t : TA) : Prop :=
 ∀ (pos : Pos) (pins : List (Addr × Obj)) (s : Shared) (σ : St) (H : Hp) (Q : List V → Hp → Prop), Inv X pins σ H s → t σ H Q → wpAny (model X.prog X.w) X.A (spliced (backTo pos (starEach es X.env))) (AP X pins σ Q) X.xe s
def PS (X : Cx) (st : Stmt) (t : TS) : Prop :=
 ∀ (pins : List (Addr × Obj)) (s : Shared) (σ : St) (H : Hp) (D : JB), Inv X pins σ H s → t D σ H → wpAny (model X.prog X.w) X.A (exec st X.env) (SP X pins D) X.xe s
def PSs (X : Cx) (st : List Stmt) (t : TS) : Prop :=
 ∀ (pins : List (Addr × Obj)) (s : Shared) (σ : St) (H : Hp) (D : JB), Inv X pins σ H s → t D σ H → wpAny (model X.prog X.w) X.A (execs st X.env) (SP X pins D) X.xe s
theorem thn {α : Type} {t : Sem α} {Q Q' : α → Shared → Prop} {M : Model} {A : Around} {E : Value → Shared → Prop} {s : Shared} (h : wpAny M A t Q E s) (hQ : ∀ a s, Q a s → Q' a s) : wpAny M A t Q' E s := wpAny_mono h hQ fun _ _ x => x
section
variable {X : Cx}
def UA (i : Nat) : TE := fun σ H Q => ∃ v, σ[i]? = some (some v) ∧ Q v H
def tC (v : V) : TE := fun _ H Q => Q v H
theorem bI {i : Nat} {x : Str} {pos : Pos} (hN : X.N[i]? = some x) (hv : Vis X.env.scope x) (hd : (x == ("__debug__" : Str)) = false := by decide) (hcd : (x == ("__classdict__" : Str)) = false := by decide) : PE X (.Name x pos) (UA i) := by
 intro pins s σ H Q I h
 obtain ⟨v, e, h⟩ := h
 obtain ⟨m, hn, hl⟩ := I.loc
 obtain ⟨u, r, l⟩ := hl i x v hN e hv
 have fin : EP X pins σ Q u s := ⟨v, H, I, r, h⟩
 rcases l with ⟨hk, hm⟩ | ⟨hk, c, hc, hcell⟩
 ·exact wpAny_Name (wpAny_loadName_local I.ok.kind hk hn hm fin) hd
 ·rcases hk with hk | hk
  ·exact wpAny_Name (wpAny_loadName_cell I.ok.kind hk hc hcell fin) hd
  ·exact wpAny_Name (wpAny_loadName_free I.ok.kind hk hc hcell fin hcd) hd
theorem AC {i j pos} : PE X (.Constant (.int i) j pos) (tC (.int i)) := fun _ _ _ H _ I h => wpAny_Constant_int ⟨.int i, H, I.tok _, ⟨_, rfl⟩, h⟩
theorem GR {b j pos} : PE X (.Constant (.bool b) j pos) (tC (.bl b)) := fun _ _ _ H _ I h => Constant_bool ⟨.bl b, H, I, rfl, h⟩
theorem CL {x j pos} : PE X (.Constant (.str x) j pos) (tC (.str x)) := fun _ _ _ H _ I h => Calls.Constant_str ⟨.str x, H, I.tok _, ⟨_, rfl⟩, h⟩
def Gl (X : Cx) (x : Str) : Prop := X.env.kindOf x = some .globalImplicit
theorem JI {E : Value → Shared → Prop} {pins : List (Addr × Obj)} {s : Shared} {σ : St} {H : Hp} {x : Str} {u : Value} {pos : Pos} {Q : Value → Shared → Prop} (I : Inv X pins σ H s) (hg : Gl X x) (hm : X.mg x = some u) (h : Q u s)
  (hd : (x == ("__debug__" : Str)) = false := by decide) : wpAny (model X.prog X.w) X.A (eval (.Name x pos) X.env) Q E s :=
 Calls.Name_function_global I.ok.kind hg (Calls.loadGlobal_global (by rw [I.ok.glob]; exact I.mod.glob.keeps I.bk) hm h) hd
theorem EO {E : Value → Shared → Prop} {pins : List (Addr × Obj)} {s : Shared} {σ : St} {H : Hp} {x : Str} {u : Value} {pos : Pos} {Q : Value → Shared → Prop} (I : Inv X pins σ H s) (hg : Gl X x) (hm : X.mg x = none) (hv : bootBuiltins x = some u) (h : Q u s)
  (hn : x ≠ "__name__" := by decide) (hd : (x == ("__debug__" : Str)) = false := by decide) : wpAny (model X.prog X.w) X.A (eval (.Name x pos) X.env) Q E s := by
 obtain ⟨mb, h1, h2⟩ := I.mod.blt
 exact Calls.Name_function_global I.ok.kind hg (Calls.loadGlobal_builtin (by rw [I.ok.glob]; exact I.mod.glob.keeps I.bk) hm (by rw [I.ok.blt]; exact h1.keeps I.bk) ((h2 x hn).trans hv) h) hd
theorem EN {x : Str} {v : V} {u : Value} {pos : Pos} (hg : Gl X x) (hm : X.mg x = some u) (r : BF v u) (hd : (x == ("__debug__" : Str)) = false := by decide) : PE X (.Name x pos) (tC v) :=
 fun _ _ _ H _ I h => JI I hg hm ⟨v, H, I, r, h⟩ hd
theorem FA {x : Str} {v : V} {u : Value} {pos : Pos} (hg : Gl X x) (hm : X.mg x = none) (hv : bootBuiltins x = some u) (r : BF v u) (hn : x ≠ "__name__" := by decide) (hd : (x == ("__debug__" : Str)) = false := by decide) : PE X (.Name x pos) (tC v) :=
 fun _ _ _ H _ I h => EO I hg hm hv ⟨v, H, I, r, h⟩ hn hd
variable {a b : Expr} {ta tb : TE} {pos : Pos}
def tB (t : TE) : TT := fun σ H Q => t σ H fun x H1 => ∃ c, x = .bl c ∧ Q c H1
theorem bX {e : Expr} {t : TE} (h : PE X e t) (he : ∀ whole, isTrue e X.env whole = (do let v ← whole; standAt e.pos; holding [v] (truthy v)) := by intro _; rfl) : PT X e (tB t) := by
 intro pins s σ H Q I hw
 refine isTrue_plain (thn (h pins s σ H _ I hw) fun v s1 ⟨x, H1, I1, r1, q1⟩ => ?_) (he _)
 obtain ⟨d, rfl, q⟩ := q1
 cases r1
 exact wpAny_truthy_bool ⟨H1, I1, q⟩
variable {tA tB' : TT} {FD : List Expr}
def XU (t u : TT) : TT := fun σ H Q => t σ H fun c H1 => if c = true then u σ H1 Q else Q false H1
def tOr (t u : TT) : TT := fun σ H Q => t σ H fun c H1 => if c = true then Q true H1 else u σ H1 Q
def XY (t : TT) : TT := fun σ H Q => t σ H fun c H1 => Q (!c) H1
theorem HC (ha : PT X a tA) : PW X (.BoolOp .And [a] pos) tA := by
 intro wh pins s σ H Q I h
 refine isTrue_and (thn (ha pins s σ H Q I h) fun c s1 e => ?_)
 cases c with
 | true => exact isTrue_and_nil e
 | false => exact e
theorem JK (ha : PT X a tA) : PW X (.BoolOp .Or [a] pos) tA := by
 intro wh pins s σ H Q I h
 refine isTrue_or (thn (ha pins s σ H Q I h) fun c s1 e => ?_)
 cases c with
 | false => exact isTrue_or_nil e
 | true => exact e
theorem JQ (ha : PT X a tA) (hb : PW X (.BoolOp .And (b :: FD) pos) tB') : PW X (.BoolOp .And (a :: b :: FD) pos) (XU tA tB') := by
 intro wh pins s σ H Q I h
 refine isTrue_and (thn (ha pins s σ H _ I h) fun c s1 ⟨H1, I1, q1⟩ => ?_)
 cases c with
 | true => exact hb wh pins s1 σ H1 Q I1 q1
 | false => exact ⟨H1, I1, q1⟩
theorem GP (ha : PT X a tA) (hb : PW X (.BoolOp .Or (b :: FD) pos) tB') : PW X (.BoolOp .Or (a :: b :: FD) pos) (tOr tA tB') := by
 intro wh pins s σ H Q I h
 refine isTrue_or (thn (ha pins s σ H _ I h) fun c s1 ⟨H1, I1, q1⟩ => ?_)
 cases c with
 | true => exact ⟨H1, I1, q1⟩
 | false => exact hb wh pins s1 σ H1 Q I1 q1
theorem GW (ha : PT X a tA) : PT X (.UnaryOp .Not a pos) (XY tA) := by
 intro pins s σ H Q I h
 exact isTrue_not (ha pins s σ H (fun c H1 => Q (!c) H1) I h)
def NY (ta tb : TE) : TE := fun σ H Q => ta σ H fun x H1 => ∃ c, x = .bl c ∧ if c = true then tb σ H1 Q else Q (.bl false) H1
def PJ (ta : TE) : TE := fun σ H Q => ta σ H fun x H1 => ∃ c, x = .bl c ∧ Q (.bl (!c)) H1
theorem QX {op} {t : TE} (h : PE X a t) : PE X (.BoolOp op [a] pos) t := fun pins s σ H Q I hw => BoolOp_one (h pins s σ H Q I hw)
theorem cS (ha : PE X a ta) (hb : PE X (.BoolOp .And (b :: FD) pos) tb) : PE X (.BoolOp .And (a :: b :: FD) pos) (NY ta tb) := by
 intro pins s σ H Q I h
 refine BoolOp_and (thn (ha pins s σ H _ I h) fun v s1 ⟨x, H1, I1, r1, q1⟩ => ?_)
 obtain ⟨c, rfl, q1⟩ := q1
 cases r1
 refine wpAny_truthy_bool ?_
 cases c with
 | true => exact hb pins s1 σ H1 Q I1 q1
 | false => exact ⟨.bl false, H1, I1, rfl, q1⟩
theorem bP (ha : PE X a ta) : PE X (.UnaryOp .Not a pos) (PJ ta) := by
 intro pins s σ H Q I h
 refine UnaryOp_ (thn (ha pins s σ H _ I h) fun v s1 ⟨x, H1, I1, r1, q1⟩ => ?_)
 obtain ⟨c, rfl, q1⟩ := q1
 cases r1
 exact not_of (wpAny_truthy_bool ⟨.bl (!c), H1, I1, rfl, q1⟩)
def tIf (t : TT) (ta tb : TE) : TE := fun σ H Q => t σ H fun c H1 => if c = true then ta σ H1 Q else tb σ H1 Q
theorem XW {c : Expr} (hc : PT X c tA) (ha : PE X a ta) (hb : PE X b tb) : PE X (.IfExp c a b pos) (tIf tA ta tb) := by
 intro pins s σ H Q I h
 refine wpAny_IfExp (thn (hc pins s σ H _ I h) fun d s1 ⟨H1, I1, q1⟩ => ?_)
 cases d with
 | true => exact ha pins s1 σ H1 Q I1 q1
 | false => exact hb pins s1 σ H1 Q I1 q1
end
def SqL (K : PySem.W.Frag) (H : Hp) (a : Addr) (xs : List V) : Prop :=
 Rd H a (.lst xs) ∨
  ∃ (o : Obj) (its : Array Value) (n : Nat), K.lookup a = some o ∧ o.cls = .type "list" ∧ o.dict = none ∧ o.data = .seq its n ∧ its.size ≤ sizeLine ∧ AO xs its.toList
def SqT (K : PySem.W.Frag) (H : Hp) (a : Addr) (xs : List V) : Prop :=
 Rd H a (.tup xs) ∨
  ∃ (o : Obj) (its : Array Value) (n : Nat), K.lookup a = some o ∧ o.cls = .type "tuple" ∧ o.data = .seq its n ∧ its.size ≤ sizeLine ∧ AO xs its.toList
def absV : Value → Option V
 | .none => some .non
 | .bool b => some (.bl b)
 | .int i _ => some (.int i)
 | .str x _ => some (.str x)
 | .bytes b _ => some (.byt b)
 | .float b _ => some (.flt b)
 | .ref a => some (.ref a)
 | .type n => some (.ty n)
 | _ => none
theorem BF.abs {x : V} {u : Value} (r : BF x u) : absV u = some x := by
 cases x with
 | non => cases r; rfl
 | bl _ => cases r; rfl
 | int _ => obtain ⟨t, rfl⟩ := r; rfl
 | str _ => obtain ⟨t, rfl⟩ := r; rfl
 | byt _ => obtain ⟨t, rfl⟩ := r; rfl
 | flt _ => obtain ⟨t, rfl⟩ := r; rfl
 | ref _ => cases r; rfl
 | ty _ => cases r; rfl
theorem BF.inj {x y : V} {u : Value} (r : BF x u) (q : BF y u) : x = y := Option.some.inj (r.abs.symm.trans q.abs)
theorem AO.inj : ∀ {xs ys : List V} {us : List Value}, AO xs us → AO ys us → xs = ys
 | _, _, _, .nil, .nil => rfl
 | _, _, _, .cons r t, .cons r' t' => by rw [r.inj r', AO.inj t t']
section
variable {X : Cx} {pins : List (Addr × Obj)} {σ : St} {H : Hp} {s : Shared} {a : Addr} {xs ys : List V}
theorem SqL.of {K : PySem.W.Frag} (h : H a = some (.lst xs)) : SqL K H a xs := .inl (.inl h)
theorem SqT.of {K : PySem.W.Frag} (h : H a = some (.tup xs)) : SqT K H a xs := .inl (.inl h)
theorem Inv.list (I : Inv X pins σ H s) (h : SqL X.K H a xs) : ∃ its : List Value, AO xs its ∧ PlainL s.heap a its.toArray ∧ xs.length ≤ sizeLine := by
 rcases h with h | ⟨o, its, n, hk, hc, hd, hs, hz, r⟩
 ·obtain ⟨z, its, n, r, e⟩ := h.ok I.hok
  exact ⟨its, r, ⟨_, n, e, rfl, rfl, rfl⟩, z⟩
 ·refine ⟨its.toList, r, ⟨o, n, I.kIn a o hk, hc, hd, by simpa using hs⟩, ?_⟩
  have e := r.length
  simp only [Array.length_toList] at e
  omega
theorem Inv.tuple (I : Inv X pins σ H s) (h : SqT X.K H a xs) : ∃ its : List Value, AO xs its ∧ IsTup s.heap a its.toArray ∧ xs.length ≤ sizeLine := by
 rcases h with h | ⟨o, its, n, hk, hc, hs, hz, r⟩
 ·obtain ⟨z, its, r, p⟩ := h.ok I.hok
  exact ⟨its, r, p, z⟩
 ·refine ⟨its.toList, r, ⟨o, I.kIn a o hk, hc, n, by simpa using hs⟩, ?_⟩
  have e := r.length
  simp only [Array.length_toList] at e
  omega
theorem Inv.list_inj (I : Inv X pins σ H s) (h : SqL X.K H a xs) (h' : SqL X.K H a ys) : xs = ys := by
 obtain ⟨its, r, ⟨o, n, e, _, _, d⟩, _⟩ := I.list h
 obtain ⟨its', r', ⟨o', n', e', _, _, d'⟩, _⟩ := I.list h'
 rw [e] at e'; cases e'
 rw [d] at d'
 injection d' with d1 _
 have : its = its' := by simpa using congrArg Array.toList d1
 subst this
 exact r.inj r'
theorem Inv.tuple_inj (I : Inv X pins σ H s) (h : SqT X.K H a xs) (h' : SqT X.K H a ys) : xs = ys := by
 obtain ⟨its, r, ⟨o, e, _, n, d⟩, _⟩ := I.tuple h
 obtain ⟨its', r', ⟨o', e', _, n', d'⟩, _⟩ := I.tuple h'
 rw [e] at e'; cases e'
 rw [d] at d'
 injection d' with d1 _
 have : its = its' := by simpa using congrArg Array.toList d1
 subst this
 exact r.inj r'
end
abbrev Cx.wish (X : Cx) (E : Value → Shared → Prop) : Cx := { X with xe := E }
abbrev Cx.nox (X : Cx) : Cx := X.wish fun _ _ => False
theorem Cx.Ok.wish {X : Cx} (ok : X.Ok) (E : Value → Shared → Prop) : (X.wish E).Ok :=
 ⟨ok.mod, ok.kind, ok.glob, ok.blt, ok.above, ok.inj, ok.has, ok.cab, ok.hd, ok.frames, ok.stk, ok.exf, ok.bs, ok.bsz, ok.noex, ok.exfs, ok.funs, ok.frf⟩
theorem Cx.Ok.unwish {X : Cx} {E : Value → Shared → Prop} (ok : (X.wish E).Ok) : X.Ok :=
 ⟨ok.mod, ok.kind, ok.glob, ok.blt, ok.above, ok.inj, ok.has, ok.cab, ok.hd, ok.frames, ok.stk, ok.exf, ok.bs, ok.bsz, ok.noex, ok.exfs, ok.funs, ok.frf⟩
section
variable {X : Cx} {pins : List (Addr × Obj)} {σ : St} {H : Hp} {s : Shared} {E : Value → Shared → Prop}
theorem Inv.wish (I : Inv X pins σ H s) (E : Value → Shared → Prop) : Inv (X.wish E) pins σ H s := ⟨I.ok.wish E, I.os, I.bare, I.base, I.loc, I.cell, I.free, I.freeC, I.pin, I.hok, I.len⟩
theorem Inv.unwish (I : Inv (X.wish E) pins σ H s) : Inv X pins σ H s := ⟨I.ok.unwish, I.os, I.bare, I.base, I.loc, I.cell, I.free, I.freeC, I.pin, I.hok, I.len⟩
theorem SP.unwish {D : JB} {f : Flow} {s' : Shared} (h : SP (X.wish E) pins D f s') : SP X pins D f s' := by
 cases f with
 | next => obtain ⟨σ', H', I, q⟩ := h; exact ⟨σ', H', I.unwish, q⟩
 | brk => obtain ⟨σ', H', I, q⟩ := h; exact ⟨σ', H', I.unwish, q⟩
 | cont => obtain ⟨σ', H', I, q⟩ := h; exact ⟨σ', H', I.unwish, q⟩
 | ret u => obtain ⟨v, σ', H', I, r, q⟩ := h; exact ⟨v, σ', H', I.unwish, r, q⟩
theorem PSs.nox {st : List Stmt} {t : TS} (h : PSs X.nox st t) : PSs X st t := fun pins s σ H D I hw =>
 wpAny_mono (h pins s σ H D (I.wish _) hw) (fun _ _ q => q.unwish) fun _ _ z => False.elim z
end
section
variable {X : Cx} {st : Stmt} {FD : List Stmt} {t u : TS} {e : Expr} {te : TE} {pos : Pos}
def OI : TS := fun D σ H => D.nx σ H
def XO (t u : TS) : TS := fun D σ H => t { D with nx := u D } σ H
theorem BN : PSs X [] OI := fun _ _ σ H _ I h => wpAny_execs_nil ⟨σ, H, I, h⟩
theorem AE (h1 : PS X st t) (h2 : PSs X FD u) : PSs X (st :: FD) (XO t u) := by
 intro pins s σ H D I h
 refine wpAny_execs_cons (thn (h1 pins s σ H { D with nx := u D } I h) fun f s1 q => ?_)
 cases f with
 | next =>
  obtain ⟨σ', H', I', q⟩ := q
  exact h2 pins s1 σ' H' D I' q
 | ret v => exact q
 | brk => exact q
 | cont => exact q
theorem AG (h1 : PS X st t) : PSs X [st] t := by
 intro pins s σ H D I h
 refine wpAny_execs_cons (thn (h1 pins s σ H D I h) fun f s1 q => ?_)
 cases f with
 | next => exact wpAny_execs_nil q
 | ret v => exact q
 | brk => exact q
 | cont => exact q
theorem Inv.quiet {pins : List (Addr × Obj)} {σ : St} {H : Hp} {s : Shared} (I : Inv X pins σ H s) : interactive X.env = false := by simp [interactive, I.ok.kind]
def OD (te : TE) : TS := fun D σ H => te σ H fun _ H1 => D.nx σ H1
theorem CK (he : PE X e te) (hs : swapsWith e none pos.line X.env = pure false := by rfl) : PS X (.Expr e pos) (OD te) := by
 intro pins s σ H D I h
 exact wpAny_Expr_any (thn (he pins s σ H _ I h) fun v s1 ⟨x, H1, I1, r1, q1⟩ => ⟨σ, H1, I1, q1⟩) I.quiet hs
def UE (te : TE) : TS := fun D σ H => te σ H D.rt
theorem AY (he : PE X e te) : PS X (.Return (some e) pos) (UE te) := by
 intro pins s σ H D I h
 exact wpAny_Return_some (thn (he pins s σ H _ I h) fun v s1 ⟨x, H1, I1, r1, q1⟩ => ⟨x, σ, H1, I1, r1, q1⟩)
def UO (c : TT) (t u : TS) : TS := fun D σ H => c σ H fun b H1 => if b = true then t D σ H1 else u D σ H1
theorem BV {c : Expr} {a b : List Stmt} {tc : TT} (hc : PT X c tc) (ha : PSs X a t) (hb : PSs X b u) : PS X (.If c a b pos) (UO tc t u) := by
 intro pins s σ H D I h
 refine wpAny_If (thn (hc pins s σ H _ I h) fun d s1 ⟨H1, I1, q1⟩ => ?_)
 cases d with
 | true => exact ha pins s1 σ H1 D I1 q1
 | false => exact hb pins s1 σ H1 D I1 q1
def JZ : TS := fun _ _ _ => False
theorem CT : PS X st JZ := fun _ _ _ _ _ _ h => h.elim
end
abbrev TG := V → St → Hp → (St → Hp → Prop) → Prop
abbrev TGs := List V → St → Hp → (St → Hp → Prop) → Prop
def PG (X : Cx) (target : Expr) (t : TG) : Prop :=
 ∀ (pins : List (Addr × Obj)) (s : Shared) (σ : St) (H : Hp) (v : V) (u : Value) (Q : St → Hp → Prop), Inv X pins σ H s → BF v u → t v σ H Q →
  wpAny (model X.prog X.w) X.A (assign target X.env u) (fun _ s' => ∃ σ' H', Inv X pins σ' H' s' ∧ Q σ' H') X.xe s
def PGs (X : Cx) (ts : List Expr) (t : TGs) : Prop :=
 ∀ (pins : List (Addr × Obj)) (s : Shared) (σ : St) (H : Hp) (vs : List V) (us : List Value) (Q : St → Hp → Prop), Inv X pins σ H s → AO vs us → t vs σ H Q →
  wpAny (model X.prog X.w) X.A (assignInOrder ((assignEach ts X.env).map (·.2)) us) (fun _ s' => ∃ σ' H', Inv X pins σ' H' s' ∧ Q σ' H') X.xe s
abbrev dL := V → V → V → Hp → (Hp → Prop) → Prop
def cO (X : Cx) (t : dL) : Prop :=
 ∀ (pins : List (Addr × Obj)) (s : Shared) (σ : St) (H : Hp) (o i v : V) (ov iv u : Value) (Q : Hp → Prop), Inv X pins σ H s → BF o ov → BF i iv → BF v u → t o i v H Q →
  wpAny (model X.prog X.w) X.A (setItem ov iv u) (fun _ s' => ∃ H', Inv X pins σ H' s' ∧ Q H') X.xe s
abbrev TIp := V → V → Hp → VK → Prop
def PIp (X : Cx) (op : Operator) (t : TIp) : Prop :=
 ∀ (pins : List (Addr × Obj)) (s : Shared) (σ : St) (H : Hp) (x y : V) (v u : Value) (Q : VK), Inv X pins σ H s → BF x v → BF y u → t x y H Q →
  wpAny (model X.prog X.w) X.A (inplaceOp op v u) (EP X pins σ Q) X.xe s
section
variable {X : Cx} {pos : Pos}
def LU (i : Nat) : TG := fun v σ H Q => Q (σ.set i (some v)) H
theorem BT {i : Nat} {x : Str} (hN : X.N.Nodup) (hi : X.N[i]? = some x) (hx : Loc X.env.scope x) (hf : X.fn x = true ∨ X.env.scope.names.lookup x = some .local := by first | exact .inl rfl | exact .inr rfl | assumption) : PG X (.Name x pos) (LU i) := by
 intro pins s σ H v u Q I r h
 exact wpAny_assign_Name (KO I hN hi hx r (fun s' I' => ⟨_, H, I', h⟩) hf)
def XL : TGs := fun vs σ H Q => vs = [] ∧ Q σ H
def OB (t : TG) (u : TGs) : TGs := fun vs σ H Q => ∃ v r, vs = v :: r ∧ t v σ H fun σ' H' => u r σ' H' Q
theorem YV : PGs X [] XL := by
 intro pins s σ H vs us Q I r h
 obtain ⟨e, h⟩ := h
 subst e
 cases r
 exact assignInOrder_nil ⟨σ, H, I, h⟩
theorem WZ {e : Expr} {es : List Expr} {t : TG} {u : TGs} (h1 : PG X e t) (h2 : PGs X es u)
  (hs : (assignEach (e :: es) X.env).map (·.2) = assign e X.env :: (assignEach es X.env).map (·.2) := by rfl) : PGs X (e :: es) (OB t u) := by
 intro pins s σ H vs us Q I r h
 obtain ⟨v, vr, e1, h⟩ := h
 subst e1
 cases r with
 | cons r rr =>
  rw [hs]
  refine assignInOrder_cons (thn (h1 pins s σ H _ _ _ I r h) fun _ s1 ⟨σ1, H1, I1, q1⟩ => ?_)
  exact h2 pins s1 σ1 H1 _ _ Q I1 rr q1
def WB (K : PySem.W.Frag) (n : Nat) (t : TGs) : TG := fun v σ H Q => ∃ a xs, v = .ref a ∧ SqT K H a xs ∧ xs.length = n ∧ t xs σ H Q
theorem cA {es : List Expr} {k : Nat} {t : TGs} {n : Nat} (hc : X.calm = true) (h : PGs X es t)
  (hn : (assignEach es X.env).length = n := by rfl) (hst : (assignEach es X.env).findIdx? (·.1) = none := by rfl) : PG X (.Tuple es k pos) (WB X.K n t) := by
 intro pins s σ H v u Q I r hw
 obtain ⟨a, xs, e1, hq, hl, hw⟩ := hw
 subst e1
 cases r
 obtain ⟨its, rv, ht, hz⟩ := I.tuple hq
 refine assign_Tuple_tuple (I.ok.hd hc) ht (by simp [hn, ← hl, rv.length]) hst fun h' hx => ?_
 have I1 : Inv X pins σ H { s with heap := h' } := I.kept (t' := s.toks) fun b o e => hx b o (Nat.ne_of_lt (Heap.lt_size e)) e
 exact h pins _ σ H xs _ Q I1 (by simpa using rv) hw
def UB (te : TE) (g : TG) : TS := fun D σ H => te σ H fun x H1 => g x σ H1 D.nx
theorem II {tg e : Expr} {te : TE} {g : TG} (he : PE X e te) (hg : PG X tg g) (hs : swapsWithSole [tg] e pos.line X.env = pure false := by rfl) (hw : swappedStores [tg] e X.env = pure none := by rfl)
  (h1 : (assignEach [tg] X.env).map (·.2) = [assign tg X.env] := by rfl) : PS X (.Assign [tg] e pos) (UB te g) := by
 intro pins s σ H D I h
 refine wpAny_Assign_stores (thn (he pins s σ H _ I h) fun v s1 ⟨x, H1, I1, r1, q1⟩ => ?_) hs hw
 rw [h1]
 exact thn (hg pins s1 σ H1 x v _ I1 r1 q1) fun _ s2 q => q
theorem AT {i : Nat} {x : Str} {e : Expr} {te : TE} {pos' : Pos} (hN : X.N.Nodup) (hi : X.N[i]? = some x) (hx : Loc X.env.scope x) (he : PE X e te) (hs : swapsWith e (some (.Name x pos')) pos.line X.env = pure false := by rfl) (hf : X.fn x = true ∨ X.env.scope.names.lookup x = some .local := by first | exact .inl rfl | exact .inr rfl | assumption) :
  PS X (.Assign [.Name x pos'] e pos) (UB te (LU i)) := by
 intro pins s σ H D I h
 refine wpAny_Assign_Name (thn (he pins s σ H _ I h) fun v s1 ⟨y, H1, I1, r1, q1⟩ => ?_) hs
 exact KO I1 hN hi hx r1 (fun s2 I2 => ⟨_, H1, I2, q1⟩) hf
def WY (i : Nat) (te : TE) (ti : TIp) : TS := fun D σ H => ∃ x, σ[i]? = some (some x) ∧ te σ H fun y H1 => ti x y H1 fun z H2 => D.nx (σ.set i (some z)) H2
theorem aQ {i : Nat} {x : Str} {e : Expr} {te : TE} {op : Operator} {ti : TIp} {pos' : Pos} (hN : X.N.Nodup) (hi : X.N[i]? = some x) (hx : Loc X.env.scope x) (he : PE X e te) (ho : PIp X op ti) (hf : X.fn x = true ∨ X.env.scope.names.lookup x = some .local := by first | exact .inl rfl | exact .inr rfl | assumption) :
  PS X (.AugAssign (.Name x pos') op e pos) (WY i te ti) := by
 intro pins s σ H D I h
 obtain ⟨v, e1, h⟩ := h
 obtain ⟨m, hn, hl⟩ := I.loc
 have vis : Vis X.env.scope x := by rcases hx with k | k; exact .inl k; exact .inr (.inl k)
 obtain ⟨u, r, l⟩ := hl i x v hi e1 vis
 refine wpAny_AugAssign_Name ?_
 have go : wpAny (model X.prog X.w) X.A (eval e X.env) (fun w s₂ => wpAny (model X.prog X.w) X.A (inplaceOp op u w) (fun r s₃ => wpAny (model X.prog X.w) X.A (storeName X.env x r) (fun _ => SP X pins D .next) X.xe s₃) X.xe s₂) X.xe s := by
  refine thn (he pins s σ H _ I h) fun w s1 ⟨y, H1, I1, r1, q1⟩ => ?_
  refine thn (ho pins s1 σ H1 v y u w _ I1 r r1 q1) fun z s2 ⟨zv, H2, I2, r2, q2⟩ => ?_
  exact KO I2 hN hi hx r2 (fun s3 I3 => ⟨_, H2, I3, q2⟩) hf
 rcases l with ⟨hk, hm⟩ | ⟨hk, c, hc, hcell⟩
 ·exact wpAny_loadName_local I.ok.kind hk hn hm go
 ·rcases hk with hk | hk
  ·exact wpAny_loadName_cell I.ok.kind hk hc hcell go
  ·rcases hx with k | k
   ·have : X.env.scope.names.lookup x = some .free := hk
    rw [k] at this; cases this
   ·have : X.env.scope.names.lookup x = some .free := hk
    rw [k] at this; cases this
def ipI (f : Int → Int → Int) : TIp := fun x y H Q => ∃ i j, x = .int i ∧ y = .int j ∧ Q (.int (f i j)) H
theorem bN : PIp X .Add (ipI fun i j => i + j) := by
 intro pins s σ H x y v u Q I r1 r2 h
 obtain ⟨i, j, e1, e2, q⟩ := h
 subst e1; subst e2
 obtain ⟨t, rfl⟩ := r1
 obtain ⟨t', rfl⟩ := r2
 exact iadd_int ⟨.int _, H, I.tok _, ⟨_, rfl⟩, q⟩
end
section
variable {X : Cx} {pos : Pos}
def XJ (c : TT) (tb : TS) : TS := fun D σ H => ∃ W : Nat → St → Hp → Prop, (∃ m, W m σ H) ∧ ∀ m σ H, W m σ H →
 c σ H fun b H1 => if b = true then ∃ N : St → Hp → Prop, (∀ σ' H', N σ' H' → ∃ m', m' < m ∧ W m' σ' H') ∧ tb { D with nx := N, ct := N, bk := D.nx } σ H1 else D.nx σ H1
theorem JL {c : Expr} {body : List Stmt} {tc : TT} {tb : TS} (hp : PassesOwn (model X.prog X.w) X.A X.env X.xe) (hc : PT X c tc) (hb : PSs X body tb) : PS X (.While c body [] pos) (XJ tc tb) := by
 intro pins s σ H D I h
 obtain ⟨W, ⟨m0, w0⟩, turn⟩ := h
 refine wpAny_While (codeAny_whileLoop (fun n s' => ∃ σ' H', Inv X pins σ' H' s' ∧ W n σ' H') ?_ m0 ⟨σ, H, I, w0⟩)
 rintro n s1 ⟨σ1, H1, I1, w1⟩
 refine wpAny_passesOwn hp (thn (hc pins s1 σ1 H1 _ I1 (turn n σ1 H1 w1)) fun b s2 ⟨H2, I2, q2⟩ => ?_)
 cases b with
 | true =>
  obtain ⟨N, hN, q2⟩ := q2
  rw [if_pos rfl]
  refine wpAny_passesOwn hp (thn (hb pins s2 σ1 H2 _ I2 q2) fun f s3 q3 => ?_)
  cases f with
  | next =>
   obtain ⟨σ3, H3, I3, n3⟩ := q3
   obtain ⟨m', hm, w3⟩ := hN σ3 H3 n3
   exact ⟨m', hm, σ3, H3, I3, w3⟩
  | cont =>
   obtain ⟨σ3, H3, I3, n3⟩ := q3
   obtain ⟨m', hm, w3⟩ := hN σ3 H3 n3
   exact ⟨m', hm, σ3, H3, I3, w3⟩
  | brk => exact q3
  | ret v => exact q3
 | false =>
  rw [if_neg Bool.false_ne_true]
  exact wpAny_execs_nil ⟨σ1, H2, I2, q2⟩
end
structure It where
 go : Nat → Hp → Prop
 yld : Nat → Hp → V → Hp → Prop
 stop : Nat → Hp → Prop
def JT (X : Cx) (pins : List (Addr × Obj)) (H : Hp) (b : Addr) : Prop :=
 H b = none ∧ b ≠ X.env.locals ∧ b ∉ X.fs ∧ (b ∈ X.ex ∨ X.s₀.heap.objs.size ≤ b) ∧ (∀ x c, X.env.cells.lookup x = some c → c ≠ b) ∧ ∀ p ∈ X.pn ++ pins, p.1 ≠ b
theorem Inv.fpOk {X : Cx} {pins : List (Addr × Obj)} {σ : St} {H H' : Hp} {s : Shared} {b : Addr} (I : Inv X pins σ H s) (hb : s.heap.objs.size ≤ b) (hn : H' b = none) : JT X pins H' b := by
 refine ⟨hn, Nat.ne_of_gt (Nat.lt_of_lt_of_le I.lt hb), I.nofs hb, .inr (Nat.le_trans I.sz hb), fun x c e z => ?_, fun p hp z => ?_⟩
 ·obtain ⟨v, q⟩ := I.cell x c e
  exact absurd (Nat.lt_of_lt_of_le q.lt (by rw [z]; exact hb)) (Nat.lt_irrefl _)
 ·exact absurd (Nat.lt_of_lt_of_le (Heap.lt_size (I.pin p hp).1) (by rw [z]; exact hb)) (Nat.lt_irrefl _)
structure YI (P : Program) (w : World) (K : PySem.W.Frag) (tg : Expr) (J : It) (fp : List Addr) (it : Addr) (tn : Nat → Heap → Prop) : Prop where
 mem : it ∈ fp
 obj : ∀ i h, tn i h → ∀ b ∈ fp, ∃ o, h.get? b = some o ∧ ∀ v, o.data ≠ .cell v
 keep : ∀ i h h', tn i h → (∀ b ∈ fp, ∀ o, h.get? b = some o → h'.get? b = some o) → tn i h'
 item : ∀ (X : Cx), X.prog = P → X.w = w → X.K = K → X.calm = true → ∀ (i : Nat) (pins : List (Addr × Obj)) (s : Shared) (σ : St) (H : Hp) (E : Value → Shared → Prop), Inv X pins σ H s → (∀ b ∈ fp, JT X pins H b) → tn i s.heap → J.go i H →
  wpAny (model P w) X.A (pyNext (.ref it)) (fun r s1 => ∃ u, r = some u ∧
   wpAny (model P w) X.A (letOwnedTupleGo tg (.ref it) u) (fun _ s2 => ∃ x H', Inv X pins σ H' s2 ∧ BF x u ∧ J.yld i H x H' ∧ tn (i + 1) s2.heap ∧ ∀ b ∈ fp, H' b = none) E s1) E s
 done : ∀ (X : Cx), X.prog = P → X.w = w → X.K = K → X.calm = true → ∀ (i : Nat) (pins : List (Addr × Obj)) (s : Shared) (σ : St) (H : Hp) (E : Value → Shared → Prop), Inv X pins σ H s → (∀ b ∈ fp, JT X pins H b) → tn i s.heap → J.stop i H →
  wpAny (model P w) X.A (pyNext (.ref it)) (fun r s1 => r = none ∧ Inv X pins σ H s1) E s
 self : ∀ (A : Around) (i : Nat) (s : Shared) (Q : Value → Shared → Prop) (E : Value → Shared → Prop), tn i s.heap → Q (.ref it) s → wpAny (model P w) A (pyIter (.ref it)) Q E s
abbrev TI := St → Hp → (It → Hp → Prop) → Prop
def PIE (X : Cx) (pins : List (Addr × Obj)) (σ : St) (tg : Expr) (R : It → Hp → Prop) (itv : Value) (s2 : Shared) : Prop :=
 ∃ (it : Addr) (fp : List Addr) (tn : Nat → Heap → Prop) (J : It) (H' : Hp), itv = .ref it ∧ Inv X pins σ H' s2 ∧ YI X.prog X.w X.K tg J fp it tn ∧ tn 0 s2.heap ∧ (∀ b ∈ fp, JT X pins H' b) ∧ R J H'
def PI (X : Cx) (tg iter : Expr) (wi : TI) : Prop :=
 ∀ (pins : List (Addr × Obj)) (s : Shared) (σ : St) (H : Hp) (R : It → Hp → Prop), Inv X pins σ H s → wi σ H R →
  wpAny (model X.prog X.w) X.A (eval iter X.env) (fun v s1 => wpAny (model X.prog X.w) X.A (pyIter v) (PIE X pins σ tg R) X.xe s1) X.xe s
theorem WC {M : Model} {A : Around} {E : Value → Shared → Prop} {s : Shared} {tg : Expr} {it : Addr} {u : Value} {o : Obj} {n : String} {vs : Array Value} {Q : Unit → Shared → Prop} (ho : s.heap.get? it = some o) (hc : o.cls = .type n) (hd : o.data = .fields vs)
  (hn : ["enumerate", "zip", "dict_itemiterator", "dict_reverseitemiterator", "odict_iterator", "itertools.zip_longest", "itertools.pairwise"].contains n = false) (hQ : Q () s) : wpAny M A (letOwnedTupleGo tg (.ref it) u) Q E s := by
 unfold letOwnedTupleGo
 cases tg <;> first
  | exact wpAny_pure hQ
  | (cases u <;> first
    | exact wpAny_pure hQ
    | (refine wpAny_bind (wpAny_load ho ?_)
       rw [hc, hd]
       show wpAny M A (if (["enumerate", "zip", "dict_itemiterator", "dict_reverseitemiterator", "odict_iterator", "itertools.zip_longest", "itertools.pairwise"].contains n && vs[0]? == some (rawInt _)) = true then _ else _) Q E s
       rw [if_neg (by intro h; rw [hn, Bool.false_and] at h; cases h)]
       exact wpAny_pure hQ))
def Itt (K : PySem.W.Frag) (a : Addr) : It :=
 ⟨fun i H => ∃ xs x, SqT K H a xs ∧ xs[i]? = some x, fun i H x H' => H' = H ∧ ∀ xs, SqT K H a xs → xs[i]? = some x, fun i H => ∃ xs, SqT K H a xs ∧ xs.length ≤ i⟩
def Itr (lo : Int) (n : Nat) : It := ⟨fun i _ => i < n, fun i H x H' => H' = H ∧ x = .int (lo + i), fun i _ => n ≤ i⟩
theorem RB {P : Program} {w : World} {K : PySem.W.Frag} {tg : Expr} (a it : Addr) : YI P w K tg (Itt K a) [it] it (fun i h => h.IsTupleIter it a i) where
 mem := by simp
 obj := fun i h st b hb => by
  have e : b = it := by simpa using hb
  subst e
  obtain ⟨o, e, c, d⟩ := st
  exact ⟨o, e, fun v z => by rw [d] at z; cases z⟩
 keep := fun i h h' st k => st.at fun o e => k it (by simp) o e
 item := by
  intro X hP hw hK hc i pins s σ H E I hf st hg
  subst hP hw hK
  obtain ⟨xs, x, hq, hx⟩ := hg
  obtain ⟨its, rv, p, hz⟩ := I.tuple hq
  obtain ⟨u, hu, ru⟩ := rv.get hx
  obtain ⟨f0, f1, f2, f3, f4, f5⟩ := hf it (by simp)
  refine wpAny_pyNext_tuple_item st (show s.heap.IsTuple a its.toArray from p) (x := u) (by simpa using hu) fun h' st' sb => ?_
  have I1 : Inv X pins σ H { s with heap := h' } := I.turned (t' := s.toks) (fun b o hb e => (sb.2 b hb).trans e) f0 f1 f3 f4 f5
  obtain ⟨o, e, c, d⟩ := id st'
  exact ⟨u, rfl, WC (s := { s with heap := h' }) e c d (by decide) ⟨x, H, I1, ru, ⟨rfl, fun ys hy => by rw [I.tuple_inj hy hq]; exact hx⟩, st', fun b hb => (hf b hb).1⟩⟩
 done := by
  intro X hP hw hK hc i pins s σ H E I hf st hg
  subst hP hw hK
  obtain ⟨xs, hq, hx⟩ := hg
  obtain ⟨its, rv, p, hz⟩ := I.tuple hq
  obtain ⟨f0, f1, f2, f3, f4, f5⟩ := hf it (by simp)
  have hl := rv.length
  exact wpAny_pyNext_tuple_end (I.ok.hd hc) st (show s.heap.IsTuple a its.toArray from p) (by simp; omega) fun h' eb => ⟨rfl, I.turned (t' := s.toks) (fun b o hb e => eb b o hb e) f0 f1 f3 f4 f5⟩
 self := fun _ _ _ _ _ st h => wpAny_pyIter_tupleiter st h
theorem QI {P : Program} {w : World} {K : PySem.W.Frag} {tg : Expr} (it : Addr) (lo : Int) (n : Nat) : YI P w K tg (Itr lo n) [it] it (fun i h => IsRangeIter h it (lo + (i : Nat) * 1) ((n : Int) - (i : Nat)) 1) where
 mem := by simp
 obj := fun i h st b hb => by
  have e : b = it := by simpa using hb
  subst e
  exact ⟨_, st, fun v z => by
   have z' : Data.fields _ = Data.cell v := z
   cases z'⟩
 keep := fun i h h' st k => k it (by simp) _ st
 item := by
  intro X hP hw hK hc i pins s σ H E I hf st hg
  subst hP hw hK
  obtain ⟨f0, f1, f2, f3, f4, f5⟩ := hf it (by simp)
  have W := Walks.range (prog := X.prog) (w := X.w) (I.ok.hd hc) it lo 1 n
  refine W.item i s _ _ hg st fun v h' tk hv st' kk => ?_
  obtain ⟨t, rfl⟩ := hv
  have I1 : Inv X pins σ H { s with heap := h', toks := tk } := I.turned (fun b o hb e => kk b o (by simpa using hb) e) f0 f1 f3 f4 f5
  refine ⟨_, rfl, WC (s := { s with heap := h', toks := tk }) (n := "range_iterator") st' rfl rfl (by decide) ⟨.int (lo + i), H, I1, ⟨t, ?_⟩, ⟨rfl, rfl⟩, st', fun b hb => (hf b hb).1⟩⟩
  rw [Int.mul_one]
 done := by
  intro X hP hw hK hc i pins s σ H E I hf st hg
  subst hP hw hK
  obtain ⟨f0, f1, f2, f3, f4, f5⟩ := hf it (by simp)
  exact wpAny_pyNext_range_end (I.ok.hd hc) st (by have : n ≤ i := hg; omega) fun h' eb => ⟨rfl, I.turned (t' := s.toks) (fun b o hb e => eb b o hb e) f0 f1 f3 f4 f5⟩
 self := fun _ _ _ _ _ st h => wpAny_pyIter_rangeiter st h
section
variable {X : Cx} {tg : Expr}
def WS (K : PySem.W.Frag) (tl : TE) : TI := fun σ H R => tl σ H fun x H1 => ∃ a, x = .ref a ∧ (∃ xs, SqT K H1 a xs) ∧ R (Itt K a) H1
theorem cQ {l : Expr} {tl : TE} (hl : PE X l tl) : PI X tg l (WS X.K tl) := by
 intro pins s σ H R I h
 refine thn (hl pins s σ H _ I h) fun v s1 ⟨x, H1, I1, r1, q1⟩ => ?_
 obtain ⟨a, e, ⟨xs, hq⟩, q⟩ := q1
 subst e
 cases r1
 obtain ⟨its, rv, p, hz⟩ := I1.tuple hq
 refine wpAny_pyIter_tuple (show s1.heap.IsTuple a its.toArray from p) ?_
 refine ⟨s1.heap.objs.size, [s1.heap.objs.size], _, _, H1, rfl, I1.kept (t' := s1.toks) fun b o e => Heap.get?_push_of_some _ e, RB a _, ⟨_, Heap.get?_push_size _ rfl, rfl, rfl⟩, fun b hb => ?_, q⟩
 have e : b = s1.heap.objs.size := by simpa using hb
 subst e
 exact I1.fpOk (Nat.le_refl _) (I1.hok.fresh (Nat.le_refl _))
theorem OM {pins : List (Addr × Obj)} {σ : St} {H : Hp} {s : Shared} {R : It → Hp → Prop} {E : Value → Shared → Prop} {lo hi : Int} {t u v : Tok} {tk : Nat} (I : Inv X pins σ H s) (h1 : -(2 ^ 62) ≤ lo) (h2 : lo < 2 ^ 62) (h3 : -(2 ^ 62) ≤ hi) (h4 : hi < 2 ^ 62)
  (q : R (Itr lo (hi - lo).toNat) H) : wpAny (model X.prog X.w) X.A (pyIter (.ref s.heap.objs.size)) (PIE X pins σ tg R) E { s with heap := s.heap.push { cls := .type "range", data := .fields #[.int lo t, .int hi u, .int 1 v] }, toks := tk } := by
 refine wpAny_pyIter_range (IsRange.new ..) (small_one h1 h2 h3 h4) ?_
 have I1 : Inv X pins σ H { s with heap := s.heap.push { cls := .type "range", data := .fields #[.int lo t, .int hi u, .int 1 v] }, toks := tk } := I.kept fun b o e => Heap.get?_push_of_some _ e
 refine ⟨(s.heap.push { cls := .type "range", data := .fields #[.int lo t, .int hi u, .int 1 v] }).objs.size, [(s.heap.push { cls := .type "range", data := .fields #[.int lo t, .int hi u, .int 1 v] }).objs.size], _, _, H, rfl,
  I1.kept (t' := tk) fun b o e => Heap.get?_push_of_some _ e, QI _ lo (hi - lo).toNat, ?_, fun b hb => ?_, q⟩
 ·have e1 : lo + ((0 : Nat) : Int) * 1 = lo := by simp
  have e2 : (((hi - lo).toNat : Nat) : Int) - ((0 : Nat) : Int) = Builtin.Range.rangeSize lo hi 1 := by rw [rangeSize_one]; split <;> omega
  show IsRangeIter _ _ (lo + ((0 : Nat) : Int) * 1) ((((hi - lo).toNat : Nat) : Int) - ((0 : Nat) : Int)) 1
  rw [e1, e2]
  exact Heap.get?_push_size _ rfl
 ·have e : b = (s.heap.push { cls := .type "range", data := .fields #[.int lo t, .int hi u, .int 1 v] }).objs.size := by simpa using hb
  subst e
  exact I1.fpOk (Nat.le_refl _) (I1.hok.fresh (Nat.le_refl _))
def OX (ta : TA) : TI := fun σ H R => ta σ H fun vs H1 => ∃ j : Int, vs = [.int j] ∧ -(2 ^ 62) ≤ j ∧ j < 2 ^ 62 ∧ R (Itr 0 j.toNat) H1
def PD (ta : TA) : TI := fun σ H R => ta σ H fun vs H1 => ∃ i j : Int, vs = [.int i, .int j] ∧ (-(2 ^ 62) ≤ i ∧ i < 2 ^ 62 ∧ -(2 ^ 62) ≤ j ∧ j < 2 ^ 62) ∧ R (Itr i (j - i).toNat) H1
theorem LZ {a : Expr} {ta : TA} {p pos : Pos} (hg : Gl X "range") (hm : X.mg "range" = none) (ha : PA X [a] ta) (hs : starEach [a] X.env = [(false, eval a X.env)] := by rfl) : PI X tg (.Call (.Name "range" p) [a] [] pos) (OX ta) := by
 intro pins s σ H R I h
 refine Call_ (EO I hg hm boot_range (PyProof.Rows.callWith_type1 (thn (ha pos pins s σ H _ I h) fun us s1 ⟨vs, H1, I1, r1, q1⟩ => ?_) hs rfl))
 obtain ⟨j, e, q1, q2, q⟩ := q1
 subst e
 cases r1 with
 | cons r rr =>
  cases rr
  obtain ⟨t, rfl⟩ := r
  exact call_range_1 (OM I1 (by omega) (by omega) q1 q2 (by simpa using q))
theorem TZ {a b : Expr} {ta : TA} {p pos : Pos} (hg : Gl X "range") (hm : X.mg "range" = none) (ha : PA X [a, b] ta) (hs : starEach [a, b] X.env = [(false, eval a X.env), (false, eval b X.env)] := by rfl) (hs2 : starEach [b] X.env = [(false, eval b X.env)] := by rfl) :
  PI X tg (.Call (.Name "range" p) [a, b] [] pos) (PD ta) := by
 intro pins s σ H R I h
 refine Call_ (EO I hg hm boot_range (PyProof.Rows.callWith_type1 (thn (ha pos pins s σ H _ I h) fun us s1 ⟨vs, H1, I1, r1, q1⟩ => ?_) (by rw [hs, hs2]) (by rw [hs2]; rfl)))
 obtain ⟨i, j, e, ⟨q1, q2, q3, q4⟩, q⟩ := q1
 subst e
 cases r1 with
 | cons r rr =>
  cases rr with
  | cons r' rr =>
   cases rr
   obtain ⟨t, rfl⟩ := r
   obtain ⟨t', rfl⟩ := r'
   exact call_range_2 (OM I1 q1 q2 q3 q4 q)
def dJ (wi : TI) (g : TG) (tb : TS) : TS := fun D σ H => wi σ H fun J H1 => ∃ W : Nat → Nat → St → Hp → Prop, (∃ m, W 0 m σ H1) ∧ ∀ i m σ H, W i m σ H →
 (J.stop i H ∧ D.nx σ H) ∨ (J.go i H ∧ ∃ N : St → Hp → Prop, (∀ σ' H', N σ' H' → ∃ m', m' < m ∧ W (i + 1) m' σ' H') ∧ ∀ x H', J.yld i H x H' → g x σ H' fun σ2 H2 => tb { D with nx := N, ct := N, bk := D.nx } σ2 H2)
def KB (fp : List Addr) (h : Heap) : List (Addr × Obj) := fp.filterMap fun b => (h.get? b).map fun o => (b, o)
theorem FI {fp : List Addr} {h : Heap} {b : Addr} {o : Obj} (hb : b ∈ fp) (e : h.get? b = some o) : (b, o) ∈ KB fp h := List.mem_filterMap.mpr ⟨b, hb, by rw [e]; rfl⟩
theorem SG {fp : List Addr} {h : Heap} {p : Addr × Obj} (hp : p ∈ KB fp h) : p.1 ∈ fp ∧ h.get? p.1 = some p.2 := by
 obtain ⟨b, hb, e⟩ := List.mem_filterMap.mp hp
 cases q : h.get? b with
 | none => rw [q] at e; cases e
 | some o =>
  rw [q] at e
  have e' : (b, o) = p := Option.some.inj e
  subst e'
  exact ⟨hb, q⟩
theorem Inv.pinned {pins : List (Addr × Obj)} {σ : St} {H : Hp} {s : Shared} {fp : List Addr} (I : Inv X pins σ H s) (hf : ∀ b ∈ fp, JT X pins H b) (ho : ∀ b ∈ fp, ∃ o, s.heap.get? b = some o ∧ ∀ v, o.data ≠ .cell v) : Inv X (pins ++ KB fp s.heap) σ H s :=
 I.pins_of fun p hp => (List.mem_append.mp hp).elim (fun z => I.pin p (List.mem_append_right _ z)) fun z => by
  obtain ⟨hb, e⟩ := SG z
  obtain ⟨f0, f1, f2, _⟩ := hf p.1 hb
  obtain ⟨o, e', d⟩ := ho p.1 hb
  rw [e] at e'; cases e'
  exact ⟨e, f0, f1, f2, d⟩
theorem Inv.unpinned {pins pl : List (Addr × Obj)} {σ : St} {H : Hp} {s : Shared} (I : Inv X (pins ++ pl) σ H s) : Inv X pins σ H s := I.pins_of fun p hp => I.pin p (List.mem_append_right _ (List.mem_append_left _ hp))
theorem NI {iter : Expr} {body : List Stmt} {wi : TI} {g : TG} {tb : TS} {pos : Pos} (hp : PassesOwn (model X.prog X.w) X.A X.env X.xe) (hc : X.calm = true) (hi : PI X tg iter wi) (hg : PG X tg g) (hb : PSs X body tb)
  (hs : ∀ x, foldedSetIterable iter X.env x = pure x := by intro _; rfl) : PS X (.For tg iter body [] pos) (dJ wi g tb) := by
 intro pins s σ H D I h
 refine wpAny_For (thn (hi pins s σ H _ I h) fun v s1 h1 => thn h1 fun itv s2 h2 => ?_) hs
 obtain ⟨it, fp, tn, J, H2, e, I2, T, st2, f2, W, ⟨m0, w0⟩, turn⟩ := h2
 subst e
 have stat : ∀ {H' : Hp}, (∀ b ∈ fp, H' b = none) → ∀ b ∈ fp, JT X pins H' b := fun hn b hb => ⟨hn b hb, (f2 b hb).2⟩
 refine codeAny_forLoop_any (fun n s' => ∃ i σ' H', Inv X pins σ' H' s' ∧ tn i s'.heap ∧ (∀ b ∈ fp, H' b = none) ∧ W i n σ' H') ?_ m0 ⟨0, σ, H2, I2, st2, fun b hb => (f2 b hb).1, w0⟩
 rintro n s3 ⟨i, σ3, H3, I3, st3, fr3, w3⟩
 rcases turn i n σ3 H3 w3 with ⟨stop, qn⟩ | ⟨go, N, hN, step⟩
 ·refine wpAny_passesOwn hp (thn (T.done X rfl rfl rfl hc i pins s3 σ3 H3 X.xe I3 (stat fr3) st3 stop) fun r s4 ⟨hr, I4⟩ => ?_)
  subst hr
  exact wpAny_execs_nil ⟨σ3, H3, I4, qn⟩
 ·refine wpAny_passesOwn hp (thn (T.item X rfl rfl rfl hc i pins s3 σ3 H3 X.xe I3 (stat fr3) st3 go) fun r s4 ⟨u, hr, h4⟩ => ?_)
  subst hr
  refine wpAny_passesOwn hp (thn h4 fun _ s5 ⟨x, H5, I5, r5, y5, st5, fr5⟩ => ?_)
  have I5' := I5.pinned (stat fr5) (T.obj _ _ st5)
  refine wpAny_passesOwn hp (thn (hg _ s5 σ3 H5 x u _ I5' r5 (step x H5 y5)) fun _ s6 ⟨σ6, H6, I6, q6⟩ => ?_)
  refine wpAny_passesOwn hp (thn (hb _ s6 σ6 H6 _ I6 q6) fun f s7 q7 => ?_)
  have again : ∀ {σ7 : St} {H7 : Hp}, Inv X (pins ++ KB fp s5.heap) σ7 H7 s7 → N σ7 H7 → ∃ m, m < n ∧ ∃ i σ' H', Inv X pins σ' H' s7 ∧ tn i s7.heap ∧ (∀ b ∈ fp, H' b = none) ∧ W i m σ' H' := fun {σ7 H7} I7 n7 => by
   obtain ⟨m', hm, w7⟩ := hN σ7 H7 n7
   refine ⟨m', hm, i + 1, σ7, H7, I7.unpinned, T.keep _ _ _ st5 fun b hb o e => (I7.pin (b, o) (List.mem_append_right _ (List.mem_append_right _ (FI hb e)))).1, fun b hb => ?_, w7⟩
   obtain ⟨o, e, d⟩ := T.obj _ _ st5 b hb
   exact (I7.pin (b, o) (List.mem_append_right _ (List.mem_append_right _ (FI hb e)))).2.1
  cases f with
  | next => obtain ⟨σ7, H7, I7, n7⟩ := q7; exact again I7 n7
  | cont => obtain ⟨σ7, H7, I7, n7⟩ := q7; exact again I7 n7
  | brk => obtain ⟨σ7, H7, I7, q7⟩ := q7; exact ⟨σ7, H7, I7.unpinned, q7⟩
  | ret v => obtain ⟨x7, σ7, H7, I7, r7, q7⟩ := q7; exact ⟨x7, σ7, H7, I7.unpinned, r7, q7⟩
end
theorem aE {K : PySem.W.Frag} {a : Addr} {xs : List V} {g : TG} {tb : TS} {D : JB} {σ : St} {H : Hp} (Pv : Nat → St → Hp → Prop) (h0 : Pv 0 σ H) (hl : ∀ i σ H, i ≤ xs.length → Pv i σ H → SqT K H a xs)
  (hs : ∀ i x σ H, xs[i]? = some x → Pv i σ H → g x σ H fun σ2 H2 => tb { D with nx := Pv (i + 1), ct := Pv (i + 1), bk := D.nx } σ2 H2) (hd : ∀ σ H, Pv xs.length σ H → D.nx σ H) :
  ∃ W : Nat → Nat → St → Hp → Prop, (∃ m, W 0 m σ H) ∧ ∀ i m σ H, W i m σ H →
   ((Itt K a).stop i H ∧ D.nx σ H) ∨ ((Itt K a).go i H ∧ ∃ N : St → Hp → Prop, (∀ σ' H', N σ' H' → ∃ m', m' < m ∧ W (i + 1) m' σ' H') ∧ ∀ x H', (Itt K a).yld i H x H' → g x σ H' fun σ2 H2 => tb { D with nx := N, ct := N, bk := D.nx } σ2 H2) := by
 refine ⟨fun i m σ H => m = xs.length - i ∧ i ≤ xs.length ∧ Pv i σ H, ⟨xs.length, by simp, Nat.zero_le _, h0⟩, ?_⟩
 rintro i m σ H ⟨rfl, hi, p⟩
 have q := hl i σ H hi p
 by_cases hlt : i < xs.length
 ·refine .inr ⟨⟨xs, xs[i], q, by simp [hlt]⟩, Pv (i + 1), fun σ' H' p' => ⟨xs.length - (i + 1), by omega, rfl, hlt, p'⟩, fun x H' y => ?_⟩
  obtain ⟨e, y⟩ := y
  subst e
  exact hs i x σ _ (y xs q) p
 ·have e : i = xs.length := by omega
  subst e
  exact .inl ⟨⟨xs, q, Nat.le_refl _⟩, hd σ H p⟩
theorem SZ {lo : Int} {n : Nat} {g : TG} {tb : TS} {D : JB} {σ : St} {H : Hp} (Pv : Nat → St → Hp → Prop) (h0 : Pv 0 σ H)
  (hs : ∀ i σ H, i < n → Pv i σ H → g (.int (lo + i)) σ H fun σ2 H2 => tb { D with nx := Pv (i + 1), ct := Pv (i + 1), bk := D.nx } σ2 H2) (hd : ∀ σ H, Pv n σ H → D.nx σ H) :
  ∃ W : Nat → Nat → St → Hp → Prop, (∃ m, W 0 m σ H) ∧ ∀ i m σ H, W i m σ H →
   ((Itr lo n).stop i H ∧ D.nx σ H) ∨ ((Itr lo n).go i H ∧ ∃ N : St → Hp → Prop, (∀ σ' H', N σ' H' → ∃ m', m' < m ∧ W (i + 1) m' σ' H') ∧ ∀ x H', (Itr lo n).yld i H x H' → g x σ H' fun σ2 H2 => tb { D with nx := N, ct := N, bk := D.nx } σ2 H2) := by
 refine ⟨fun i m σ H => m = n - i ∧ i ≤ n ∧ Pv i σ H, ⟨n, by simp, Nat.zero_le _, h0⟩, ?_⟩
 rintro i m σ H ⟨rfl, hi, p⟩
 by_cases hlt : i < n
 ·refine .inr ⟨hlt, Pv (i + 1), fun σ' H' p' => ⟨n - (i + 1), by omega, rfl, hlt, p'⟩, fun x H' y => ?_⟩
  obtain ⟨e, y⟩ := y
  subst e y
  exact hs i σ _ hlt p
 ·have e : i = n := by omega
  subst e
  exact .inl ⟨Nat.le_refl _, hd σ H p⟩
abbrev R2 := V → V → Hp → VK → Prop
def OpR (X : Cx) (f : Value → Value → Sem Value) (r : R2) : Prop :=
 ∀ (pins : List (Addr × Obj)) (s : Shared) (σ : St) (H : Hp) (x y : V) (v u : Value) (Q : VK), Inv X pins σ H s → BF x v → BF y u → r x y H Q →
  wpAny (model X.prog X.w) X.A (f v u) (EP X pins σ Q) X.xe s
def UnR (X : Cx) (f : Value → Sem Value) (r : V → Hp → VK → Prop) : Prop :=
 ∀ (pins : List (Addr × Obj)) (s : Shared) (σ : St) (H : Hp) (x : V) (v : Value) (Q : VK), Inv X pins σ H s → BF x v → r x H Q →
  wpAny (model X.prog X.w) X.A (f v) (EP X pins σ Q) X.xe s
def DJ (X : Cx) (f : Value) (r : List V → Hp → VK → Prop) : Prop :=
 ∀ (pins : List (Addr × Obj)) (s : Shared) (σ : St) (H : Hp) (xs : List V) (us : List Value) (Q : VK), Inv X pins σ H s → AO xs us → r xs H Q →
  wpAny (model X.prog X.w) X.A (call f us) (EP X pins σ Q) X.xe s
def TruR (X : Cx) (r : V → Hp → (Bool → Hp → Prop) → Prop) : Prop :=
 ∀ (pins : List (Addr × Obj)) (s : Shared) (σ : St) (H : Hp) (x : V) (v : Value) (Q : Bool → Hp → Prop), Inv X pins σ H s → BF x v → r x H Q →
  wpAny (model X.prog X.w) X.A (truthy v) (TP X pins σ Q) X.xe s
def tOp (r : R2) (ta tb : TE) : TE := fun σ H Q => ta σ H fun x H1 => tb σ H1 fun y H2 => r x y H2 Q
def tUn (r : V → Hp → VK → Prop) (ta : TE) : TE := fun σ H Q => ta σ H fun x H1 => r x H1 Q
def rI (C : Int → Int → Prop) (g : Int → Int → V) : R2 := fun x y H Q => ∃ i j, x = .int i ∧ y = .int j ∧ C i j ∧ Q (g i j) H
def rI0 (g : Int → Int → V) : R2 := fun x y H Q => ∃ i j, x = .int i ∧ y = .int j ∧ Q (g i j) H
def rU (g : Int → V) : V → Hp → VK → Prop := fun x H Q => ∃ i, x = .int i ∧ Q (g i) H
section
variable {X : Cx} {a b c : Expr} {ta tb tc : TE} {pos : Pos}
theorem bG (ha : PE X a ta) (hb : PE X b tb) {pins : List (Addr × Obj)} {s : Shared} {σ : St} {H : Hp} {R : V → V → Hp → Prop} (I : Inv X pins σ H s)
  (h : ta σ H fun x H1 => tb σ H1 fun y H2 => R x y H2) {Q : Value → Shared → Prop} {f : Value → Value → Sem Value}
  (hf : ∀ v u s2 x y H2, Inv X pins σ H2 s2 → BF x v → BF y u → R x y H2 → wpAny (model X.prog X.w) X.A (f v u) Q X.xe s2) :
  wpAny (model X.prog X.w) X.A (eval a X.env) (fun v s₁ => wpAny (model X.prog X.w) X.A (eval b X.env) (fun u s₂ => wpAny (model X.prog X.w) X.A (f v u) Q X.xe s₂) X.xe s₁) X.xe s := by
 refine thn (ha pins s σ H _ I h) fun v s1 ⟨x, H1, I1, r1, q1⟩ => ?_
 refine thn (hb pins s1 σ H1 _ I1 q1) fun u s2 ⟨y, H2, I2, r2, q2⟩ => ?_
 exact hf v u s2 x y H2 I2 r1 r2 q2
theorem AL {op : Operator} {r : R2} (ho : OpR X (binaryOp op) r) (ha : PE X a ta) (hb : PE X b tb) : PE X (.BinOp a op b pos) (tOp r ta tb) := by
 intro pins s σ H Q I h
 exact wpAny_BinOp (bG ha hb I h fun v u s2 x y H2 I2 rx ry q => ho pins s2 σ H2 x y v u Q I2 rx ry q)
theorem MG {op : UnaryOp} {r : V → Hp → VK → Prop} (ho : UnR X (unaryOp op) r) (ha : PE X a ta) : PE X (.UnaryOp op a pos) (tUn r ta) := by
 intro pins s σ H Q I h
 exact UnaryOp_ (thn (ha pins s σ H _ I h) fun v s1 ⟨x, H1, I1, r1, q1⟩ => ho pins s1 σ H1 x v Q I1 r1 q1)
theorem opI {f : Value → Value → Sem Value} {C : Int → Int → Prop} {g : Int → Int → Int}
  (rule : ∀ (i j : Int) (t u : Tok) (s : Shared) (Q : Value → Shared → Prop) (E : Value → Shared → Prop), C i j → Q (.int (g i j) s.toks) { s with toks := s.toks + 1 } → wpAny (model X.prog X.w) X.A (f (.int i t) (.int j u)) Q E s) :
  OpR X f (rI C fun i j => .int (g i j)) := by
 intro pins s σ H x y v u Q I rx ry h
 obtain ⟨i, j, rfl, rfl, hc, q⟩ := h
 obtain ⟨t, rfl⟩ := rx
 obtain ⟨t', rfl⟩ := ry
 exact rule i j t t' s _ _ hc ⟨.int (g i j), H, I.tok _, ⟨_, rfl⟩, q⟩
theorem dW {f : Value → Value → Sem Value} {g : Int → Int → Int}
  (rule : ∀ (i j : Int) (t u : Tok) (s : Shared) (Q : Value → Shared → Prop) (E : Value → Shared → Prop), Q (.int (g i j) s.toks) { s with toks := s.toks + 1 } → wpAny (model X.prog X.w) X.A (f (.int i t) (.int j u)) Q E s) :
  OpR X f (rI0 fun i j => .int (g i j)) := by
 intro pins s σ H x y v u Q I rx ry h
 obtain ⟨i, j, rfl, rfl, q⟩ := h
 obtain ⟨t, rfl⟩ := rx
 obtain ⟨t', rfl⟩ := ry
 exact rule i j t t' s _ _ ⟨.int (g i j), H, I.tok _, ⟨_, rfl⟩, q⟩
theorem YJ {f : Value → Value → Sem Value} {g : Int → Int → Bool}
  (rule : ∀ (i j : Int) (t u : Tok) (s : Shared) (Q : Value → Shared → Prop) (E : Value → Shared → Prop), Q (.bool (g i j)) s → wpAny (model X.prog X.w) X.A (f (.int i t) (.int j u)) Q E s) :
  OpR X f (rI0 fun i j => .bl (g i j)) := by
 intro pins s σ H x y v u Q I rx ry h
 obtain ⟨i, j, rfl, rfl, q⟩ := h
 obtain ⟨t, rfl⟩ := rx
 obtain ⟨t', rfl⟩ := ry
 exact rule i j t t' s _ _ ⟨.bl (g i j), H, I, rfl, q⟩
def cW (i j : Int) : Prop := 0 ≤ j ∧ j ≤ 1000000 ∧ i.natAbs < 2 ^ 64
theorem cC : OpR X (binaryOp .Add) (rI0 fun i j => .int (i + j)) := dW fun _ _ _ _ _ _ _ q => add_int q
theorem cR : OpR X (binaryOp .Sub) (rI0 fun i j => .int (i - j)) := dW fun _ _ _ _ _ _ _ q => sub_int q
theorem cP : OpR X (binaryOp .Mod) (rI (fun _ j => 0 < j) fun i j => .int (i % j)) := opI fun i j _ _ _ _ _ hc q => by
 have h1 : (0 : Int) < j := hc
 exact mod_int' (by omega) (by rw [Int.fmod_eq_emod_of_nonneg i (by omega)]; exact q)
theorem aT : OpR X (binaryOp .Pow) (rI cW fun i j => .int (i ^ j.toNat)) := opI fun _ _ _ _ _ _ _ hc q => pow_int_small hc.1 hc.2.1 hc.2.2 q
theorem unI {f : Value → Sem Value} {g : Int → Int}
  (rule : ∀ (i : Int) (t : Tok) (s : Shared) (Q : Value → Shared → Prop) (E : Value → Shared → Prop), Q (.int (g i) s.toks) { s with toks := s.toks + 1 } → wpAny (model X.prog X.w) X.A (f (.int i t)) Q E s) :
  UnR X f (rU fun i => .int (g i)) := by
 intro pins s σ H x v Q I rx h
 obtain ⟨i, rfl, q⟩ := h
 obtain ⟨t, rfl⟩ := rx
 exact rule i t s _ _ ⟨.int (g i), H, I.tok _, ⟨_, rfl⟩, q⟩
theorem XE : UnR X (unaryOp .USub) (rU fun i => .int (-i)) := unI fun _ _ _ _ _ q => neg_int q
end
def bZ : V → V → Bool
 | .non, .non => true | .non, .int _ => true | .int _, .non => true | .non, .bl _ => true | .bl _, .non => true | .non, .str _ => true | .str _, .non => true
 | .int _, .int _ => true | .bl _, .bl _ => true | .str _, .str _ => true | .byt _, .byt _ => true
 | .int _, .str _ => true | .str _, .int _ => true | .bl _, .str _ => true | .str _, .bl _ => true
 | _, _ => false
def rEq : R2 := fun x y H Q => bZ x y = true ∧ Q (.bl (decide (x = y))) H
def rNe : R2 := fun x y H Q => bZ x y = true ∧ Q (.bl (!decide (x = y))) H
theorem RQ {i j : Int} : decide (V.int i = V.int j) = (i == j) := by
 rw [Bool.eq_iff_iff]
 simp
theorem WR {i j : Bool} : decide (V.bl i = V.bl j) = (i == j) := by
 rw [Bool.eq_iff_iff]
 simp
theorem RO {i j : Str} : decide (V.str i = V.str j) = (i == j) := by
 rw [Bool.eq_iff_iff]
 simp
theorem RN {i j : Array UInt8} : decide (V.byt i = V.byt j) = (i.toList == j.toList) := by
 rw [Bool.eq_iff_iff]
 cases i
 cases j
 simp
section
variable {X : Cx} {a b c : Expr} {ta tb tc : TE} {pos : Pos}
theorem BB {pins : List (Addr × Obj)} {σ : St} {H : Hp} {s : Shared} {Q : VK} {k k' : Bool} (I : Inv X pins σ H s) (q : Q (.bl k) H) (e : k = k') : EP X pins σ Q (.bool k') s := by
 subst e
 exact ⟨.bl k, H, I, rfl, q⟩
theorem eB : OpR X (compareOp .Eq) rEq := by
 intro pins s σ H x y v u Q I rx ry h
 obtain ⟨hs, q⟩ := h
 cases x with
 | non =>
  cases rx
  cases y with
  | non => cases ry; exact PySem.EqNone.eq_none_none (BB I q (by simp))
  | bl j => cases ry; exact PySem.EqNone.eq_none_bool (BB I q (by simp))
  | int j => obtain ⟨t', rfl⟩ := ry; exact PySem.EqNone.eq_none_int (BB I q (by simp))
  | str j => obtain ⟨t', rfl⟩ := ry; exact PySem.EqNone.eq_none_str (BB I q (by simp))
  | _ => exact absurd (show false = true from hs) Bool.false_ne_true
 | bl i =>
  cases rx
  cases y with
  | non => cases ry; exact PySem.EqNone.eq_bool_none (BB I q (by simp))
  | bl j => cases ry; exact eq_bool (BB I q WR)
  | str j => obtain ⟨t', rfl⟩ := ry; exact PySem.EqMixed.eq_bool_str (BB I q (by simp))
  | _ => exact absurd (show false = true from hs) Bool.false_ne_true
 | int i =>
  obtain ⟨t, rfl⟩ := rx
  cases y with
  | non => cases ry; exact PySem.EqNone.eq_int_none (BB I q (by simp))
  | int j => obtain ⟨t', rfl⟩ := ry; exact eq_int (BB I q RQ)
  | str j => obtain ⟨t', rfl⟩ := ry; exact PySem.EqMixed.eq_int_str (BB I q (by simp))
  | _ => exact absurd (show false = true from hs) Bool.false_ne_true
 | str i =>
  obtain ⟨t, rfl⟩ := rx
  cases y with
  | non => cases ry; exact PySem.EqNone.eq_str_none (BB I q (by simp))
  | bl j => cases ry; exact PySem.EqMixed.eq_str_bool (BB I q (by simp))
  | int j => obtain ⟨t', rfl⟩ := ry; exact PySem.EqMixed.eq_str_int (BB I q (by simp))
  | str j => obtain ⟨t', rfl⟩ := ry; exact eq_str (BB I q RO)
  | _ => exact absurd (show false = true from hs) Bool.false_ne_true
 | byt i =>
  obtain ⟨t, rfl⟩ := rx
  cases y with
  | byt j => obtain ⟨t', rfl⟩ := ry; exact PySem.W.eq_bytes (BB I q RN)
  | _ => exact absurd (show false = true from hs) Bool.false_ne_true
 | _ => cases y <;> exact absurd (show false = true from hs) Bool.false_ne_true
theorem cY : OpR X (compareOp .NotEq) rNe := by
 intro pins s σ H x y v u Q I rx ry h
 obtain ⟨hs, q⟩ := h
 cases x with
 | non =>
  cases rx
  cases y with
  | non => cases ry; exact PySem.EqNone.ne_none_none (BB I q (by simp))
  | bl j => cases ry; exact PySem.EqNone.ne_none_bool (BB I q (by simp))
  | int j => obtain ⟨t', rfl⟩ := ry; exact PySem.EqNone.ne_none_int (BB I q (by simp))
  | str j => obtain ⟨t', rfl⟩ := ry; exact PySem.EqNone.ne_none_str (BB I q (by simp))
  | _ => exact absurd (show false = true from hs) Bool.false_ne_true
 | bl i =>
  cases rx
  cases y with
  | non => cases ry; exact PySem.EqNone.ne_bool_none (BB I q (by simp))
  | bl j => cases ry; exact ne_bool (BB I q (congrArg not WR))
  | str j => obtain ⟨t', rfl⟩ := ry; exact PySem.EqMixed.ne_bool_str (BB I q (by simp))
  | _ => exact absurd (show false = true from hs) Bool.false_ne_true
 | int i =>
  obtain ⟨t, rfl⟩ := rx
  cases y with
  | non => cases ry; exact PySem.EqNone.ne_int_none (BB I q (by simp))
  | int j => obtain ⟨t', rfl⟩ := ry; exact ne_int (BB I q (congrArg not RQ))
  | str j => obtain ⟨t', rfl⟩ := ry; exact PySem.EqMixed.ne_int_str (BB I q (by simp))
  | _ => exact absurd (show false = true from hs) Bool.false_ne_true
 | str i =>
  obtain ⟨t, rfl⟩ := rx
  cases y with
  | non => cases ry; exact PySem.EqNone.ne_str_none (BB I q (by simp))
  | bl j => cases ry; exact PySem.EqMixed.ne_str_bool (BB I q (by simp))
  | int j => obtain ⟨t', rfl⟩ := ry; exact PySem.EqMixed.ne_str_int (BB I q (by simp))
  | str j => obtain ⟨t', rfl⟩ := ry; exact ne_str (BB I q (congrArg not RO))
  | _ => exact absurd (show false = true from hs) Bool.false_ne_true
 | byt i =>
  obtain ⟨t, rfl⟩ := rx
  cases y with
  | byt j => obtain ⟨t', rfl⟩ := ry; exact PySem.W.ne_bytes (BB I q (congrArg not RN))
  | _ => exact absurd (show false = true from hs) Bool.false_ne_true
 | _ => cases y <;> exact absurd (show false = true from hs) Bool.false_ne_true
theorem dC : OpR X (compareOp .Lt) (rI0 fun i j => .bl (decide (i < j))) := YJ fun _ _ _ _ _ _ _ q => lt_int q
theorem dF : OpR X (compareOp .LtE) (rI0 fun i j => .bl (decide (i ≤ j))) := YJ fun _ _ _ _ _ _ _ q => le_int q
theorem dY : OpR X (compareOp .Gt) (rI0 fun i j => .bl (decide (j < i))) := YJ fun _ _ _ _ _ _ _ q => gt_int q
theorem dU : OpR X (compareOp .GtE) (rI0 fun i j => .bl (decide (j ≤ i))) := YJ fun _ _ _ _ _ _ _ q => ge_int q
theorem AS (b : Expr) {op : CmpOp} (h : op ≠ .In := by decide) (h2 : op ≠ .NotIn := by decide) : behindInMarks op b = false := by
 have e1 : (op == CmpOp.In) = false := by cases op <;> first | rfl | exact absurd rfl h
 have e2 : (op == CmpOp.NotIn) = false := by cases op <;> first | rfl | exact absurd rfl h2
 cases b <;> simp [behindInMarks, e1, e2]
theorem EK {op : CmpOp} {r : R2} (ho : OpR X (compareOp op) r) (ha : PE X a ta) (hb : PE X b tb) (hm : behindInMarks op b = false) : PE X (.Compare a [op] [b] pos) (tOp r ta tb) := by
 intro pins s σ H Q I h
 exact wpAny_Compare1 (bG ha hb I h fun v u s2 x y H2 I2 rx ry q => ho pins s2 σ H2 x y v u Q I2 rx ry q) hm
def LP (t : TE) : TT := fun σ H Q => t σ H fun x H' => ∃ k, x = .bl k ∧ Q k H'
theorem aC {op : CmpOp} {r : R2} (ho : OpR X (compareOp op) r) (ha : PE X a ta) (hb : PE X b tb) (hm : behindInMarks op b = false) : PT X (.Compare a [op] [b] pos) (LP (tOp r ta tb)) := by
 intro pins s σ H Q I h
 refine wpAny_isTrue_Compare1 (thn (ha pins s σ H _ I h) fun v s1 ⟨x, H1, I1, r1, q1⟩ => thn (hb pins s1 σ H1 _ I1 q1) fun u s2 ⟨y, H2, I2, r2, q2⟩ =>
  thn (ho pins s2 σ H2 x y v u _ I2 r1 r2 q2) fun c s3 ⟨z, H3, I3, r3, k, e, q3⟩ => ?_) hm
 subst e
 cases r3
 exact wpAny_truthy_bool ⟨H3, I3, q3⟩
def IC (r r' : R2) (ta tb tc : TE) : TE := fun σ H Q => ta σ H fun x H1 => tb σ H1 fun y H2 => r x y H2 fun z H3 => ∃ k, z = .bl k ∧
 (if k = true then tc σ H3 fun w' H4 => r' y w' H4 Q else Q (.bl false) H3)
theorem WT {op op' : CmpOp} {r r' : R2} (ho : OpR X (compareOp op) r) (ho' : OpR X (compareOp op') r') (ha : PE X a ta) (hb : PE X b tb) (hc : PE X c tc)
  (hm : lastMarks [op, op'] [b, c] = false := by with_unfolding_all rfl) : PE X (.Compare a [op, op'] [b, c] pos) (IC r r' ta tb tc) := by
 intro pins s σ H Q I h
 refine Compare_chain (thn (ha pins s σ H _ I h) fun v s1 ⟨x, H1, I1, r1, q1⟩ => chain_link (thn (hb pins s1 σ H1 _ I1 q1) fun u s2 ⟨y, H2, I2, r2, q2⟩ =>
  thn (ho pins s2 σ H2 x y v u _ I2 r1 r2 q2) fun d s3 ⟨z, H3, I3, r3, k, e, q3⟩ => ?_)) hm
 subst e
 cases r3
 refine wpAny_truthy_bool ?_
 cases k with
 | false => exact ite_ff ⟨.bl false, H3, I3, rfl, q3⟩
 | true => exact ite_tt (chain_last (thn (hc pins s3 σ H3 _ I3 q3) fun w' s4 ⟨z', H4, I4, r4, q4⟩ => ho' pins s4 σ H4 y z' u w' Q I4 r2 r4 q4))
theorem UH {op op' : CmpOp} {r r' : R2} (ho : OpR X (compareOp op) r) (ho' : OpR X (compareOp op') r') (ha : PE X a ta) (hb : PE X b tb) (hc : PE X c tc)
  (hm : lastMarks [op, op'] [b, c] = false := by with_unfolding_all rfl) : PT X (.Compare a [op, op'] [b, c] pos) (LP (IC r r' ta tb tc)) := by
 intro pins s σ H Q I h
 refine isTrue_chain (thn (ha pins s σ H _ I h) fun v s1 ⟨x, H1, I1, r1, q1⟩ => test_link (thn (hb pins s1 σ H1 _ I1 q1) fun u s2 ⟨y, H2, I2, r2, q2⟩ =>
  thn (ho pins s2 σ H2 x y v u _ I2 r1 r2 q2) fun d s3 ⟨z, H3, I3, r3, k, e, q3⟩ => ?_)) hm
 subst e
 cases r3
 refine wpAny_truthy_bool ?_
 cases k with
 | false =>
  obtain ⟨k', e', q'⟩ := q3
  cases e'
  exact ite_ff ⟨H3, I3, q'⟩
 | true =>
  refine ite_tt (test_last (thn (hc pins s3 σ H3 _ I3 q3) fun w' s4 ⟨z', H4, I4, r4, q4⟩ => thn (ho' pins s4 σ H4 y z' u w' _ I4 r2 r4 q4) fun d' s5 ⟨z2, H5, I5, r5, k2, e2, q5⟩ => ?_))
  subst e2
  cases r5
  exact wpAny_truthy_bool ⟨H5, I5, q5⟩
def cK (K : PySem.W.Frag) (x : V) (H : Hp) (k : Bool) : Prop :=
 match x with
 | .non => k = false
 | .bl b => k = b
 | .int i => k = (i != 0)
 | .str y => y.length ≤ sizeLine ∧ k = ((y.length : Int) != 0)
 | .byt y => y.size ≤ sizeLine ∧ k = ((y.size : Int) != 0)
 | .ref p => (∃ xs, SqL K H p xs ∧ k = !xs.isEmpty) ∨ (∃ xs, SqT K H p xs ∧ k = !xs.isEmpty) ∨ ∃ kvs, H p = some (.dK kvs) ∧ k = !kvs.isEmpty
 | _ => False
theorem QF {κ : Type} {kvs : List (κ × V)} {vs : List (κ × Value)} (r : KV kvs vs) : (!vs.isEmpty) = !kvs.isEmpty := by
 cases r <;> rfl
theorem JM {xs : List V} {its : List Value} (r : AO xs its) : (!its.toArray.isEmpty) = !xs.isEmpty := by
 cases r <;> simp
theorem MQ : (sizeLine : Nat) < 2 ^ 63 := by rw [sizeLine_eq]; decide
theorem UU : TruR X (fun x H Q => ∃ k, cK X.K x H k ∧ Q k H) := by
 intro pins s σ H x v Q I rx h
 obtain ⟨k, e, q⟩ := h
 have hl := MQ
 have hs : sizeLine = 16777216 := sizeLine_eq
 cases x with
 | non =>
  cases rx
  have e' : k = false := e
  subst e'
  exact truthy_none ⟨H, I, q⟩
 | bl b =>
  cases rx
  have e' : k = b := e
  subst e'
  exact wpAny_truthy_bool ⟨H, I, q⟩
 | int i =>
  obtain ⟨t, rfl⟩ := rx
  have e' : k = (i != 0) := e
  subst e'
  exact PySem.P.truthy_int ⟨H, I, q⟩
 | str y =>
  obtain ⟨t, rfl⟩ := rx
  obtain ⟨hy, e'⟩ : y.length ≤ sizeLine ∧ k = ((y.length : Int) != 0) := e
  subst e'
  exact PySem.P.truthy_str (by omega) ⟨H, I.tok _, q⟩
 | byt y =>
  obtain ⟨t, rfl⟩ := rx
  obtain ⟨hy, e'⟩ : y.size ≤ sizeLine ∧ k = ((y.size : Int) != 0) := e
  subst e'
  exact PySem.W.truthy_bytes (by omega) ⟨H, I.tok _, q⟩
 | ref p =>
  cases rx
  have e' : (∃ xs, SqL X.K H p xs ∧ k = !xs.isEmpty) ∨ (∃ xs, SqT X.K H p xs ∧ k = !xs.isEmpty) ∨ ∃ kvs, H p = some (.dK kvs) ∧ k = !kvs.isEmpty := e
  rcases e' with ⟨xs, hx, e'⟩ | ⟨xs, hx, e'⟩ | ⟨kvs, hx, e'⟩
  ·subst e'
   obtain ⟨its, r, pl, hz⟩ := I.list hx
   have hlen := r.length
   exact wpAny_truthy_list pl.isList (by simp only [List.size_toArray]; omega) ⟨H, I.tok _, by rw [JM r]; exact q⟩
  ·subst e'
   obtain ⟨its, r, pl, hz⟩ := I.tuple hx
   have hlen := r.length
   exact truthy_tuple pl (by simp only [List.size_toArray]; omega) ⟨H, I.tok _, by rw [JM r]; exact q⟩
  ·subst e'
   obtain ⟨hz, hS, vs, r, m⟩ : kvs.length ≤ sizeLine ∧ (p == sysModules) = false ∧ ∃ vs, KV kvs vs ∧ s.heap.DictOf (MT X.prog X.w) p vs := I.hok p _ hx
   have hlen : kvs.length = vs.length := Paired.length r
   exact wpAny_truthy_dict hS m (by omega) ⟨H, I.tok _, by rw [QF r]; exact q⟩
 | _ => exact (show False from e).elim
theorem WD (ha : PE X a ta) (he : ∀ whole, isTrue a X.env whole = (do let v ← whole; standAt a.pos; holding [v] (truthy v))) :
  PT X a (fun σ H Q => ta σ H fun x H' => ∃ k, cK X.K x H' k ∧ Q k H') := by
 intro pins s σ H Q I h
 exact isTrue_plain (thn (ha pins s σ H _ I h) fun v s1 ⟨x, H1, I1, r1, q1⟩ => UU pins s1 σ H1 x v Q I1 r1 q1) (he _)
theorem PC {x : V} {us : List Value} (r : AO [x] us) : ∃ u, us = [u] ∧ BF x u := by
 cases r with
 | cons r1 r2 => cases r2; exact ⟨_, rfl, r1⟩
theorem aP {x y : V} {us : List Value} (r : AO [x, y] us) : ∃ u w', us = [u, w'] ∧ BF x u ∧ BF y w' := by
 cases r with
 | cons r1 r2 =>
  cases r2 with
  | cons r3 r4 => cases r4; exact ⟨_, _, rfl, r1, r3⟩
theorem UC (hc : X.calm = true) : DJ X (.builtin "max") (fun xs H Q => ∃ i j, xs = [.int i, .int j] ∧ Q (.int (if j > i then j else i)) H) := by
 intro pins s σ H xs us Q I r h
 obtain ⟨i, j, rfl, q⟩ := h
 obtain ⟨u, w', rfl, ⟨t, rfl⟩, ⟨t', rfl⟩⟩ := aP r
 refine max_two_ints (I.ok.hd hc) fun h' tk k => ⟨_, H, I.kept k, ?_, q⟩
 by_cases hj : j > i
 ·rw [if_pos hj, if_pos hj]; exact ⟨_, rfl⟩
 ·rw [if_neg hj, if_neg hj]; exact ⟨_, rfl⟩
theorem TM (hc : X.calm = true) : DJ X (.builtin "min") (fun xs H Q => ∃ i j, xs = [.int i, .int j] ∧ Q (.int (if j < i then j else i)) H) := by
 intro pins s σ H xs us Q I r h
 obtain ⟨i, j, rfl, q⟩ := h
 obtain ⟨u, w', rfl, ⟨t, rfl⟩, ⟨t', rfl⟩⟩ := aP r
 refine min_two_ints (I.ok.hd hc) fun h' tk k => ⟨_, H, I.kept k, ?_, q⟩
 by_cases hj : j < i
 ·rw [if_pos hj, if_pos hj]; exact ⟨_, rfl⟩
 ·rw [if_neg hj, if_neg hj]; exact ⟨_, rfl⟩
theorem SL : DJ X (.type "int") (fun xs H Q => (∃ i, xs = [.int i] ∧ Q (.int i) H) ∨ ∃ k, xs = [.bl k] ∧ Q (.int (if k then 1 else 0)) H) := by
 intro pins s σ H xs us Q I r h
 rcases h with ⟨i, rfl, q⟩ | ⟨k, rfl, q⟩
 ·obtain ⟨u, rfl, t, rfl⟩ := PC r
  exact call_int_int ⟨.int i, H, I, ⟨_, rfl⟩, q⟩
 ·obtain ⟨u, rfl, r1⟩ := PC r
  cases r1
  exact call_int_bool ⟨.int (if k then 1 else 0), H, I.tok _, ⟨_, rfl⟩, q⟩
end
structure QW (h : Heap) (x dx C : Addr) (mA : Str → Option Value) : Prop where
 obj : h.get? x = some (PySem.W.instObj C dx)
 ns : h.Ns1 dx mA
 ne : dx ≠ x
theorem SE {h : Heap} {dx : Addr} {mA : Str → Option Value} (n : h.Ns1 dx mA) : ∃ od, h.get? dx = some od ∧ ∀ name, PySem.W.lookIn name od = some (mA name) := by
 obtain ⟨o, es, ep, ho, hd, hk, _, hm⟩ := n
 refine ⟨o, ho, fun name => ?_⟩
 have e := hm name
 unfold nsFind findBy at e
 rw [← Array.find?_toList] at e
 unfold PySem.W.lookIn
 rw [hd]
 dsimp only
 split
 ·rename_i y q
  rw [q] at e
  exact congrArg some e
 ·rename_i q
  rw [q] at e
  have a : es.toList.any (·.refKey) = false := by
   rw [List.any_eq_false]
   intro y hy
   obtain ⟨z, t, hkey⟩ := hk y (Array.mem_toList_iff.mp hy)
   simp [DictEntry.refKey, hkey]
  have a' : ¬ es.toList.any (·.refKey) = true := by rw [a]; exact Bool.false_ne_true
  rw [if_neg a']
  exact congrArg some e
theorem QW.look {h : Heap} {x dx C : Addr} {mA : Str → Option Value} (I : QW h x dx C mA) : ∃ od, PySem.W.InstAt h x (PySem.W.instObj C dx) C (some od) ∧ ∀ name, PySem.W.lookIn name od = some (mA name) :=
 let ⟨od, ho, hl⟩ := SE I.ns
 ⟨od, ⟨I.obj, rfl, rfl, ho⟩, hl⟩
section
variable {prog : Program} {w : World} {A : Around} {E : Value → Shared → Prop} {s : Shared} {K : PySem.W.Frag} {x dx C f : Addr} {mA : Str → Option Value} {name : Str} {v : Value}
theorem aB {expr : Bool} {Q : Value → Shared → Prop} (X : K.In s.heap) (I : QW s.heap x dx C mA) (hg : PySem.W.plainGet K C name = true) (hh : PySem.W.hasDictIn K C = true)
  (ha : PySem.W.findIn K (.ref C) name = some none) (hv : mA name = some v) (hv' : PySem.W.handedIn v = true) (h : Q v { s with toks := s.toks + 1 }) :
  wpAny (model prog w) A (getAttr (.ref x) name expr) Q E s := by
 obtain ⟨od, J, hl⟩ := I.look
 exact PySem.W.get_value X J (PySem.W.plainGet_of hg).1 (PySem.W.findObj_own hh ha rfl (by rw [hl, hv])) hv' h
theorem VP {pl : Sem Bool} {Q : Value × List Value → Shared → Prop} (X : K.In s.heap) (I : QW s.heap x dx C mA) (hg : PySem.W.plainGet K C name = true)
  (hf : PySem.W.findIn K (.ref C) name = some (some (.ref f))) (ht : PySem.W.isFn K (.ref f) = true) (hv : mA name = none) (h : Q (.ref f, [.ref x]) s) :
  wpAny (model prog w) A (getMethod (.ref x) name pl) Q E s := by
 obtain ⟨od, J, hl⟩ := I.look
 exact PySem.W.method_fn X J (PySem.W.plainGet_of hg).1 (PySem.W.plainGet_of hg).2 hf (beq_iff_eq.mp ht) (by show (PySem.W.lookIn name od).map (·.isSome) = some false; rw [hl, hv]; rfl) h
theorem ZB {ns : List Str} {Q : Unit → Shared → Prop} (X : K.In s.heap) (I : QW s.heap x dx C mA)
  (hs : PySem.W.findIn K (.ref C) "__setattr__" = some (some (.builtin "object.__setattr__"))) (hp : PySem.W.plainOver K C = true) (ht : PySem.W.takerIn K C name = some none) (hh : PySem.W.hasDictIn K C = true)
  (hw : PySem.Within mA ns) (hsz : ns.length ≤ sizeLine)
  (h : ∀ h', QW h' x dx C (fun y => if y = name then some v else mA y) → Heap.SameBut dx s.heap h' → Q () { s with heap := h', toks := s.toks + 2 }) :
  wpAny (model prog w) A (setAttr (.ref x) name v) Q E s := by
 obtain ⟨od, J, hl⟩ := I.look
 refine PySem.W.set_plain X J hs (PySem.W.osa_open (s := { s with toks := s.toks + 1 }) (r := none) X J hp ht fun b => ?_)
 obtain ⟨cd, hc, hd'⟩ := PySem.W.any_some hh
 have hx : s.heap.get? x = some ⟨.ref C, some dx, .plain, #[]⟩ := I.obj
 refine wpAny_bind (wpAny_pure (wpAny_bind (wpAny_bind (wpAny_loadPart hx (wpAny_bind (PySem.W.Looks.here (s := { s with toks := s.toks + 1 }) (PySem.W.looks_clsIn X hc) ?_))))))
 rw [hd']
 refine wpAny_pure (a := some dx) (wpAny_bind (wpAny_pure (wpAny_bind ?_)))
 refine wpAny_nsSet1 (s := { s with toks := s.toks + 1 }) I.ns fun h' hn2 hs2 => ?_
 obtain ⟨oD, esD, epD, hoD, hdD, hcD⟩ := hn2.count (PySem.Within.cons name v hw)
 refine wpAny_bind (wpAny_lookBehind hoD (by rw [hdD]; exact pastItsLine_dict (Nat.le_trans hcD (by rw [List.length_cons]; omega))) ?_)
 exact wpAny_pure (h _ ⟨(hs2.2 _ (Ne.symm I.ne)).trans I.obj, hn2, I.ne⟩ hs2)
theorem VJ {R : Result → Shared → Prop} {vs : List Value} {kw : List (Str × Value)} (X : K.In s.heap) (hm : PySem.W.makesIn K C = true)
  (hi : PySem.W.findIn K (.ref C) "__init__" = some (some (.ref f))) (hf : PySem.W.typeIn K (.ref f) = some (.type "function"))
  (h : codeAny (model prog w) (A.under (.builtin "type.__call__" ⟨.ref C :: vs, kw⟩)) (.call (.ref f) ⟨.ref (s.heap.objs.size + 1) :: vs, kw⟩) (PySem.W.InitBack (s.heap.objs.size + 1) R)
   { s with heap := (s.heap.push PySem.W.emptyDict).push (PySem.W.instObj C s.heap.objs.size) }) :
  codeAny (model prog w) A (.call (.ref C) ⟨vs, kw⟩) R s := by
 obtain ⟨hh, g, d, t, os⟩ := s
 exact PySem.W.make_core (PySem.W.makes_of X hm) (PySem.W.looks_findIn X hi) (fun self => PySem.W.bind_fn X self hf) (.inl rfl) h
end
def BH (f : Str) (v : V) : List (Str × V) → List (Str × V)
 | [] => [(f, v)]
 | (g, x) :: r => if g = f then (g, v) :: r else (g, x) :: BH f v r
theorem IM (f g : Str) (v : V) : ∀ fs : List (Str × V), (BH f v fs).lookup g = if g = f then some v else fs.lookup g
 | [] => by
  show List.lookup g [(f, v)] = _
  by_cases h : g = f
  ·have hb : (g == f) = true := beq_iff_eq.mpr h
   simp only [List.lookup, hb, if_pos h]
  ·have hb : (g == f) = false := beq_eq_false_iff_ne.mpr h
   simp only [List.lookup, hb, if_neg h]
 | (k, x) :: r => by
  have ih := IM f g v r
  rw [show BH f v ((k, x) :: r) = (if k = f then (k, v) :: r else (k, x) :: BH f v r) from rfl]
  by_cases hk : k = f
  ·rw [if_pos hk]
   by_cases h : g = k
   ·have hb : (g == k) = true := beq_iff_eq.mpr h
    simp only [List.lookup, hb, if_pos (h.trans hk)]
   ·have hb : (g == k) = false := beq_eq_false_iff_ne.mpr h
    simp only [List.lookup, hb, if_neg (fun e : g = f => h (e.trans hk.symm))]
  ·rw [if_neg hk]
   by_cases h : g = k
   ·have hb : (g == k) = true := beq_iff_eq.mpr h
    simp only [List.lookup, hb, if_neg (fun e : g = f => hk (h.symm.trans e))]
   ·have hb : (g == k) = false := beq_eq_false_iff_ne.mpr h
    simp only [List.lookup, hb]
    exact ih
theorem HZ (f : Str) (v : V) : ∀ fs : List (Str × V), f ∈ (BH f v fs).map (·.1) ∧ ∀ g, g ∈ fs.map (·.1) → g ∈ (BH f v fs).map (·.1)
 | [] => ⟨by simp [BH], fun g h => by simp at h⟩
 | (k, x) :: r => by
  obtain ⟨i1, i2⟩ := HZ f v r
  rw [show BH f v ((k, x) :: r) = (if k = f then (k, v) :: r else (k, x) :: BH f v r) from rfl]
  by_cases hk : k = f
  ·rw [if_pos hk]
   subst hk
   exact ⟨by simp, fun g h => by simpa using h⟩
  ·rw [if_neg hk]
   refine ⟨?_, fun g h => ?_⟩
   ·rw [List.map_cons]
    exact List.mem_cons_of_mem _ i1
   ·rw [List.map_cons] at h ⊢
    rcases List.mem_cons.mp h with e | e
    ·exact List.mem_cons.mpr (.inl e)
    ·exact List.mem_cons_of_mem _ (i2 g e)
theorem IT (f : Str) (v : V) : ∀ fs : List (Str × V), (BH f v fs).length ≤ fs.length + 1
 | [] => by simp [BH]
 | (k, x) :: r => by
  have ih := IT f v r
  rw [show BH f v ((k, x) :: r) = (if k = f then (k, v) :: r else (k, x) :: BH f v r) from rfl]
  by_cases hk : k = f
  ·rw [if_pos hk, List.length_cons, List.length_cons]; omega
  ·rw [if_neg hk, List.length_cons, List.length_cons]; omega
theorem LN.some_of {v : V} {o : Option Value} (r : LN (some v) o) : ∃ u, o = some u ∧ BF v u := by
 cases o with
 | none => exact (show False from r).elim
 | some u => exact ⟨u, rfl, r⟩
theorem LN.none_of {o : Option Value} (r : LN none o) : o = none := by
 cases o with
 | none => rfl
 | some u => exact (show False from r).elim
theorem TJ {v : V} {u : Value} (r : BF v u) : PySem.W.handedIn u = true := by
 cases v with
 | non => cases (show u = Value.none from r); rfl
 | bl b => cases (show u = Value.bool b from r); rfl
 | int i => obtain ⟨t, e⟩ := (show ∃ t, u = Value.int i t from r); cases e; rfl
 | str x => obtain ⟨t, e⟩ := (show ∃ t, u = Value.str x t from r); cases e; rfl
 | byt b => obtain ⟨t, e⟩ := (show ∃ t, u = Value.bytes b t from r); cases e; rfl
 | flt b => obtain ⟨t, e⟩ := (show ∃ t, u = Value.float b t from r); cases e; rfl
 | ref a => cases (show u = Value.ref a from r); rfl
 | ty n => cases (show u = Value.type n from r); rfl
section
variable {P : Program} {w : World} {H H' : Hp} {h h' : Heap} {a C dx : Addr} {fs fs' : List (Str × V)}
theorem JH (hok : HOk P w H h) (e : H a = some (.ins C dx fs)) : ∃ mA, QW h a dx C mA ∧ (∀ f, LN (fs.lookup f) (mA f)) ∧ PySem.Within mA (fs.map (·.1)) ∧ fs.length ≤ 1000 ∧ H dx = some (.own a) := by
 obtain ⟨d, z, ne, ob, mA, n, r, q⟩ := (show CZ P w H h a (.ins C dx fs) from hok a _ e)
 exact ⟨mA, ⟨ob, n, ne⟩, r, q, z, d⟩
end
structure Cls (K : PySem.W.Frag) (C : Addr) : Prop where
 pg : PySem.W.plainGet K C Str.empty = true
 hd : PySem.W.hasDictIn K C = true
 po : PySem.W.plainOver K C = true
 sa : PySem.W.findIn K (.ref C) "__setattr__" = some (some (.builtin "object.__setattr__"))
theorem Cls.get {K : PySem.W.Frag} {C : Addr} (c : Cls K C) (f : Str) : PySem.W.plainGet K C f = true := c.pg
def BR (K : PySem.W.Frag) (C : Addr) (f : Str) : Prop := PySem.W.findIn K (.ref C) f = some none
theorem BR.taker {K : PySem.W.Frag} {C : Addr} {f : Str} (n : BR K C f) : PySem.W.takerIn K C f = some none := by
 unfold PySem.W.takerIn
 rw [show PySem.W.findIn K (.ref C) f = some none from n]
 rfl
structure Con (K : PySem.W.Frag) (C : Addr) (f : Str) (v : V) (u : Value) : Prop where
 at_ : PySem.W.findIn K (.ref C) f = some (some u)
 rel : BF v u
 get : PySem.W.specialIn K u "__get__" = some none
 cp : PySem.W.copiedNames.contains f = false
structure YF (K : PySem.W.Frag) (C : Addr) (m : Str) (f : Addr) : Prop where
 at_ : PySem.W.findIn K (.ref C) m = some (some (.ref f))
 fn : PySem.W.isFn K (.ref f) = true
 kp : PySem.W.keepIn K (.ref f) = true
section
variable {X : Cx} {pins : List (Addr × Obj)} {σ : St} {H : Hp} {s : Shared} {a C dx : Addr} {fs : List (Str × V)} {f : Str} {v : V} {A : Around} {E : Value → Shared → Prop}
theorem KM {b : Bool} {Q : Value → Shared → Prop} (I : Inv X pins σ H s) (e : H a = some (.ins C dx fs)) (c : Cls X.K C) (n : BR X.K C f) (l : fs.lookup f = some v)
  (h : ∀ u s', Inv X pins σ H s' → BF v u → Q u s') : wpAny (model X.prog X.w) A (getAttr (.ref a) f b) Q E s := by
 obtain ⟨mA, O, r, _, _, _⟩ := JH I.hok e
 obtain ⟨u, hu, ru⟩ := LN.some_of (v := v) (o := mA f) (by rw [← l]; exact r f)
 exact aB I.kIn O (c.get f) c.hd n hu (TJ ru) (h u _ (I.tok _) ru)
theorem KS {m : Str} {g : Addr} {pl : Sem Bool} {Q : Value × List Value → Shared → Prop} (I : Inv X pins σ H s) (e : H a = some (.ins C dx fs)) (c : Cls X.K C) (k : YF X.K C m g) (l : fs.lookup m = none)
  (h : Q (.ref g, [.ref a]) s) : wpAny (model X.prog X.w) A (getMethod (.ref a) m pl) Q E s := by
 obtain ⟨mA, O, r, _, _, _⟩ := JH I.hok e
 have hn : mA m = none := LN.none_of (by rw [← l]; exact r m)
 exact VP I.kIn O (c.get m) k.at_ k.fn hn h
theorem JV {y : V} {u : Value} {Q : Unit → Shared → Prop} (I : Inv X pins σ H s) (e : H a = some (.ins C dx fs)) (c : Cls X.K C) (n : BR X.K C f) (hl : fs.length < 1000) (ry : BF y u)
  (h : ∀ s', Inv X pins σ (upd H a (.ins C dx (BH f y fs))) s' → Q () s') : wpAny (model X.prog X.w) A (setAttr (.ref a) f u) Q E s := by
 obtain ⟨mA, O, r, wi, _, ho⟩ := JH I.hok e
 have hz : (fs.map (·.1)).length ≤ sizeLine := by rw [List.length_map, sizeLine_eq]; omega
 refine ZB I.kIn O c.sa c.po n.taker c.hd wi hz fun h' O' sb => h _ ?_
 have hd : ∃ o, h'.get? dx = some o := let ⟨o, _, _, e', _⟩ := O'.ns; ⟨o, e'⟩
 refine I.write (x := a) (e := dx) (by rw [e]; exact True.intro) (.inr ho) (fun b q hb z => (sb.2 b hb).trans z) hd ?_
 refine ⟨by rw [AH O.ne]; exact ho, ?_, O.ne, O'.obj, _, O'.ns, fun g => ?_, fun g hg => ?_⟩
 ·have := IT f y fs; omega
 ·show LN ((BH f y fs).lookup g) (if g = f then some u else mA g)
  rw [IM]
  by_cases q : g = f
  ·rw [if_pos q, if_pos q]; exact ry
  ·rw [if_neg q, if_neg q]; exact r g
 ·by_cases q : g = f
  ·rw [q]; exact (HZ f y fs).1
  ·refine (HZ f y fs).2 g (wi g fun z => hg ?_)
   show (if g = f then some u else mA g) = none
   rw [if_neg q]; exact z
theorem Inv.made (I : Inv X pins σ H s) : Inv X pins σ (upd (upd H s.heap.objs.size (.own (s.heap.objs.size + 1))) (s.heap.objs.size + 1) (.ins C s.heap.objs.size []))
  { s with heap := (s.heap.push PySem.W.emptyDict).push (PySem.W.instObj C s.heap.objs.size) } := by
 have e1 : (s.heap.push PySem.W.emptyDict).get? s.heap.objs.size = some PySem.W.emptyDict := Heap.get?_push_size s.heap rfl
 have e2 : ((s.heap.push PySem.W.emptyDict).push (PySem.W.instObj C s.heap.objs.size)).get? (s.heap.objs.size + 1) = some (PySem.W.instObj C s.heap.objs.size) := by
  have := Heap.get?_push_size (s.heap.push PySem.W.emptyDict) (o := PySem.W.instObj C s.heap.objs.size) rfl
  rwa [Heap.size_push] at this
 have e3 : (s.heap.push PySem.W.emptyDict).Ns s.heap.objs.size (fun _ => none) := ⟨PySem.W.emptyDict, #[], _, e1, rfl, (fun e he => absurd he (by simp)), fun _ => rfl⟩
 have I1 := I.laid (a := s.heap.objs.size) (o := .own (s.heap.objs.size + 1)) (h' := s.heap.push PySem.W.emptyDict) (t' := s.toks) (fun b u q => Heap.get?_push_of_some _ q) (Nat.le_refl _) ⟨_, e1⟩
 refine I1.laid (a := s.heap.objs.size + 1) (o := .ins C s.heap.objs.size []) (t' := s.toks) (fun b u q => Heap.get?_push_of_some _ q) (Nat.le_of_eq (Heap.size_push _ _)) ?_
 have ne : s.heap.objs.size ≠ s.heap.objs.size + 1 := Nat.ne_of_lt (Nat.lt_succ_self _)
 refine ⟨by rw [AH ne, AB], Nat.zero_le _, ne, e2, fun _ => none, (Heap.Ns1.of_empty e3).at fun o q => Heap.get?_push_of_some _ q, fun _ => True.intro, fun y hy => absurd rfl hy⟩
theorem YD {prog : Program} {w : World} {env : Env} {e : Expr} {f : Str} {pos : Pos} {s : Shared} {Q : Value → Shared → Prop} (hb : attributeBase e f env (eval e env) = eval e env)
  (h : wpAny (model prog w) A (eval e env) (fun o s₁ => wpAny (model prog w) A (getAttr o f true) Q E s₁) E s) : wpAny (model prog w) A (eval (.Attribute e f pos) env) Q E s :=
 Attribute_any_ h (by rw [arm_eval_Attribute, hb])
end
def XQ (K : PySem.W.Frag) (ta : TE) (f : Str) : TE := fun σ H Q => ta σ H fun x H1 => ∃ a C dx fs v, x = .ref a ∧ H1 a = some (.ins C dx fs) ∧ Cls K C ∧ BR K C f ∧ fs.lookup f = some v ∧ Q v H1
def UX (K : PySem.W.Frag) (ta tv : TE) (f : Str) : TS := fun D σ H => tv σ H fun y H1 => ta σ H1 fun x H2 => ∃ a C dx fs, x = .ref a ∧ H2 a = some (.ins C dx fs) ∧ Cls K C ∧ BR K C f ∧ fs.length < 1000 ∧
 D.nx σ (upd H2 a (.ins C dx (BH f y fs)))
def cM (X : Cx) (op : Operator) (rd : V → V → Hp → VK → Prop) : Prop :=
 ∀ (pins : List (Addr × Obj)) (s : Shared) (σ : St) (H : Hp) (x y : V) (u v : Value) (Q : VK), Inv X pins σ H s → BF x u → BF y v → rd x y H Q → wpAny (model X.prog X.w) X.A (inplaceOp op u v) (EP X pins σ Q) X.xe s
def GZ (K : PySem.W.Frag) (ta tv : TE) (rd : V → V → Hp → VK → Prop) (f : Str) : TS := fun D σ H => ta σ H fun x H1 => ∃ a C dx fs v, x = .ref a ∧ H1 a = some (.ins C dx fs) ∧ Cls K C ∧ BR K C f ∧ fs.lookup f = some v ∧
 tv σ H1 fun y H2 => rd v y H2 fun z H3 => ∃ dx' fs', H3 a = some (.ins C dx' fs') ∧ fs'.length < 1000 ∧ D.nx σ (upd H3 a (.ins C dx' (BH f z fs')))
section
variable {X : Cx} {o e value : Expr} {f : Str} {pos pos' tpos : Pos} {ta tv : TE}
theorem cG (he : PE X e ta) (hb : attributeBase e f X.env (eval e X.env) = eval e X.env) : PE X (.Attribute e f pos) (XQ X.K ta f) := by
 intro pins s σ H Q I h
 refine YD hb (thn (he pins s σ H _ I h) fun u s1 ⟨x, H1, I1, rx, a, C, dx, fs, v, ex, ea, c, n, l, q⟩ => ?_)
 subst ex
 obtain rfl : u = Value.ref a := rx
 exact KM I1 ea c n l fun u' s2 I2 ru => ⟨v, H1, I2, ru, q⟩
theorem cJ (ha : PE X o ta) (hv : PE X value tv) (hs : swapsWith value (some (.Attribute o f pos')) pos.line X.env = pure false) : PS X (.Assign [.Attribute o f pos'] value pos) (UX X.K ta tv f) := by
 intro pins s σ H D I h
 refine plainObj_wpAny_Assign_Attribute (thn (hv pins s σ H _ I h) fun u s1 ⟨y, H1, I1, ry, q⟩ => thn (ha pins s1 σ H1 _ I1 q) fun ov s2 ⟨x, H2, I2, rx, a, C, dx, fs, ex, ea, c, n, l, q2⟩ => ?_) hs
 subst ex
 obtain rfl : ov = Value.ref a := rx
 exact JV I2 ea c n l ry fun s3 I3 => ⟨σ, _, I3, q2⟩
theorem TC {op : Operator} {rd : V → V → Hp → VK → Prop} (ha : PE X o ta) (hv : PE X value tv) (hop : cM X op rd) : PS X (.AugAssign (.Attribute o f tpos) op value pos) (GZ X.K ta tv rd f) := by
 intro pins s σ H D I h
 refine wpAny_AugAssign_AttributeAny (thn (ha pins s σ H _ I h) fun ov s1 ⟨x, H1, I1, rx, a, C, dx, fs, v, ex, ea, c, n, l, q⟩ => ?_)
 subst ex
 obtain rfl : ov = Value.ref a := rx
 refine KM I1 ea c n l fun u s2 I2 ru => thn (hv pins s2 σ H1 _ I2 q) fun w3 s3 ⟨y, H2, I3, ry, q3⟩ => thn (hop pins s3 σ H2 v y u w3 _ I3 ru ry q3) fun w4 s4 ⟨z, H3, I4, rz, dx', fs', ea', l', q4⟩ => ?_
 exact JV I4 ea' c n l' rz fun s5 I5 => ⟨σ, _, I5, q4⟩
def WO : V → V → Hp → VK → Prop := fun x y H Q => ∃ i j, x = .int i ∧ y = .int j ∧ Q (.int (i + j)) H
theorem WV : cM X .Add WO := by
 rintro pins s σ H x y u v Q I rx ry ⟨i, j, rfl, rfl, q⟩
 obtain ⟨t, rfl⟩ := (show ∃ t, u = Value.int i t from rx)
 obtain ⟨t', rfl⟩ := (show ∃ t', v = Value.int j t' from ry)
 exact PyProof.Rows.iadd_int ⟨.int (i + j), H, I.tok _, ⟨_, rfl⟩, q⟩
end
section
variable {X : Cx} {pins : List (Addr × Obj)} {σ : St} {H : Hp} {s : Shared} {A : Around} {E : Value → Shared → Prop} {Q : Value → Shared → Prop} {c : Value} {b : Bool}
inductive GS (K : PySem.W.Frag) (H : Hp) : V → Value → Prop where
 | non : GS K H .non (.type "NoneType")
 | bl (x : Bool) : GS K H (.bl x) (.type "bool")
 | int (i : Int) : GS K H (.int i) (.type "int")
 | str (x : Str) : GS K H (.str x) (.type "str")
 | flt (x : UInt64) : GS K H (.flt x) (.type "float")
 | lst {a : Addr} {xs : List V} (e : H a = some (.lst xs)) : GS K H (.ref a) (.type "list")
 | frz {a : Addr} {o : Obj} {xs : List V} (e : H a = some (.frz o (.lst xs))) : GS K H (.ref a) (.type "list")
 | tup {a : Addr} {xs : List V} (e : H a = some (.tup xs)) : GS K H (.ref a) (.type "tuple")
 | dK {a : Addr} {kvs : List (Key × V)} (e : H a = some (.dK kvs)) : GS K H (.ref a) (.type "dict")
 | dT {a : Addr} {kvs : List (List Key × V)} (e : H a = some (.dT kvs)) : GS K H (.ref a) (.type "dict")
 | ins {a C dx : Addr} {fs : List (Str × V)} (e : H a = some (.ins C dx fs)) (cl : Cls K C) (ha : PySem.W.findIn K (.ref C) "__class__" = some (some (.builtin "object.__class__")))
   (hn : PySem.W.specialIn K (.builtin "object.__class__") "__get__" = some (some (.builtin "getset_descriptor.__get__"))) (htk : PySem.W.takesIn K (.builtin "object.__class__") = some true)
   (hm : PySem.W.mroIn K C (.type "object") = some true) : GS K H (.ref a) (.ref C)
theorem SN {x : V} {u t : Value} (I : Inv X pins σ H s) (rx : BF x u) (ty : GS X.K H x t) (e : PySem.W.kitOne X.K t c = some b) (h : ∀ tk, Q (.bool b) { s with toks := tk }) :
  wpAny (model X.prog X.w) A (call (.builtin "isinstance") [u, c]) Q E s := by
 cases ty with
 | non => cases (show u = Value.none from rx); exact PySem.W.kia_one PySem.W.kitx_none I.kIn True.intro e (fun z => nomatch z) h
 | bl y => cases (show u = Value.bool y from rx); exact PySem.W.kia_one PySem.W.kitx_bool I.kIn True.intro e (fun z => nomatch z) h
 | int i => obtain ⟨t, q⟩ := (show ∃ t, u = Value.int i t from rx); cases q; exact PySem.W.kia_one PySem.W.kitx_int I.kIn True.intro e (fun z => nomatch z) h
 | str y => obtain ⟨t, q⟩ := (show ∃ t, u = Value.str y t from rx); cases q; exact PySem.W.kia_one PySem.W.kitx_str I.kIn True.intro e (fun z => nomatch z) h
 | flt y => obtain ⟨t, q⟩ := (show ∃ t, u = Value.float y t from rx); cases q; exact PySem.W.kia_one PySem.W.kitx_float I.kIn True.intro e (fun z => nomatch z) h
 | @lst a xs ea =>
  cases (show u = Value.ref a from rx)
  obtain ⟨_, _, n, _, h1⟩ := (show CZ X.prog X.w H s.heap a (.lst xs) from I.hok a _ ea)
  exact PySem.W.kia_one PySem.W.kitx_list I.kIn ⟨_, h1, rfl⟩ e (fun z => nomatch z) h
 | @frz a ob xs ea =>
  cases (show u = Value.ref a from rx)
  obtain ⟨_, _, _, n, _, h1⟩ := (show CZ X.prog X.w H s.heap a (.frz ob (.lst xs)) from I.hok a _ ea)
  exact PySem.W.kia_one PySem.W.kitx_list I.kIn ⟨_, h1, rfl⟩ e (fun z => nomatch z) h
 | @tup a xs ea =>
  cases (show u = Value.ref a from rx)
  obtain ⟨_, _, _, p⟩ := (show CZ X.prog X.w H s.heap a (.tup xs) from I.hok a _ ea)
  obtain ⟨o, h1, h2, _⟩ := p
  exact PySem.W.kia_one PySem.W.kitx_tuple I.kIn ⟨o, h1, h2⟩ e (fun z => nomatch z) h
 | @dK a kvs ea =>
  cases (show u = Value.ref a from rx)
  obtain ⟨_, _, vs, _, p⟩ := (show CZ X.prog X.w H s.heap a (.dK kvs) from I.hok a _ ea)
  obtain ⟨o, es, ep, h1, h2, _⟩ := p
  exact PySem.W.kia_one PySem.W.kitx_dict I.kIn ⟨o, h1, h2.1⟩ e (fun z => nomatch z) h
 | @dT a kvs ea =>
  cases (show u = Value.ref a from rx)
  obtain ⟨_, _, xs, _, o, es, ep, h1, h2, _⟩ := (show CZ X.prog X.w H s.heap a (.dT kvs) from I.hok a _ ea)
  exact PySem.W.kia_one PySem.W.kitx_dict I.kIn ⟨o, h1, h2.1⟩ e (fun z => nomatch z) h
 | @ins a C dx fs ea cl ha hn htk hm =>
  cases (show u = Value.ref a from rx)
  obtain ⟨mA, O, _⟩ := JH I.hok ea
  obtain ⟨od, J, _⟩ := O.look
  exact PySem.W.kia_one (PySem.W.kitx_own (cl.get _) cl.hd ha hn htk hm) I.kIn J e (fun z => nomatch z) h
end
structure DX (k : Nat) (A : Around) : Prop where
 hd : A.handled = none
 dp : A.depth + 3 * k + 5 < recursionLimit
 un : A.units + 16 * k + 200 < cLine
theorem DX.mono {j k : Nat} {A : Around} (r : DX k A) (h : j ≤ k) : DX j A := ⟨r.hd, by have := r.dp; omega, by have := r.un; omega⟩
theorem DX.deeper {k : Nat} {A : Around} (r : DX (k + 1) A) (env : Env) : DX k (A.deeper env) :=
 ⟨r.hd, by have := r.dp; show A.depth + 1 + 3 * k + 5 < _; omega, by have := r.un; show A.units + 3 + 16 * k + 200 < _; omega⟩
theorem PY {A : Around} {C : Addr} {us : List Value} {kw : List (Str × Value)} : (A.under (.builtin "type.__call__" ⟨.ref C :: us, kw⟩)).depth = A.depth + 1 := by
 first | rfl | simp [Around.under, Code.weight, Code.isCreation, Code.isGuard, Code.isCaller, Code.frames, Code.isFrame, guardIds]
theorem QN {A : Around} {C : Addr} {us : List Value} {kw : List (Str × Value)} : (A.under (.builtin "type.__call__" ⟨.ref C :: us, kw⟩)).units = A.units + 1 := by
 first | rfl | simp [Around.under, Code.cUnits, Code.frames, Code.isFrame]
theorem DX.make {k : Nat} {A : Around} (r : DX (k + 1) A) (C : Addr) (us : List Value) (kw : List (Str × Value)) : DX k (A.under (.builtin "type.__call__" ⟨.ref C :: us, kw⟩)) :=
 ⟨r.hd, by have := r.dp; rw [PY]; omega, by have := r.un; rw [QN]; omega⟩
theorem DX.depth {k : Nat} {A : Around} (r : DX k A) : A.depth < recursionLimit := by have := r.dp; omega
theorem DX.units {k : Nat} {A : Around} (r : DX k A) : A.units + 64 < cLine := by have := r.un; omega
def QL : TA := fun _ H Q => Q [] H
def MA (ta : TE) (tr : TA) : TA := fun σ H Q => ta σ H fun x H1 => tr σ H1 fun xs H2 => Q (x :: xs) H2
section
variable {X : Cx} {e : Expr} {es : List Expr} {te : TE} {t : TA} {pos : Pos}
theorem AF : PA X [] QL := fun _ _ _ _ H Q I h => Calls.spliced_nil ⟨[], H, I, .nil, h⟩
theorem AA (ha : PE X e te) (hr : PA X es t) (hs : starEach (e :: es) X.env = (false, eval e X.env) :: starEach es X.env := by rfl) : PA X (e :: es) (MA te t) := by
 intro pos pins s σ H Q I h
 rw [hs]
 show wpAny _ _ (spliced ((false, eval e X.env) :: backTo pos (starEach es X.env))) _ _ s
 refine Calls.spliced_cons (thn (ha pins s σ H _ I h) fun u s1 ⟨x, H1, I1, r1, q1⟩ => ?_)
 exact thn (hr pos pins s1 σ H1 _ I1 q1) fun us s2 ⟨xs, H2, I2, r2, q2⟩ => ⟨x :: xs, H2, I2, .cons r1 r2, q2⟩
def UM (t : TA) : TE := fun σ H Q => t σ H fun xs H1 => xs.length ≤ sizeLine ∧ ∀ p, H1 p = none → Q (.ref p) (upd H1 p (.tup xs))
def YA (t : TA) : TE := fun σ H Q => t σ H fun xs H1 => xs.length ≤ sizeLine ∧ ∀ p, H1 p = none → Q (.ref p) (upd H1 p (.lst xs))
theorem BQ {x1} (h : PA X es t) : PE X (.Tuple es x1 pos) (UM t) := by
 intro pins s σ H Q I hq
 refine wpAny_Tuple_spliced (thn (h pos pins s σ H _ I hq) fun us s1 ⟨xs, H1, I1, r, z, q⟩ => ⟨by rw [← r.length]; exact z, ?_⟩)
 have hf : H1 s1.heap.objs.size = none := I1.hok.fresh (Nat.le_refl _)
 refine ⟨.ref s1.heap.objs.size, upd H1 s1.heap.objs.size (.tup xs), I1.laid (t' := s1.toks) (fun b u e => Heap.get?_push_of_some _ e) (Nat.le_refl _) ?_, rfl, q _ hf⟩
 exact ⟨z, us, r, ⟨_, Heap.get?_push_size _ rfl, rfl, _, rfl⟩⟩
theorem DM (h : PA X es t) : PE X (.List es pos) (YA t) := by
 intro pins s σ H Q I hq
 refine wpAny_List_spliced (thn (h pos pins s σ H _ I hq) fun us s1 ⟨xs, H1, I1, r, z, q⟩ => ⟨by rw [← r.length]; exact z, ?_⟩)
 have hf : H1 s1.heap.objs.size = none := I1.hok.fresh (Nat.le_refl _)
 refine ⟨.ref s1.heap.objs.size, upd H1 s1.heap.objs.size (.lst xs), I1.laid (t' := s1.toks) (fun b u e => Heap.get?_push_of_some _ e) (Nat.le_refl _) ?_, rfl, q _ hf⟩
 exact ⟨z, us, 0, r, Heap.get?_push_size _ rfl⟩
end
abbrev Sp := List V → Hp → VK → XK → Prop
abbrev CXT := List Env → Hp → Shared → XK → Value → Shared → Prop
structure QE (P : Program) (w : World) (K : PySem.W.Frag) (mg : Str → Option Value) (base : Heap) (A : Around) (outer : List Env) (s : Shared) (H : Hp) : Prop where
 frames : A.frames = some outer
 mod : Mod K mg base
 bs : ∀ b o, base.get? b = some o → s.heap.get? b = some o ∧ H b = none
 bsz : base.objs.size ≤ s.heap.objs.size
 funs : s.heap.FunFrames base outer
 frf : ∀ b ∈ frs outer, H b = none
 hok : HOk P w H s.heap
 bare : AllBare s.gens
def CE (outer : List Env) (P : Program) (w : World) (H : Hp) (s : Shared) (Q : VK) (u : Value) (s' : Shared) : Prop :=
 ∃ v H', s'.os = s.os ∧ AllBare s'.gens ∧ Un (frs outer) [] H H' s.heap s'.heap ∧ HOk P w H' s'.heap ∧ BF v u ∧ Q v H'
def CR (CX : CXT) (outer : List Env) (P : Program) (w : World) (H : Hp) (s : Shared) (Q : VK) (E : XK) (r : Result) (s' : Shared) : Prop :=
 match r with
 | .ok (.ret u) => CE outer P w H s Q u s'
 | .ok _ => False
 | .error e => CX outer H s E e s'
structure BY (P : Program) (w : World) (K : PySem.W.Frag) (mg : Str → Option Value) (base : Heap) (CX : CXT) (k : Nat) (f : Addr) (fd : FuncData) (ps : List Str) (sp : Sp) : Prop where
 len : ∀ vs H Q E, sp vs H Q E → vs.length = ps.length
 run : ∀ (A : Around) (outer : List Env) (s : Shared) (H : Hp) (args : Args) (us : List Value) (vs : List V) (Q : VK) (E : XK), DX k A → QE P w K mg base A outer s H → BindsTo s fd args (ps.zip us) → AO vs us → sp vs H Q E →
  codeAny (model P w) A (.call (.ref f) args) (CR CX outer P w H s Q E) s
theorem QE.make {P : Program} {w : World} {K : PySem.W.Frag} {mg : Str → Option Value} {base : Heap} {A : Around} {outer : List Env} {s : Shared} {H : Hp} (e : QE P w K mg base A outer s H) (C : Addr) (us : List Value) (kw : List (Str × Value)) :
  QE P w K mg base (A.under (.builtin "type.__call__" ⟨.ref C :: us, kw⟩)) outer s H := ⟨by first | exact e.frames | (simpa [Around.under, Code.envs, Code.isFrame, pushEnvs] using e.frames), e.mod, e.bs, e.bsz, e.funs, e.frf, e.hok, e.bare⟩
section
variable {X : Cx} {pins : List (Addr × Obj)} {σ : St} {H : Hp} {s s' : Shared}
theorem Inv.env0 (I : Inv X pins σ H s) : QE X.prog X.w X.K X.mg X.base X.A X.stack s H :=
 ⟨I.ok.frames, I.ok.mod, I.bs, Nat.le_trans I.ok.bsz I.sz, I.stack, I.stkFree, I.hok, I.bare⟩
theorem Inv.after {Q : VK} {u : Value} (I : Inv X pins σ H s) (h : CE X.stack X.prog X.w H s Q u s') : EP X pins σ Q u s' := by
 obtain ⟨v, H', os, bare, un, hok, r, q⟩ := h
 obtain ⟨hh, g, d, t, os'⟩ := s'
 obtain rfl : os' = s.os := os
 exact ⟨v, H', I.call (h' := hh) (g' := g) (d' := d) (t' := t) (ch := []) un hok bare (fun b z => absurd z (by simp)), r, q⟩
end
def ON (sp : Sp) (dvs : List V) (E : XK) (t : TA) : TE := fun σ H Q => t σ H fun vs H1 => sp (vs ++ dvs) H1 Q E
def MI (C : Addr) (m : Str) (sp : Sp) (dvs : List V) (E : XK) (ta : TE) (t : TA) : TE := fun σ H Q => ta σ H fun x H1 => ∃ a dx fs, x = .ref a ∧ H1 a = some (.ins C dx fs) ∧ fs.lookup m = none ∧
 t σ H1 fun vs H2 => sp (x :: (vs ++ dvs)) H2 Q E
def MK (C : Addr) (sp : Sp) (dvs : List V) (E : XK) (t : TA) : TE := fun σ H Q => t σ H fun vs H1 => ∀ x dx, H1 x = none → H1 dx = none → dx ≠ x →
 sp (.ref x :: (vs ++ dvs)) (upd (upd H1 dx (.own x)) x (.ins C dx [])) (fun v H2 => v = .non ∧ Q (.ref x) H2) E
def ES (K : PySem.W.Frag) (fd : FuncData) (ps : List Str) (ds : List Value) : Prop :=
 ∀ (s : Shared) (us : List Value), K.In s.heap → (us ++ ds).length = ps.length → BindsTo s fd ⟨us, []⟩ (ps.zip (us ++ ds))
theorem ES.all {K : PySem.W.Frag} {fd : FuncData} {ps : List Str} (h : ∀ us : List Value, us.length = ps.length → bindArgs fd ⟨us, []⟩ = pure (ps.zip us)) : ES K fd ps [] := fun s us _ hl => by
 rw [List.append_nil] at hl ⊢
 exact .of_eq (h us hl)
def FY (CX : CXT) (X : Cx) (E : XK) : Prop := ∀ (pins : List (Addr × Obj)) (σ : St) (H : Hp) (s : Shared) (e : Value) (s' : Shared), Inv X pins σ H s → CX X.stack H s E e s' → X.xe e s'
section
variable {X : Cx} {CX : CXT} {k : Nat} {f C : Addr} {fd : FuncData} {ps : List Str} {sp : Sp} {dvs : List V} {ds : List Value} {E : XK} {x m : Str} {p pos apos : Pos} {e o : Expr} {es : List Expr} {ta : TE} {t : TA}
theorem QM {pins : List (Addr × Obj)} {σ : St} {H : Hp} {s : Shared} {Q : VK} {us : List Value} {vs : List V} (F : BY X.prog X.w X.K X.mg X.base CX k f fd ps sp) (hr : DX k X.A) (hb : ES X.K fd ps ds) (hd : AO dvs ds) (hx : FY CX X E)
  (I : Inv X pins σ H s) (r : AO vs us) (h : sp (vs ++ dvs) H Q E) : wpAny (model X.prog X.w) X.A (call (.ref f) us) (EP X pins σ Q) X.xe s := by
 have r2 : AO (vs ++ dvs) (us ++ ds) := r.append hd
 have hl : (us ++ ds).length = ps.length := by rw [← r2.length]; exact F.len _ _ _ _ h
 refine wpAny_call (codeAny_mono (F.run X.A X.stack s H ⟨us, []⟩ (us ++ ds) (vs ++ dvs) Q E hr I.env0 (hb s us I.kIn hl) r2 h) fun r s' hq => ?_)
 cases r with
 | error e => exact hx pins σ H s e s' I hq
 | ok fl =>
  cases fl with
  | ret u => exact I.after hq
  | next => exact False.elim hq
  | brk => exact False.elim hq
  | cont => exact False.elim hq
theorem BC (F : BY X.prog X.w X.K X.mg X.base CX k f fd ps sp) (hr : DX k X.A) (hg : Gl X x) (hm : X.mg x = some (.ref f)) (hk : PySem.W.keepIn X.K (.ref f) = true) (hb : ES X.K fd ps ds) (hd : AO dvs ds) (hx : FY CX X E)
  (ha : PA X (e :: es) t) (hdb : (x == ("__debug__" : Str)) = false := by decide) (he : starEach (e :: es) X.env = (false, eval e X.env) :: starEach es X.env := by rfl) (hpl : (backTo pos (starEach es X.env)).any (·.1) = false := by rfl) :
  PE X (.Call (.Name x p) (e :: es) [] pos) (ON sp dvs E t) := by
 intro pins s σ H Q I h
 refine wpAny_Call_Name_kw (JI I hg hm ?_ hdb)
 refine PySem.W.callWith_K (h₀ := X.base) I.ok.mod.kin hk (thn (ha pos pins s σ H _ I h) fun us s1 ⟨vs, H1, I1, r, q⟩ => ⟨I1.kIn, ?_⟩) he hpl
 exact QM F hr hb hd hx I1 r q
theorem EL {pl : Sem Bool} (he : PE X o ta) (c : Cls X.K C) (hm : YF X.K C m f) (F : BY X.prog X.w X.K X.mg X.base CX k f fd ps sp) (hr : DX k X.A) (hb : ES X.K fd ps ds) (hd : AO dvs ds) (hx : FY CX X E) (ha : PA X (e :: es) t)
  (hst : starEach (e :: es) X.env = (false, eval e X.env) :: starEach es X.env := by rfl) (hpl : (backTo pos (starEach es X.env)).any (·.1) = false := by rfl)
  (ht : eval (.Call (.Attribute o m apos) (e :: es) [] pos) X.env = (do
   let ov ← eval o X.env
   standAt apos.atName
   let (f, first) ← holding [ov] (getMethod ov m pl)
   callWith pos f first (backTo pos (starEach (e :: es) X.env)) (backToKw pos (keywordEach [] X.env))) := by rfl) :
  PE X (.Call (.Attribute o m apos) (e :: es) [] pos) (MI C m sp dvs E ta t) := by
 intro pins s σ H Q I h
 refine PySem.W.methodCall_KW (pl := pl) (thn (he pins s σ H _ I h) fun u s1 ⟨x, H1, I1, rx, a, dx, fs, ex, ea, l, q⟩ => ?_) ht
 subst ex
 obtain rfl : u = Value.ref a := rx
 refine KS I1 ea c hm l ?_
 refine PySem.W.callWith_K (first := [.ref a]) (h₀ := X.base) I.ok.mod.kin hm.kp (thn (ha pos pins s1 σ H1 _ I1 q) fun us s2 ⟨vs, H2, I2, r, q2⟩ => ⟨I2.kIn, ?_⟩) hst hpl
 exact QM (us := .ref a :: us) (vs := .ref a :: vs) F hr hb hd hx I2 (.cons rfl r) q2
theorem DV {pl : Sem Bool} (he : PE X o ta) (c : Cls X.K C) (hm : YF X.K C m f) (F : BY X.prog X.w X.K X.mg X.base CX k f fd ps sp) (hr : DX k X.A) (hb : ES X.K fd ps ds) (hd : AO dvs ds) (hx : FY CX X E)
  (ht : eval (.Call (.Attribute o m apos) [] [] pos) X.env = (do
   let ov ← eval o X.env
   standAt apos.atName
   let (f, first) ← holding [ov] (getMethod ov m pl)
   callWith pos f first (backTo pos (starEach [] X.env)) (backToKw pos (keywordEach [] X.env))) := by rfl) :
  PE X (.Call (.Attribute o m apos) [] [] pos) (MI C m sp dvs E ta QL) := by
 intro pins s σ H Q I h
 refine PySem.W.methodCall_KW (pl := pl) (thn (he pins s σ H _ I h) fun u s1 ⟨x, H1, I1, rx, a, dx, fs, ex, ea, l, q⟩ => ?_) ht
 subst ex
 obtain rfl : u = Value.ref a := rx
 refine KS I1 ea c hm l ?_
 exact PySem.W.callWith_K0 (first := [.ref a]) I1.kIn hm.kp (QM (us := [.ref a]) (vs := [.ref a]) F hr hb hd hx I1 (.cons rfl .nil) q)
structure Mk (K : PySem.W.Frag) (C f : Addr) : Prop where
 makes : PySem.W.makesIn K C = true
 init : PySem.W.findIn K (.ref C) "__init__" = some (some (.ref f))
 fn : PySem.W.isFn K (.ref f) = true
 kp : PySem.W.keepIn K (.ref C) = true
theorem OQ {pins : List (Addr × Obj)} {σ : St} {H : Hp} {s : Shared} {Q : VK} {us : List Value} {vs : List V} (M : Mk X.K C f) (F : BY X.prog X.w X.K X.mg X.base CX k f fd ps sp) (hr : DX (k + 1) X.A) (hb : ES X.K fd ps ds) (hd : AO dvs ds)
  (hx : FY CX X E) (I : Inv X pins σ H s) (r : AO vs us)
  (h : ∀ x dx, H x = none → H dx = none → dx ≠ x → sp (.ref x :: (vs ++ dvs)) (upd (upd H dx (.own x)) x (.ins C dx [])) (fun v H2 => v = .non ∧ Q (.ref x) H2) E) :
  wpAny (model X.prog X.w) X.A (call (.ref C) us) (EP X pins σ Q) X.xe s := by
 have hq := h (s.heap.objs.size + 1) s.heap.objs.size (I.hok.fresh (Nat.le_succ _)) (I.hok.fresh (Nat.le_refl _)) (Nat.ne_of_lt (Nat.lt_succ_self _))
 have I2 := Inv.made (C := C) I
 have r2 : AO (V.ref (s.heap.objs.size + 1) :: (vs ++ dvs)) (Value.ref (s.heap.objs.size + 1) :: (us ++ ds)) := .cons rfl (r.append hd)
 have hl : (Value.ref (s.heap.objs.size + 1) :: us ++ ds).length = ps.length := by
  have e := r2.length
  rw [F.len _ _ _ _ hq] at e
  exact e.symm
 refine wpAny_call (VJ (f := f) I.kIn M.makes M.init (beq_iff_eq.mp M.fn) (codeAny_mono (F.run _ X.stack _ _ ⟨Value.ref (s.heap.objs.size + 1) :: us, []⟩ (Value.ref (s.heap.objs.size + 1) :: (us ++ ds)) _ _ E (hr.make C us [])
  (I2.env0.make C us []) (hb _ (Value.ref (s.heap.objs.size + 1) :: us) I2.kIn hl) r2 hq) fun r s' hq' => ?_))
 cases r with
 | error e => exact hx pins σ _ _ e s' I2 hq'
 | ok fl =>
  cases fl with
  | ret u =>
   obtain ⟨v, H', I3, rv, ev, q3⟩ := I2.after hq'
   subst ev
   exact ⟨rv, ⟨V.ref (s.heap.objs.size + 1), H', I3, rfl, q3⟩⟩
  | next => exact False.elim hq'
  | brk => exact False.elim hq'
  | cont => exact False.elim hq'
theorem RR (M : Mk X.K C f) (F : BY X.prog X.w X.K X.mg X.base CX k f fd ps sp) (hr : DX (k + 1) X.A) (hg : Gl X x) (hm : X.mg x = some (.ref C)) (hb : ES X.K fd ps ds) (hd : AO dvs ds) (hx : FY CX X E)
  (ha : PA X (e :: es) t) (hdb : (x == ("__debug__" : Str)) = false := by decide) (he : starEach (e :: es) X.env = (false, eval e X.env) :: starEach es X.env := by rfl) (hpl : (backTo pos (starEach es X.env)).any (·.1) = false := by rfl) :
  PE X (.Call (.Name x p) (e :: es) [] pos) (MK C sp dvs E t) := by
 intro pins s σ H Q I h
 refine wpAny_Call_Name_kw (JI I hg hm ?_ hdb)
 refine PySem.W.callWith_K (h₀ := X.base) I.ok.mod.kin M.kp (thn (ha pos pins s σ H _ I h) fun us s1 ⟨vs, H1, I1, r, q⟩ => ⟨I1.kIn, ?_⟩) he hpl
 exact OQ M F hr hb hd hx I1 r q
theorem OY (M : Mk X.K C f) (F : BY X.prog X.w X.K X.mg X.base CX k f fd ps sp) (hr : DX (k + 1) X.A) (hg : Gl X x) (hm : X.mg x = some (.ref C)) (hb : ES X.K fd ps ds) (hd : AO dvs ds) (hx : FY CX X E)
  (hdb : (x == ("__debug__" : Str)) = false := by decide) : PE X (.Call (.Name x p) [] [] pos) (MK C sp dvs E QL) := by
 intro pins s σ H Q I h
 refine wpAny_Call_Name_kw (JI I hg hm ?_ hdb)
 exact PySem.W.callWith_K0 I.kIn M.kp (OQ (us := []) M F hr hb hd hx I .nil h)
end
section
variable {X : Cx} {CX : CXT} {k : Nat} {f C : Addr} {fd : FuncData} {ps ks : List Str} {sp : Sp} {E : XK} {x m : Str} {p pos apos kpos : Pos} {e o : Expr} {es : List Expr} {kws : List Keyword} {te ta : TE} {t tk : TA} {nm : Option Str}
structure KBinds (K : PySem.W.Frag) (fd : FuncData) (ps ks : List Str) (g : List Value → List Value → List Value) (gV : List V → List V → List V) : Prop where
 to : ∀ (s : Shared) (us ws : List Value), K.In s.heap → (g us ws).length = ps.length → BindsTo s fd ⟨us, ks.zip ws⟩ (ps.zip (g us ws))
 rel : ∀ {vs : List V} {us : List Value} {zs : List V} {ws : List Value}, AO vs us → AO zs ws → AO (gV vs zs) (g us ws)
variable {g : List Value → List Value → List Value} {gV : List V → List V → List V}
end
structure AQ (N P : List Str) (sc : Scope) : Prop where
 kind : sc.kind = .function
 co : sc.isCoroutine = false
 gen : sc.isGenerator = false
 nd : N.Nodup
 pre : N.take P.length = P
 par : ∀ x ∈ P, sc.names.lookup x = some .local ∨ sc.names.lookup x = some .cell
 nofree : ∀ y ∈ sc.names, y.2 ≠ .free
theorem ME {kindOf : Str → Option NameKind} {x : Str} : ∀ {binds : List (Str × Value)} {m : Str → Option Value}, (∀ v, (x, v) ∉ binds) → bindL kindOf binds m x = m x
 | [], _, _ => rfl
 | (n, v) :: r, m, h => by
  unfold bindL
  rw [ME fun w hw => h w (List.mem_cons_of_mem _ hw)]
  split
  ·have : x ≠ n := by rintro rfl; exact h v List.mem_cons_self
   simp [this]
  ·rfl
theorem LX {kindOf : Str → Option NameKind} {x : Str} : ∀ {binds : List (Str × Value)} {m : Str → Option Value}, (∀ v, (x, v) ∉ binds) → bindC kindOf binds m x = m x
 | [], _, _ => rfl
 | (n, v) :: r, m, h => by
  unfold bindC
  rw [LX fun w hw => h w (List.mem_cons_of_mem _ hw)]
  split
  ·rfl
  ·have : x ≠ n := by rintro rfl; exact h v List.mem_cons_self
   simp [this]
theorem MJ {kindOf : Str → Option NameKind} {x : Str} {v : Value} : ∀ {P : List Str} {vs : List Value} {i : Nat} {m : Str → Option Value}, P.Nodup → P[i]? = some x → vs[i]? = some v → kindOf x = some .local →
  bindL kindOf (P.zip vs) m x = some v
 | [], _, _, _, _, h, _, _ => by simp at h
 | _ :: _, [], _, _, _, _, h, _ => by simp at h
 | p :: P, w :: vs, 0, m, nd, h1, h2, hk => by
  simp at h1 h2; subst h1; subst h2
  show bindL kindOf ((p, w) :: P.zip vs) m p = _
  unfold bindL
  rw [ME fun v hv => (List.nodup_cons.mp nd).1 (List.of_mem_zip hv).1, if_pos hk]
  simp
 | p :: P, w :: vs, i + 1, m, nd, h1, h2, hk => by
  show bindL kindOf ((p, w) :: P.zip vs) m x = _
  unfold bindL
  exact MJ (i := i) (List.nodup_cons.mp nd).2 (by simpa using h1) (by simpa using h2) hk
theorem LY {kindOf : Str → Option NameKind} {x : Str} {v : Value} : ∀ {P : List Str} {vs : List Value} {i : Nat} {m : Str → Option Value}, P.Nodup → P[i]? = some x → vs[i]? = some v → kindOf x ≠ some .local →
  bindC kindOf (P.zip vs) m x = some v
 | [], _, _, _, _, h, _, _ => by simp at h
 | _ :: _, [], _, _, _, _, h, _ => by simp at h
 | p :: P, w :: vs, 0, m, nd, h1, h2, hk => by
  simp at h1 h2; subst h1; subst h2
  show bindC kindOf ((p, w) :: P.zip vs) m p = _
  unfold bindC
  rw [LX fun v hv => (List.nodup_cons.mp nd).1 (List.of_mem_zip hv).1, if_neg hk]
  simp
 | p :: P, w :: vs, i + 1, m, nd, h1, h2, hk => by
  show bindC kindOf ((p, w) :: P.zip vs) m x = _
  unfold bindC
  exact LY (i := i) (List.nodup_cons.mp nd).2 (by simpa using h1) (by simpa using h2) hk
def start (N : List Str) (vs : List V) : St := vs.map some ++ List.replicate (N.length - vs.length) none
def QJ (CX : CXT) (P : Program) (w : World) (K : PySem.W.Frag) (mg : Str → Option Value) (base : Heap) (N : List Str) (qual : Str) (scope : Scope) (f : Addr) (cd : Value) (A : Around) (outer : List Env) (s : Shared) (H : Hp) (E : XK) : Cx where
 prog := P
 w := w
 K := K
 mg := mg
 base := base
 A := A.deeper (envOfC qual scope s.heap.objs.size f cd)
 N := N
 s₀ := s
 H₀ := H
 env := envOfC qual scope s.heap.objs.size f cd
 outer := outer
 stack := envOfC qual scope s.heap.objs.size f cd :: outer
 ex := []
 calm := true
 fn := fun _ => true
 pn := []
 xe := fun e s' => wpAny (model P w) (A.deeper (envOfC qual scope s.heap.objs.size f cd)) (leaving (envOfC qual scope s.heap.objs.size f cd) e) (fun _ s'' => CX outer H s E e s'') (fun e' s'' => CX outer H s E e' s'') s'
theorem PH {sc : Scope} {n : Nat} {x : Str} (h : sc.names.lookup x = some .cell) : ∃ c, (cellsFrom n sc.names []).lookup x = some c := by
 have q := PySem.W.cellsFrom_some sc.names n [] (.inl h)
 exact Option.isSome_iff_exists.mp q
theorem SV {CX : CXT} {P : Program} {w : World} {K : PySem.W.Frag} {mg : Str → Option Value} {base : Heap} {N ps : List Str} {qual : Str} {scope : Scope} {f : Addr} {cd : Value} {A : Around} {outer : List Env} {s s1 : Shared} {H : Hp} {E : XK} {us : List Value} {vs : List V}
  (S : AQ N ps scope) (hd : A.handled = none) (e0 : QE P w K mg base A outer s H) (hl : vs.length = ps.length) (r : AO vs us)
  (x : InCallC s s.heap.objs.size (bindL (envOfC qual scope s.heap.objs.size f cd).kindOf (ps.zip us) fun _ => none) (cellsFrom (s.heap.objs.size + 1) scope.names []) (bindC (envOfC qual scope s.heap.objs.size f cd).kindOf (ps.zip us) fun _ => none) s1) :
  Inv (QJ CX P w K mg base N qual scope f cd A outer s H E) [] (start N vs) H s1 := by
 have hpl : ps.length ≤ N.length := by have := congrArg List.length S.pre; rw [List.length_take] at this; omega
 obtain ⟨h1, tk, rfl, hk⟩ := x.done
 have noA : ∀ b : Addr, b ∉ (QJ CX P w K mg base N qual scope f cd A outer s H E).ex := fun b z => absurd (show b ∈ ([] : List Addr) from z) (by simp)
 refine ⟨⟨e0.mod, S.kind, rfl, rfl, Nat.le_refl _, fun y z c h1 h2 => ?_, fun y hy => ?_, fun y c _ h => ?_, fun _ => hd, Around.frames_deeper e0.frames, .inr ⟨rfl, rfl⟩, fun b z => absurd z (noA b), e0.bs, e0.bsz, fun b _ _ => noA b, fun b z => absurd z (noA b), e0.funs, e0.frf⟩,
  rfl, e0.bare, Un.kept hk, ⟨_, x.toInCall.ns, fun i y v h1 h2 h3 => ?_⟩, fun y c h => ⟨_, x.cell y c h⟩, e0.hok.fresh (Nat.le_refl _), fun y c h => ?_, fun p hp => absurd (show p ∈ ([] : List (Addr × Obj)) from hp) (by simp), e0.hok.kept hk, ?_⟩
 ·exact name_of_addr x.apart (PySem.mem_of_lookup h1) (PySem.mem_of_lookup h2)
 ·have hy : scope.names.lookup y = some .cell ∨ scope.names.lookup y = some .free := hy
  rcases hy with hy | hy
  ·exact PH hy
  ·exact absurd rfl (S.nofree _ (PySem.mem_of_lookup hy))
 ·exact Nat.le_of_lt (x.above y c (PySem.mem_of_lookup h))
 ·have hi : i < vs.length := by
   unfold start at h2
   by_cases hi : i < vs.length
   ·exact hi
   ·rw [List.getElem?_append_right (by simpa using hi)] at h2
    rw [List.getElem?_replicate] at h2
    split at h2 <;> cases h2
  have ha : vs[i]? = some v := by
   unfold start at h2
   rw [List.getElem?_append_left (by simpa using hi), List.getElem?_map] at h2
   cases e : vs[i]? with
   | none => rw [e] at h2; cases h2
   | some a => rw [e] at h2; cases h2; rfl
  obtain ⟨u, hu, rv⟩ := r.get ha
  have hp : ps[i]? = some y := by
   rw [← S.pre, List.getElem?_take_of_lt (by omega)]; exact h1
  have ndP : ps.Nodup := by rw [← S.pre]; exact S.nd.sublist (List.take_sublist _ _)
  refine ⟨u, rv, ?_⟩
  rcases S.par y (List.mem_of_getElem? hp) with k | k
  ·exact .inl ⟨k, MJ ndP hp hu k⟩
  ·obtain ⟨c, e⟩ := PH (n := s.heap.objs.size + 1) k
   refine .inr ⟨.inl k, c, e, ?_⟩
   have q := x.cell y c e
   rw [LY ndP hp hu (by show scope.names.lookup y ≠ _; rw [k]; decide)] at q
   exact q
 ·exact e0.hok.fresh (Nat.le_of_lt (x.above y c (PySem.mem_of_lookup h)))
 ·unfold start
  show _ = N.length
  rw [List.length_append, List.length_map, List.length_replicate]
  omega
theorem dB {CX : CXT} {P : Program} {w : World} {K : PySem.W.Frag} {mg : Str → Option Value} {base : Heap} {k : Nat} {f : Addr} {name qual : Str} {params : Arguments} {body : List Stmt} {scope : Scope} {dV kV doc pm cdv ct oc : Value} {an od : Option Addr}
  {osl : Array (Option Value)} {N ps : List Str} {sp : Sp} (lk : K.lookup f = some ⟨oc, od, .func (PySem.W.fnOf name qual params body scope dV kV doc pm an cdv ct), osl⟩) (hcd : PySem.W.codeIn K cdv qual = true) (S : AQ N ps scope)
  (len : ∀ vs H Q E, sp vs H Q E → vs.length = ps.length)
  (hbody : ∀ (A : Around) (outer : List Env) (s : Shared) (H : Hp) (vs : List V) (Q : VK) (E : XK), DX k (A.deeper (envOfC qual scope s.heap.objs.size f cdv)) → sp vs H Q E →
   ∃ t, PSs (QJ CX P w K mg base N qual scope f cdv A outer s H E) body t ∧ t { nx := fun _ H' => Q .non H', rt := Q } (start N vs) H) :
  BY P w K mg base CX (k + 1) f (PySem.W.fnOf name qual params body scope dV kV doc pm an cdv ct) ps sp := by
 refine ⟨len, fun A outer s H args us vs Q E hr e0 hb r hsp => ?_⟩
 have hl := len _ _ _ _ hsp
 have KX : K.In s.heap := e0.mod.kin.keeps fun b o e => (e0.bs b o e).1
 have lim : s.heap.NoLimit := e0.mod.nolimit.keeps fun b o e => (e0.bs b o e).1
 have hkind : ∀ y ∈ ps.zip us, scope.names.lookup y.1 = some .local ∨ (scope.names.lookup y.1 = some .cell ∧ ((cellsFrom (s.heap.objs.size + 1) scope.names []).lookup y.1).isSome = true) := fun ⟨n, v⟩ hy => by
  rcases S.par n (List.of_mem_zip hy).1 with q | q
  ·exact .inl q
  ·exact .inr ⟨q, PySem.W.cellsFrom_some _ _ _ (.inl q)⟩
 refine codeAny_call_function hr.depth (KX _ _ lk) rfl S.co S.gen rfl (PySem.W.codeRec_of KX hcd) (hb _ _ _ _ ?_)
 refine wpAny_newFunctionEnv_cells S.kind hkind fun env he s1 x => ?_
 subst he
 refine ⟨lim.keeps x.toInCall.keep, codeAny_func ?_⟩
 obtain ⟨t, ht, hq⟩ := hbody A outer s H vs Q E (hr.deeper _) hsp
 have I : Inv (QJ CX P w K mg base N qual scope f cdv A outer s H E) [] (start N vs) H s1 := SV S hr.hd e0 hl r x
 refine wpAny_mono (ht [] s1 (start N vs) H _ I hq) (fun fl s' hs => ?_) fun e s' hs => hs
 have fin : ∀ {σ' : St} {H' : Hp} {v : V} {u : Value}, Inv (QJ CX P w K mg base N qual scope f cdv A outer s H E) [] σ' H' s' → BF v u → Q v H' → CE outer P w H s Q u s' :=
  fun {σ' H' v u} J rv q => ⟨v, H', J.os, J.bare, J.base, J.hok, rv, q⟩
 cases fl with
 | ret u =>
  obtain ⟨v, σ', H', J, rv, q⟩ := hs
  exact fin J rv q
 | next =>
  obtain ⟨σ', H', J, q⟩ := hs
  exact fin (v := V.non) (u := Value.none) J rfl q
 | brk =>
  obtain ⟨_, _, _, q⟩ := hs
  exact False.elim q
 | cont =>
  obtain ⟨_, _, _, q⟩ := hs
  exact False.elim q
section
variable {X : Cx} {x : Str} {p pos : Pos} {e : Expr} {es : List Expr} {t : TA} {id T : String} {r : List V → Hp → VK → Prop}
def tCB (r : List V → Hp → VK → Prop) (t : TA) : TE := fun σ H Q => t σ H fun vs H1 => r vs H1 Q
theorem BA (hc : DJ X (.builtin id) r) (hg : Gl X x) (hm : X.mg x = none) (hv : bootBuiltins x = some (.builtin id)) (ha : PA X (e :: es) t) (hn : x ≠ "__name__" := by decide) (hdb : (x == ("__debug__" : Str)) = false := by decide)
  (he : starEach (e :: es) X.env = (false, eval e X.env) :: starEach es X.env := by rfl) (hpl : (backTo pos (starEach es X.env)).any (·.1) = false := by rfl) : PE X (.Call (.Name x p) (e :: es) [] pos) (tCB r t) := by
 intro pins s σ H Q I h
 refine wpAny_Call_Name_kw (EO I hg hm hv ?_ hn hdb)
 exact PyProof.Rows.callWith_builtin1 (thn (ha pos pins s σ H _ I h) fun us s1 ⟨vs, H1, I1, r1, q1⟩ => hc pins s1 σ H1 vs us Q I1 r1 q1) he hpl
theorem IB (hc : DJ X (.type T) r) (hg : Gl X x) (hm : X.mg x = none) (hv : bootBuiltins x = some (.type T)) (ha : PA X (e :: es) t) (hn : x ≠ "__name__" := by decide) (hdb : (x == ("__debug__" : Str)) = false := by decide)
  (he : starEach (e :: es) X.env = (false, eval e X.env) :: starEach es X.env := by rfl) (hpl : (backTo pos (starEach es X.env)).any (·.1) = false := by rfl) : PE X (.Call (.Name x p) (e :: es) [] pos) (tCB r t) := by
 intro pins s σ H Q I h
 refine wpAny_Call_Name_kw (EO I hg hm hv ?_ hn hdb)
 exact PyProof.Rows.callWith_type1 (thn (ha pos pins s σ H _ I h) fun us s1 ⟨vs, H1, I1, r1, q1⟩ => hc pins s1 σ H1 vs us Q I1 r1 q1) he hpl
end
end L2
namespace HT
open PySem PyProof.Rows
section
open PySem.SeqAt
open PySem.AutoSeq1 (wpAny_loadPart')
open PySem.MeetsSeq PySem.MeetsSeq2 PySem.MeetsSeq3
end
section
variable {prog : Program} {w : World} {A : Around} {E : Value → Shared → Prop} {s : Shared}
theorem cat_tup {t b : Addr} {vs ws : List Value} {Q : Value → Shared → Prop} (ht : IsTup s.heap t vs.toArray) (hb : IsTup s.heap b ws.toArray) (hv : vs ≠ [])
  (h1 : ws = [] → Q (.ref t) s) (h2 : ws ≠ [] → Q (.ref s.heap.objs.size) { s with heap := s.heap.push { cls := .type "tuple", data := .seq (vs ++ ws).toArray } })
  (hsz : vs.length + ws.length ≤ sizeLine) : wpAny (model prog w) A (binaryOp .Add (.ref t) (.ref b)) Q E s := by
 obtain ⟨⟨cls, dd, data, sl⟩, ho, hc, n, hd⟩ := id ht
 obtain ⟨⟨cls2, dd2, data2, sl2⟩, ho2, hc2, n2, hd2⟩ := id hb
 simp only at hc hd hc2 hd2
 subst hc hd hc2 hd2
 have e : vs.toArray ++ ws.toArray = (vs ++ ws).toArray := by simp
 by_cases hw : ws = []
 ·exact concat_meets ⟨_, ho, rfl⟩ ⟨_, ho2, rfl⟩ noFill_tuple_add seq_tuple_add PySem.F.slot_tuple_add PySem.F.entry_tuple_add (PySem.F.args_tuple_add_2 _ _)
   (tuple_addW1 t b vs.toArray ws.toArray n n2 dd dd2 sl sl2 (by simpa using hv) (by simp [hw])) ⟨ho, ho2, h1 hw⟩
 ·refine concat_meets ⟨_, ho, rfl⟩ ⟨_, ho2, rfl⟩ noFill_tuple_add seq_tuple_add PySem.F.slot_tuple_add PySem.F.entry_tuple_add (PySem.F.args_tuple_add_2 _ _)
   (tuple_addW2 t b vs.toArray ws.toArray n n2 dd dd2 sl sl2 (by simpa using hv) (by simpa using hw) (by rw [List.size_toArray, List.size_toArray]; exact hsz)) ⟨ho, ho2, ?_⟩
  rw [e]
  exact h2 hw
def sIx (n d : Nat) : Option Int → Nat
 | none => d
 | some v => if v < 0 then (v + (n : Int)).toNat else min v.toNat n
theorem bY (n d : Nat) (hd : d ≤ n) (o : Option Int) : sIx n d o ≤ n := by
 cases o with
 | none => exact hd
 | some v =>
  show (if v < 0 then (v + (n : Int)).toNat else min v.toNat n) ≤ n
  by_cases hv : v < 0
  ·rw [if_pos hv]; omega
  ·rw [if_neg hv]; exact Nat.min_le_right _ _
theorem RY (v : Int) (n d : Nat) : (if v < 0 then max (v + (n : Int)) 0 else min v (n : Int)) = ((sIx n d (some v) : Nat) : Int) := by
 show (if v < 0 then max (v + (n : Int)) 0 else min v (n : Int)) = (((if v < 0 then (v + (n : Int)).toNat else min v.toNat n) : Nat) : Int)
 by_cases hv : v < 0
 ·simp only [if_pos hv]; omega
 ·simp only [if_neg hv]; omega
theorem PV (lo hi : Option Int) (n : Nat) : Builtin.Slice.sliceAdjust lo hi 1 (n : Int) = (((sIx n 0 lo : Nat) : Int), ((sIx n n hi : Nat) : Int)) := by
 have h1 : ¬ ((1 : Int) < 0) := by omega
 unfold Builtin.Slice.sliceAdjust
 simp only [h1, if_false]
 refine Prod.ext ?_ ?_
 ·cases lo with
  | none => rfl
  | some v => exact RY v n 0
 ·cases hi with
  | none => rfl
  | some v => exact RY v n n
theorem PX (i j : Nat) : Builtin.Slice.slicePlaces (i : Int) (j : Int) 1 = j - i := by
 unfold Builtin.Slice.slicePlaces
 have h1 : (1 : Int) > 0 := by omega
 simp only [h1, if_true, Int.ediv_one]
 split <;> omega
theorem KZ {v : Value} {o : Option Int} {Q : Option Int → Shared → Prop} (p : IsPart v o) (h : Q o s) : wpAny (model prog w) A (Builtin.Slice.slicePartIndex v) Q E s := by
 cases p with
 | none => exact slicePart_none h
 | int i t => exact slicePart_int h
theorem sliceApplied_gen {sl : Addr} {vl vu : Value} {lo hi : Option Int} {n : Nat} {Q : Int × Int × Nat → Shared → Prop} (hs : s.heap.IsSliceOf sl vl vu .none) (pl : IsPart vl lo) (pu : IsPart vu hi)
  (h : Q (((sIx n 0 lo : Nat) : Int), 1, sIx n n hi - sIx n 0 lo) s) : wpAny (model prog w) A (Builtin.Slice.sliceApplied (.ref sl) (pure (n : Int))) Q E s := by
 obtain ⟨os, hos, hcs, hds⟩ := id hs
 unfold Builtin.Slice.sliceApplied Builtin.Slice.sliceFields
 refine wpAny_bind (wpAny_bind (wpAny_field hos hds (x := vl) rfl (wpAny_bind (wpAny_field hos hds (x := vu) rfl (wpAny_bind (wpAny_field hos hds (x := .none) rfl (wpAny_pure ?_)))))))
 refine wpAny_bind (slicePart_none ?_)
 show wpAny _ _ (if ((1 : Int) == 0) = true then _ else _) _ _ s
 rw [if_neg (by decide)]
 refine wpAny_bind (KZ pl (wpAny_bind (KZ pu (wpAny_bind (wpAny_pure ?_)))))
 show wpAny _ _ (match Builtin.Slice.sliceAdjust lo hi 1 (n : Int) with | (lo, hi) => pure (lo, (1 : Int), Builtin.Slice.slicePlaces lo hi 1)) _ _ s
 rw [PV lo hi n]
 show wpAny _ _ (pure (((sIx n 0 lo : Nat) : Int), (1 : Int), Builtin.Slice.slicePlaces ((sIx n 0 lo : Nat) : Int) ((sIx n n hi : Nat) : Int) 1)) _ _ s
 rw [PX]
 exact wpAny_pure h
theorem XH (xs : Array Value) (i k : Nat) : ((List.range k).filterMap fun (m : Nat) => xs[((i : Int) + (m : Int) * 1).toNat]?).toArray = ((xs.toList.drop i).take k).toArray := by
 have e : (fun (m : Nat) => xs[((i : Int) + (m : Int) * 1).toNat]?) = fun m => xs[i + m]? := by
  funext m
  have : ((i : Int) + (m : Int) * 1).toNat = i + m := by omega
  rw [this]
 rw [e]
 have := pick_run xs i k
 rw [List.filterMap_map] at this
 have e2 : ((fun x => xs[x]?) ∘ fun x => i + x) = fun m => xs[i + m]? := rfl
 rw [e2] at this
 rw [this]
theorem getItem_tuple_cut {t sl : Addr} {items : Array Value} {vl vu : Value} {lo hi : Option Int} {Q : Value → Shared → Prop} (ht : IsTup s.heap t items) (hs : s.heap.IsSliceOf sl vl vu .none) (pl : IsPart vl lo) (pu : IsPart vu hi)
  (hw : ¬ (sIx items.size 0 lo = 0 ∧ sIx items.size items.size hi = items.size))
  (h : Q (.ref s.heap.objs.size) { s with heap := s.heap.push { cls := .type "tuple", data := .seq ((items.toList.drop (sIx items.size 0 lo)).take (sIx items.size items.size hi - sIx items.size 0 lo)).toArray } })
  (hsz : items.size ≤ sizeLine) : wpAny (model prog w) A (getItem (.ref t) (.ref sl)) Q E s := by
 have htake : sizeOk (.seq ((items.toList.drop (sIx items.size 0 lo)).take (sIx items.size items.size hi - sIx items.size 0 lo)).toArray) := by
  show ((items.toList.drop (sIx items.size 0 lo)).take (sIx items.size items.size hi - sIx items.size 0 lo)).toArray.size ≤ sizeLine
  rw [List.size_toArray, List.length_take, List.length_drop, Array.length_toList]
  omega
 have hj : sIx items.size items.size hi ≤ items.size := bY _ _ (Nat.le_refl _) hi
 obtain ⟨os, hos, hcs, hds⟩ := id hs
 have hTs : s.TypeIs (.ref sl) "slice" := ⟨os, hos, hcs⟩
 unfold getItem
 try with_reducible refine wpAny_holding ?_
 first | refine wpAny_bind (wpAny_pure ?_) | skip
 refine wpAny_bind (wpAny_sequenceKey ht.typeIs (by decide) ?_)
 refine wpAny_bind (wpAny_callSpecial?_slot (name := Str.ofString "__getitem__") ht.typeIs PyProof.Rows.slot_tuple_getitem
  (wpAny_call_entry PyProof.Rows.slot_tuple_getitem ht.typeIs entry_tuple_getitem ?_ (args_tuple_getitem _ _)))
 show wpAny _ _ (Builtin.Tuple.tupleItemsOf (.ref t) >>= _) _ _ s
 refine wpAny_bind (tupleItemsOf_ ht ?_)
 refine wpAny_bind (wpAny_typeOf hTs ?_)
 rw [if_pos (by decide)]
 refine wpAny_bind (sliceApplied_gen hs pl pu ?_)
 have hno : ¬ ((((sIx items.size 0 lo : Nat) : Int) == 0 && (1 : Int) == 1 && (sIx items.size items.size hi - sIx items.size 0 lo) == items.size) = true) := by
  intro q
  rw [Bool.and_eq_true, Bool.and_eq_true] at q
  have q1 : ((sIx items.size 0 lo : Nat) : Int) = 0 := eq_of_beq q.1.1
  have q2 : sIx items.size items.size hi - sIx items.size 0 lo = items.size := eq_of_beq q.2
  exact hw ⟨by omega, by omega⟩
 show wpAny _ _ (if (((sIx items.size 0 lo : Nat) : Int) == 0 && (1 : Int) == 1 && (sIx items.size items.size hi - sIx items.size 0 lo) == items.size) = true then _ else _) _ _ s
 rw [if_neg hno, XH]
 first
  | exact wpAny_bind (m := Builtin.Tuple.tupleExact _) (wpAny_newObj_type (wpAny_pure ⟨_, rfl, wpAny_pure h⟩) htake)
  | exact wpAny_bind (m := Builtin.Tuple.tupleExact _) (wpAny_newObj_type (wpAny_bind (wpAny_pure (wpAny_pure ⟨_, rfl, wpAny_pure h⟩))) htake)
  | exact wpAny_bind (wpAny_bind (m := Builtin.Tuple.tupleExact _) (wpAny_newObj_type (wpAny_pure (wpAny_pure ⟨_, rfl, wpAny_pure h⟩)) htake))
  | exact wpAny_bind (wpAny_bind (m := Builtin.Tuple.tupleExact _) (wpAny_newObj_type (wpAny_pure ⟨_, rfl, wpAny_pure h⟩) htake))
end
end HT
namespace L2
open PySem PySem.Spec PyProof.Rows
abbrev TO := St → Hp → (Option Int → Hp → Prop) → Prop
def PO (X : Cx) (e : Option Expr) (t : TO) : Prop :=
 ∀ (pins : List (Addr × Obj)) (s : Shared) (σ : St) (H : Hp) (Q : Option Int → Hp → Prop), Inv X pins σ H s → t σ H Q →
  wpAny (model X.prog X.w) X.A (evalPart e X.env) (fun u s' => ∃ o H', Inv X pins σ H' s' ∧ IsPart u o ∧ Q o H') X.xe s
def HR : TO := fun _ H Q => Q none H
def PN (t : TE) : TO := fun σ H Q => t σ H fun x H1 => ∃ i, x = .int i ∧ Q (some i) H1
section
variable {X : Cx} {e : Expr} {te : TE} {lo hi : Option Expr} {tl th : TO} {pos p2 : Pos}
theorem YM : PO X none HR := by
 intro pins s σ H Q I h
 rw [evalPart_none]
 exact wpAny_pure ⟨none, H, I, .none, h⟩
theorem ZE (h : PE X e te) : PO X (some e) (PN te) := by
 intro pins s σ H Q I hw
 rw [evalPart_some]
 refine thn (h pins s σ H _ I hw) fun u s1 ⟨x, H1, I1, r1, q1⟩ => ?_
 obtain ⟨i, rfl, q⟩ := q1
 obtain ⟨t, rfl⟩ := r1
 exact ⟨some i, H1, I1, .int i t, q⟩
def SlR (X : Cx) (r : V → Option Int → Option Int → Hp → VK → Prop) : Prop :=
 ∀ (pins : List (Addr × Obj)) (s : Shared) (σ : St) (H : Hp) (x : V) (v vl vu : Value) (lo hi : Option Int) (sl : Addr) (Q : VK), Inv X pins σ H s → BF x v → s.heap.IsSliceOf sl vl vu .none → IsPart vl lo → IsPart vu hi → r x lo hi H Q →
  ∃ T id, typeLookup (.type T) "__getitem__" = pure (some (.builtin id)) ∧ s.TypeIs v T ∧ wpAny (model X.prog X.w) X.A (getItem v (.ref sl)) (EP X pins σ Q) X.xe s
def tSl (r : V → Option Int → Option Int → Hp → VK → Prop) (te : TE) (tl th : TO) : TE := fun σ H Q => te σ H fun x H1 => tl σ H1 fun l H2 => th σ H2 fun u H3 => r x l u H3 Q
theorem VV {r : V → Option Int → Option Int → Hp → VK → Prop} (hr : SlR X r) (he : PE X e te) (hl : PO X lo tl) (hu : PO X hi th) : PE X (.Subscript e (.Slice lo hi none p2) pos) (tSl r te tl th) := by
 intro pins s σ H Q I h
 refine Subscript_ (thn (he pins s σ H _ I h) fun v s1 ⟨x, H1, I1, r1, q1⟩ => ?_)
 refine wpAny_Slice (thn (hl pins s1 σ H1 _ I1 q1) fun vl s2 ⟨l, H2, I2, pl, q2⟩ => thn (hu pins s2 σ H2 _ I2 q2) fun vu s3 ⟨u, H3, I3, pu, q3⟩ => ?_)
 rw [evalPart_none]
 refine wpAny_pure ?_
 have I4 : Inv X pins σ H3 { s3 with heap := s3.heap.push { cls := .type "slice", data := .fields #[vl, vu, .none] } } := I3.kept (t' := s3.toks) fun b ob q => Heap.get?_push_of_some _ q
 obtain ⟨T, id, hT, ht, hg⟩ := hr pins { s3 with heap := s3.heap.push { cls := .type "slice", data := .fields #[vl, vu, .none] } } σ H3 x v vl vu l u s3.heap.objs.size Q I4 r1 (Heap.IsSliceOf.new ..) pl pu q3
 show wpAny (model X.prog X.w) X.A (subscriptTail e (.Slice lo hi none p2) v (.ref s3.heap.objs.size)) (EP X pins σ Q) X.xe { s3 with heap := s3.heap.push { cls := .type "slice", data := .fields #[vl, vu, .none] } }
 exact tail_any (ops := [.ref s3.heap.objs.size, v]) ht hT hg (by with_unfolding_all rfl)
def MX (xs : List V) (lo hi : Option Int) : List V := (xs.drop (HT.sIx xs.length 0 lo)).take (HT.sIx xs.length xs.length hi - HT.sIx xs.length 0 lo)
theorem NW (xs : List V) (lo hi : Option Int) : (MX xs lo hi).length ≤ xs.length := by
 unfold MX
 rw [List.length_take, List.length_drop]
 omega
def UN (K : PySem.W.Frag) : V → Option Int → Option Int → Hp → VK → Prop := fun x lo hi H Q => ∃ a xs, x = .ref a ∧ SqT K H a xs ∧
 ¬ (HT.sIx xs.length 0 lo = 0 ∧ HT.sIx xs.length xs.length hi = xs.length) ∧ ∀ p, H p = none → Q (.ref p) (upd H p (.tup (MX xs lo hi)))
theorem cU : SlR X (UN X.K) := by
 intro pins s σ H x v vl vu lo hi sl Q I rx hs pl pu h
 obtain ⟨a, xs, rfl, hx, hw, q⟩ := h
 cases rx
 obtain ⟨its, r, ht, hz⟩ := I.tuple hx
 have hlen : its.toArray.size = xs.length := by rw [List.size_toArray]; exact r.length.symm
 refine ⟨"tuple", _, PyProof.Rows.slot_tuple_getitem.lookup, ht.typeIs, ?_⟩
 refine HT.getItem_tuple_cut ht hs pl pu (by rw [hlen]; exact hw) ?_ (by rw [hlen]; exact hz)
 rw [hlen]
 refine ⟨.ref s.heap.objs.size, _, I.laid (t' := s.toks) (o := .tup (MX xs lo hi)) (fun b ob q => Heap.get?_push_of_some _ q) (Nat.le_refl _) ?_, rfl, q _ (I.hok.fresh (Nat.le_refl _))⟩
 exact ⟨Nat.le_trans (NW xs lo hi) hz, _, (r.drop (HT.sIx xs.length 0 lo)).take (HT.sIx xs.length xs.length hi - HT.sIx xs.length 0 lo), IsTup.new _ _⟩
def dR (K : PySem.W.Frag) : R2 := fun x y H Q => ∃ a b xs ys, x = .ref a ∧ y = .ref b ∧ SqT K H a xs ∧ SqT K H b ys ∧ xs ≠ [] ∧ xs.length + ys.length ≤ sizeLine ∧
 (ys = [] → Q (.ref a) H) ∧ (ys ≠ [] → ∀ p, H p = none → Q (.ref p) (upd H p (.tup (xs ++ ys))))
theorem AO.nil_iff {xs : List V} {us : List Value} (r : AO xs us) : us = [] ↔ xs = [] := by
 cases r with
 | nil => simp
 | cons _ _ => simp
theorem YG : OpR X (binaryOp .Add) (dR X.K) := by
 intro pins s σ H x y v u Q I rx ry h
 obtain ⟨a, b, xs, ys, rfl, rfl, ha, hb, hx, hz, q1, q2⟩ := h
 cases rx
 cases ry
 obtain ⟨its, r1, p1, _⟩ := I.tuple ha
 obtain ⟨its2, r2, p2, _⟩ := I.tuple hb
 refine HT.cat_tup p1 p2 (fun z => hx (r1.nil_iff.mp z)) (fun z => ⟨.ref a, H, I, rfl, q1 (r2.nil_iff.mp z)⟩) (fun z => ?_) (by rw [← r1.length, ← r2.length]; exact hz)
 refine ⟨.ref s.heap.objs.size, _, I.laid (t' := s.toks) (o := .tup (xs ++ ys)) (fun b ob q => Heap.get?_push_of_some _ q) (Nat.le_refl _) ?_, rfl, q2 (fun w => z (r2.nil_iff.mpr w)) _ (I.hok.fresh (Nat.le_refl _))⟩
 exact ⟨by rw [List.length_append]; exact hz, _, r1.append r2, IsTup.new _ _⟩
end
def ixN (n : Nat) (i : Int) : Option Nat := if 0 ≤ i then (if i < n then some i.toNat else none) else if -(n : Int) ≤ i then some (i + n).toNat else none
def atI {α : Type} (xs : List α) (i : Int) : Option α := (ixN xs.length i).bind fun j => xs[j]?
theorem ZZ {n : Nat} {i : Int} {j : Nat} (h : ixN n i = some j) : seqIndex? i n = some j ∧ j < n ∧ -(n : Int) ≤ i ∧ i < n := by
 unfold ixN at h
 by_cases h0 : 0 ≤ i
 ·rw [if_pos h0] at h
  by_cases h1 : i < n
  ·rw [if_pos h1] at h
   have e : i.toNat = j := Option.some.inj h
   exact ⟨by rw [seqIndex_of h0 h1, e], by omega, by omega, h1⟩
  ·rw [if_neg h1] at h; cases h
 ·rw [if_neg h0] at h
  by_cases h1 : -(n : Int) ≤ i
  ·rw [if_pos h1] at h
   have e : (i + n).toNat = j := Option.some.inj h
   exact ⟨by rw [seqIndex_neg (by omega) h1, e], by omega, h1, by omega⟩
  ·rw [if_neg h1] at h; cases h
theorem RX {α : Type} {xs : List α} {i : Int} {v : α} (h : atI xs i = some v) : ∃ j, seqIndex? i xs.length = some j ∧ xs[j]? = some v ∧ j < xs.length ∧ -(xs.length : Int) ≤ i ∧ i < xs.length := by
 unfold atI at h
 cases e : ixN xs.length i with
 | none => rw [e] at h; cases h
 | some j =>
  rw [e] at h
  obtain ⟨h1, h2, h3, h4⟩ := ZZ e
  exact ⟨j, h1, h, h2, h3, h4⟩
theorem RW {α : Type} {xs : List α} {j : Nat} {v : α} (h : xs[j]? = some v) : atI xs (j : Int) = some v := by
 have hj : j < xs.length := (List.getElem?_eq_some_iff.mp h).1
 have e : ixN xs.length (j : Int) = some j := by
  unfold ixN
  rw [if_pos (by omega), if_pos (by omega)]; simp
 unfold atI; rw [e]; exact h
def YS (b : Expr) : Prop := ∀ o i, subscripted b false o i = operate [o, i] (getItem o i)
def IxR (X : Cx) (r : R2) : Prop :=
 ∀ (value slice : Expr) (pins : List (Addr × Obj)) (s : Shared) (σ : St) (H : Hp) (x y : V) (v u : Value) (Q : VK), Inv X pins σ H s → BF x v → BF y u → r x y H Q →
  subscripted slice false v u = operate [v, u] (getItem v u) → wpAny (model X.prog X.w) X.A (subscriptTail value slice v u) (EP X pins σ Q) X.xe s
def MtR (X : Cx) (id : String) (r : V → List V → Hp → VK → Prop) : Prop :=
 ∀ (pins : List (Addr × Obj)) (s : Shared) (σ : St) (H : Hp) (x : V) (xs : List V) (v : Value) (us : List Value) (Q : VK), Inv X pins σ H s → BF x v → AO xs us → r x xs H Q →
  wpAny (model X.prog X.w) X.A (call (.builtin id) (v :: us)) (EP X pins σ Q) X.xe s
section
variable {X : Cx} {a b : Expr} {ta tb : TE} {pos : Pos}
theorem AV {r : R2} (hr : IxR X r) (ha : PE X a ta) (hb : PE X b tb) (hs : YS b) : PE X (.Subscript a b pos) (tOp r ta tb) := by
 intro pins s σ H Q I h
 exact Subscript_ (bG ha hb I h fun v u s2 x y H2 I2 rx ry q => hr a b pins s2 σ H2 x y v u Q I2 rx ry q (hs _ _))
def VC (K : PySem.W.Frag) : R2 := fun x y H Q => ∃ p xs i v, x = .ref p ∧ y = .int i ∧ SqL K H p xs ∧ atI xs i = some v ∧ Q v H
def XN (K : PySem.W.Frag) : R2 := fun x y H Q => ∃ p xs i v, x = .ref p ∧ y = .int i ∧ SqT K H p xs ∧ atI xs i = some v ∧ Q v H
theorem ZX : IxR X (VC X.K) := by
 intro value slice pins s σ H x y v u Q I rx ry h hs
 obtain ⟨p, xs, i, z, rfl, rfl, hq, he, q⟩ := h
 cases rx
 obtain ⟨t, rfl⟩ := ry
 obtain ⟨its, r, pl, hz⟩ := I.list hq
 obtain ⟨j, h1, h2, h3, h4, h5⟩ := RX he
 obtain ⟨w, ew, rw'⟩ := r.get h2
 have hl := r.length
 have hn := MQ
 have fin : EP X pins σ Q w s := ⟨z, H, I, rw', q⟩
 by_cases h0 : 0 ≤ i
 ·have hj : i.toNat = j := by
   rw [seqIndex_of h0 h5] at h1
   exact Option.some.inj h1
  exact item_listR pl.isList h0 (by omega) (by rw [hj]; simpa using ew) fin hs
 ·have hj : (i + (its.toArray.size : Int)).toNat = j := by
   rw [seqIndex_neg (by omega) h4] at h1
   rw [List.size_toArray, ← hl]
   exact Option.some.inj h1
  exact subscriptTail_builtinR (x := w) pl.isList.typeIs slot_list_getitem.lookup
   (wpAny_getItem_list_neg (Q := fun r s' => r = w ∧ EP X pins σ Q r s') pl.isList (by omega) (by rw [List.size_toArray] <;> omega) (by omega) (by rw [hj]; simpa using ew) ⟨rfl, fin⟩) hs
theorem bR : IxR X (XN X.K) := by
 intro value slice pins s σ H x y v u Q I rx ry h hs
 obtain ⟨p, xs, i, z, rfl, rfl, hq, he, q⟩ := h
 cases rx
 obtain ⟨t, rfl⟩ := ry
 obtain ⟨its, r, pl, hz⟩ := I.tuple hq
 obtain ⟨j, h1, h2, h3, h4, h5⟩ := RX he
 obtain ⟨w, ew, rw'⟩ := r.get h2
 have hl := r.length
 have hn := MQ
 have fin : EP X pins σ Q w s := ⟨z, H, I, rw', q⟩
 exact subscriptTail_builtinR (x := w) pl.typeIs slot_tuple_getitem.lookup
  (getItem_tuple (j := j) (Q := fun r s' => r = w ∧ EP X pins σ Q r s') pl (by omega) (by omega) (by rw [List.size_toArray, ← hl]; exact h1) (by simpa using ew) ⟨rfl, fin⟩) hs
theorem Inv.lst {pins : List (Addr × Obj)} {σ : St} {H : Hp} {s : Shared} {p : Addr} {xs : List V} (I : Inv X pins σ H s) (h : H p = some (.lst xs)) :
  ∃ (its : List Value) (n : Nat), AO xs its ∧ s.heap.get? p = some { cls := .type "list", data := .seq its.toArray n } ∧ xs.length ≤ sizeLine := by
 obtain ⟨z, its, n, r, e⟩ := I.hok p _ h
 exact ⟨its, n, r, e, z⟩
def IL : V → Bool
 | .non => true
 | .bl _ => true
 | .int _ => true
 | .str _ => true
 | _ => false
def eqV : V → V → Bool
 | .non, .non => true
 | .bl a, .bl b => a == b
 | .bl a, .int b => (if a then 1 else 0) == b
 | .int a, .bl b => a == (if b then 1 else 0)
 | .int a, .int b => a == b
 | .str a, .str b => a == b
 | _, _ => false
theorem cD {A : Around} {s : Shared} {y x : V} {u v : Value} (ry : BF y u) (rx : BF x v) (fy : IL y = true) (fx : IL x = true) : SeqAt.EqAt A s u v (eqV y x) := by
 cases y with
 | non =>
  cases ry
  cases x with
  | non => cases rx; exact SeqAt.EqAt.same _
  | bl b => cases rx; exact SeqAt.EqAt.none_bool b
  | int b => obtain ⟨t, rfl⟩ := rx; exact SeqAt.EqAt.none_int b t
  | str b => obtain ⟨t, rfl⟩ := rx; exact SeqAt.EqAt.none_str b t
  | _ => exact absurd (show false = true from fx) Bool.false_ne_true
 | bl a =>
  cases ry
  cases x with
  | non => cases rx; exact SeqAt.EqAt.bool_none a
  | bl b => cases rx; exact SeqAt.EqAt.bool_bool a b
  | int b => obtain ⟨t, rfl⟩ := rx; exact SeqAt.EqAt.bool_int a b t
  | str b => obtain ⟨t, rfl⟩ := rx; exact SeqAt.EqAt.bool_str a b t
  | _ => exact absurd (show false = true from fx) Bool.false_ne_true
 | int a =>
  obtain ⟨t', rfl⟩ := ry
  cases x with
  | non => cases rx; exact SeqAt.EqAt.int_none a t'
  | bl b => cases rx; exact SeqAt.EqAt.int_bool a t' b
  | int b => obtain ⟨t, rfl⟩ := rx; exact SeqAt.EqAt.int_int a t' b t
  | str b => obtain ⟨t, rfl⟩ := rx; exact SeqAt.EqAt.int_str a t' b t
  | _ => exact absurd (show false = true from fx) Bool.false_ne_true
 | str a =>
  obtain ⟨t', rfl⟩ := ry
  cases x with
  | non => cases rx; exact SeqAt.EqAt.str_none a t'
  | bl b => cases rx; exact SeqAt.EqAt.str_bool a t' b
  | int b => obtain ⟨t, rfl⟩ := rx; exact SeqAt.EqAt.str_int a t' b t
  | str b => obtain ⟨t, rfl⟩ := rx; exact SeqAt.EqAt.str_str a t' b t
  | _ => exact absurd (show false = true from fx) Bool.false_ne_true
 | _ => exact absurd (show false = true from fy) Bool.false_ne_true
def eqU (x : V) (u : Value) : Bool := match u with
 | .none => eqV .non x
 | .bool b => eqV (.bl b) x
 | .int i _ => eqV (.int i) x
 | .str z _ => eqV (.str z) x
 | _ => false
theorem WW {x y : V} {u : Value} (r : BF y u) (f : IL y = true) : eqU x u = eqV y x := by
 cases y with
 | non => cases r; rfl
 | bl b => cases r; rfl
 | int i => obtain ⟨t, rfl⟩ := r; rfl
 | str z => obtain ⟨t, rfl⟩ := r; rfl
 | _ => exact absurd (show false = true from f) Bool.false_ne_true
theorem HS {x : V} : ∀ {xs : List V} {us : List Value}, AO xs us → xs.all IL = true → us.any (eqU x) = xs.any fun y => eqV y x
 | _, _, .nil, _ => rfl
 | y :: xs, u :: us, .cons r t, f => by
  rw [List.all_cons, Bool.and_eq_true] at f
  rw [List.any_cons, List.any_cons, WW r f.1, HS t f.2]
theorem FU {A : Around} {s : Shared} {x : V} {v : Value} (rx : BF x v) (fx : IL x = true) : ∀ {xs : List V} {us : List Value}, AO xs us → xs.all IL = true → ∀ u ∈ us, SeqAt.EqAt A s u v (eqU x u)
 | _, _, .nil, _ => fun u hu => by cases hu
 | y :: xs, u :: us, .cons r t, f => fun u' hu => by
  rw [List.all_cons, Bool.and_eq_true] at f
  rcases List.mem_cons.mp hu with rfl | hu
  ·rw [WW r f.1]; exact cD r rx f.1 fx
  ·exact FU rx fx t f.2 u' hu
def inV (x : V) (xs : List V) : Bool := xs.any fun y => eqV y x
def rIn (K : PySem.W.Frag) (neg : Bool) : R2 := fun x y H Q => ∃ p xs, y = .ref p ∧ (SqL K H p xs ∨ SqT K H p xs) ∧ IL x = true ∧ xs.all IL = true ∧ Q (.bl (if neg then !inV x xs else inV x xs)) H
theorem IK : OpR X (compareOp .In) (rIn X.K false) := by
 intro pins s σ H x y v u Q I rx ry h
 obtain ⟨p, xs, rfl, hq, fx, fs, q⟩ := h
 cases ry
 rcases hq with hq | hq
 ·obtain ⟨its, r, pl, hz⟩ := I.list hq
  refine SeqAt.in_listAt (eqU x) pl.isList (fun w hw => FU rx fx r fs w (by simpa using hw)) ⟨.bl _, H, I, rfl, ?_⟩
  rw [show its.toArray.any (eqU x) = its.any (eqU x) by simp, HS r fs]
  exact q
 ·obtain ⟨its, r, pl, hz⟩ := I.tuple hq
  refine SeqAt.in_tupleAt (eqU x) pl (fun w hw => FU rx fx r fs w (by simpa using hw)) ⟨.bl _, H, I, rfl, ?_⟩
  rw [show its.toArray.any (eqU x) = its.any (eqU x) by simp, HS r fs]
  exact q
theorem MR : OpR X (compareOp .NotIn) (rIn X.K true) := by
 intro pins s σ H x y v u Q I rx ry h
 obtain ⟨p, xs, rfl, hq, fx, fs, q⟩ := h
 cases ry
 rcases hq with hq | hq
 ·obtain ⟨its, r, pl, hz⟩ := I.list hq
  refine SeqAt.notIn_listAt (eqU x) pl.isList (fun w hw => FU rx fx r fs w (by simpa using hw)) ⟨.bl _, H, I, rfl, ?_⟩
  rw [show its.toArray.any (eqU x) = its.any (eqU x) by simp, HS r fs]
  exact q
 ·obtain ⟨its, r, pl, hz⟩ := I.tuple hq
  refine SeqAt.notIn_tupleAt (eqU x) pl (fun w hw => FU rx fx r fs w (by simpa using hw)) ⟨.bl _, H, I, rfl, ?_⟩
  rw [show its.toArray.any (eqU x) = its.any (eqU x) by simp, HS r fs]
  exact q
theorem MP : DJ X (.builtin "len") (fun xs H Q => ∃ p ys, xs = [.ref p] ∧ (SqL X.K H p ys ∨ SqT X.K H p ys) ∧ Q (.int ys.length) H) := by
 intro pins s σ H xs us Q I r h
 obtain ⟨p, ys, rfl, hq, q⟩ := h
 obtain ⟨u, rfl, rx⟩ := PC r
 cases rx
 have hn := MQ
 rcases hq with hq | hq
 ·obtain ⟨its, r', pl, hz⟩ := I.list hq
  have hlen := r'.length
  exact Calls.call_len_list pl.isList (by simp only [List.size_toArray] <;> omega) ⟨.int ys.length, H, I.tok _, ⟨s.toks + 1, by rw [List.size_toArray, hlen]⟩, q⟩
 ·obtain ⟨its, r', pl, hz⟩ := I.tuple hq
  have hlen := r'.length
  exact len_tuple pl (by simp only [List.size_toArray] <;> omega) ⟨.int ys.length, H, I.tok _, ⟨s.toks + 1, by rw [List.size_toArray, hlen]⟩, q⟩
theorem NH : DJ X (.type "list") (fun xs H Q => ∃ p ys, xs = [.ref p] ∧ (SqL X.K H p ys ∨ SqT X.K H p ys) ∧ ∀ l, H l = none → Q (.ref l) (upd H l (.lst ys))) := by
 intro pins s σ H xs us Q I r h
 obtain ⟨p, ys, rfl, hq, q⟩ := h
 obtain ⟨u, rfl, rx⟩ := PC r
 cases rx
 have fin : ∀ (its : List Value), AO ys its → ys.length ≤ sizeLine → ∀ (h' : Heap) (c' : Nat), (∀ b o', s.heap.get? b = some o' → h'.get? b = some o') →
   h'.get? s.heap.objs.size = some { cls := .type "list", dict := none, data := .seq its.toArray c', slots := #[] } → EP X pins σ Q (.ref s.heap.objs.size) { s with heap := h' } := fun its r' hz h' c' kp e =>
  ⟨.ref s.heap.objs.size, _, I.laid (t' := s.toks) kp (Nat.le_refl _) (show CZ X.prog X.w _ h' _ (.lst ys) from ⟨hz, its, c', r', e⟩), rfl, q _ (I.hok.fresh (Nat.le_refl _))⟩
 rcases hq with hq | hq
 ·obtain ⟨its, r', pl, hz⟩ := I.list hq
  have hlen := r'.length
  obtain ⟨o, ho, hc, n, hd⟩ := pl.isList
  exact call_list_seq p (.inl rfl) ho hc hd (fun h' c' kp e => fin its r' hz h' c' kp e) (by simp only [List.size_toArray] <;> omega)
 ·obtain ⟨its, r', pl, hz⟩ := I.tuple hq
  have hlen := r'.length
  obtain ⟨o, ho, hc, n, hd⟩ := pl
  exact call_list_seq p (.inr rfl) ho hc hd (fun h' c' kp e => fin its r' hz h' c' kp e) (by simp only [List.size_toArray] <;> omega)
theorem LL : DJ X (.type "tuple") (fun xs H Q => ∃ p ys, xs = [.ref p] ∧ ((SqL X.K H p ys ∧ ∀ l, H l = none → Q (.ref l) (upd H l (.tup ys))) ∨ (SqT X.K H p ys ∧ Q (.ref p) H))) := by
 intro pins s σ H xs us Q I r h
 obtain ⟨p, ys, rfl, h⟩ := h
 obtain ⟨u, rfl, rx⟩ := PC r
 cases rx
 rcases h with ⟨hq, q⟩ | ⟨hq, q⟩
 ·obtain ⟨its, r', pl, hz⟩ := I.list hq
  have hlen := r'.length
  refine call_tuple_list pl.isList (fun h' kp => ?_) (by simp only [List.size_toArray] <;> omega)
  have I1 : Inv X pins σ H { s with heap := h' } := I.kept (t' := s.toks) kp
  have I2 : Inv X pins σ (upd H h'.objs.size (.tup ys)) { s with heap := h'.push { cls := .type "tuple", data := .seq its.toArray } } :=
   I1.laid (t' := s.toks) (fun b o e => Heap.get?_push_of_some _ e) (Nat.le_refl _) (show CZ X.prog X.w _ _ _ (.tup ys) from ⟨hz, its, r', IsTup.new _ _⟩)
  exact ⟨.ref h'.objs.size, _, I2, rfl, q _ (I1.hok.fresh (Nat.le_refl _))⟩
 ·obtain ⟨its, r', pl, hz⟩ := I.tuple hq
  exact call_tuple_same pl ⟨.ref p, H, I, rfl, q⟩
def tyV (K : PySem.W.Frag) (T : String) (x : V) (H : Hp) : Prop := match x with
 | .str _ => T = "str"
 | .int _ => T = "int"
 | .ref p => (T = "list" ∧ ∃ xs, SqL K H p xs) ∨ (T = "tuple" ∧ ∃ o, K.lookup p = some o ∧ o.cls = .type "tuple" ∧ o.dict = none) ∨
   (T = "dict" ∧ ((∃ kvs, H p = some (.dK kvs)) ∨ ∃ kvs, H p = some (.dT kvs))) ∨ (T = "set" ∧ ∃ S n, H p = some (.set S n))
 | _ => False
theorem VU {pins : List (Addr × Obj)} {σ : St} {H : Hp} {s : Shared} {T : String} {x : V} {v : Value} (I : Inv X pins σ H s) (r : BF x v) (ty : tyV X.K T x H) :
  s.TypeIs v T ∧ ∀ a, v = .ref a → ∃ ob, s.heap.get? a = some ob ∧ ob.dict = none := by
 cases x with
 | str z =>
  obtain ⟨t, rfl⟩ := r
  cases (show T = "str" from ty)
  exact ⟨typeIs_str s z t, fun _ e => nomatch e⟩
 | int i =>
  obtain ⟨t, rfl⟩ := r
  cases (show T = "int" from ty)
  exact ⟨typeIs_int s i t, fun _ e => nomatch e⟩
 | ref p =>
  cases r
  rcases ty with ⟨rfl, xs, hq⟩ | ⟨rfl, o, hk, hc, hd⟩ | ⟨rfl, hk⟩ | ⟨rfl, S, n, hk⟩
  ·obtain ⟨its, _, pl, _⟩ := I.list hq
   refine ⟨pl.isList.typeIs, fun a e => ?_⟩
   cases e
   obtain ⟨o, n, e, c, hd, _⟩ := pl
   exact ⟨o, e, hd⟩
  ·refine ⟨⟨o, I.kIn p o hk, hc⟩, fun a e => ?_⟩
   cases e
   exact ⟨o, I.kIn _ o hk, hd⟩
  ·have z : ∃ o, s.heap.get? p = some o ∧ o.ExactDict := by
    rcases hk with ⟨kvs, hk⟩ | ⟨kvs, hk⟩
    ·obtain ⟨_, _, _, _, o, _, _, e, ex, _⟩ := I.hok p _ hk
     exact ⟨o, e, ex⟩
    ·obtain ⟨_, _, _, _, o, _, _, e, ex, _⟩ := I.hok p _ hk
     exact ⟨o, e, ex⟩
   obtain ⟨o, e, ex⟩ := z
   refine ⟨⟨o, e, ex.1⟩, fun a e2 => ?_⟩
   cases e2
   exact ⟨o, e, ex.2.1⟩
  ·obtain ⟨o, _, _, _, e, ex, _⟩ := I.hok p _ hk
   refine ⟨⟨o, e, ex.1⟩, fun a e2 => ?_⟩
   cases e2
   exact ⟨o, e, ex.2.1⟩
 | _ => exact False.elim ty
def VL (K : PySem.W.Frag) (T : String) (r : V → List V → Hp → VK → Prop) (to : TE) : TE := fun σ H Q => to σ H fun x H1 => tyV K T x H1 ∧ r x [] H1 Q
def tBM (K : PySem.W.Frag) (T : String) (r : V → List V → Hp → VK → Prop) (to : TE) (t : TA) : TE := fun σ H Q => to σ H fun x H1 => tyV K T x H1 ∧ t σ H1 fun xs H2 => r x xs H2 Q
variable {o e : Expr} {es : List Expr} {to : TE} {t : TA} {name : Str} {apos cpos : Pos} {T id : String} {r : V → List V → Hp → VK → Prop}
theorem VO (pa : PlainAttrs T) (slot : Slot T name id) (hty : typeOf (.builtin id) = pure (.type "method_descriptor")) (hm : MtR X id r) (ho : PE X o to)
  (hbase : attributeBase o name X.env (eval o X.env) = eval o X.env := by rfl) (hline : (apos.endLine == cpos.line) = true := by rfl) : PE X (.Call (.Attribute o name apos) [] [] cpos) (VL X.K T r to) := by
 intro pins s σ H Q I h
 refine wpAny_Call_method0_late hbase hline (thn (ho pins s σ H _ I h) fun v s1 ⟨x, H1, I1, r1, ty, q1⟩ => ?_)
 obtain ⟨h1, h2⟩ := VU I1 r1 ty
 exact ⟨T, id, pa, slot, hty, h1, h2, Calls.callWith_builtin rfl (PySem.evalArgs_none (hm pins s1 σ H1 x [] v [] Q I1 r1 .nil q1))⟩
theorem KT (pa : PlainAttrs T) (slot : Slot T name id) (hty : typeOf (.builtin id) = pure (.type "method_descriptor")) (hm : MtR X id r) (ho : PE X o to) (ha : PA X (e :: es) t)
  (hbase : attributeBase o name X.env (eval o X.env) = eval o X.env := by rfl)
  (hfew : ((backTo cpos (starEach (e :: es) X.env)).all (fun x => !x.1) && (backToKw cpos (keywordEach [] X.env)).all (fun x => x.1.isSome)
   && decide ((e :: es).length + ([] : List Keyword).length + (if ([] : List Keyword).isEmpty then 0 else 1) < 30)) = true := by rfl)
  (hline : (apos.endLine == cpos.line) = true := by rfl) (hs : starEach (e :: es) X.env = (false, eval e X.env) :: starEach es X.env := by rfl) (hplain : (backTo cpos (starEach es X.env)).any (·.1) = false := by rfl) :
  PE X (.Call (.Attribute o name apos) (e :: es) [] cpos) (tBM X.K T r to t) := by
 intro pins s σ H Q I h
 refine wpAny_Call_method_late hbase hfew hline rfl (thn (ho pins s σ H _ I h) fun v s1 ⟨x, H1, I1, r1, ty, q1⟩ => ?_)
 obtain ⟨h1, h2⟩ := VU I1 r1 ty
 refine ⟨T, id, pa, slot, hty, h1, h2, ?_⟩
 have hA := ha cpos pins s1 σ H1 _ I1 q1
 rw [hs] at hA ⊢
 refine Calls.callWith_builtin (by show (false || (backTo cpos (starEach es X.env)).any (·.1)) = false; rw [hplain] <;> rfl) (Calls.evalArgs_plain ?_)
 exact thn hA fun us s2 ⟨vs, H2, I2, r2, q2⟩ => hm pins s2 σ H2 x vs v us Q I2 r1 r2 q2
end
def MtM (X : Cx) (id : String) (r : V → List V → Hp → VK → Prop) : Prop :=
 ∀ (pins : List (Addr × Obj)) (s : Shared) (σ : St) (H : Hp) (x : V) (xs : List V) (v : Value) (us : List Value) (Q : VK), Inv X pins σ H s → BF x v → AO xs us → r x xs H Q →
  wpAny (model X.prog X.w) X.A (call (.builtin id) (v :: us)) (EP X pins σ Q) X.xe s
theorem AO.one : ∀ {x : V} {us : List Value}, AO [x] us → ∃ u, us = [u] ∧ BF x u
 | _, _, .cons r .nil => ⟨_, rfl, r⟩
theorem unP {α β : Type} {R : α → β → Prop} {x : α} {xs : List α} {us : List β} (h : Paired R (x :: xs) us) : ∃ u vs, us = u :: vs ∧ R x u ∧ Paired R xs vs := by
 cases h with
 | cons r h => exact ⟨_, _, rfl, r, h⟩
theorem unP0 {α β : Type} {R : α → β → Prop} {us : List β} (h : Paired R [] us) : us = [] := by
 cases h; rfl
theorem AO.two {x y : V} {us : List Value} (h : AO [x, y] us) : ∃ u v, us = [u, v] ∧ BF x u ∧ BF y v := by
 obtain ⟨u, vs, rfl, r, h⟩ := unP h
 obtain ⟨v, vs, rfl, q, h⟩ := unP h
 obtain rfl := unP0 h
 exact ⟨_, _, rfl, r, q⟩
theorem AO.zero : ∀ {us : List Value}, AO [] us → us = []
 | _, .nil => rfl
theorem AO.dropLast {xs : List V} {us : List Value} (h : AO xs us) : AO xs.dropLast us.dropLast := by
 induction h with
 | nil => exact .nil
 | cons r t ih =>
  cases t with
  | nil => exact .nil
  | cons q t' => exact .cons r ih
theorem AO.eraseIdx : ∀ {xs : List V} {us : List Value} (i : Nat), AO xs us → AO (xs.eraseIdx i) (us.eraseIdx i)
 | _, _, _, .nil => .nil
 | _, _, 0, .cons _ t => t
 | _, _, i + 1, .cons r t => .cons r (AO.eraseIdx i t)
theorem AO.reverse {xs : List V} {us : List Value} (h : AO xs us) : AO xs.reverse us.reverse := by
 induction h with
 | nil => exact .nil
 | cons r t ih => rw [List.reverse_cons, List.reverse_cons]; exact AO.append ih (.cons r .nil)
theorem AO.rep {xs : List V} {us : List Value} (h : AO xs us) : ∀ k : Nat, AO (List.replicate k xs).flatten (List.replicate k us).flatten
 | 0 => .nil
 | k + 1 => by
  rw [List.replicate_succ, List.replicate_succ, List.flatten_cons, List.flatten_cons]
  exact AO.append h (AO.rep h k)
theorem QB {α : Type} (l : List α) : l.eraseIdx (l.length - 1) = l.dropLast := by
 induction l with
 | nil => rfl
 | cons a r ih =>
  cases r with
  | nil => rfl
  | cons b r =>
   have e : (a :: b :: r).length - 1 = ((b :: r).length - 1) + 1 := by
    have h1 : (a :: b :: r).length = r.length + 2 := rfl
    have h2 : (b :: r).length = r.length + 1 := rfl
    omega
   rw [e, List.eraseIdx_cons_succ, ih]
   all_goals rfl
theorem IJ (its : List Value) : ∀ (k : Nat) (acc : List Value),
  List.foldl (fun x1 x2 => x1 ++ x2) acc.toArray (List.replicate k its.toArray) = (acc ++ (List.replicate k its).flatten).toArray
 | 0, acc => by simp
 | k + 1, acc => by
  have e : acc.toArray ++ its.toArray = (acc ++ its).toArray := by simp
  have e2 : (acc ++ its) ++ (List.replicate k its).flatten = acc ++ (List.replicate (k + 1) its).flatten := by
   rw [List.replicate_succ, List.flatten_cons, List.append_assoc]
  rw [← e2, ← IJ its k (acc ++ its), ← e, List.replicate_succ, List.foldl_cons]
section
variable {X : Cx} {pins : List (Addr × Obj)} {σ : St} {H : Hp} {s : Shared} {l b : Addr} {xs ys zs : List V}
theorem Inv.lset {its its' : List Value} {n : Nat} {f : Array Value → Array Value} {t' : Nat} (I : Inv X pins σ H s) (hH : H l = some (.lst xs))
  (e : s.heap.get? l = some { cls := .type "list", data := .seq its.toArray n }) (hf : f its.toArray = its'.toArray) (hv : AO ys its') (hz : ys.length ≤ sizeLine) :
  Inv X pins σ (upd H l (.lst ys)) { s with heap := s.heap.update l (Obj.mapSeq f), toks := t' } := by
 have q := PySem.IsL.update e f
 rw [hf] at q
 refine I.write (x := l) (e := l) (by rw [hH]; exact trivial) (.inl rfl) (fun b' u hb hu => (Heap.get?_update_other s.heap (Obj.mapSeq f) (Ne.symm hb)).trans hu) ⟨_, q⟩ ?_
 exact ⟨hz, its', _, hv, q⟩
theorem Inv.lnew {its : List Value} {t' : Nat} (I : Inv X pins σ H s) (hv : AO ys its) (hz : ys.length ≤ sizeLine) :
  Inv X pins σ (upd H s.heap.objs.size (.lst ys)) { s with heap := s.heap.push { cls := .type "list", data := .seq its.toArray }, toks := t' } :=
 I.laid (fun _ _ q => Heap.get?_push_of_some _ q) (Nat.le_refl _) ⟨hz, its, 0, hv, Heap.get?_push_size _ rfl⟩
theorem Inv.fresh (I : Inv X pins σ H s) : H s.heap.objs.size = none := I.hok.fresh (Nat.le_refl _)
theorem Inv.lstM (I : Inv X pins σ H s) (hH : H l = some (.lst xs)) : xs.length ≤ sizeLine ∧ ∃ (its : List Value) (n : Nat), AO xs its ∧ xs.length = its.length ∧ s.heap.get? l = some { cls := .type "list", data := .seq its.toArray n } := by
 obtain ⟨z, its, n, r, e⟩ := I.hok l _ hH
 exact ⟨z, its, n, r, r.length, e⟩
end
section
variable {X : Cx}
def HB : V → List V → Hp → VK → Prop := fun x vs H Q => ∃ l xs y, x = .ref l ∧ vs = [y] ∧ H l = some (.lst xs) ∧ xs.length < sizeLine ∧ Q .non (upd H l (.lst (xs ++ [y])))
theorem MB : MtM X "list.append" HB := by
 intro pins s σ H x vs v us Q I rx rv h
 obtain ⟨l, xs, y, rfl, rfl, hH, hz, q⟩ := h
 cases rx
 obtain ⟨u, rfl, ru⟩ := rv.one
 obtain ⟨z, its, n, r, hl, e⟩ := I.lstM hH
 refine call_meets F.slot_list_append ⟨_, e, rfl⟩ F.entry_list_append (F.args_list_append_2 _ _) (PySem.list_append l its.toArray n u (by rw [List.size_toArray]; omega)) ⟨e, ?_⟩
 refine ⟨.non, _, I.lset (its' := its ++ [u]) hH e (by simp) (r.append (.cons ru .nil)) ?_, rfl, q⟩
 rw [List.length_append, List.length_singleton]
 omega
def XF : V → List V → Hp → VK → Prop := fun x vs H Q => ∃ l xs y, x = .ref l ∧ vs = [] ∧ H l = some (.lst xs) ∧ xs[xs.length - 1]? = some y ∧ Q y (upd H l (.lst xs.dropLast))
theorem WX : MtM X "list.pop" XF := by
 intro pins s σ H x vs v us Q I rx rv h
 obtain ⟨l, xs, y, rfl, rfl, hH, hy, q⟩ := h
 cases rx
 have hus := rv.zero
 subst hus
 obtain ⟨z, its, n, r, hl, e⟩ := I.lstM hH
 obtain ⟨u, hu, ru⟩ := r.get hy
 have hy' : its.toArray[its.toArray.size - 1]? = some u := by
  show its.toArray[its.length - 1]? = some u
  rw [← Array.getElem?_toList, ← hl]
  exact hu
 refine call_meets F.slot_list_pop ⟨_, e, rfl⟩ F.entry_list_pop (F.args_list_pop_1 _) (MeetsSeq.list_pop_last l its.toArray n u hy' (by rw [List.size_toArray]; omega)) ⟨e, ?_⟩
 refine ⟨y, _, I.lset (its' := its.dropLast) hH e ?_ r.dropLast ?_, ru, q⟩
 ·show its.toArray.eraseIdxIfInBounds (its.toArray.size - 1) = its.dropLast.toArray
  rw [List.size_toArray, List.eraseIdxIfInBounds_toArray, QB]
 ·rw [List.length_dropLast]
  omega
def UV : R2 := fun x y H Q => ∃ l b xs zs, x = .ref l ∧ y = .ref b ∧ H l = some (.lst xs) ∧ H b = some (.lst zs) ∧ xs.length + zs.length ≤ sizeLine ∧ ∀ p, H p = none → Q (.ref p) (upd H p (.lst (xs ++ zs)))
theorem bB : OpR X (binaryOp .Add) UV := by
 intro pins s σ H x y v u Q I rx ry h
 obtain ⟨l, b, xs, zs, rfl, rfl, hH, hB, hz, q⟩ := h
 cases rx
 cases ry
 obtain ⟨z, its, n, r, hl, e⟩ := I.lstM hH
 obtain ⟨z2, its2, n2, r2, hl2, e2⟩ := I.lstM hB
 refine PySem.P.add_list e e2 ?_ (by rw [List.size_toArray, List.size_toArray]; omega)
 have ea : its.toArray ++ its2.toArray = (its ++ its2).toArray := by simp
 rw [ea]
 exact ⟨.ref _, _, I.lnew (t' := s.toks) (r.append r2) (by rw [List.length_append]; omega), rfl, q _ I.fresh⟩
theorem RJ {α : Type} (xs : List α) (k : Nat) : (List.replicate k xs).flatten.length = k * xs.length := by
 induction k with
 | zero => simp
 | succ k ih => rw [List.replicate_succ, List.flatten_cons, List.length_append, ih, Nat.succ_mul, Nat.add_comm]
end
section
variable {prog : Program} {w : World} {A : Around} {E : Value → Shared → Prop} {s : Shared}
end
section
variable {X : Cx}
end
end L2
namespace Att
open PySem PySem.W PySem.Calls PyProof.Rows
theorem JA {P : Params} {h : Heap} : ∀ (ns : List Int) (vs : List Value), WellAll P h vs (ns.map WData.int) → IntsAre vs ns := by
 intro ns
 induction ns with
 | nil =>
  intro vs w
  rw [List.map_nil] at w
  cases w
  exact .nil
 | cons n ns ih =>
  intro vs w
  rw [List.map_cons] at w
  cases w with
  | cons a b =>
   cases a
   exact .cons _ _ (ih _ b)
theorem TK {l : OpenLaw} {n : Nat} (hn : l.most = some n) {P : Params} {h : Heap} {args : List WData} {vals : List Value}
  (hpre : l.row.toRowW.claim.pre args = true) (hwl : WellAll P h vals args) :
  ∃ a vs ns, vals = [Value.ref a] ∧ args = [WData.list (ns.map WData.int)] ∧ h.get? a = some { cls := .type "list", data := .seq vs.toArray } ∧ IntsAre vs ns ∧ ns.length ≤ n := by
 have hsh : WShape.hasAll [] args [.list .int] = true := (pre_splitW hpre).1
 have hc : l.pre.holds [] { args := args } = true := (pre_splitW hpre).2
 obtain ⟨d, r, rfl, h1, h2⟩ := hasAllW_cons hsh
 obtain rfl := hasAllW_nil h2
 obtain ⟨xs, rfl, h3⟩ := hasW_list h1
 obtain ⟨ns, rfl⟩ := items_int h3
 have hlen : ns.length ≤ n := by
  unfold OpenLaw.pre at hc
  have h4 : (WTm.not (.lt (.lit (.int (n : Int))) (.len (.arg 0)))).holds [] { args := [.list (ns.map .int)] } = true := by
   have h4 := (holds_andW hc).1
   rw [hn] at h4
   exact h4
  have h5 := condW_of h4 (w_not (w_lt w_lit (w_len_list (w_arg rfl))))
  rw [List.length_map] at h5
  refine Nat.le_of_not_lt fun q => ?_
  have q' : (n : Int) < ((ns.length : Nat) : Int) := by omega
  first
   | (rw [decide_eq_true q'] at h5; exact absurd h5 (by decide))
   | (simp at h5; omega)
 cases hwl with
 | cons w1 w2 =>
  cases w2
  cases w1 with
  | list ho hall => exact ⟨_, _, ns, rfl, rfl, ho, JA ns _ hall, hlen⟩
theorem SB (l : OpenLaw) (args : List WData) : l.row.toRowW.claim.post args (.bool true) args = true :=
 postW_of (r := l.row.toRowW) (X := (true == true))
  (show WShape.has [] (.bool true) .bool = true by first | rfl | decide | simp [WShape.has, WShape.arms, WShape.armsAll])
  (show (WTm.eq .res (.lit (.bool true))).value [] { args := args, res := some (.bool true), after := args } = some (.bool (true == true)) from w_eq_bool (w_res rfl) w_lit) rfl
theorem attach_call {l : OpenLaw} {n : Nat} {q : Program} {loose : List Str} {XP : (Str → Option Value) → Heap → Prop} {YP : World → Heap → Prop} {d : DefRec}
  (hn : l.most = some n) (hdf : d.params.defaults = [])
  (call : ∀ (w : World) (s₀ s₁ : Shared) (mg mb : Str → Option Value) (fa : Addr) (o : Obj) (pm cd doc : Value) (a : Addr) (vs : List Value) (ns : List Int),
   Ground q loose [] XP w s₀ mg mb s₁.heap → YP w s₁.heap →
   s₁.heap.get? fa = some o → o.data = .func (docDef d.name d.params d.body d.scope pm cd doc) → s₁.heap.CodeRec cd d.name → mg d.name = some (.ref fa) →
   s₁.heap.get? a = some { cls := .type "list", data := .seq vs.toArray } → IntsAre vs ns → ns.length ≤ n → s₁.gens = #[] →
   codeAny (model l.prog w) callerA (.call (.ref fa) ⟨[.ref a], []⟩) (fun r s' => r = .ok (.ret (.bool true)) ∧ OldK s₁.heap s'.heap ∧ s'.os = s₁.os ∧ AllBare s'.gens) s₁) :
  WalkO q loose XP YP l.row.toRowW d [] (fun f vs => PySem.call f vs) := by
 intro w s₀ s₁ mg mb G Y fa o pm cd doc dV kV ho hd hcd hD hmg hg args vals as hpre hlay hrd hwl hlo
 obtain rfl : dV = .none := Dflts.none hD hdf
 obtain rfl : kV = .none := Dflts.noKw hD
 obtain ⟨a, vs, ns, rfl, rfl, hobj, hints, hlen⟩ := TK hn hpre hwl
 refine enter_call (codeAny_mono (call w s₀ s₁ mg mb fa o pm cd doc a vs ns G Y ho (fd_plain hd) hcd hmg hobj hints hlen hg) fun r s' hq => ?_)
 obtain ⟨rfl, h2, h3, h4⟩ := hq
 exact ⟨.inl ⟨.bool true, .bool true, [], rfl, fun _ => rfl, .bool true, SB l _, fun _ => ⟨List.Pairwise.nil, fun _ hm => (nomatch hm)⟩⟩, h2, h3, h4⟩
section
variable {prog : Program} {w : World} {A : Around} {E : Value → Shared → Prop} {s : Shared} {K : Frag}
def ledger (h : Heap) (L d : Addr) : List (Addr × Obj) := (List.range h.objs.size).filterMap fun a => if a = L ∨ a = d then none else (h.get? a).map fun o => (a, o)
end
end Att
namespace L2
open PySem PySem.Spec PyProof.Rows
theorem LV : ∀ {vs : List Value} {ns : List Int}, IntsAre vs ns → AO (ns.map V.int) vs
 | _, _, .nil => .nil
 | _, _, .cons n t h => .cons ⟨t, rfl⟩ (LV h)
def cN (H : Hp) : Prop := ∀ b, H b = none ∨ ∃ o xs, H b = some (.frz o (.lst xs))
theorem WM {P : Program} {w : World} {K : PySem.W.Frag} {mg mb : Str → Option Value} {CX : CXT} {k : Nat} {fa a : Addr} {fd : FuncData} {x : Str} {sp : Sp} {s₁ : Shared} {vs : List Value} {ns : List Int}
  (KX : K.In s₁.heap) (hns : s₁.heap.Ns mainGlobals mg) (hb : s₁.heap.Ns builtinsNs mb) (hbb : ∀ x : Str, x ≠ "__name__" → mb x = bootBuiltins x) (hlim : s₁.heap.NoLimit) (hg : s₁.gens = #[])
  (ha : s₁.heap.get? a = some { cls := .type "list", data := .seq vs.toArray }) (hi : IntsAre vs ns) (hl : ns.length ≤ sizeLine) (hr : DX k callerA)
  (F : ∀ base : Heap, K.In base → base.Ns mainGlobals mg → BY P w K mg base CX k fa fd [x] sp) (hbind : ∀ (s : Shared) (u : Value), BindsTo s fd ⟨[u], []⟩ [(x, u)])
  (hsp : ∀ H : Hp, cN H → SqL K H a (ns.map V.int) → sp [.ref a] H (fun v _ => v = .bl true) fun _ _ _ => False)
  (hCX : ∀ H e s', CX [] H s₁ (fun _ _ _ => False) e s' → False) :
  codeAny (model P w) callerA (.call (.ref fa) ⟨[.ref a], []⟩) (fun r s' => r = .ok (.ret (.bool true)) ∧ OldK s₁.heap s'.heap ∧ s'.os = s₁.os ∧ AllBare s'.gens) s₁ := by
 have rv := LV hi
 have lenV := hi.length
 have core : ∀ H : Hp, cN H → SqL K H a (ns.map V.int) → HOk P w H s₁.heap → (∀ b, H b ≠ none → b = a) → (H a ≠ none → K.lookup a = none) →
   codeAny (model P w) callerA (.call (.ref fa) ⟨[.ref a], []⟩) (fun r s' => r = .ok (.ret (.bool true)) ∧ OldK s₁.heap s'.heap ∧ s'.os = s₁.os ∧ AllBare s'.gens) s₁ := by
  intro H hO hS hok hA hK
  have base_of : ∀ {b : Addr} {o : Obj}, s₁.heap.get? b = some o → H b = none → (NM s₁.heap H).get? b = some o := fun e n => WG e n
  have noA : ∀ {b : Addr} {o : Obj} {es : Array DictEntry} {ep : Nat}, s₁.heap.get? b = some o → o.data = .dict es ep → H b = none := fun {b o es ep} e d => by
   cases q : H b with
   | none => rfl
   | some u =>
    have e' : b = a := hA b (by rw [q]; simp)
    subst e'
    rw [ha] at e; cases e
    have d' : Data.seq vs.toArray _ = Data.dict es ep := d
    cases d'
  have nsK : ∀ {b : Addr} {m : Str → Option Value}, s₁.heap.Ns b m → (NM s₁.heap H).Ns b m := fun {b m} ⟨o, es, ep, e, d, r⟩ => ⟨o, es, ep, base_of e (noA e d), d, r⟩
  have hKb : K.In (NM s₁.heap H) := fun b o e => base_of (KX b o e) (by
   cases q : H b with
   | none => rfl
   | some u =>
    have e' : b = a := hA b (by rw [q]; simp)
    subst e'
    rw [hK (by rw [q]; simp)] at e; cases e)
  have hM : Mod K mg (NM s₁.heap H) := ⟨hKb, nsK hns, ⟨mb, nsK hb, hbb⟩, let ⟨mc, h1, h2⟩ := hlim; ⟨mc, nsK h1, h2⟩⟩
  have e0 : QE P w K mg (NM s₁.heap H) callerA [] s₁ H := ⟨rfl, hM, fun b o e => ZK e, Nat.le_of_eq (TB _ _), trivial, fun b hb => absurd (show b ∈ ([] : List Addr) from hb) (by simp), hok, .of_eq hg⟩
  refine codeAny_mono ((F _ hKb (nsK hns)).run callerA [] s₁ H ⟨[.ref a], []⟩ [.ref a] [.ref a] _ _ hr e0 (hbind s₁ (.ref a)) (.cons rfl .nil) (hsp H hO hS)) fun r s' h => ?_
  cases r with
  | error e => exact (hCX H e s' h).elim
  | ok fl =>
   cases fl with
   | next => exact False.elim h
   | brk => exact False.elim h
   | cont => exact False.elim h
   | ret u =>
    obtain ⟨v, H', os, bare, un, hok', r', q⟩ := h
    have q' : v = .bl true := q
    subst q'
    obtain rfl : u = Value.bool true := r'
    refine ⟨rfl, OldK.of_keep fun b o e => ?_, os, bare⟩
    cases q : H b with
    | none => exact un.keep b o e q (by intro z; exact absurd (show b ∈ ([] : List Addr) from z) (by simp)) (by simp)
    | some u =>
     rcases hO b with z | ⟨ob, xs, z⟩
     ·rw [q] at z; cases z
     ·have z2 := un.frzs b ob _ z
      obtain ⟨e1, _⟩ := hok b _ z
      obtain ⟨e2, _⟩ := hok' b _ z2
      rw [e] at e1; cases e1
      exact e2
 cases hk : K.lookup a with
 | some o =>
  have e := KX a o hk
  rw [ha] at e
  cases e
  refine core (fun _ => none) (fun _ => .inl rfl) (.inr ⟨_, vs.toArray, _, hk, rfl, rfl, rfl, by rw [List.size_toArray, lenV]; exact hl, by simpa using rv⟩) (fun b u z => by have z' : (none : Option HO) = some u := z; cases z') (fun b z => absurd rfl z) fun z => absurd rfl z
 | none =>
  refine core (fun b => if b = a then some (.frz { cls := .type "list", data := .seq vs.toArray } (.lst (ns.map V.int))) else none) (fun b => ?_) (.inl (.inr ⟨{ cls := .type "list", data := .seq vs.toArray }, if_pos rfl⟩)) (fun b u z => ?_) (fun b z => ?_) fun _ => hk
  ·by_cases hb : b = a
   ·exact .inr ⟨_, _, if_pos hb⟩
   ·exact .inl (if_neg hb)
  ·by_cases hb : b = a
   ·have z' := (if_pos hb).symm.trans z
    cases z'
    subst hb
    exact ⟨ha, by rw [List.length_map]; exact hl, vs, _, rv, ha⟩
   ·have z' := (if_neg hb).symm.trans z
    cases z'
  ·by_cases hb : b = a
   ·exact hb
   ·exact absurd (if_neg hb) z
abbrev KOf {K : PySem.W.Frag} {h : Heap} (_ : K.In h) : PySem.W.Frag := K
theorem walk_of {l : PySem.W.OpenLaw} {n k : Nat} {q : Program} {loose : List Str} {XP : (Str → Option Value) → Heap → Prop} {YP : World → Heap → Prop} {d : DefRec} {K : Params → PySem.W.Frag} {CX : World → CXT} {sp : World → Sp} {x : Str}
  (hn : l.most = some n) (hn2 : n ≤ sizeLine) (hdf : d.params.defaults = []) (hr : DX k callerA)
  (hY : ∀ (w : World) (h : Heap), YP w h → (K w.params).In h)
  (F : ∀ (w : World) (mg : Str → Option Value) (fa : Addr) (h : Heap), (K w.params).In h → h.Ns mainGlobals mg → mg d.name = some (.ref fa) →
   ∃ fd : FuncData, (∀ (s : Shared) (u : Value), BindsTo s fd ⟨[u], []⟩ [(x, u)]) ∧
    ∀ base : Heap, (K w.params).In base → base.Ns mainGlobals mg → BY l.prog w (K w.params) mg base (CX w) k fa fd [x] (sp w))
  (hsp : ∀ (w : World) (H : Hp) (a : Addr) (ns : List Int), ns.length ≤ n → cN H → SqL (K w.params) H a (ns.map V.int) → sp w [.ref a] H (fun v _ => v = .bl true) fun _ _ _ => False)
  (hCX : ∀ (w : World) (H : Hp) (s : Shared) (e : Value) (s' : Shared), CX w [] H s (fun _ _ _ => False) e s' → False) :
  PySem.W.WalkO q loose XP YP l.row.toRowW d [] (fun f vs => PySem.call f vs) := by
 refine Att.attach_call hn hdf fun w s₀ s₁ mg mb fa o pm cd doc a vs ns G Y ho hd hcd hmg hobj hints hlen hg => ?_
 have KX := hY w _ Y
 obtain ⟨fd, hb, hF⟩ := F w mg fa _ KX G.T.g hmg
 exact WM KX G.T.g G.T.b G.T.builtins G.T.nolimit hg hobj hints (Nat.le_trans hlen hn2) hr hF hb (fun H hO hS => hsp w H a ns hlen hO hS) fun H e s' => hCX w H s₁ e s'
def CA (s : Stmt) (j : Nat) : Stmt := match s with
 | .ClassDef _ _ _ body _ _ _ _ _ _ _ => body.getD j (.Pass ⟨0, 0, 0, 0⟩)
 | _ => .Pass ⟨0, 0, 0, 0⟩
def AN (s : Stmt) : Arguments := match s with
 | .FunctionDef _ a _ _ _ _ _ _ _ _ => a
 | _ => { posonlyargs := [], args := [], vararg := none, kwonlyargs := [], kw_defaults := [], kwarg := none, defaults := [] }
def AM (s : Stmt) : List Stmt := match s with
 | .FunctionDef _ _ b _ _ _ _ _ _ _ => b
 | _ => []
def AD (s : Stmt) : Scope := match s with
 | .FunctionDef _ _ _ _ _ _ sc _ _ _ => sc
 | _ => { kind := .function, names := [], isGenerator := false, isCoroutine := false }
abbrev CX0 : CXT := fun _ _ _ _ _ _ => False
abbrev E0 : XK := fun _ _ _ => False
theorem BD {X : Cx} : FY CX0 X E0 := fun _ _ _ _ _ _ _ h => h.elim
structure Fun (K : PySem.W.Frag) (x qual : Str) (st : Stmt) (f : Addr) (fd : FuncData) : Prop where
 ex : ∃ (oc : Value) (od : Option Addr) (kV doc pm : Value) (an : Option Addr) (cdv ct : Value) (osl : Array (Option Value)),
  fd = PySem.W.fnOf x qual (AN st) (AM st) (AD st) .none kV doc pm an cdv ct ∧ K.lookup f = some ⟨oc, od, .func fd, osl⟩ ∧ PySem.W.codeIn K cdv qual = true
 kp : PySem.W.keepIn K (.ref f) = true
section
variable {P : Program} {w : World} {K : PySem.W.Frag} {mg : Str → Option Value} {base : Heap}
theorem Fun.ok {x qual : Str} {st : Stmt} {f : Addr} {fd : FuncData} {N ps : List Str} {k : Nat} {sp : Sp} (F : Fun K x qual st f fd) (S : AQ N ps (AD st)) (len : ∀ vs H Q E, sp vs H Q E → vs.length = ps.length)
  (hbody : ∀ (cdv : Value) (A : Around) (outer : List Env) (s : Shared) (H : Hp) (vs : List V) (Q : VK) (E : XK), DX k (A.deeper (envOfC qual (AD st) s.heap.objs.size f cdv)) → sp vs H Q E →
   ∃ t, PSs (QJ CX0 P w K mg base N qual (AD st) f cdv A outer s H E).nox (AM st) t ∧ t { nx := fun _ H' => Q .non H', rt := Q } (start N vs) H) : BY P w K mg base CX0 (k + 1) f fd ps sp := by
 obtain ⟨oc, od, kV, doc, pm, an, cdv, ct, osl, rfl, lk, hcd⟩ := F.ex
 refine dB lk hcd S len fun A outer s H vs Q E hr hsp => ?_
 obtain ⟨t, h, q⟩ := hbody cdv A outer s H vs Q E hr hsp
 exact ⟨t, h.nox, q⟩
theorem Fun.binds {x qual : Str} {st : Stmt} {f : Addr} {fd : FuncData} {ps : List Str} (F : Fun K x qual st f fd)
  (h : ∀ (kV doc pm : Value) (an : Option Addr) (cdv ct : Value) (us : List Value), us.length = ps.length → bindArgs (PySem.W.fnOf x qual (AN st) (AM st) (AD st) .none kV doc pm an cdv ct) ⟨us, []⟩ = pure (ps.zip us)) : ES K fd ps [] := by
 obtain ⟨oc, od, kV, doc, pm, an, cdv, ct, osl, rfl, lk, hcd⟩ := F.ex
 exact .all (h kV doc pm an cdv ct)
theorem BG {x qual : Str} {st : Stmt} {f : Addr} {oc : Value} {od an : Option Addr} {osl : Array (Option Value)} {kV doc pm cdv ct : Value} (l : K.lookup f = some ⟨oc, od, .func (PySem.W.fnOf x qual (AN st) (AM st) (AD st) .none kV doc pm an cdv ct), osl⟩)
  (c : PySem.W.codeIn K cdv qual = true) (k : PySem.W.keepIn K (.ref f) = true) : Fun K x qual st f (PySem.W.fnOf x qual (AN st) (AM st) (AD st) .none kV doc pm an cdv ct) := ⟨⟨oc, od, kV, doc, pm, an, cdv, ct, osl, rfl, l, c⟩, k⟩
end
theorem IE {n : Nat} (h : n ≤ 1000) : n < sizeLine := Nat.lt_of_le_of_lt h (by decide)
section
variable {X : Cx}
theorem pv (i : Nat) {x : Str} {pos : Pos} (hN : X.N[i]? = some x := by rfl) (hv : Vis X.env.scope x := by first | exact Or.inl rfl | exact Or.inr (Or.inl rfl) | exact Or.inr (Or.inr rfl)) (hd : (x == ("__debug__" : Str)) = false := by decide)
  (hcd : (x == ("__classdict__" : Str)) = false := by decide) : PE X (.Name x pos) (UA i) := bI hN hv hd hcd
end
def AI (H H' : Hp) : Prop := ∀ b o, H b = some o → H' b = some o
theorem AI.refl (H : Hp) : AI H H := fun _ _ h => h
theorem AI.trans {H H1 H2 : Hp} (a : AI H H1) (b : AI H1 H2) : AI H H2 := fun c o h => b c o (a c o h)
theorem AI.free {H H' : Hp} (e : AI H H') {l : Addr} (h : H' l = Option.none) : H l = Option.none := by
 cases q : H l with
 | none => rfl
 | some o =>
  rw [e l o q] at h
  cases h
theorem AI.seq {K : PySem.W.Frag} {H H' : Hp} {a : Addr} {xs : List V} (e : AI H H') (h : SqL K H a xs) : SqL K H' a xs := by
 rcases h with (h | ⟨o, h⟩) | h
 ·exact .inl (.inl (e _ _ h))
 ·exact .inl (.inr ⟨o, e _ _ h⟩)
 ·exact .inr h
theorem SI {prog : Program} {w : World} {A : Around} {R : Result → Shared → Prop} {s : Shared} {elt target iter : Expr} {ifs : List Expr} {scope : Scope} {pos : Pos} {it acc : Value} {env : Env} (I : Nat → Shared → Prop)
  (turn : ∀ n s, I n s → wpAny (model prog w) A (pyNext it) (fun r s₁ => match r with
   | none => R (.ok .next) s₁
   | some v => wpAny (model prog w) A (letOwnedTupleGo target it v) (fun _ s₁' => wpAny (model prog w) A (assign target env v) (fun _ s₂ =>
     wpAny (model prog w) A (forIn ifs true fun c r => if r = true then do let ok ← isTrue c env (eval c env); pure (ForInStep.yield ok) else pure (ForInStep.yield r)) (fun ok s₃ =>
      if ok = true then wpAny (model prog w) A (eval elt env) (fun x s₄ =>
       wpAny (model prog w) A (call (.builtin "list.append") [acc, x]) (fun _ s₅ => ∃ m, m < n ∧ I m s₅) (fun _ _ => False) s₄) (fun _ _ => False) s₃
      else ∃ m, m < n ∧ I m s₃) (fun _ _ => False) s₂) (fun _ _ => False) s₁') (fun _ _ => False) s₁) (fun _ _ => False) s)
  (n : Nat) (h : I n s) :
  codeAny (model prog w) A (.compLoop (.ListComp elt [⟨target, iter, ifs, 0⟩] scope pos) 0 it acc env) R s := by
 refine codeAny_loop rfl I (fun n s hI => ?_) n h
 show wpAny _ A ((compTurn (.ListComp elt [⟨target, iter, ifs, 0⟩] scope pos) 0 it acc env).onRaise (fun x => do noteFrame x env; theTreesLotGoes x)) _ _ s
 refine wpAny_noted ?_
 rw [compTurn_list]
 refine wpAny_bind (wpAny_standAt (wpAny_bind (wpAny_mono (turn n s hI) (fun r s₁ h₁ => ?_) fun _ _ z => False.elim z)))
 cases r with
 | none => exact wpAny_pure h₁
 | some v =>
  refine wpAny_bind (wpAny_mono h₁ (fun _ s₁' h₁' => ?_) fun _ _ z => False.elim z)
  refine wpAny_bind (wpAny_mono h₁' (fun _ s₂ h₂ => wpAny_bind (wpAny_mono h₂ (fun ok s₃ h₃ => ?_) fun _ _ z => False.elim z)) fun _ _ z => False.elim z)
  cases ok with
  | false => exact wpAny_pure ⟨rfl, h₃⟩
  | true =>
   exact wpAny_bind (wpAny_bind (wpAny_mono h₃ (fun x s₄ h₄ => wpAny_bind (wpAny_mono h₄ (fun _ s₅ h₅ => wpAny_pure (wpAny_pure ⟨rfl, h₅⟩)) fun _ _ z => False.elim z)) fun _ _ z => False.elim z))
def DZ (cells : List (Str × Addr)) : List (Str × NameKind) → List (Str × Addr) → List (Str × Addr)
 | [], acc => acc
 | (n, k) :: r, acc => if k == .free then DZ cells r ((n, (cells.lookup n).getD 0) :: acc) else DZ cells r acc
theorem MW {env : Env} : ∀ (names : List (Str × NameKind)) (acc : List (Str × Addr)), (∀ y ∈ names, y.2 = .free → ∃ c, env.cells.lookup y.1 = some c) →
  (forIn names acc fun x r => if (x.snd == NameKind.free) = true then do let a ← cellOf env x.fst; pure (ForInStep.yield ((x.fst, a) :: r)) else pure (ForInStep.yield r)) = (pure (DZ env.cells names acc) : Sem _)
 | [], acc, _ => rfl
 | (n, k) :: r, acc, h => by
  rw [List.forIn_cons]
  have hr : ∀ y ∈ r, y.2 = .free → ∃ c, env.cells.lookup y.1 = some c := fun y hy => h y (List.mem_cons_of_mem _ hy)
  by_cases hk : k = .free
  ·subst hk
   obtain ⟨c, hc⟩ := h (n, .free) List.mem_cons_self rfl
   have ih := MW r ((n, c) :: acc) hr
   simp only [DZ, beq_self_eq_true, if_true, cellOf, hc, Option.getD_some, pure_bind]
   exact ih
  ·have hb : (k == NameKind.free) = false := by simpa using hk
   have ih := MW r acc hr
   simp only [DZ, hb, Bool.false_eq_true, if_false, pure_bind]
   exact ih
theorem RF {scope : Scope} {env : Env} (h : ∀ y ∈ scope.names, y.2 = .free → ∃ c, env.cells.lookup y.1 = some c) : closureFor scope env = pure (DZ env.cells scope.names []) := by
 have e := MW (env := env) scope.names [] h
 simp only [closureFor]
 rw [e]
 rfl
theorem FP {cells : List (Str × Addr)} : ∀ (names : List (Str × NameKind)) (acc : List (Str × Addr)), (∀ y ∈ names, y.2 = .free → ∃ c, cells.lookup y.1 = some c) → (∀ y c, acc.lookup y = some c → cells.lookup y = some c) →
  ∀ y c, (DZ cells names acc).lookup y = some c → cells.lookup y = some c
 | [], acc, _, ha, y, c, e => ha y c e
 | (n, k) :: r, acc, h, ha, y, c, e => by
  have hr : ∀ y ∈ r, y.2 = .free → ∃ c, cells.lookup y.1 = some c := fun y hy => h y (List.mem_cons_of_mem _ hy)
  by_cases hk : k = .free
  ·subst hk
   obtain ⟨d, hd⟩ := h (n, .free) List.mem_cons_self rfl
   simp only [DZ, beq_self_eq_true, if_true] at e
   refine FP r _ hr (fun z b q => ?_) y c e
   rw [List.lookup_cons] at q
   cases hz : z == n with
   | true =>
    rw [hz] at q
    have : z = n := by simpa using hz
    subst this
    rw [hd] at q ⊢
    exact q
   | false => rw [hz] at q; exact ha z b q
  ·have hb : (k == NameKind.free) = false := by simpa using hk
   simp only [DZ, hb, Bool.false_eq_true, if_false] at e
   exact FP r acc hr ha y c e
theorem JS {cells : List (Str × Addr)} : ∀ (names : List (Str × NameKind)) (acc : List (Str × Addr)) (y : Str), (∃ c, acc.lookup y = some c) → ∃ c, (DZ cells names acc).lookup y = some c
 | [], acc, y, h => h
 | (n, k) :: r, acc, y, h => by
  by_cases hk : (k == NameKind.free) = true
  ·simp only [DZ, hk, if_true]
   refine JS r _ y ?_
   rw [List.lookup_cons]
   cases hz : y == n with
   | true => exact ⟨_, rfl⟩
   | false => exact h
  ·simp only [DZ, hk, if_false]
   exact JS r acc y h
theorem LB {cells : List (Str × Addr)} : ∀ (names : List (Str × NameKind)) (acc : List (Str × Addr)) (y : Str), (y, NameKind.free) ∈ names → ∃ c, (DZ cells names acc).lookup y = some c
 | (n, k) :: r, acc, y, h => by
  rcases List.mem_cons.mp h with e | h
  ·cases e
   simp only [DZ, beq_self_eq_true, if_true]
   refine JS r _ _ ?_
   rw [List.lookup_cons]
   simp
  ·by_cases hk : (k == NameKind.free) = true
   ·simp only [DZ, hk, if_true]
    exact LB r _ y h
   ·simp only [DZ, hk, if_false]
    exact LB r _ y h
theorem EJ {β : Type} : ∀ {l : List (Str × β)} {y : Str} {b : β}, l.lookup y = some b → (y, b) ∈ l
 | [], _, _, e => by cases e
 | (n, k) :: r, y, b, e => by
  rw [List.lookup_cons] at e
  cases hz : y == n with
  | true =>
   rw [hz] at e
   have : y = n := by simpa using hz
   subst this
   cases e
   exact List.mem_cons_self
  | false => rw [hz] at e; exact List.mem_cons_of_mem _ (EJ e)
theorem NC {scope : Scope} {env : Env} {y : Str} (hc : ∀ z ∈ scope.names, z.2 ≠ .cell) (h : (relabel scope env).names.lookup y = some .cell ∨ (relabel scope env).names.lookup y = some .free) : (y, NameKind.free) ∈ scope.names := by
 have key : ∀ k, (relabel scope env).names.lookup y = some k → (k = .cell ∨ k = .free) → (y, NameKind.free) ∈ scope.names := fun k e hk => by
  have m := EJ e
  obtain ⟨⟨n, k0⟩, hm, e0⟩ := List.mem_map.mp m
  dsimp only at e0
  split at e0
  ·rename_i hh
   cases e0
   have : k0 = .free := by
    simp only [Bool.and_eq_true, beq_iff_eq] at hh
    exact hh.1.1
   subst this
   exact hm
  ·cases e0
   rcases hk with rfl | rfl
   ·exact absurd rfl (hc _ hm)
   ·exact hm
 rcases h with h | h
 ·exact key _ h (.inl rfl)
 ·exact key _ h (.inr rfl)
theorem IX {env : Env} : ∀ {names : List (Str × NameKind)} {y : Str}, names.lookup y = some .free →
  (names.map fun (n, k) => if (k == NameKind.free && env.scope.kind == .function && env.kindOf n == some .cell) then (n, NameKind.cell) else (n, k)).lookup y = some .cell ∨
  (names.map fun (n, k) => if (k == NameKind.free && env.scope.kind == .function && env.kindOf n == some .cell) then (n, NameKind.cell) else (n, k)).lookup y = some .free
 | [], _, h => by simp at h
 | (n, k) :: r, y, h => by
  have ih := @IX env r y
  simp only [List.map_cons]
  cases hx : y == n with
  | true =>
   simp only [List.lookup_cons, hx] at h
   cases h
   by_cases hc : (NameKind.free == NameKind.free && env.scope.kind == .function && env.kindOf n == some .cell) = true
   ·rw [if_pos hc]; left; simp only [List.lookup_cons, hx]
   ·rw [if_neg hc]; right; simp only [List.lookup_cons, hx]
  | false =>
   simp only [List.lookup_cons, hx] at h
   by_cases hc : (k == NameKind.free && env.scope.kind == .function && env.kindOf n == some .cell) = true
   ·rw [if_pos hc]; simp only [List.lookup_cons, hx]; exact ih h
   ·rw [if_neg hc]; simp only [List.lookup_cons, hx]; exact ih h
def cxC (X : Cx) (scope : Scope) (cl : List (Str × Addr)) (N : List Str) (s₃ : Shared) (H₃ : Hp) (fp : List Addr) : Cx where
 prog := X.prog
 w := X.w
 K := X.K
 mg := X.mg
 base := X.base
 A := X.A
 N := N
 s₀ := s₃
 H₀ := H₃
 env := compEnvC scope cl s₃.heap.objs.size X.env
 outer := X.stack
 stack := X.stack
 ex := fp
 fn := fun _ => false
 calm := true
 pn := []
 xe := fun _ _ => False
structure QA (scope sc : Scope) (N0 : List Str) (js : List Nat) (os N : List Str) : Prop where
 kind : scope.kind = .function
 cell : ∀ y ∈ scope.names, y.2 ≠ .cell
 names : ∀ y ∈ scope.names, y.2 = .local → scope.names.lookup y.1 = some .local
 free : ∀ y ∈ scope.names, y.2 = .free → (sc.names.lookup y.1 = some .cell ∨ sc.names.lookup y.1 = some .free)
 slots : ∀ j ∈ js, ((N0[j]?).bind fun y => scope.names.lookup y) = some .free
 eq : N.map some = js.map (N0[·]?) ++ os.map some
def stC (js : List Nat) (os : List Str) (σ : St) : St := js.map (fun j => (σ[j]?).join) ++ List.replicate os.length none
def aA (X : Cx) (ifs : List Expr) (t : TT) : Prop :=
 ∀ (pins : List (Addr × Obj)) (s : Shared) (σ : St) (H : Hp) (Q : Bool → Hp → Prop), Inv X pins σ H s → t σ H Q →
  wpAny (model X.prog X.w) X.A (forIn ifs true fun c r => if r = true then do let ok ← isTrue c X.env (eval c X.env); pure (ForInStep.yield ok) else pure (ForInStep.yield r)) (TP X pins σ Q) X.xe s
def UR : TT := fun _ H Q => Q true H
theorem OT {X : Cx} : aA X [] UR := fun _ _ _ H _ I h => wpAny_pure ⟨H, I, h⟩
theorem VN {X : Cx} {c : Expr} {t : TT} (h : PT X c t) : aA X [c] t := fun pins s σ H Q I q => by
 simp only [List.forIn_cons, List.forIn_nil, if_true]
 exact wpAny_bind (wpAny_bind (wpAny_mono (h pins s σ H Q I q) (fun b s' hb => wpAny_pure (wpAny_pure hb)) fun _ _ x => x))
def aJ (js : List Nat) (os : List Str) (wi : TI) (g : TG) (tt : TT) (te : TE) : TE := fun σ H Q => wi σ H fun J H1 => ∀ p, H1 p = none →
 ∃ W : Nat → Nat → St → Hp → Prop, (∃ m, W 0 m (stC js os σ) (upd H1 p (.lst []))) ∧ ∀ i m σ H, W i m σ H →
  (J.stop i H ∧ Q (.ref p) H) ∨ (J.go i H ∧ ∀ x H', J.yld i H x H' → g x σ H' fun σ2 H2 => tt σ2 H2 fun b H3 =>
   if b = true then te σ2 H3 fun y H4 => ∃ ys, H4 p = some (.lst ys) ∧ ys.length < sizeLine ∧ ∃ m', m' < m ∧ W (i + 1) m' σ2 (upd H4 p (.lst (ys ++ [y])))
   else ∃ m', m' < m ∧ W (i + 1) m' σ2 H3)
section
variable {X : Cx}
theorem NT {scope sc : Scope} {N0 N os : List Str} {js fp : List Nat} {pins : List (Addr × Obj)} {σ : St} {H₃ : Hp} {s₃ : Shared} {h' : Heap} {t' : Nat} {m : Str → Option Value}
  (hc : X.calm = true) (hsc : X.env.scope = sc) (hN : X.N = N0) (ok : QA scope sc N0 js os N) (I : Inv X pins σ H₃ s₃) (hf : ∀ b ∈ fp, JT X pins H₃ b) (hfs : ∀ b ∈ fp, b < s₃.heap.objs.size)
  (hns : h'.Ns s₃.heap.objs.size m) (hk : ∀ b o, s₃.heap.get? b = some o → h'.get? b = some o) :
  Inv (cxC X scope (DZ X.env.cells scope.names []) N s₃ H₃ fp) [] (stC js os σ) H₃ { s₃ with heap := h', toks := t' } := by
 have hfree : ∀ y ∈ scope.names, y.2 = .free → ∃ c, X.env.cells.lookup y.1 = some c := fun y hy e => I.ok.has _ (by
  have := ok.free y hy e
  rw [← hsc] at this
  exact this)
 have sub := FP (cells := X.env.cells) scope.names [] hfree (fun _ _ e => by cases e)
 have has : ∀ y, (y, NameKind.free) ∈ scope.names → ∃ c, (DZ X.env.cells scope.names []).lookup y = some c := fun y hy => LB scope.names [] y hy
 refine ⟨⟨I.ok.mod, ok.kind, I.ok.glob, I.ok.blt, Nat.le_refl _, fun x y c e1 e2 => I.ok.inj x y c (sub _ _ e1) (sub _ _ e2), fun x e => has x (NC ok.cell e), (fun _ _ e => by cases e), (fun _ => I.ok.hd hc), I.ok.frames, .inl rfl, ?_, ?_, ?_, ?_, ?_, I.stack, I.stkFree⟩,
  rfl, I.bare, Un.kept hk, ⟨m, hns, ?_⟩, ?_, I.hok.fresh (Nat.le_refl _), ?_, ?_, I.hok.kept hk, ?_⟩
 ·exact fun b hb => ⟨Nat.ne_of_lt (hfs b hb), fun x c e => (hf b hb).2.2.2.2.1 x c (sub _ _ e)⟩
 ·exact I.bs
 ·exact Nat.le_trans I.ok.bsz I.sz
 ·intro b o e hb
  rcases (hf b hb).2.2.2.1 with z | z
  ·exact I.ok.noex b o e z
  ·exact absurd (Nat.lt_of_lt_of_le (Heap.lt_size e) (Nat.le_trans I.ok.bsz z)) (Nat.lt_irrefl _)
 ·intro b hb z
  rcases List.mem_cons.mp (I.stkSub b z) with e | e
  ·exact (hf b hb).2.1 e
  ·exact (hf b hb).2.2.1 e
 ·intro i x v e1 e2 e3
  have hl : i < js.length := by
   apply Classical.byContradiction
   intro hh
   have e2' : (stC js os σ)[i]? = some (some v) := e2
   unfold stC at e2'
   rw [List.getElem?_append_right (by simpa using Nat.le_of_not_lt hh)] at e2'
   rw [List.getElem?_replicate] at e2'
   split at e2' <;> cases e2'
  have ej : js[i]? = some js[i] := List.getElem?_eq_getElem hl
  have e2' : (stC js os σ)[i]? = some (some v) := e2
  unfold stC at e2'
  rw [List.getElem?_append_left (by simpa using hl), List.getElem?_map, ej] at e2'
  have e2'' : (σ[js[i]]?).join = some v := Option.some.inj e2'
  have e1' : N[i]? = some x := e1
  have en : N0[js[i]]? = some x := by
   have q : (N.map some)[i]? = some (some x) := by rw [List.getElem?_map, e1']; rfl
   rw [ok.eq, List.getElem?_append_left (by simpa using hl), List.getElem?_map, ej] at q
   exact Option.some.inj q
  have hfr := ok.slots _ (List.getElem_mem hl)
  rw [en] at hfr
  replace hfr : scope.names.lookup x = some .free := hfr
  have eσ : σ[js[i]]? = some (some v) := by
   cases q : σ[js[i]]? with
   | none => rw [q] at e2''; cases e2''
   | some o => rw [q] at e2''; exact congrArg some e2''
  have kk := ok.free (x, .free) (EJ hfr) rfl
  obtain ⟨m0, hn0, hl0⟩ := I.loc
  obtain ⟨u, r, l⟩ := hl0 js[i] x v (by rw [hN]; exact en) eσ (by rw [hsc]; exact .inr kk)
  refine ⟨u, r, .inr ⟨IX hfr, ?_⟩⟩
  rcases l with ⟨k, _⟩ | ⟨k, c, e, z⟩
  ·have k' : sc.names.lookup x = some .local := by rw [← hsc]; exact k
   rcases kk with q | q <;> (dsimp only at q; rw [q] at k'; cases k')
  ·obtain ⟨c', hc'⟩ := has x (EJ hfr)
   have := sub _ _ hc'
   rw [e] at this; cases this
   exact ⟨c, hc', z.keeps hk⟩
 ·intro x c e
  obtain ⟨v, z⟩ := I.cell x c (sub _ _ e)
  exact ⟨v, z.keeps hk⟩
 ·exact fun x c e => I.freeC x c (sub _ _ e)
 ·intro p hp
  cases hp
 ·show (stC js os σ).length = N.length
  have := congrArg List.length ok.eq
  simp at this
  simp [stC, this]
theorem MU {elt iter tg : Expr} {ifs : List Expr} {scope sc : Scope} {pos : Pos} {wi : TI} {g : TG} {tt : TT} {te : TE} {N0 N os : List Str} {js : List Nat}
  (hc : X.calm = true) (hsc : X.env.scope = sc) (hN : X.N = N0) (ok : QA scope sc N0 js os N) (hi : PI X tg iter wi)
  (hg : ∀ s₃ H₃ fp cl, PG (cxC X scope cl N s₃ H₃ fp) tg g) (ht : ∀ s₃ H₃ fp cl, aA (cxC X scope cl N s₃ H₃ fp) ifs tt) (he : ∀ s₃ H₃ fp cl, PE (cxC X scope cl N s₃ H₃ fp) elt te)
  (hs : ∀ x, foldedSetIterable iter X.env x = pure x := by intro _; rfl) :
  PE X (.ListComp elt [⟨tg, iter, ifs, 0⟩] scope pos) (aJ js os wi g tt te) := by
 intro pins s σ H Q I h
 rw [eval_ListComp]
 have hfree : ∀ y ∈ scope.names, y.2 = .free → ∃ c, X.env.cells.lookup y.1 = some c := fun y hy e => I.ok.has _ (by
  have := ok.free y hy e
  rw [← hsc] at this
  exact this)
 refine wpAny_comprehension_free (use := none) rfl hs (RF hfree) ok.kind ok.names (thn (hi pins s σ H _ I h) fun v s1 h1 => thn h1 fun itv s2 h2 => ?_)
 obtain ⟨it, fp, tn, J, H1, e, I2, T, st2, f2, hW⟩ := h2
 subst e
 refine wpAny_newObj_type (wpAny_newFunctionEnv ok.cell (by intro y hy; simp at hy) (fun h₁ hns₁ hsb₁ => ?_) ok.kind)
 dsimp only at hns₁ hsb₁ ⊢
 have hfr : H1 s2.heap.objs.size = none := I2.fresh
 have I3 := I2.lnew (ys := []) (its := []) (t' := s2.toks) .nil (Nat.zero_le _)
 generalize hs3 : ({ s2 with heap := s2.heap.push { cls := .type "list", data := .seq ([] : List Value).toArray }, toks := s2.toks } : Shared) = s₃ at I3
 have eh : s2.heap.push { cls := .type "list", dict := none, data := .seq ([] : List Value).toArray } = s₃.heap := by rw [← hs3]
 rw [eh] at hns₁ hsb₁ ⊢
 have k23 : ∀ b o, s2.heap.get? b = some o → s₃.heap.get? b = some o := fun b o q => by rw [← eh]; exact Heap.get?_push_of_some _ q
 have lt2 : ∀ b ∈ fp, b < s2.heap.objs.size := fun b hb => by
  obtain ⟨o, q, _⟩ := T.obj _ _ st2 b hb
  exact Heap.lt_size q
 have sz3 : s2.heap.objs.size ≤ s₃.heap.objs.size := by rw [← eh, Heap.size_push]; exact Nat.le_succ _
 have f3 : ∀ b ∈ fp, JT X pins (upd H1 s2.heap.objs.size (.lst [])) b := fun b hb => ⟨by rw [AH (Nat.ne_of_lt (lt2 b hb))]; exact (f2 b hb).1, (f2 b hb).2⟩
 have k34 : ∀ b o, s₃.heap.get? b = some o → h₁.get? b = some o := fun b o q => hsb₁.extBut b o (Nat.ne_of_lt (Heap.lt_size q)) (Heap.get?_push_of_some _ q)
 have I4 := NT (t' := s₃.toks) hc hsc hN ok I3 f3 (fun b hb => Nat.lt_of_lt_of_le (lt2 b hb) sz3) hns₁ k34
 generalize hX' : cxC X scope (DZ X.env.cells scope.names []) N s₃ (upd H1 s2.heap.objs.size (.lst [])) fp = X' at I4
 obtain ⟨W, ⟨m0, w0⟩, turn⟩ := hW _ hfr
 have st4 : tn 0 h₁ := T.keep _ _ _ st2 fun b hb o q => k34 b o (k23 b o q)
 have stat : ∀ {H' : Hp}, (∀ b ∈ fp, H' b = none) → ∀ b ∈ fp, JT X' [] H' b := fun {H'} hn b hb => by
  subst hX'
  refine ⟨hn b hb, Nat.ne_of_lt (Nat.lt_of_lt_of_le (lt2 b hb) sz3), fun z => ?_, .inl hb, fun x c e => ?_, fun p hp => by cases hp⟩
  ·rcases List.mem_cons.mp (I2.stkSub b z) with q | q
   ·exact (f2 b hb).2.1 q
   ·exact (f2 b hb).2.2.1 q
  ·exact (f2 b hb).2.2.2.2.1 x c (FP (cells := X.env.cells) scope.names [] hfree (fun _ _ e => by cases e) _ _ e)
 have ePr : X'.prog = X.prog := by subst hX'; rfl
 have eW : X'.w = X.w := by subst hX'; rfl
 have eK : X'.K = X.K := by subst hX'; rfl
 have eA : X'.A = X.A := by subst hX'; rfl
 have eE : X'.env = compEnvC scope (DZ X.env.cells scope.names []) s₃.heap.objs.size X.env := by subst hX'; rfl
 have eC : X'.calm = true := by subst hX'; rfl
 have eX : X'.xe = fun _ _ => False := by subst hX'; rfl
 have hg' : PG X' tg g := by subst hX'; exact hg _ _ _ _
 have ht' : aA X' ifs tt := by subst hX'; exact ht _ _ _ _
 have he' : PE X' elt te := by subst hX'; exact he _ _ _ _
 have fin : ∀ {σ' : St} {H' : Hp} {s' : Shared}, Inv X' [] σ' H' s' → (∀ b ∈ fp, H' b = none) → Q (.ref s2.heap.objs.size) H' → compPost (model X.prog X.w) X.A X.xe none (EP X pins σ Q) (.ref s2.heap.objs.size) s₃.heap.objs.size (.ok .next) s' := by
  intro σ' H' s' I' hn q
  obtain ⟨m, hm, _⟩ := id I'.loc
  subst hX'
  refine ⟨m, hm, fun h'' sb => ⟨.ref s2.heap.objs.size, H', ?_, rfl, q⟩⟩
  have fC : H' s₃.heap.objs.size = none := I'.free
  have hok' : HOk X.prog X.w H' h'' := fun b ob e => by
   refine (I'.hok b ob e).stay (fun c w' hc' q' => (sb.2 c ?_).trans q') (fun _ q' => q') fun _ _ q' => q'
   rintro rfl
   rcases hc' with z | z
   ·have e' := e; rw [← z] at e'; rw [fC] at e'; cases e'
   ·rw [fC] at z; cases z
  have u1 : Un (frs X.stack) fp (upd H1 s2.heap.objs.size (.lst [])) H' s₃.heap h'' := by
   have b0 := I'.base
   have ne : ∀ b o, s₃.heap.get? b = some o → b ≠ s₃.heap.objs.size := fun b o e => Nat.ne_of_lt (Heap.lt_size e)
   exact ⟨fun b o e n hb hx => (sb.2 b (ne b o e)).trans (b0.keep b o e n hb hx), fun b o e n hb hx => by
     obtain ⟨sl, z⟩ := b0.slot b o e n hb hx
     exact ⟨sl, (sb.2 b (ne b o e)).trans z⟩, b0.free, fun b o e hx => by
     obtain ⟨o', z⟩ := b0.there b o e hx
     exact ⟨o', (sb.2 b (ne b o e)).trans z⟩, b0.tups, b0.frzs, b0.tbls⟩
  exact I3.call' (s' := { s' with heap := h'' }) (ch := fp) I'.os u1 hok' I'.bare fun b hb => ⟨(f2 b hb).2.2.2.1, (f2 b hb).2.1, (f2 b hb).2.2.2.2.1, (f2 b hb).2.2.2.2.2⟩
 have loop : codeAny (model X.prog X.w) X.A (.compLoop (.ListComp elt [⟨tg, iter, ifs, 0⟩] scope pos) 0 (.ref it) (.ref s2.heap.objs.size) (compEnvC scope (DZ X.env.cells scope.names []) s₃.heap.objs.size X.env))
   (compPost (model X.prog X.w) X.A X.xe none (EP X pins σ Q) (.ref s2.heap.objs.size) s₃.heap.objs.size) { s₃ with heap := h₁, toks := s₃.toks } := by
  refine SI (fun n s' => ∃ i σ' H', Inv X' [] σ' H' s' ∧ tn i s'.heap ∧ (∀ b ∈ fp, H' b = none) ∧ W i n σ' H') ?_ m0 ⟨0, _, _, I4, st4, fun b hb => (f3 b hb).1, w0⟩
  rintro n s5 ⟨i, σ5, H5, I5, st5, fr5, w5⟩
  rw [← ePr, ← eW, ← eA, ← eE]
  rcases turn i n σ5 H5 w5 with ⟨stop, qn⟩ | ⟨go, step⟩
  ·have := T.done X' ePr eW eK eC i [] s5 σ5 H5 X'.xe I5 (stat fr5) st5 stop
   rw [eX] at this
   rw [← ePr, ← eW] at this
   refine thn this fun r s6 ⟨hr, I6⟩ => ?_
   subst hr
   dsimp only
   rw [ePr, eW, eA]
   exact fin I6 fr5 qn
  ·have := T.item X' ePr eW eK eC i [] s5 σ5 H5 X'.xe I5 (stat fr5) st5 go
   rw [eX] at this
   rw [← ePr, ← eW] at this
   refine thn this fun r s6 ⟨u, hr, h6⟩ => ?_
   subst hr
   dsimp only
   refine thn h6 fun _ s7 ⟨x, H7, I7, r7, y7, st7, fr7⟩ => ?_
   have I7' := I7.pinned (stat fr7) (T.obj _ _ st7)
   have g7 := hg' _ s7 σ5 H7 x u _ I7' r7 (step x H7 y7)
   rw [eX] at g7
   refine thn g7 fun _ s8 ⟨σ8, H8, I8, q8⟩ => ?_
   have t8 := ht' _ s8 σ8 H8 _ I8 q8
   rw [eX] at t8
   have again : ∀ {σ9 : St} {H9 : Hp} {s9 : Shared}, Inv X' ([] ++ KB fp s7.heap) σ9 H9 s9 → tn (i + 1) s9.heap ∧ ∀ b ∈ fp, H9 b = none := fun {σ9 H9 s9} I9 => by
    refine ⟨T.keep _ _ _ st7 fun b hb o e => (I9.pin (b, o) (List.mem_append_right _ (List.mem_append_right _ (FI hb e)))).1, fun b hb => ?_⟩
    obtain ⟨o, e, d⟩ := T.obj _ _ st7 b hb
    exact (I9.pin (b, o) (List.mem_append_right _ (List.mem_append_right _ (FI hb e)))).2.1
   refine thn t8 fun b s9 ⟨H9, I9, q9⟩ => ?_
   cases b with
   | false =>
    rw [if_neg Bool.false_ne_true] at q9 ⊢
    obtain ⟨m', hm, w9⟩ := q9
    exact ⟨m', hm, i + 1, σ8, H9, I9.unpinned, (again I9).1, (again I9).2, w9⟩
   | true =>
    rw [if_pos rfl] at q9 ⊢
    have e9 := he' _ s9 σ8 H9 _ I9 q9
    rw [eX] at e9
    refine thn e9 fun y s10 ⟨z, H10, I10, r10, ys, hy, hlen, m', hm, w10⟩ => ?_
    have a10 := MB (X := X') _ s10 σ8 H10 (.ref s2.heap.objs.size) [z] _ _ (fun _ H11 => H11 = upd H10 s2.heap.objs.size (.lst (ys ++ [z]))) I10 rfl (.cons r10 .nil) ⟨_, ys, z, rfl, rfl, hy, hlen, rfl⟩
    rw [eX] at a10
    refine thn a10 fun _ s11 ⟨_, H11, I11, _, e11⟩ => ?_
    subst e11
    exact ⟨m', hm, i + 1, σ8, _, I11.unpinned, (again I11).1, (again I11).2, w10⟩
 have es : ({ s2 with heap := h₁, toks := s2.toks + ([] : List (Str × Value)).length } : Shared) = { s₃ with heap := h₁, toks := s₃.toks } := by rw [← hs3]; rfl
 rw [show ({ s2 with heap := h₁, toks := s2.toks + ([] : List (Str × Value)).length } : Shared) = { s₃ with heap := h₁, toks := s₃.toks } from es]
 exact codeAny_compStart_list loop (T.self _ 0 _ _ _ st4 loop)
end
section
variable {prog : Program} {w : World} {A : Around} {E : Value → Shared → Prop} {s : Shared}
end
section
variable {X : Cx} {pos : Pos}
theorem ZR : OpR X (binaryOp .Mult) (rI (fun i j => IntMulOk i j) fun i j => .int (i * j)) := opI fun _ _ _ _ _ _ _ hc q => mul_int q hc
theorem QQ {i j : Int} (m n : Nat) (h1 : i.natAbs < 2 ^ m) (h2 : j.natAbs < 2 ^ n) (h : m + n ≤ 134217728) : IntMulOk i j := IntMulOk.of_le (intBits_le h1) (intBits_le h2) h
theorem DT {i j : Int} (h1 : -(2 ^ 64) < i) (h2 : i < 2 ^ 64) : IntMulOk i j := .of_left (intBits_le_64 h1 h2)
theorem GH {i j : Int} (h1 : -(2 ^ 64) < j) (h2 : j < 2 ^ 64) : IntMulOk i j := .of_right (intBits_le_64 h1 h2)
theorem UJ : OpR X (binaryOp .FloorDiv) (rI (fun _ j => 0 < j ∧ j < 2 ^ 100) fun i j => .int (i / j)) := opI fun i j _ _ s Q E hc q => by
 refine floordiv_int (Int.ne_of_gt hc.1) (by rw [Int.fdiv_eq_ediv_of_nonneg _ (Int.le_of_lt hc.1)]; exact q) (.inl (PyProof.noPylong_of_log2 ?_))
 have h1 : j.natAbs < 2 ^ 100 := by omega
 have h0 : j.natAbs ≠ 0 := by omega
 have := (Nat.log2_lt h0).mpr h1
 omega
theorem UT {c : Value} : DJ X (.builtin "isinstance") (fun xs H Q => ∃ x y ty b, xs = [x, y] ∧ BF y c ∧ (∃ n, c = .type n) ∧ GS X.K H x ty ∧ PySem.W.kitOne X.K ty c = some b ∧ Q (.bl b) H) := by
 intro pins s σ H xs us Q I rv h
 obtain ⟨x, y, ty, b, rfl, ry, ⟨n, rfl⟩, hty, hk, q⟩ := h
 obtain ⟨u, u', rfl, ru, ru'⟩ := rv.two
 have e : u' = .type n := by
  cases y with
  | ty m => have := (show Value.type n = Value.type m from ry); cases this; exact ru'
  | non => cases ry
  | bl _ => cases ry
  | int _ => obtain ⟨_, z⟩ := ry; cases z
  | str _ => obtain ⟨_, z⟩ := ry; cases z
  | byt _ => obtain ⟨_, z⟩ := ry; cases z
  | flt _ => obtain ⟨_, z⟩ := ry; cases z
  | ref _ => cases ry
 subst e
 exact SN I ru hty hk fun tk => ⟨.bl b, H, I.tok _, rfl, q⟩
theorem IQ {K : PySem.W.Frag} : PySem.W.kitOne K (.type "int") (.type "int") = some true := rfl
theorem US {K : PySem.W.Frag} {T U : String} {b : Bool} (h0 : (Value.type T == Value.type U) = false) (h1 : PySem.W.kitMeta U = true) (h2 : ((fastBuiltinMro T).map (·.contains (.type U))) = some b) : PySem.W.kitOne K (.type T) (.type U) = some b := by
 unfold PySem.W.kitOne
 rw [h0, if_neg Bool.false_ne_true]
 unfold PySem.W.kitCls
 dsimp only
 rw [h1, if_pos rfl]
 exact h2
theorem HW {K : PySem.W.Frag} : PySem.W.kitOne K (.type "int") (.type "bool") = some false := US (by decide +kernel) (by decide +kernel) (by decide +kernel)
theorem CD {K : PySem.W.Frag} : PySem.W.kitOne K (.type "tuple") (.type "tuple") = some true := rfl
end
def FW (J : It) (g : TG) (tb : TS) (D : JB) (σ : St) (H1 : Hp) : Prop := ∃ W : Nat → Nat → St → Hp → Prop, (∃ m, W 0 m σ H1) ∧ ∀ i m σ H, W i m σ H →
 (J.stop i H ∧ D.nx σ H) ∨ (J.go i H ∧ ∃ N : St → Hp → Prop, (∀ σ' H', N σ' H' → ∃ m', m' < m ∧ W (i + 1) m' σ' H') ∧ ∀ x H', J.yld i H x H' → g x σ H' fun σ2 H2 => tb { D with nx := N, ct := N, bk := D.nx } σ2 H2)
theorem JJ (wi : TI) (g : TG) (tb : TS) (D : JB) (σ : St) (H : Hp) : dJ wi g tb D σ H = wi σ H fun J H1 => FW J g tb D σ H1 := rfl
theorem OW {lo : Int} {n : Nat} {g : TG} {tb : TS} {D : JB} {σ : St} {H : Hp} (Pv : Nat → St → Hp → Prop) (h0 : Pv 0 σ H)
  (hs : ∀ i σ H, i < n → Pv i σ H → g (.int (lo + i)) σ H fun σ2 H2 => tb { D with nx := Pv (i + 1), ct := Pv (i + 1), bk := D.nx } σ2 H2) (hd : ∀ σ H, Pv n σ H → D.nx σ H) : FW (Itr lo n) g tb D σ H := SZ Pv h0 hs hd
theorem VB {K : PySem.W.Frag} {a : Addr} {xs : List V} {g : TG} {tb : TS} {D : JB} {σ : St} {H : Hp} (Pv : Nat → St → Hp → Prop) (h0 : Pv 0 σ H) (hl : ∀ i σ H, i ≤ xs.length → Pv i σ H → SqT K H a xs)
  (hs : ∀ i x σ H, xs[i]? = some x → Pv i σ H → g x σ H fun σ2 H2 => tb { D with nx := Pv (i + 1), ct := Pv (i + 1), bk := D.nx } σ2 H2) (hd : ∀ σ H, Pv xs.length σ H → D.nx σ H) : FW (Itt K a) g tb D σ H := aE Pv h0 hl hs hd
def CW (J : It) (g : TG) (tt : TT) (te : TE) (p : Addr) (Q : VK) (σ : St) (H1 : Hp) : Prop :=
 ∃ W : Nat → Nat → St → Hp → Prop, (∃ m, W 0 m σ H1) ∧ ∀ i m σ H, W i m σ H →
  (J.stop i H ∧ Q (.ref p) H) ∨ (J.go i H ∧ ∀ x H', J.yld i H x H' → g x σ H' fun σ2 H2 => tt σ2 H2 fun b H3 =>
   if b = true then te σ2 H3 fun y H4 => ∃ ys, H4 p = some (.lst ys) ∧ ys.length < sizeLine ∧ ∃ m', m' < m ∧ W (i + 1) m' σ2 (upd H4 p (.lst (ys ++ [y])))
   else ∃ m', m' < m ∧ W (i + 1) m' σ2 H3)
theorem HL (js : List Nat) (os : List Str) (wi : TI) (g : TG) (tt : TT) (te : TE) (σ : St) (H : Hp) (Q : VK) : aJ js os wi g tt te σ H Q = wi σ H fun J H1 => ∀ p, H1 p = none → CW J g tt te p Q (stC js os σ) (upd H1 p (.lst [])) := rfl
def Nx (n i : Nat) (P : Prop) : Prop := ∃ m', m' < n - i ∧ m' = n - (i + 1) ∧ i + 1 ≤ n ∧ P
theorem nx {n i : Nat} {P : Prop} (h : i < n) (p : P) : Nx n i P := ⟨n - (i + 1), by omega, rfl, h, p⟩
theorem UF {lo : Int} {n : Nat} {g : TG} {tt : TT} {te : TE} {p : Addr} {Q : VK} {σ : St} {H : Hp} (Pv : Nat → St → Hp → Prop) (h0 : Pv 0 σ H)
  (hs : ∀ i σ H, i < n → Pv i σ H → g (.int (lo + i)) σ H fun σ2 H2 => tt σ2 H2 fun b H3 => if b = true then te σ2 H3 fun y H4 => ∃ ys, H4 p = some (.lst ys) ∧ ys.length < sizeLine ∧ Nx n i (Pv (i + 1) σ2 (upd H4 p (.lst (ys ++ [y])))) else Nx n i (Pv (i + 1) σ2 H3))
  (hd : ∀ σ H, Pv n σ H → Q (.ref p) H) : CW (Itr lo n) g tt te p Q σ H := by
 refine ⟨fun i m σ H => m = n - i ∧ i ≤ n ∧ Pv i σ H, ⟨n, by simp, Nat.zero_le _, h0⟩, ?_⟩
 rintro i m σ H ⟨rfl, hi, q⟩
 by_cases hlt : i < n
 ·refine .inr ⟨hlt, fun x H' y => ?_⟩
  obtain ⟨e, y⟩ := y
  subst e y
  exact hs i σ _ hlt q
 ·have e : i = n := by omega
  subst e
  exact .inl ⟨Nat.le_refl _, hd σ H q⟩
theorem bJ {K : PySem.W.Frag} {a : Addr} {xs : List V} {g : TG} {tt : TT} {te : TE} {p : Addr} {Q : VK} {σ : St} {H : Hp} (Pv : Nat → St → Hp → Prop) (h0 : Pv 0 σ H) (hl : ∀ i σ H, i ≤ xs.length → Pv i σ H → SqT K H a xs)
  (hs : ∀ i x σ H, xs[i]? = some x → Pv i σ H → g x σ H fun σ2 H2 => tt σ2 H2 fun b H3 => if b = true then te σ2 H3 fun y H4 => ∃ ys, H4 p = some (.lst ys) ∧ ys.length < sizeLine ∧ Nx xs.length i (Pv (i + 1) σ2 (upd H4 p (.lst (ys ++ [y])))) else Nx xs.length i (Pv (i + 1) σ2 H3))
  (hd : ∀ σ H, Pv xs.length σ H → Q (.ref p) H) : CW (Itt K a) g tt te p Q σ H := by
 refine ⟨fun i m σ H => m = xs.length - i ∧ i ≤ xs.length ∧ Pv i σ H, ⟨xs.length, by simp, Nat.zero_le _, h0⟩, ?_⟩
 rintro i m σ H ⟨rfl, hi, q⟩
 have w := hl i σ H hi q
 by_cases hlt : i < xs.length
 ·refine .inr ⟨⟨xs, xs[i], w, by simp [hlt]⟩, fun x H' y => ?_⟩
  obtain ⟨e, y⟩ := y
  subst e
  exact hs i x σ _ (y xs w) q
 ·have e : i = xs.length := by omega
  subst e
  exact .inl ⟨⟨xs, w, Nat.le_refl _⟩, hd σ H q⟩
theorem NA {c : TT} {tb : TS} {D : JB} {σ : St} {H : Hp} (Pv : St → Hp → Prop) (μ : St → Hp → Nat) (h0 : Pv σ H)
  (hs : ∀ σ H, Pv σ H → c σ H fun b H1 => if b = true then ∃ N : St → Hp → Prop, (∀ σ' H', N σ' H' → ∃ m', m' < μ σ H ∧ (m' = μ σ' H' ∧ Pv σ' H')) ∧ tb { D with nx := N, ct := N, bk := D.nx } σ H1 else D.nx σ H1) : XJ c tb D σ H := by
 refine ⟨fun m σ H => m = μ σ H ∧ Pv σ H, ⟨_, rfl, h0⟩, ?_⟩
 rintro m σ H ⟨rfl, p⟩
 have z := hs σ H p
 exact z
theorem qb {Q : VK} {H : Hp} {a b : Bool} (k : Q (.bl a) H) (e : a = b) : Q (.bl b) H := e ▸ k
theorem AI.upd {H : Hp} {p : Addr} {o : HO} (h : H p = none) : AI H (upd H p o) := fun b u e => by rw [AH (DA e h)]; exact e
theorem AI.upd2 {H H' : Hp} {p : Addr} {o : HO} (s : AI H H') (h : H p = none) : AI H (L2.upd H' p o) := fun b u e => by rw [AH (DA e h)]; exact s b u e
theorem AI.tup {K : PySem.W.Frag} {H H' : Hp} {a : Addr} {xs : List V} (e : AI H H') (h : SqT K H a xs) : SqT K H' a xs := by
 rcases h with (h | ⟨o, h⟩) | h
 ·exact .inl (.inl (e _ _ h))
 ·exact .inl (.inr ⟨o, e _ _ h⟩)
 ·exact .inr h
theorem PQ {ns : List Int} {k : Int} (h0 : 0 ≤ k) (h1 : k < ns.length) : ∃ z ∈ ns, atI (ns.map V.int) k = some (.int z) := by
 have hk : k.toNat < ns.length := by omega
 refine ⟨ns[k.toNat], List.getElem_mem hk, ?_⟩
 have e : ((k.toNat : Nat) : Int) = k := by omega
 have := RW (xs := ns.map V.int) (j := k.toNat) (v := .int ns[k.toNat]) (by rw [List.getElem?_map, List.getElem?_eq_getElem hk]; rfl)
 rw [e] at this
 exact this
inductive D where
 | int (i : Int) | str (x : Str) | non | tup (ds : List D)
mutual
def Rp (K : PySem.W.Frag) (H : Hp) : D → V → Prop
 | .int i, v => v = .int i
 | .str x, v => v = .str x
 | .non, v => v = .non
 | .tup ds, v => ∃ p xs, v = .ref p ∧ SqT K H p xs ∧ RpL K H ds xs
def RpL (K : PySem.W.Frag) (H : Hp) : List D → List V → Prop
 | [], xs => xs = []
 | d :: ds, xs => ∃ v r, xs = v :: r ∧ Rp K H d v ∧ RpL K H ds r
end
mutual
def deq : D → D → Bool
 | .int i, .int j => i == j
 | .str x, .str y => x == y
 | .non, .non => true
 | .tup ds, .tup es => deqL ds es
 | _, _ => false
def deqL : List D → List D → Bool
 | [], [] => true
 | d :: ds, e :: es => deq d e && deqL ds es
 | _, _ => false
end
mutual
def dep : D → Nat
 | .tup ds => depL ds + 1
 | _ => 0
def depL : List D → Nat
 | [] => 0
 | d :: ds => max (dep d) (depL ds)
end
mutual
theorem UG : ∀ d : D, deq d d = true
 | .int i => by simp [deq]
 | .str x => by simp [deq]
 | .non => by simp [deq]
 | .tup ds => by rw [deq]; exact deqL_self ds
theorem deqL_self : ∀ ds : List D, deqL ds ds = true
 | [] => by simp [deqL]
 | d :: ds => by rw [deqL, UG d, deqL_self ds]; rfl
end
theorem RpL.length {K : PySem.W.Frag} {H : Hp} : ∀ {ds : List D} {xs : List V}, RpL K H ds xs → xs.length = ds.length
 | [], xs, h => by rw [RpL] at h; subst h; rfl
 | d :: ds, xs, h => by
  rw [RpL] at h
  obtain ⟨v, r, rfl, _, h⟩ := h
  rw [List.length_cons, List.length_cons, RpL.length h]
mutual
theorem Rp.same {K : PySem.W.Frag} {H H' : Hp} (s : AI H H') : ∀ {d : D} {v : V}, Rp K H d v → Rp K H' d v
 | .int i, v, h => by rw [Rp] at h ⊢; exact h
 | .str x, v, h => by rw [Rp] at h ⊢; exact h
 | .non, v, h => by rw [Rp] at h ⊢; exact h
 | .tup ds, v, h => by
  rw [Rp] at h ⊢
  obtain ⟨p, xs, e, hs, hl⟩ := h
  exact ⟨p, xs, e, s.tup hs, RpL.same s hl⟩
theorem RpL.same {K : PySem.W.Frag} {H H' : Hp} (s : AI H H') : ∀ {ds : List D} {xs : List V}, RpL K H ds xs → RpL K H' ds xs
 | [], xs, h => by rw [RpL] at h ⊢; exact h
 | d :: ds, xs, h => by
  rw [RpL] at h ⊢
  obtain ⟨v, r, e, h1, h2⟩ := h
  exact ⟨v, r, e, Rp.same s h1, RpL.same s h2⟩
end
section
variable {X : Cx} {pins : List (Addr × Obj)} {σ : L2.St} {H : Hp} {s : Shared}
mutual
theorem Rp.inj (I : Inv X pins σ H s) : ∀ {d e : D} {v : V}, Rp X.K H d v → Rp X.K H e v → deq d e = true
 | .int i, e, v, h1, h2 => by
  rw [Rp] at h1
  subst h1
  cases e with
  | int j => rw [Rp] at h2; cases h2; simp [deq]
  | str _ => rw [Rp] at h2; cases h2
  | non => rw [Rp] at h2; cases h2
  | tup _ => rw [Rp] at h2; obtain ⟨_, _, h, _⟩ := h2; cases h
 | .str x, e, v, h1, h2 => by
  rw [Rp] at h1
  subst h1
  cases e with
  | int j => rw [Rp] at h2; cases h2
  | str _ => rw [Rp] at h2; cases h2; simp [deq]
  | non => rw [Rp] at h2; cases h2
  | tup _ => rw [Rp] at h2; obtain ⟨_, _, h, _⟩ := h2; cases h
 | .non, e, v, h1, h2 => by
  rw [Rp] at h1
  subst h1
  cases e with
  | int j => rw [Rp] at h2; cases h2
  | str _ => rw [Rp] at h2; cases h2
  | non => simp [deq]
  | tup _ => rw [Rp] at h2; obtain ⟨_, _, h, _⟩ := h2; cases h
 | .tup ds, e, v, h1, h2 => by
  rw [Rp] at h1
  obtain ⟨p, xs, rfl, hs, hl⟩ := h1
  cases e with
  | int j => rw [Rp] at h2; cases h2
  | str _ => rw [Rp] at h2; cases h2
  | non => rw [Rp] at h2; cases h2
  | tup es =>
   rw [Rp] at h2
   obtain ⟨p', xs', e', hs', hl'⟩ := h2
   cases e'
   rw [I.tuple_inj hs' hs] at hl'
   rw [deq]
   exact RpL.inj I hl hl'
theorem RpL.inj (I : Inv X pins σ H s) : ∀ {ds es : List D} {xs : List V}, RpL X.K H ds xs → RpL X.K H es xs → deqL ds es = true
 | [], es, xs, h1, h2 => by
  rw [RpL] at h1
  subst h1
  cases es with
  | nil => simp [deqL]
  | cons e es => rw [RpL] at h2; obtain ⟨_, _, h, _⟩ := h2; cases h
 | d :: ds, es, xs, h1, h2 => by
  rw [RpL] at h1
  obtain ⟨v, r, rfl, h1, h1'⟩ := h1
  cases es with
  | nil => rw [RpL] at h2; cases h2
  | cons e es =>
   rw [RpL] at h2
   obtain ⟨v', r', e', h2, h2'⟩ := h2
   cases e'
   rw [deqL, Rp.inj I h1 h2, RpL.inj I h1' h2']
   rfl
end
theorem EZ : ∀ (ds es : List D), ((List.range (min ds.length es.length)).all (fun j => deq (ds.getD j .non) (es.getD j .non)) && ds.length == es.length) = deqL ds es
 | [], [] => by simp [deqL]
 | [], e :: es => by simp [deqL]
 | d :: ds, [] => by simp [deqL]
 | d :: ds, e :: es => by
  have ih := EZ ds es
  rw [deqL, ← ih]
  have e1 : min (d :: ds).length (e :: es).length = min ds.length es.length + 1 := by simp only [List.length_cons]; omega
  rw [e1, List.range_succ_eq_map, List.all_cons, List.all_map]
  have e2 : ((d :: ds).length == (e :: es).length) = (ds.length == es.length) := by
   simp only [List.length_cons]
   by_cases h : ds.length = es.length
   ·rw [h]; simp
   ·have h1 : (ds.length == es.length) = false := by simpa using h
    rw [h1]
    have : ¬ ds.length + 1 = es.length + 1 := by omega
    simpa using this
  rw [e2, Bool.and_assoc]
  rfl
mutual
theorem cH (I : Inv X pins σ H s) : ∀ {d e : D} {A : Around} {v u : V} {x y : Value}, Rp X.K H d v → Rp X.K H e u → BF v x → BF u y → A.units + dep d < cLine → SeqAt.EqAt A s x y (deq d e)
 | .int i, e, A, v, u, x, y, h1, h2, r1, r2, hu => by
  rw [Rp] at h1
  subst h1
  obtain ⟨t, rfl⟩ := r1
  cases e with
  | int j => rw [Rp] at h2; subst h2; obtain ⟨t', rfl⟩ := r2; exact SeqAt.EqAt.int_int i t j t'
  | str z => rw [Rp] at h2; subst h2; obtain ⟨t', rfl⟩ := r2; exact SeqAt.EqAt.int_str i t z t'
  | non => rw [Rp] at h2; subst h2; cases r2; exact SeqAt.EqAt.int_none i t
  | tup es =>
   rw [Rp] at h2
   obtain ⟨p, xs, rfl, hs, _⟩ := h2
   cases r2
   obtain ⟨its, _, ht, _⟩ := I.tuple hs
   exact SeqAt.EqAt.int_tuple i t ht (by omega)
 | .str z, e, A, v, u, x, y, h1, h2, r1, r2, hu => by
  rw [Rp] at h1
  subst h1
  obtain ⟨t, rfl⟩ := r1
  cases e with
  | int j => rw [Rp] at h2; subst h2; obtain ⟨t', rfl⟩ := r2; exact SeqAt.EqAt.str_int z t j t'
  | str z' => rw [Rp] at h2; subst h2; obtain ⟨t', rfl⟩ := r2; exact SeqAt.EqAt.str_str z t z' t'
  | non => rw [Rp] at h2; subst h2; cases r2; exact SeqAt.EqAt.str_none z t
  | tup es =>
   rw [Rp] at h2
   obtain ⟨p, xs, rfl, hs, _⟩ := h2
   cases r2
   obtain ⟨its, _, ht, _⟩ := I.tuple hs
   exact SeqAt.EqAt.str_tuple z t ht (by omega)
 | .non, e, A, v, u, x, y, h1, h2, r1, r2, hu => by
  rw [Rp] at h1
  subst h1
  cases r1
  cases e with
  | int j => rw [Rp] at h2; subst h2; obtain ⟨t', rfl⟩ := r2; exact SeqAt.EqAt.none_int j t'
  | str z' => rw [Rp] at h2; subst h2; obtain ⟨t', rfl⟩ := r2; exact SeqAt.EqAt.none_str z' t'
  | non => rw [Rp] at h2; subst h2; cases r2; exact SeqAt.EqAt.same _
  | tup es =>
   rw [Rp] at h2
   obtain ⟨p, xs, rfl, hs, _⟩ := h2
   cases r2
   obtain ⟨its, _, ht, _⟩ := I.tuple hs
   exact SeqAt.EqAt.none_tuple ht (by omega)
 | .tup ds, e, A, v, u, x, y, h1, h2, r1, r2, hu => by
  have h1' := h1
  rw [Rp] at h1
  obtain ⟨p, xs, rfl, hs, hl⟩ := h1
  cases r1
  obtain ⟨its, rv, ht, _⟩ := I.tuple hs
  cases e with
  | int j => rw [Rp] at h2; subst h2; obtain ⟨t', rfl⟩ := r2; exact SeqAt.EqAt.tuple_int j t' ht (by omega)
  | str z' => rw [Rp] at h2; subst h2; obtain ⟨t', rfl⟩ := r2; exact SeqAt.EqAt.tuple_str z' t' ht (by omega)
  | non => rw [Rp] at h2; subst h2; cases r2; exact SeqAt.EqAt.tuple_none ht (by omega)
  | tup es =>
   have h2' := h2
   rw [Rp] at h2
   obtain ⟨p', xs', rfl, hs', hl'⟩ := h2
   cases r2
   obtain ⟨its', rv', ht', _⟩ := I.tuple hs'
   by_cases hp : p = p'
   ·subst hp
    rw [Rp.inj I h1' h2']
    exact SeqAt.EqAt.same _
   ·refine SeqAt.EqAt.of_refs hp ?_
    have l1 : its.length = ds.length := by rw [← rv.length, hl.length]
    have l2 : its'.length = es.length := by rw [← rv'.length, hl'.length]
    have key := SeqAt.RcAt.tuples (e := fun j => deq (ds.getD j .non) (es.getD j .non)) ht ht' (show A.units < cLine by omega) (fun j h1 h2 => by
     rw [dep] at hu
     exact eqAtL_D I hl hl' rv rv' (show A.in1.units + depL ds < cLine by show A.units + 1 + depL ds < cLine; omega) j (by simpa using h1) (by simpa using h2))
    have e0 : ((List.range (min its.toArray.size its'.toArray.size)).all (fun j => deq (ds.getD j .non) (es.getD j .non)) && its.toArray.size == its'.toArray.size) = deqL ds es := by
     rw [← EZ]
     simp only [List.size_toArray, l1, l2]
    rw [deq, ← e0]
    exact key
theorem eqAtL_D (I : Inv X pins σ H s) : ∀ {ds es : List D} {A : Around} {vs us : List V} {xs ys : List Value}, RpL X.K H ds vs → RpL X.K H es us → AO vs xs → AO us ys → A.units + depL ds < cLine →
  ∀ (j : Nat) (h1 : j < xs.length) (h2 : j < ys.length), SeqAt.EqAt A s xs[j] ys[j] (deq (ds.getD j .non) (es.getD j .non))
 | [], es, A, vs, us, xs, ys, h1, h2, r1, r2, hu, j, j1, j2 => by
  rw [RpL] at h1
  subst h1
  cases r1
  exact absurd j1 (Nat.not_lt_zero _)
 | d :: ds, es, A, vs, us, xs, ys, h1, h2, r1, r2, hu, j, j1, j2 => by
  rw [RpL] at h1
  obtain ⟨v, r, rfl, h1, h1'⟩ := h1
  cases r1 with
  | cons q1 q1' =>
  cases es with
  | nil =>
   rw [RpL] at h2
   subst h2
   cases r2
   exact absurd j2 (Nat.not_lt_zero _)
  | cons e es =>
   rw [RpL] at h2
   obtain ⟨v', r', rfl, h2, h2'⟩ := h2
   cases r2 with
   | cons q2 q2' =>
   rw [depL] at hu
   cases j with
   | zero => exact cH (d := d) (e := e) I h1 h2 q1 q2 (by omega)
   | succ j => exact eqAtL_D I h1' h2' q1' q2' (by omega) j (by simpa using j1) (by simpa using j2)
end
def dP (K : PySem.W.Frag) (ne : Bool) : R2 := fun x y H Q => ∃ ds es, Rp K H (.tup ds) x ∧ Rp K H (.tup es) y ∧ depL ds ≤ 60 ∧ Q (.bl (if ne then !deqL ds es else deqL ds es)) H
theorem aR (hu : X.A.units + 64 < cLine) : OpR X (compareOp .Eq) (dP X.K false) := by
 intro pins s σ H x y v u Q I rx ry h
 obtain ⟨ds, es, h1, h2, hd, q⟩ := h
 rw [Rp] at h1 h2
 obtain ⟨p, xs, rfl, hs, hl⟩ := h1
 obtain ⟨p', xs', rfl, hs', hl'⟩ := h2
 cases rx
 cases ry
 obtain ⟨its, rv, ht, _⟩ := I.tuple hs
 obtain ⟨its', rv', ht', _⟩ := I.tuple hs'
 have l1 : its.length = ds.length := by rw [← rv.length, hl.length]
 have l2 : its'.length = es.length := by rw [← rv'.length, hl'.length]
 refine SeqAt.eq_tupleAt (e := fun j => deq (ds.getD j .non) (es.getD j .non)) ht ht' (by omega) (fun j h1 h2 => eqAtL_D I hl hl' rv rv' (show X.A.in1.units + depL ds < cLine by show X.A.units + 1 + depL ds < cLine; omega) j (by simpa using h1) (by simpa using h2)) ?_
 exact BB I q (by
  simp only [if_false, Bool.false_eq_true]
  rw [← EZ]
  simp only [List.size_toArray, l1, l2])
theorem aW (hu : X.A.units + 64 < cLine) : OpR X (compareOp .NotEq) (dP X.K true) := by
 intro pins s σ H x y v u Q I rx ry h
 obtain ⟨ds, es, h1, h2, hd, q⟩ := h
 rw [Rp] at h1 h2
 obtain ⟨p, xs, rfl, hs, hl⟩ := h1
 obtain ⟨p', xs', rfl, hs', hl'⟩ := h2
 cases rx
 cases ry
 obtain ⟨its, rv, ht, _⟩ := I.tuple hs
 obtain ⟨its', rv', ht', _⟩ := I.tuple hs'
 have l1 : its.length = ds.length := by rw [← rv.length, hl.length]
 have l2 : its'.length = es.length := by rw [← rv'.length, hl'.length]
 refine SeqAt.RcNeAt.tuples (e := fun j => deq (ds.getD j .non) (es.getD j .non)) ht ht' (by omega) (fun j h1 h2 => eqAtL_D I hl hl' rv rv' (show X.A.in1.units + depL ds < cLine by show X.A.units + 1 + depL ds < cLine; omega) j (by simpa using h1) (by simpa using h2)) X.prog X.w X.xe _ ?_
 exact BB I q (by
  simp only [if_true]
  rw [← EZ]
  simp only [List.size_toArray, l1, l2])
end
mutual
def HM (K : PySem.W.Frag) : D → Value → Bool
 | .int i, .int j _ => i == j
 | .str x, .str y _ => x == y
 | .non, .none => true
 | .tup ds, .ref p => (match K.lookup p with
  | some o => (match o.cls, o.data with
   | .type n, .seq its _ => n == "tuple" && decide (its.size ≤ 1000) && kdInL K ds its.toList
   | _, _ => false)
  | none => false)
 | _, _ => false
def kdInL (K : PySem.W.Frag) : List D → List Value → Bool
 | [], [] => true
 | d :: ds, u :: us => HM K d u && kdInL K ds us
 | _, _ => false
end
mutual
theorem LR {K : PySem.W.Frag} : ∀ {d : D} {u : Value}, HM K d u = true → ∃ v, BF v u ∧ ∀ H, Rp K H d v
 | .int i, u, h => by
  cases u with
  | int j t =>
   rw [HM] at h
   have e : i = j := by simpa using h
   subst e
   exact ⟨.int i, ⟨t, rfl⟩, fun H => by rw [Rp]⟩
  | _ => simp [HM] at h
 | .str x, u, h => by
  cases u with
  | str y t =>
   rw [HM] at h
   have e : x = y := by simpa using h
   subst e
   exact ⟨.str x, ⟨t, rfl⟩, fun H => by rw [Rp]⟩
  | _ => simp [HM] at h
 | .non, u, h => by
  cases u with
  | none => exact ⟨.non, rfl, fun H => by rw [Rp]⟩
  | _ => simp [HM] at h
 | .tup ds, u, h => by
  cases u with
  | ref p =>
   rw [HM] at h
   cases e : K.lookup p with
   | none => rw [e] at h; cases h
   | some o =>
    rw [e] at h
    dsimp only at h
    split at h
    ·rename_i n its k ec ed
     simp only [Bool.and_eq_true, beq_iff_eq, decide_eq_true_eq] at h
     obtain ⟨⟨rfl, hz⟩, hl⟩ := h
     obtain ⟨vs, rv, hv⟩ := kd_rpL hl
     exact ⟨.ref p, rfl, fun H => by
      rw [Rp]
      exact ⟨p, vs, rfl, .inr ⟨o, its, k, e, ec, ed, Nat.le_trans hz (by decide), rv⟩, hv H⟩⟩
    ·cases h
  | _ => simp [HM] at h
theorem kd_rpL {K : PySem.W.Frag} : ∀ {ds : List D} {us : List Value}, kdInL K ds us = true → ∃ vs, AO vs us ∧ ∀ H, RpL K H ds vs
 | [], us, h => by
  cases us with
  | nil => exact ⟨[], .nil, fun H => by rw [RpL]⟩
  | cons _ _ => simp [kdInL] at h
 | d :: ds, us, h => by
  cases us with
  | nil => simp [kdInL] at h
  | cons u us =>
   rw [kdInL, Bool.and_eq_true] at h
   obtain ⟨v, r, hv⟩ := LR h.1
   obtain ⟨vs, rs, hvs⟩ := kd_rpL h.2
   exact ⟨v :: vs, .cons r rs, fun H => by rw [RpL]; exact ⟨v, vs, rfl, hv H, hvs H⟩⟩
end
theorem RpL.at {K : PySem.W.Frag} {H : Hp} : ∀ {ds : List D} {xs : List V} {j : Nat}, RpL K H ds xs → j < ds.length → ∃ v, xs[j]? = some v ∧ Rp K H (ds.getD j .non) v
 | [], xs, j, h, hj => absurd hj (Nat.not_lt_zero _)
 | d :: ds, xs, j, h, hj => by
  rw [RpL] at h
  obtain ⟨v, r, rfl, h1, h2⟩ := h
  cases j with
  | zero => exact ⟨v, rfl, h1⟩
  | succ j =>
   obtain ⟨u, e, q⟩ := RpL.at (ds := ds) (xs := r) (j := j) h2 (by simpa using hj)
   exact ⟨u, e, q⟩
theorem RpL.atI {K : PySem.W.Frag} {H : Hp} {ds : List D} {xs : List V} {i : Int} (h : RpL K H ds xs) (h0 : 0 ≤ i) (h1 : i < ds.length) : ∃ v, L2.atI xs i = some v ∧ Rp K H (ds.getD i.toNat .non) v := by
 obtain ⟨v, e, r⟩ := h.at (j := i.toNat) (by omega)
 have := RW e
 rw [show ((i.toNat : Nat) : Int) = i by omega] at this
 exact ⟨v, this, r⟩
abbrev num (a b : Int) : D := .tup [.int a, .int b]
abbrev plc (a b c d : Int) : D := .tup [num a b, num c d]
theorem DK {K : PySem.W.Frag} {H : Hp} {a b : Int} {v : V} : Rp K H (num a b) v ↔ ∃ p, v = .ref p ∧ SqT K H p [.int a, .int b] := by
 constructor
 ·intro h
  rw [Rp] at h
  obtain ⟨p, xs, rfl, hs, hl⟩ := h
  rw [RpL] at hl
  obtain ⟨v, r, rfl, h1, hl⟩ := hl
  rw [RpL] at hl
  obtain ⟨v', r', rfl, h2, hl⟩ := hl
  rw [RpL] at hl
  rw [Rp] at h1 h2
  subst h1 h2 hl
  exact ⟨p, rfl, hs⟩
 ·rintro ⟨p, rfl, hs⟩
  rw [Rp]
  refine ⟨p, _, rfl, hs, ?_⟩
  rw [RpL]
  refine ⟨_, _, rfl, by rw [Rp], ?_⟩
  rw [RpL]
  refine ⟨_, _, rfl, by rw [Rp], ?_⟩
  rw [RpL]
theorem BJ {K : PySem.W.Frag} {H : Hp} {d e : D} {v : V} : Rp K H (.tup [d, e]) v ↔ ∃ p x y, v = .ref p ∧ SqT K H p [x, y] ∧ Rp K H d x ∧ Rp K H e y := by
 constructor
 ·intro h
  rw [Rp] at h
  obtain ⟨p, xs, rfl, hs, hl⟩ := h
  rw [RpL] at hl
  obtain ⟨v, r, rfl, h1, hl⟩ := hl
  rw [RpL] at hl
  obtain ⟨v', r', rfl, h2, hl⟩ := hl
  rw [RpL] at hl
  subst hl
  exact ⟨p, v, v', rfl, hs, h1, h2⟩
 ·rintro ⟨p, x, y, rfl, hs, h1, h2⟩
  rw [Rp]
  refine ⟨p, _, rfl, hs, ?_⟩
  rw [RpL]
  refine ⟨_, _, rfl, h1, ?_⟩
  rw [RpL]
  refine ⟨_, _, rfl, h2, ?_⟩
  rw [RpL]
section
variable {X : Cx}
theorem TL {c : Value} : DJ X (.builtin "isinstance") (fun xs H Q => ∃ x y, xs = [x, y] ∧ BF y c ∧ (∃ n, c = .type n) ∧ ∃ ty, (GS X.K H x ty ∨ ∃ p ys, x = .ref p ∧ SqT X.K H p ys ∧ ty = .type "tuple") ∧ ∃ b, PySem.W.kitOne X.K ty c = some b ∧ Q (.bl b) H) := by
 intro pins s σ H xs us Q I rv h
 obtain ⟨x, y, rfl, ry, ⟨n, rfl⟩, ty, hty, b, hk, q⟩ := h
 rcases hty with hty | ⟨p, ys, rfl, hs, rfl⟩
 ·exact UT (c := .type n) pins s σ H [x, y] us Q I rv ⟨x, y, ty, b, rfl, ry, ⟨n, rfl⟩, hty, hk, q⟩
 ·obtain ⟨u, u', rfl, ru, ru'⟩ := rv.two
  have e : u' = .type n := by
   cases y with
   | ty m => have := (show Value.type n = Value.type m from ry); cases this; exact ru'
   | non => cases ry
   | bl _ => cases ry
   | int _ => obtain ⟨_, z⟩ := ry; cases z
   | str _ => obtain ⟨_, z⟩ := ry; cases z
   | byt _ => obtain ⟨_, z⟩ := ry; cases z
   | flt _ => obtain ⟨_, z⟩ := ry; cases z
   | ref _ => cases ry
  subst e
  cases ru
  obtain ⟨its, _, ⟨o, h1, h2, _⟩, _⟩ := I.tuple hs
  exact PySem.W.kia_one PySem.W.kitx_tuple I.kIn ⟨o, h1, h2⟩ hk (fun z => nomatch z) fun tk => ⟨.bl b, H, I.tok _, rfl, q⟩
end
def LG (K : PySem.W.Frag) (d : D) : TE := fun _ H Q => ∀ v H', AI H H' → Rp K H' d v → Q v H'
def FM (K : PySem.W.Frag) (ds : List D) : TA := fun _ H Q => ∀ vs H', AI H H' → RpL K H' ds vs → Q vs H'
section
variable {X : Cx} {e : Expr} {es : List Expr} {pos : Pos} {d : D} {ds : List D}
theorem PE.imp {t t' : TE} (h : PE X e t) (i : ∀ σ H Q, t' σ H Q → t σ H Q) : PE X e t' := fun pins s σ H Q I q => h pins s σ H Q I (i _ _ _ q)
theorem PA.imp {t t' : TA} (h : PA X es t) (i : ∀ σ H Q, t' σ H Q → t σ H Q) : PA X es t' := fun p pins s σ H Q I q => h p pins s σ H Q I (i _ _ _ q)
theorem bL {i : Int} {j pos} : PE X (.Constant (.int i) j pos) (LG X.K (.int i)) := AC.imp fun _ H Q q => q _ _ (AI.refl H) (by rw [Rp])
theorem bQ {i : Int} {j pos pos'} : PE X (.UnaryOp .USub (.Constant (.int i) j pos) pos') (LG X.K (.int (-i))) := (MG XE AC).imp fun _ H Q q => ⟨_, rfl, q _ _ (AI.refl H) (by rw [Rp])⟩
theorem cT {x : Str} {j pos} : PE X (.Constant (.str x) j pos) (LG X.K (.str x)) := CL.imp fun _ H Q q => q _ _ (AI.refl H) (by rw [Rp])
theorem BE : PA X [] (FM X.K []) := AF.imp fun _ H Q q => q _ _ (AI.refl H) (by rw [RpL])
theorem HG (h : PE X e (LG X.K d)) (hs : PA X es (FM X.K ds)) (he : starEach (e :: es) X.env = (false, eval e X.env) :: starEach es X.env := by rfl) : PA X (e :: es) (FM X.K (d :: ds)) :=
 (AA h hs he).imp fun _ H Q q => fun v H1 s1 r1 vs H2 s2 r2 => q _ _ (s1.trans s2) (by rw [RpL]; exact ⟨v, vs, rfl, r1.same s2, r2⟩)
theorem BK {x1} (h : PA X es (FM X.K ds)) (hz : ds.length ≤ 1000 := by decide) : PE X (.Tuple es x1 pos) (LG X.K (.tup ds)) :=
 (BQ h).imp fun _ H Q q => fun vs H1 s1 r1 => ⟨by rw [r1.length]; exact Nat.le_trans hz (by decide), fun p hp => q _ _ (s1.upd2 (s1.free hp)) (by
  rw [Rp]; exact ⟨p, vs, rfl, SqT.of AB, r1.same (AI.upd hp)⟩)⟩
end
end L2
namespace L2
open PySem PySem.Spec PyProof.Rows L2
section
variable {X : Cx} {es es' : List Expr} {pos pos' p : Pos} {d : D} {ds : List D}
theorem BU {x1} {te : TE} {t : TA} (ha : PE X (.Tuple es' x1 p) te) (hr : PA X es t) : PA X (.Tuple es' x1 p :: es) (MA te t) := AA ha hr (by rfl)
theorem CF {x1} (ha : PE X (.Tuple es' x1 p) (LG X.K d)) (hr : PA X es (FM X.K ds)) : PA X (.Tuple es' x1 p :: es) (FM X.K (d :: ds)) := HG ha hr (by rfl)
theorem AW {i : Int} {j} (hr : PA X es (FM X.K ds)) : PA X (.Constant (.int i) j p :: es) (FM X.K (.int i :: ds)) := HG bL hr (by rfl)
theorem CH {i : Str} {j} (hr : PA X es (FM X.K ds)) : PA X (.Constant (.str i) j p :: es) (FM X.K (.str i :: ds)) := HG cT hr (by rfl)
theorem SJ {i : Int} {j} (hr : PA X es (FM X.K ds)) : PA X (.UnaryOp .USub (.Constant (.int i) j p) pos :: es) (FM X.K (.int (-i) :: ds)) := HG bQ hr (by rfl)
end
theorem NO {CX P w K mg base N nm sc fa cdv A outer s H E} : (QJ CX P w K mg base N nm sc fa cdv A outer s H E).K = K := rfl
section
variable {κ : Type} [DecidableEq κ]
end
section
variable {P : Program} {w : World} {H : Hp} {h : Heap} {a : Addr}
end
section
variable {X : Cx} {pins : List (Addr × Obj)} {σ : St} {H : Hp} {s : Shared} {a : Addr} {y v : V} {u r : Value} {o : Option V} {A : Around} {E : Value → Shared → Prop}
theorem Inv.big (I : Inv X pins σ H s) : sysModules < s.heap.objs.size := by
 have h : mainGlobals < s.heap.objs.size := (I.mod.glob.keeps I.bk).lt
 exact Nat.lt_trans (by decide) h
end
section
variable {X : Cx} {pins : List (Addr × Obj)} {σ : St} {H : Hp} {s : Shared} {a : Addr} {kvs : List (Key × V)} {k : Key} {u : Value} {A : Around} {E : Value → Shared → Prop}
end
section
variable {X : Cx} {o i e value : Expr} {pos pos' tpos : Pos} {td ty tv : TE}
end
theorem OE {P : Program} {w : World} {H : Hp} (h : Heap) (hb : sysModules < h.objs.size) : CZ P w H (h.push { cls := .type "dict", data := .dict #[] }) h.objs.size (.dK []) :=
 ⟨Nat.zero_le _, beq_eq_false_iff_ne.mpr (Ne.symm (Nat.ne_of_lt hb)), [], .nil, Heap.DictOf.new h⟩
def KJ : TE := fun _ H Q => ∀ p, H p = none → Q (.ref p) (upd H p (.dK []))
section
variable {X : Cx} {pos : Pos}
theorem OV : PE X (.Dict [] [] pos) KJ := fun pins s σ H Q I h =>
 wpAny_Dict_empty ⟨.ref s.heap.objs.size, _, I.laid (a := s.heap.objs.size) (o := .dK []) (t' := s.toks) (fun _ _ q => Heap.get?_push_of_some _ q) (Nat.le_refl _) (OE s.heap I.big), rfl, h _ (I.hok.fresh (Nat.le_refl _))⟩
end
structure M1 (X : Cx) (o : Expr) (m : Str) (apos : Pos) (e : Expr) (cpos : Pos) : Prop where
 base : attributeBase o m X.env (eval o X.env) = eval o X.env
 few : ((backTo cpos (starEach [e] X.env)).all (fun x => !x.1) && (backToKw cpos (keywordEach [] X.env)).all (fun x => x.1.isSome)
  && decide (([e] : List Expr).length + ([] : List Keyword).length + (if ([] : List Keyword).isEmpty then 0 else 1) < 30)) = true
 line : (apos.endLine == cpos.line) = true
 trees : backTo cpos (starEach [e] X.env) = [(false, eval e X.env)]
structure M2 (X : Cx) (o : Expr) (m : Str) (apos : Pos) (e f : Expr) (cpos : Pos) : Prop where
 base : attributeBase o m X.env (eval o X.env) = eval o X.env
 few : ((backTo cpos (starEach [e, f] X.env)).all (fun x => !x.1) && (backToKw cpos (keywordEach [] X.env)).all (fun x => x.1.isSome)
  && decide (([e, f] : List Expr).length + ([] : List Keyword).length + (if ([] : List Keyword).isEmpty then 0 else 1) < 30)) = true
 line : (apos.endLine == cpos.line) = true
 trees : backTo cpos (starEach [e, f] X.env) = [(false, eval e X.env), (false, eval f X.env)]
section
variable {X : Cx} {pins : List (Addr × Obj)} {σ : St} {H : Hp} {s : Shared} {a : Addr} {y d : V} {u r : Value} {o : Option V} {A : Around} {E : Value → Shared → Prop}
end
section
variable {X : Cx} {o e f : Expr} {apos cpos : Pos} {td ty tx : TE}
end
section
variable {X : Cx} {pins : List (Addr × Obj)} {σ : St} {H : Hp} {s : Shared} {a : Addr} {kvs : List (Key × V)} {A : Around} {E : Value → Shared → Prop}
end
section
variable {X : Cx} {pins : List (Addr × Obj)} {σ : St} {H : Hp} {s : Shared} {a : Addr} {y : V} {u : Value} {A : Around} {E : Value → Shared → Prop}
end
section
variable {κ : Type} [DecidableEq κ]
end
theorem LD {prog : Program} {w : World} {A : Around} {E : Value → Shared → Prop} {s : Shared} {t sl : Addr} {items : Array Value} {vl vu : Value} {lo hi : Option Int} {Q : Value → Shared → Prop}
  (ht : IsTup s.heap t items) (hs : s.heap.IsSliceOf sl vl vu .none) (pl : IsPart vl lo) (pu : IsPart vu hi) (hw : HT.sIx items.size 0 lo = 0 ∧ HT.sIx items.size items.size hi = items.size) (q : Q (.ref t) s) :
  wpAny (model prog w) A (getItem (.ref t) (.ref sl)) Q E s := by
 obtain ⟨os, hos, hcs, hds⟩ := id hs
 have hTs : s.TypeIs (.ref sl) "slice" := ⟨os, hos, hcs⟩
 unfold getItem
 try with_reducible refine wpAny_holding ?_
 refine wpAny_bind (wpAny_sequenceKey ht.typeIs (by decide) ?_)
 refine wpAny_bind (wpAny_callSpecial?_slot (name := Str.ofString "__getitem__") ht.typeIs slot_tuple_getitem
  (wpAny_call_entry slot_tuple_getitem ht.typeIs entry_tuple_getitem ?_ (args_tuple_getitem _ _)))
 show wpAny _ _ (Builtin.Tuple.tupleItemsOf (.ref t) >>= _) _ _ s
 refine wpAny_bind (tupleItemsOf_ ht ?_)
 refine wpAny_bind (wpAny_typeOf hTs ?_)
 rw [if_pos (by decide)]
 refine wpAny_bind (HT.sliceApplied_gen hs pl pu ?_)
 rw [hw.1, hw.2]
 dsimp only
 rw [if_pos (by simp)]
 unfold Builtin.Tuple.tupleIsExact
 refine wpAny_bind (wpAny_bind (wpAny_typeOf ht.typeIs (wpAny_pure ?_)))
 rw [if_pos (by decide)]
 refine wpAny_bind (wpAny_rule ?_)
 exact wpAny_pure ⟨_, rfl, wpAny_pure q⟩
def UI (K : PySem.W.Frag) : V → Option Int → Option Int → Hp → VK → Prop := fun x lo hi H Q => ∃ a xs, x = .ref a ∧ SqT K H a xs ∧
 ∀ p H', AI H H' → SqT K H' p (MX xs lo hi) → Q (.ref p) H'
theorem QR {xs : List V} {lo hi : Option Int} (hw : HT.sIx xs.length 0 lo = 0 ∧ HT.sIx xs.length xs.length hi = xs.length) : MX xs lo hi = xs := by
 unfold MX
 rw [hw.1, hw.2, List.drop_zero, Nat.sub_zero, List.take_length]
section
variable {X : Cx}
theorem ZV : SlR X (UI X.K) := by
 intro pins s σ H x v vl vu lo hi sl Q I rx hs pl pu h
 obtain ⟨a, xs, rfl, hx, q⟩ := h
 by_cases hw : HT.sIx xs.length 0 lo = 0 ∧ HT.sIx xs.length xs.length hi = xs.length
 ·cases rx
  obtain ⟨its, r, ht, hz⟩ := I.tuple hx
  have hlen : its.toArray.size = xs.length := by rw [List.size_toArray]; exact r.length.symm
  refine ⟨"tuple", _, PyProof.Rows.slot_tuple_getitem.lookup, ht.typeIs, ?_⟩
  refine LD ht hs pl pu (by rw [hlen]; exact hw) ?_
  exact ⟨.ref a, H, I, rfl, q _ _ (AI.refl H) (by rw [QR hw]; exact hx)⟩
 ·exact cU pins s σ H _ v vl vu lo hi sl Q I rx hs pl pu ⟨a, xs, rfl, hx, hw, fun p hp => q _ _ (AI.upd hp) (SqT.of AB)⟩
end
def AZ (H H' : Hp) : Prop := ∀ b o, H b = some o → ((∃ xs, o = .tup xs) ∨ ∃ o1 o2, o = .frz o1 o2) → H' b = some o
theorem AI.t {H H' : Hp} (s : AI H H') : AZ H H' := fun b o e _ => s b o e
theorem AZ.refl (H : Hp) : AZ H H := fun b o e _ => e
theorem AZ.trans {H H' H'' : Hp} (a : AZ H H') (b : AZ H' H'') : AZ H H'' := fun x o e h => b x o (a x o e h) h
theorem AZ.upd {H H' : Hp} {p : Addr} {o : HO} (s : AZ H H') (h : ∀ u, H p = some u → ¬ ((∃ xs, u = .tup xs) ∨ ∃ o1 o2, u = .frz o1 o2)) : AZ H (L2.upd H' p o) := fun b u e k => by
 by_cases hb : b = p
 ·subst hb; exact absurd k (h u e)
 ·rw [AH hb]; exact s b u e k
theorem AZ.tup {K : PySem.W.Frag} {H H' : Hp} {a : Addr} {xs : List V} (e : AZ H H') (h : SqT K H a xs) : SqT K H' a xs := by
 rcases h with (h | ⟨o, h⟩) | h
 ·exact .inl (.inl (e _ _ h (.inl ⟨_, rfl⟩)))
 ·exact .inl (.inr ⟨o, e _ _ h (.inr ⟨_, _, rfl⟩)⟩)
 ·exact .inr h
mutual
theorem Rp.t {K : PySem.W.Frag} {H H' : Hp} (s : AZ H H') : ∀ {d : D} {v : V}, Rp K H d v → Rp K H' d v
 | .int i, v, h => by rw [Rp] at h ⊢; exact h
 | .str x, v, h => by rw [Rp] at h ⊢; exact h
 | .non, v, h => by rw [Rp] at h ⊢; exact h
 | .tup ds, v, h => by
  rw [Rp] at h ⊢
  obtain ⟨p, xs, e, hs, hl⟩ := h
  exact ⟨p, xs, e, s.tup hs, RpL.t s hl⟩
theorem RpL.t {K : PySem.W.Frag} {H H' : Hp} (s : AZ H H') : ∀ {ds : List D} {xs : List V}, RpL K H ds xs → RpL K H' ds xs
 | [], xs, h => by rw [RpL] at h ⊢; exact h
 | d :: ds, xs, h => by
  rw [RpL] at h ⊢
  obtain ⟨v, r, e, h1, h2⟩ := h
  exact ⟨v, r, e, Rp.t s h1, RpL.t s h2⟩
end
theorem RpL.app {K : PySem.W.Frag} {H : Hp} : ∀ {ds es : List D} {xs ys : List V}, RpL K H ds xs → RpL K H es ys → RpL K H (ds ++ es) (xs ++ ys)
 | [], es, xs, ys, h, g => by rw [RpL] at h; subst h; exact g
 | d :: ds, es, xs, ys, h, g => by
  rw [RpL] at h
  obtain ⟨v, r, rfl, h1, h2⟩ := h
  rw [List.cons_append, List.cons_append, RpL]
  exact ⟨v, r ++ ys, rfl, h1, RpL.app h2 g⟩
theorem RpL.one {K : PySem.W.Frag} {H : Hp} {d : D} {v : V} (h : Rp K H d v) : RpL K H [d] [v] := by
 rw [RpL]; exact ⟨v, [], rfl, h, by rw [RpL]⟩
theorem RpL.nil {K : PySem.W.Frag} {H : Hp} : RpL K H [] [] := by rw [RpL]
def But (l : List Addr) (H H' : Hp) : Prop := ∀ b o, H b = some o → b ∉ l → H' b = some o
theorem AI.but {H H' : Hp} {l : List Addr} (s : AI H H') : But l H H' := fun b o e _ => s b o e
theorem But.trans {l : List Addr} {H H' H'' : Hp} (a : But l H H') (b : But l H' H'') : But l H H'' := fun x o e h => b x o (a x o e h) h
theorem But.upd {l : List Addr} {H H' : Hp} {p : Addr} {o : HO} (s : But l H H') (h : H p = none ∨ p ∈ l) : But l H (L2.upd H' p o) := fun b u e k => by
 have hb : b ≠ p := by
  rintro rfl
  rcases h with h | h
  ·rw [h] at e; cases e
  ·exact k h
 rw [AH hb]; exact s b u e k
theorem But.mono {l l' : List Addr} {H H' : Hp} (s : But l H H') (h : ∀ b ∈ l, b ∈ l') : But l' H H' := fun b o e k => s b o e fun z => k (h b z)
def OL (K : PySem.W.Frag) (ta : TE) : TE := fun σ H Q => ta σ H fun x H1 => ∃ k, cK K x H1 k ∧ Q (.bl (!k)) H1
section
variable {X : Cx} {a : Expr} {ta : TE} {pos : Pos}
theorem ZT (ha : PE X a ta) : PE X (.UnaryOp .Not a pos) (OL X.K ta) := by
 intro pins s σ H Q I h
 refine UnaryOp_ (thn (ha pins s σ H _ I h) fun v s1 ⟨x, H1, I1, r1, q1⟩ => ?_)
 obtain ⟨k, hk, q1⟩ := q1
 refine not_of (thn (UU pins s1 σ H1 x v (fun b H2 => Q (.bl (!b)) H2) I1 r1 ⟨k, hk, q1⟩) fun b s2 ⟨H2, I2, q2⟩ => ⟨.bl (!b), H2, I2, rfl, q2⟩)
end
theorem KQ {H : Hp} {p C dx : Addr} {fs : List (Str × V)} (h : H p = some (.ins C dx fs)) : ∀ u, H p = some u → ¬ ((∃ xs, u = .tup xs) ∨ ∃ o1 o2, u = .frz o1 o2) := fun u e => by
 rw [h] at e; cases e
 rintro (⟨xs, e⟩ | ⟨o1, o2, e⟩) <;> cases e
theorem FJ {H : Hp} {p : Addr} {xs : List V} (h : H p = some (.lst xs)) : ∀ u, H p = some u → ¬ ((∃ xs, u = .tup xs) ∨ ∃ o1 o2, u = .frz o1 o2) := fun u e => by
 rw [h] at e; cases e
 rintro (⟨xs, e⟩ | ⟨o1, o2, e⟩) <;> cases e
theorem CB {H : Hp} {p ls C dx : Addr} {fs : List (Str × V)} {xs : List V} (h : H p = some (.ins C dx fs)) (g : H ls = some (.lst xs)) : p ≠ ls := by rintro rfl; rw [h] at g; cases g
theorem un {H : Hp} {p b : Addr} {o : HO} (h : upd H p o b = none) : b ≠ p ∧ H b = none := by
 have hb : b ≠ p := by rintro rfl; rw [AB] at h; cases h
 rw [AH hb] at h
 exact ⟨hb, h⟩
theorem But.free {l : List Addr} {H G : Hp} {b : Addr} (bt : But l H G) (hl : ∀ c ∈ l, ∃ o, G c = some o) (h : G b = none) : H b = none := by
 cases e : H b with
 | none => rfl
 | some o =>
  by_cases m : b ∈ l
  ·obtain ⟨o, z⟩ := hl b m; rw [h] at z; cases z
  ·have := bt b o e m; rw [h] at this; cases this
theorem But.refl (l : List Addr) (H : Hp) : But l H H := fun _ _ e _ => e
theorem AU {H : Hp} {p b : Addr} {o : HO} (h : H p = some o) (g : H b = none) : p ≠ b := by rintro rfl; rw [h] at g; cases g
theorem JW {X : Cx} : DJ X (.type "tuple") (fun xs H Q => ∃ p ys, xs = [.ref p] ∧ SqL X.K H p ys ∧ ∀ l, H l = none → Q (.ref l) (upd H l (.tup ys))) := by
 intro pins s σ H xs us Q I r h
 obtain ⟨p, ys, e, hq, q⟩ := h
 exact LL pins s σ H xs us Q I r ⟨p, ys, e, .inl ⟨hq, q⟩⟩
theorem QY {prog : Program} {w : World} {A : Around} {R : Result → Shared → Prop} {s : Shared} {kx vx target iter : Expr} {ifs : List Expr} {scope : Scope} {pos : Pos} {it : Value} {D : Addr} {env : Env}
  (h : wpAny (model prog w) A (pyNext it) (fun r s₁ => r = none ∧ R (.ok .next) s₁) (fun _ _ => False) s) :
  codeAny (model prog w) A (.compLoop (.DictComp kx vx [⟨target, iter, ifs, 0⟩] scope pos) 0 it (.ref D) env) R s := by
 refine codeAny_loop rfl (fun _ s' => s' = s) (fun n s' hI => ?_) 0 rfl
 subst hI
 show wpAny _ A ((compTurn (.DictComp kx vx [⟨target, iter, ifs, 0⟩] scope pos) 0 it (.ref D) env).onRaise (fun x => do noteFrame x env; theTreesLotGoes x)) _ _ s'
 refine wpAny_noted ?_
 rw [compTurn_dict]
 refine wpAny_bind (wpAny_standAt (wpAny_bind (wpAny_mono h (fun r s₁ h₁ => ?_) fun _ _ z => False.elim z)))
 obtain ⟨rfl, h₁⟩ := h₁
 exact wpAny_pure h₁
def HP (wi : TI) : TE := fun σ H Q => wi σ H fun J H1 => ∀ p, H1 p = none → J.stop 0 (upd H1 p (.dK [])) ∧ Q (.ref p) (upd H1 p (.dK []))
section
variable {X : Cx}
theorem TN {kx vx iter tg : Expr} {ifs : List Expr} {scope sc : Scope} {pos : Pos} {wi : TI} {N0 N os : List Str} {js : List Nat}
  (hc : X.calm = true) (hsc : X.env.scope = sc) (hN : X.N = N0) (ok : QA scope sc N0 js os N) (hi : PI X tg iter wi)
  (hs : ∀ x, foldedSetIterable iter X.env x = pure x := by intro _; rfl) :
  PE X (.DictComp kx vx [⟨tg, iter, ifs, 0⟩] scope pos) (HP wi) := by
 intro pins s σ H Q I h
 rw [arm_eval_DictComp]
 have hfree : ∀ y ∈ scope.names, y.2 = .free → ∃ c, X.env.cells.lookup y.1 = some c := fun y hy e => I.ok.has _ (by
  have := ok.free y hy e
  rw [← hsc] at this
  exact this)
 refine wpAny_comprehension_free (use := none) rfl hs (RF hfree) ok.kind ok.names (thn (hi pins s σ H _ I h) fun v s1 h1 => thn h1 fun itv s2 h2 => ?_)
 obtain ⟨it, fp, tn, J, H1, e, I2, T, st2, f2, hW⟩ := h2
 subst e
 refine wpAny_newObj_type (wpAny_newFunctionEnv ok.cell (by intro y hy; simp at hy) (fun h₁ hns₁ hsb₁ => ?_) ok.kind)
 dsimp only at hns₁ hsb₁ ⊢
 have hfr : H1 s2.heap.objs.size = none := I2.fresh
 have I3 := I2.laid (a := s2.heap.objs.size) (o := .dK []) (t' := s2.toks) (fun _ _ q => Heap.get?_push_of_some _ q) (Nat.le_refl _) (OE s2.heap I2.big)
 generalize hs3 : ({ s2 with heap := s2.heap.push { cls := .type "dict", data := .dict #[] }, toks := s2.toks } : Shared) = s₃ at I3
 have eh : s2.heap.push { cls := .type "dict", dict := none, data := .dict #[] } = s₃.heap := by rw [← hs3]
 rw [eh] at hns₁ hsb₁ ⊢
 have k23 : ∀ b o, s2.heap.get? b = some o → s₃.heap.get? b = some o := fun b o q => by rw [← eh]; exact Heap.get?_push_of_some _ q
 have lt2 : ∀ b ∈ fp, b < s2.heap.objs.size := fun b hb => by
  obtain ⟨o, q, _⟩ := T.obj _ _ st2 b hb
  exact Heap.lt_size q
 have sz3 : s2.heap.objs.size ≤ s₃.heap.objs.size := by rw [← eh, Heap.size_push]; exact Nat.le_succ _
 have f3 : ∀ b ∈ fp, JT X pins (upd H1 s2.heap.objs.size (.dK [])) b := fun b hb => ⟨by rw [AH (Nat.ne_of_lt (lt2 b hb))]; exact (f2 b hb).1, (f2 b hb).2⟩
 have k34 : ∀ b o, s₃.heap.get? b = some o → h₁.get? b = some o := fun b o q => hsb₁.extBut b o (Nat.ne_of_lt (Heap.lt_size q)) (Heap.get?_push_of_some _ q)
 have I4 := NT (t' := s₃.toks) hc hsc hN ok I3 f3 (fun b hb => Nat.lt_of_lt_of_le (lt2 b hb) sz3) hns₁ k34
 generalize hX' : cxC X scope (DZ X.env.cells scope.names []) N s₃ (upd H1 s2.heap.objs.size (.dK [])) fp = X' at I4
 obtain ⟨stop, qn⟩ := hW _ hfr
 have st4 : tn 0 h₁ := T.keep _ _ _ st2 fun b hb o q => k34 b o (k23 b o q)
 have stat : ∀ {H' : Hp}, (∀ b ∈ fp, H' b = none) → ∀ b ∈ fp, JT X' [] H' b := fun {H'} hn b hb => by
  subst hX'
  refine ⟨hn b hb, Nat.ne_of_lt (Nat.lt_of_lt_of_le (lt2 b hb) sz3), fun z => ?_, .inl hb, fun x c e => ?_, fun p hp => by cases hp⟩
  ·rcases List.mem_cons.mp (I2.stkSub b z) with q | q
   ·exact (f2 b hb).2.1 q
   ·exact (f2 b hb).2.2.1 q
  ·exact (f2 b hb).2.2.2.2.1 x c (FP (cells := X.env.cells) scope.names [] hfree (fun _ _ e => by cases e) _ _ e)
 have ePr : X'.prog = X.prog := by subst hX'; rfl
 have eW : X'.w = X.w := by subst hX'; rfl
 have eK : X'.K = X.K := by subst hX'; rfl
 have eA : X'.A = X.A := by subst hX'; rfl
 have eE : X'.env = compEnvC scope (DZ X.env.cells scope.names []) s₃.heap.objs.size X.env := by subst hX'; rfl
 have eC : X'.calm = true := by subst hX'; rfl
 have eX : X'.xe = fun _ _ => False := by subst hX'; rfl
 have fin : ∀ {σ' : St} {H' : Hp} {s' : Shared}, Inv X' [] σ' H' s' → (∀ b ∈ fp, H' b = none) → Q (.ref s2.heap.objs.size) H' → compPost (model X.prog X.w) X.A X.xe none (EP X pins σ Q) (.ref s2.heap.objs.size) s₃.heap.objs.size (.ok .next) s' := by
  intro σ' H' s' I' hn q
  obtain ⟨m, hm, _⟩ := id I'.loc
  subst hX'
  refine ⟨m, hm, fun h'' sb => ⟨.ref s2.heap.objs.size, H', ?_, rfl, q⟩⟩
  have fC : H' s₃.heap.objs.size = none := I'.free
  have hok' : HOk X.prog X.w H' h'' := fun b ob e => by
   refine (I'.hok b ob e).stay (fun c w' hc' q' => (sb.2 c ?_).trans q') (fun _ q' => q') fun _ _ q' => q'
   rintro rfl
   rcases hc' with z | z
   ·have e' := e; rw [← z] at e'; rw [fC] at e'; cases e'
   ·rw [fC] at z; cases z
  have u1 : Un (frs X.stack) fp (upd H1 s2.heap.objs.size (.dK [])) H' s₃.heap h'' := by
   have b0 := I'.base
   have ne : ∀ b o, s₃.heap.get? b = some o → b ≠ s₃.heap.objs.size := fun b o e => Nat.ne_of_lt (Heap.lt_size e)
   exact ⟨fun b o e n hb hx => (sb.2 b (ne b o e)).trans (b0.keep b o e n hb hx), fun b o e n hb hx => by
     obtain ⟨sl, z⟩ := b0.slot b o e n hb hx
     exact ⟨sl, (sb.2 b (ne b o e)).trans z⟩, b0.free, fun b o e hx => by
     obtain ⟨o', z⟩ := b0.there b o e hx
     exact ⟨o', (sb.2 b (ne b o e)).trans z⟩, b0.tups, b0.frzs, b0.tbls⟩
  exact I3.call' (s' := { s' with heap := h'' }) (ch := fp) I'.os u1 hok' I'.bare fun b hb => ⟨(f2 b hb).2.2.2.1, (f2 b hb).2.1, (f2 b hb).2.2.2.2.1, (f2 b hb).2.2.2.2.2⟩
 have loop : codeAny (model X.prog X.w) X.A (.compLoop (.DictComp kx vx [⟨tg, iter, ifs, 0⟩] scope pos) 0 (.ref it) (.ref s2.heap.objs.size) (compEnvC scope (DZ X.env.cells scope.names []) s₃.heap.objs.size X.env))
   (compPost (model X.prog X.w) X.A X.xe none (EP X pins σ Q) (.ref s2.heap.objs.size) s₃.heap.objs.size) { s₃ with heap := h₁, toks := s₃.toks } := by
  refine QY ?_
  have fr4 : ∀ b ∈ fp, (upd H1 s2.heap.objs.size (.dK [])) b = none := fun b hb => (f3 b hb).1
  have := T.done X' ePr eW eK eC 0 [] _ _ _ X'.xe I4 (stat fr4) st4 stop
  rw [eX] at this
  rw [← ePr, ← eW, ← eA]
  rw [← ePr, ← eW] at this
  refine thn this fun r s6 ⟨hr, I6⟩ => ?_
  subst hr
  refine ⟨rfl, ?_⟩
  rw [ePr, eW, eA]
  exact fin I6 fr4 qn
 have es : ({ s2 with heap := h₁, toks := s2.toks + ([] : List (Str × Value)).length } : Shared) = { s₃ with heap := h₁, toks := s₃.toks } := by rw [← hs3]; rfl
 rw [show ({ s2 with heap := h₁, toks := s2.toks + ([] : List (Str × Value)).length } : Shared) = { s₃ with heap := h₁, toks := s₃.toks } from es]
 exact codeAny_compStart_dict loop (T.self _ 0 _ _ _ st4 loop)
end
section
variable {X : Cx} {st : Stmt} {FD : List Stmt} {t u : TS}
def TH {α : Sort u} (a : α) : α := a
def WU (a b : TS) : TS := fun D σ H => a { D with nx := TH (b D) } σ H
theorem BL (h1 : PS X st t) (h2 : PSs X FD u) : PSs X (st :: FD) (WU t u) := AE h1 h2
theorem YH {R : St → Hp → Prop} {σ : St} {H : Hp} (h : R σ H) : TH R σ H := h
theorem ZW {α : Type} {c : Prop} [Decidable c] {R : α → Prop} {a b : α} (h : ∀ z, z = (if c then a else b) → R z) : if c then R a else R b := by
 split
 ·exact h a (by rw [if_pos ‹_›])
 ·exact h b (by rw [if_neg ‹_›])
end
def DR (x : V) (P : Addr → Prop) : Prop := match x with | .ref a => P a | _ => False
def ET (x : V) (P : Int → Prop) : Prop := match x with | .int a => P a | _ => False
def oBl (x : V) (P : Bool → Prop) : Prop := match x with | .bl a => P a | _ => False
def MM (σ : St) (i : Nat) (P : V → Prop) : Prop := match σ[i]? with | some (some v) => P v | _ => False
def o1 (vs : List V) (P : V → Prop) : Prop := match vs with | [x] => P x | _ => False
def o2 (vs : List V) (P : V → V → Prop) : Prop := match vs with | [x, y] => P x y | _ => False
def o0 (vs : List V) (P : Prop) : Prop := match vs with | [] => P | _ => False
def oC (vs : List V) (P : V → List V → Prop) : Prop := match vs with | x :: r => P x r | _ => False
theorem DR.ex {x : V} {P : Addr → Prop} (h : DR x P) : ∃ a, x = .ref a ∧ P a := by cases x <;> first | exact ⟨_, rfl, h⟩ | exact h.elim
theorem ET.ex {x : V} {P : Int → Prop} (h : ET x P) : ∃ a, x = .int a ∧ P a := by cases x <;> first | exact ⟨_, rfl, h⟩ | exact h.elim
theorem oBl.ex {x : V} {P : Bool → Prop} (h : oBl x P) : ∃ a, x = .bl a ∧ P a := by cases x <;> first | exact ⟨_, rfl, h⟩ | exact h.elim
theorem MM.ex {σ : St} {i : Nat} {P : V → Prop} (h : MM σ i P) : ∃ v, σ[i]? = some (some v) ∧ P v := by
 unfold MM at h
 split at h
 ·exact ⟨_, ‹_›, h⟩
 ·exact h.elim
theorem o1.ex {vs : List V} {P : V → Prop} (h : o1 vs P) : ∃ x, vs = [x] ∧ P x := match vs, h with | [x], h => ⟨x, rfl, h⟩
theorem o2.ex {vs : List V} {P : V → V → Prop} (h : o2 vs P) : ∃ x y, vs = [x, y] ∧ P x y := match vs, h with | [x, y], h => ⟨x, y, rfl, h⟩
theorem o0.ex {vs : List V} {P : Prop} (h : o0 vs P) : vs = [] ∧ P := match vs, h with | [], h => ⟨rfl, h⟩
theorem oC.ex {vs : List V} {P : V → List V → Prop} (h : oC vs P) : ∃ x r, vs = x :: r ∧ P x r := match vs, h with | x :: r, h => ⟨x, r, rfl, h⟩
def dZ (t : TE) : TE := fun σ H Q => ∃ Q', t σ H Q' ∧ ∀ v H', Q' v H' → Q v H'
def dA (r : R2) : R2 := fun x y H Q => ∃ Q', r x y H Q' ∧ ∀ v H', Q' v H' → Q v H'
section
variable {X : Cx} {a b c o e value tg : Expr} {es : List Expr} {ta tb tc tv te : TE} {pos pos' apos tpos p : Pos} {f x : Str}
theorem PE.mono {t : TE} (h : PE X e t) : PE X e (dZ t) := fun pins s σ H Q I ⟨Q', q, m⟩ => thn (h pins s σ H Q' I q) fun _ _ ⟨v, H', I', r, z⟩ => ⟨v, H', I', r, m _ _ z⟩
theorem OpR.mono {f : Value → Value → Sem Value} {r : R2} (h : OpR X f r) : OpR X f (dA r) := fun pins s σ H x y v u Q I r1 r2 ⟨Q', q, m⟩ => thn (h pins s σ H x y v u Q' I r1 r2 q) fun _ _ ⟨v, H', I', r, z⟩ => ⟨v, H', I', r, m _ _ z⟩
theorem OpR.imp {f : Value → Value → Sem Value} {r r' : R2} (h : OpR X f r) (i : ∀ x y H Q, r' x y H Q → r x y H Q) : OpR X f r' := fun pins s σ H x y v u Q I r1 r2 q => h pins s σ H x y v u Q I r1 r2 (i _ _ _ _ q)
theorem UnR.imp {f : Value → Sem Value} {r r' : V → Hp → VK → Prop} (h : UnR X f r) (i : ∀ x H Q, r' x H Q → r x H Q) : UnR X f r' := fun pins s σ H x v Q I r1 q => h pins s σ H x v Q I r1 (i _ _ _ q)
theorem IxR.imp {r r' : R2} (h : IxR X r) (i : ∀ x y H Q, r' x y H Q → r x y H Q) : IxR X r' := fun value slice pins s σ H x y v u Q I r1 r2 q => h value slice pins s σ H x y v u Q I r1 r2 (i _ _ _ _ q)
theorem PT.imp {t t' : TT} (h : PT X e t) (i : ∀ σ H Q, t' σ H Q → t σ H Q) : PT X e t' := fun pins s σ H Q I q => h pins s σ H Q I (i _ _ _ q)
theorem PG.imp {t t' : TG} (h : PG X e t) (i : ∀ v σ H Q, t' v σ H Q → t v σ H Q) : PG X e t' := fun pins s σ H v u Q I r q => h pins s σ H v u Q I r (i _ _ _ _ q)
theorem PGs.imp {t t' : TGs} (h : PGs X es t) (i : ∀ v σ H Q, t' v σ H Q → t v σ H Q) : PGs X es t' := fun pins s σ H v u Q I r q => h pins s σ H v u Q I r (i _ _ _ _ q)
theorem PS.imp {st : Stmt} {t t' : TS} (h : PS X st t) (i : ∀ D σ H, t' D σ H → t D σ H) : PS X st t' := fun pins s σ H D I q => h pins s σ H D I (i _ _ _ q)
theorem DJ.imp {g : Value} {r r' : List V → Hp → VK → Prop} (h : DJ X g r) (i : ∀ xs H Q, r' xs H Q → r xs H Q) : DJ X g r' := fun pins s σ H xs us Q I r1 q => h pins s σ H xs us Q I r1 (i _ _ _ q)
theorem MtM.imp {id : String} {r r' : V → List V → Hp → VK → Prop} (h : MtM X id r) (i : ∀ x xs H Q, r' x xs H Q → r x xs H Q) : MtM X id r' := fun pins s σ H x xs v us Q I r1 r2 q => h pins s σ H x xs v us Q I r1 r2 (i _ _ _ _ q)
theorem PI.imp {iter : Expr} {t t' : TI} (h : PI X tg iter t) (i : ∀ σ H R, t' σ H R → t σ H R) : PI X tg iter t' := fun pins s σ H R I q => h pins s σ H R I (i _ _ _ q)
theorem cO.imp {t t' : dL} (h : cO X t) (i : ∀ o i v H Q, t' o i v H Q → t o i v H Q) : cO X t' := fun pins s σ H o i' v ov iv u Q I r1 r2 r3 q => h pins s σ H o i' v ov iv u Q I r1 r2 r3 (i _ _ _ _ _ q)
theorem SlR.imp {r r' : V → Option Int → Option Int → Hp → VK → Prop} (h : SlR X r) (i : ∀ x l u H Q, r' x l u H Q → r x l u H Q) : SlR X r' := fun pins s σ H x v vl vu lo hi sl Q I r1 r2 r3 r4 q => h pins s σ H x v vl vu lo hi sl Q I r1 r2 r3 r4 (i _ _ _ _ _ q)
def NS (i : Nat) : TE := fun σ H Q => MM σ i fun v => Q v H
theorem pvD (i : Nat) {x : Str} {pos : Pos} (hN : X.N[i]? = some x := by rfl) (hv : Vis X.env.scope x := by first | exact Or.inl rfl | exact Or.inr (Or.inl rfl) | exact Or.inr (Or.inr rfl)) (hd : (x == ("__debug__" : Str)) = false := by decide)
  (hcd : (x == ("__classdict__" : Str)) = false := by decide) : PE X (.Name x pos) (NS i) := (pv i hN hv hd hcd).imp fun _ _ _ h => MM.ex h
def tBD (t : TE) : TT := fun σ H Q => t σ H fun x H1 => oBl x fun c => Q c H1
theorem CU {e : Expr} {t : TE} (h : PE X e t) (he : ∀ whole, isTrue e X.env whole = (do let v ← whole; standAt e.pos; holding [v] (truthy v)) := by intro _; rfl) : PT X e (tBD t) :=
 (bX h.mono he).imp fun _ _ _ q => ⟨_, q, fun _ _ z => z.ex⟩
theorem AJ {op : CmpOp} {r : R2} (ho : OpR X (compareOp op) r) (ha : PE X a ta) (hb : PE X b tb) (hm : behindInMarks op b = false) : PT X (.Compare a [op] [b] pos) (tBD (tOp r ta tb)) :=
 (aC ho.mono ha.mono hb.mono hm).imp fun _ _ _ q => ⟨_, q, fun _ _ q => ⟨_, q, fun _ _ q => ⟨_, q, fun _ _ z => z.ex⟩⟩⟩
def JY (ta tb : TE) : TE := fun σ H Q => ta σ H fun x H1 => oBl x fun c => if c = true then tb σ H1 Q else Q (.bl false) H1
theorem NF {FD : List Expr} (ha : PE X a ta) (hb : PE X (.BoolOp .And (b :: FD) pos) tb) : PE X (.BoolOp .And (a :: b :: FD) pos) (JY ta tb) :=
 (cS ha.mono hb).imp fun _ _ _ q => ⟨_, q, fun _ _ z => z.ex⟩
def PK (K : PySem.W.Frag) (ta : TE) (f : Str) : TE := fun σ H Q => ta σ H fun x H1 => DR x fun a => ∃ C dx fs, H1 a = some (.ins C dx fs) ∧ Cls K C ∧ BR K C f ∧ ∃ v, fs.lookup f = some v ∧ Q v H1
theorem AX (he : PE X e ta) (hb : attributeBase e f X.env (eval e X.env) = eval e X.env) : PE X (.Attribute e f pos) (PK X.K ta f) :=
 (cG he.mono hb).imp fun _ _ _ q => ⟨_, q, fun _ _ z => by obtain ⟨a, rfl, C, dx, fs, h1, h2, h3, v, h4, h5⟩ := z.ex; exact ⟨a, C, dx, fs, v, rfl, h1, h2, h3, h4, h5⟩⟩
def OR (K : PySem.W.Frag) (ta tv : TE) (f : Str) : TS := fun D σ H => tv σ H fun y H1 => ta σ H1 fun x H2 => DR x fun a => ∃ C dx fs, H2 a = some (.ins C dx fs) ∧ Cls K C ∧ BR K C f ∧ fs.length < 1000 ∧
 D.nx σ (upd H2 a (.ins C dx (BH f y fs)))
theorem BS (ha : PE X o ta) (hv : PE X value tv) (hs : swapsWith value (some (.Attribute o f pos')) pos.line X.env = pure false) : PS X (.Assign [.Attribute o f pos'] value pos) (OR X.K ta tv f) :=
 (cJ ha.mono hv.mono hs).imp fun _ _ _ q => ⟨_, q, fun _ _ q => ⟨_, q, fun _ _ z => by obtain ⟨a, rfl, C, dx, fs, h⟩ := z.ex; exact ⟨a, C, dx, fs, rfl, h⟩⟩⟩
def FR (K : PySem.W.Frag) (ta tv : TE) (rd : V → V → Hp → VK → Prop) (f : Str) : TS := fun D σ H => ta σ H fun x H1 => DR x fun a => ∃ C dx fs, H1 a = some (.ins C dx fs) ∧ Cls K C ∧ BR K C f ∧ ∃ v, fs.lookup f = some v ∧
 tv σ H1 fun y H2 => rd v y H2 fun z H3 => ∃ dx' fs', H3 a = some (.ins C dx' fs') ∧ fs'.length < 1000 ∧ D.nx σ (upd H3 a (.ins C dx' (BH f z fs')))
theorem KD {op : Operator} {rd : V → V → Hp → VK → Prop} (ha : PE X o ta) (hv : PE X value tv) (hop : cM X op rd) : PS X (.AugAssign (.Attribute o f tpos) op value pos) (FR X.K ta tv rd f) :=
 (TC ha.mono hv hop).imp fun _ _ _ q => ⟨_, q, fun _ _ z => by obtain ⟨a, rfl, C, dx, fs, h1, h2, h3, v, h4, h5⟩ := z.ex; exact ⟨a, C, dx, fs, v, rfl, h1, h2, h3, h4, h5⟩⟩
def rID (C : Int → Int → Prop) (g : Int → Int → V) : R2 := fun x y H Q => ET x fun i => ET y fun j => C i j ∧ Q (g i j) H
def KP (g : Int → Int → V) : R2 := fun x y H Q => ET x fun i => ET y fun j => Q (g i j) H
def rUD (g : Int → V) : V → Hp → VK → Prop := fun x H Q => ET x fun i => Q (g i) H
theorem OpR.iD {f : Value → Value → Sem Value} {C g} (h : OpR X f (rI C g)) : OpR X f (rID C g) := h.imp fun _ _ _ _ z => by
 obtain ⟨i, rfl, z1⟩ := z.ex; obtain ⟨j, rfl, z2⟩ := z1.ex; exact ⟨i, j, rfl, rfl, z2⟩
theorem OpR.i0D {f : Value → Value → Sem Value} {g} (h : OpR X f (rI0 g)) : OpR X f (KP g) := h.imp fun _ _ _ _ z => by
 obtain ⟨i, rfl, z1⟩ := z.ex; obtain ⟨j, rfl, z2⟩ := z1.ex; exact ⟨i, j, rfl, rfl, z2⟩
theorem CI : OpR X (binaryOp .Add) (KP fun i j => .int (i + j)) := cC.i0D
theorem GB : OpR X (binaryOp .Sub) (KP fun i j => .int (i - j)) := cR.i0D
theorem BO : OpR X (binaryOp .Mult) (rID (fun i j => IntMulOk i j) fun i j => .int (i * j)) := ZR.iD
theorem GC : OpR X (binaryOp .FloorDiv) (rID (fun _ j => 0 < j ∧ j < 2 ^ 100) fun i j => .int (i / j)) := UJ.iD
theorem BM : OpR X (binaryOp .Mod) (rID (fun _ j => 0 < j) fun i j => .int (i % j)) := cP.iD
theorem RT : OpR X (binaryOp .Pow) (rID cW fun i j => .int (i ^ j.toNat)) := aT.iD
theorem KK : OpR X (compareOp .Lt) (KP fun i j => .bl (decide (i < j))) := dC.i0D
theorem NN : OpR X (compareOp .LtE) (KP fun i j => .bl (decide (i ≤ j))) := dF.i0D
theorem KF : OpR X (compareOp .Gt) (KP fun i j => .bl (decide (j < i))) := dY.i0D
theorem aU : OpR X (compareOp .GtE) (KP fun i j => .bl (decide (j ≤ i))) := dU.i0D
theorem HF : UnR X (unaryOp .USub) (rUD fun i => .int (-i)) := XE.imp fun _ _ _ z => z.ex
def HK (x y : V) (P : Bool → Prop) : Prop := match x with
 | .int i => (match y with | .int j => P (decide (i = j)) | .str _ => P false | .non => P false | _ => False)
 | .str i => (match y with | .str j => P (decide (i = j)) | .int _ => P false | .non => P false | _ => False)
 | .bl i => (match y with | .bl j => P (decide (i = j)) | .str _ => P false | .non => P false | _ => False)
 | .non => (match y with | .non => P true | .int _ => P false | .bl _ => P false | .str _ => P false | _ => False)
 | _ => False
theorem HK.ex {x y : V} {P : Bool → Prop} (h : HK x y P) : bZ x y = true ∧ P (decide (x = y)) := by
 cases x <;> cases y <;> first | exact h.elim | exact ⟨rfl, by simpa [HK] using h⟩
def VI : R2 := fun x y H Q => HK x y fun k => Q (.bl k) H
def WE : R2 := fun x y H Q => HK x y fun k => Q (.bl (!k)) H
theorem CC : OpR X (compareOp .Eq) VI := eB.imp fun _ _ _ _ z => z.ex
theorem KH : OpR X (compareOp .NotEq) WE := cY.imp fun _ _ _ _ z => z.ex
def OO (K : PySem.W.Frag) : R2 := fun x y H Q => DR x fun p => ET y fun i => ∃ xs, SqL K H p xs ∧ ∃ v, atI xs i = some v ∧ Q v H
def LS (K : PySem.W.Frag) : R2 := fun x y H Q => DR x fun p => ET y fun i => ∃ xs, SqT K H p xs ∧ ∃ v, atI xs i = some v ∧ Q v H
theorem DU : IxR X (OO X.K) := ZX.imp fun _ _ _ _ z => by
 obtain ⟨p, rfl, z1⟩ := z.ex; obtain ⟨j, rfl, xs, h1, v, h2, h3⟩ := z1.ex; exact ⟨p, xs, j, v, rfl, rfl, h1, h2, h3⟩
theorem AK : IxR X (LS X.K) := bR.imp fun _ _ _ _ z => by
 obtain ⟨p, rfl, z1⟩ := z.ex; obtain ⟨j, rfl, xs, h1, v, h2, h3⟩ := z1.ex; exact ⟨p, xs, j, v, rfl, rfl, h1, h2, h3⟩
def NV : TGs := fun vs σ H Q => o0 vs (Q σ H)
def KG (t : TG) (u : TGs) : TGs := fun vs σ H Q => oC vs fun v r => t v σ H fun σ' H' => u r σ' H' Q
def MD (K : PySem.W.Frag) (n : Nat) (t : TGs) : TG := fun v σ H Q => DR v fun a => ∃ xs, SqT K H a xs ∧ xs.length = n ∧ t xs σ H Q
theorem EI : PGs X [] NV := YV.imp fun _ _ _ _ z => z.ex
theorem BP {e : Expr} {es : List Expr} {t : TG} {u : TGs} (h1 : PG X e t) (h2 : PGs X es u)
  (hs : (assignEach (e :: es) X.env).map (·.2) = assign e X.env :: (assignEach es X.env).map (·.2) := by rfl) : PGs X (e :: es) (KG t u) := (WZ h1 h2 hs).imp fun _ _ _ _ z => z.ex
theorem FG {es : List Expr} {k : Nat} {t : TGs} {n : Nat} (hc : X.calm = true) (h : PGs X es t)
  (hn : (assignEach es X.env).length = n := by rfl) (hst : (assignEach es X.env).findIdx? (·.1) = none := by rfl) : PG X (.Tuple es k pos) (MD X.K n t) :=
 (cA hc h hn hst).imp fun _ _ _ _ z => by obtain ⟨a, rfl, xs, z⟩ := z.ex; exact ⟨a, xs, rfl, z⟩
def OF (K : PySem.W.Frag) (tl : TE) : TI := fun σ H R => tl σ H fun x H1 => DR x fun a => (∃ xs, SqT K H1 a xs) ∧ R (Itt K a) H1
theorem JG {l : Expr} {tl : TE} (hl : PE X l tl) : PI X tg l (OF X.K tl) := (cQ hl.mono).imp fun _ _ _ q => ⟨_, q, fun _ _ z => z.ex⟩
def UY : List V → Hp → VK → Prop := fun xs H Q => o2 xs fun x y => ET x fun i => ET y fun j => Q (.int (if j > i then j else i)) H
def XI : List V → Hp → VK → Prop := fun xs H Q => o2 xs fun x y => ET x fun i => ET y fun j => Q (.int (if j < i then j else i)) H
def XA (K : PySem.W.Frag) : List V → Hp → VK → Prop := fun xs H Q => o1 xs fun x => DR x fun p => ∃ ys, (SqL K H p ys ∨ SqT K H p ys) ∧ Q (.int ys.length) H
def OU (K : PySem.W.Frag) : List V → Hp → VK → Prop := fun xs H Q => o1 xs fun x => DR x fun p => ∃ ys, SqL K H p ys ∧ ∀ l, H l = none → Q (.ref l) (upd H l (.tup ys))
theorem QK (hc : X.calm = true) : DJ X (.builtin "max") UY := (UC hc).imp fun _ _ _ z => by
 obtain ⟨x, y, rfl, z1⟩ := z.ex; obtain ⟨i, rfl, z2⟩ := z1.ex; obtain ⟨j, rfl, z3⟩ := z2.ex; exact ⟨i, j, rfl, z3⟩
theorem QU (hc : X.calm = true) : DJ X (.builtin "min") XI := (TM hc).imp fun _ _ _ z => by
 obtain ⟨x, y, rfl, z1⟩ := z.ex; obtain ⟨i, rfl, z2⟩ := z1.ex; obtain ⟨j, rfl, z3⟩ := z2.ex; exact ⟨i, j, rfl, z3⟩
theorem AR : DJ X (.builtin "len") (XA X.K) := MP.imp fun _ _ _ z => by
 obtain ⟨x, rfl, z1⟩ := z.ex; obtain ⟨p, rfl, ys, z2⟩ := z1.ex; exact ⟨p, ys, rfl, z2⟩
theorem IZ : DJ X (.type "tuple") (OU X.K) := JW.imp fun _ _ _ z => by
 obtain ⟨x, rfl, z1⟩ := z.ex; obtain ⟨p, rfl, ys, z2⟩ := z1.ex; exact ⟨p, ys, rfl, z2⟩
def WF (K : PySem.W.Frag) (c : Value) : List V → Hp → VK → Prop := fun xs H Q => o2 xs fun x y => BF y c ∧ (∃ n, c = .type n) ∧ ∃ ty, (GS K H x ty ∨ ∃ p, x = .ref p ∧ (∃ ys, SqT K H p ys) ∧ ty = .type "tuple") ∧ ∃ b, PySem.W.kitOne K ty c = some b ∧ Q (.bl b) H
theorem DB {c : Value} : DJ X (.builtin "isinstance") (WF X.K c) := TL.imp fun _ _ _ z => by
 obtain ⟨x, y, rfl, h1, h2, ty, h3, h4⟩ := z.ex
 exact ⟨x, y, rfl, h1, h2, ty, h3.imp id fun ⟨p, e, ⟨ys, h⟩, h'⟩ => ⟨p, ys, e, h, h'⟩, h4⟩
def FQ : V → List V → Hp → VK → Prop := fun x vs H Q => DR x fun l => o1 vs fun y => ∃ xs, H l = some (.lst xs) ∧ xs.length < sizeLine ∧ Q .non (upd H l (.lst (xs ++ [y])))
theorem DC : MtM X "list.append" FQ := MB.imp fun _ _ _ _ z => by
 obtain ⟨l, rfl, z1⟩ := z.ex; obtain ⟨y, rfl, xs, z2⟩ := z1.ex; exact ⟨l, xs, y, rfl, rfl, z2⟩
end
section
variable {X : Cx} {pins : List (Addr × Obj)} {σ : St} {H : Hp} {s : Shared}
end
theorem QG : typeLookup (.type "list_reverseiterator") "__len__" = pure none := by rw [typeLookup_type, builtinLookup_eq_fast]; kernel_rfl
theorem XD : typeLookup (.type "list_reverseiterator") "__length_hint__" = pure (some (.builtin "list_reverseiterator.__length_hint__")) := by rw [typeLookup_type, builtinLookup_eq_fast]; kernel_rfl
section
variable {prog : Program} {w : World} {A : Around} {s : Shared} {E : Value → Shared → Prop} {R : Result → Shared → Prop} {I l : Addr} {items : Array Value}
theorem PM {Q : Bool → Shared → Prop} (hT : s.TypeIs (.ref I) "list_reverseiterator") (h : Q false s) : wpAny (model prog w) A (Builtin.List.listLengthHint (.ref I)) Q E s := by
 unfold Builtin.List.listLengthHint
 refine wpAny_bind (wpAny_specialOf hT QG ?_)
 show wpAny _ _ (specialOf (Value.ref I) (Str.ofString "__length_hint__") >>= _) _ _ _
 refine wpAny_bind (wpAny_specialOf hT XD ?_)
 generalize hid : ("list_reverseiterator.__length_hint__" : String) = id0
 wp_delta
 rw [show splitId id0 = some ("list_reverseiterator", "__length_hint__") from by subst hid; decide +kernel]
 subst hid
 refine wpAny_bind (wpAny_isInstance (T := "list_reverseiterator") (b := true) hT (by rw [isSubtype_type]; kernel_rfl) ?_)
 refine wpAny_ite_split (fun hab => absurd hab (by decide)) (fun _ => ?_)
 refine wpAny_ite_split (fun _ => ?_) (fun hab => absurd (by decide +kernel) hab)
 refine wpAny_ite_split (fun hab => absurd hab (by decide)) (fun _ => ?_)
 exact wpAny_pure h
theorem ZY (hh : A.handled = none) (hne : l ≠ I) (S : Addr) (hSI : S ≠ I) (hSl : S ≠ l) (res : Value) (c₀ : Nat) (hit : s.heap.IsRevIter I l ((items.size : Int) - 1)) (hl : s.heap.IsList l items)
  (hS : s.heap.get? S = some { cls := .type "list", data := .seq #[] c₀ }) (hn : items.size ≤ sizeLine)
  (hR : ∀ h' tk acc' c', (∀ b o, b ≠ S → b ≠ I → s.heap.get? b = some o → h'.get? b = some o) → h'.get? S = some { cls := .type "list", dict := none, data := .seq acc' c', slots := #[] } →
   ItemsOf (fun i v => items[items.size - 1 - i]? = some v) acc' items.size → R (.ok (.ret res)) { s with heap := h', toks := tk }) :
  wpAny (model prog w) A.in1 (Builtin.List.listExtendWith (.ref S) (.ref I) res)
   (fun fin s' => match fin with | .done f => R (.ok f) s' | .again c' => c'.quiet = true ∧ codeAny (model prog w) A c' R s') (fun e s' => R (.error e) s') s := by
 have hSf : S ∉ [I, l] := by simp only [List.mem_cons, List.not_mem_nil, or_false, not_or]; exact ⟨hSI, hSl⟩
 have W := Walks.listRev (prog := prog) (w := w) (A := A.in1) hh I l hne items
 have st : ∀ h : Heap, h.IsRevIter I l ((items.size : Int) - 1) → h.IsList l items → 0 ≤ items.size ∧ h.IsRevIter I l ((items.size : Int) - 1 - ((0 : Nat) : Int)) ∧ h.IsList l items := fun h h1 h2 => ⟨Nat.zero_le _, by rw [show (items.size : Int) - 1 - ((0 : Nat) : Int) = (items.size : Int) - 1 by omega]; exact h1, h2⟩
 have key : ∀ (h : Heap) (c₁ tk : Nat), h.IsRevIter I l ((items.size : Int) - 1) → h.IsList l items → (∀ b o, b ≠ S → s.heap.get? b = some o → h.get? b = some o) →
   h.get? S = some { cls := .type "list", data := .seq #[] c₁ } → codeAny (model prog w) A (.builtin "list.extend.loop" ⟨[.ref S, .ref I, res], []⟩) R { s with heap := h, toks := tk } := by
  intro h c₁ tk h1 h2 hk hS₁
  refine codeAny_extend_loopS W.toS hn S hSf res items.size 0 _ #[] c₁ rfl (Nat.zero_le _) (st h h1 h2) hS₁ (ItemsOf.nil _) fun s' acc' c' hm hS' hacc => ?_
  rw [Moved.eq_with hm]
  refine hR s'.heap s'.toks acc' c' (fun b o hb hI e => hm.heap b o (fun hmem => ?_) (hk b o hb e)) hS' hacc
  rcases List.mem_cons.mp hmem with e' | hmem
  ·exact hb e'
  ·exact hI (List.mem_singleton.mp hmem)
 unfold Builtin.List.listExtendWith
 refine wpAny_bind (wpAny_typeOf (T := "list_reverseiterator") hit.typeIs ?_)
 have h1 : Builtin.List.listSameRef (.ref S) (.ref I) = false := by simp [Builtin.List.listSameRef, hSI]
 have h2 : (Value.type "list_reverseiterator" == Value.type "list") = false := by decide
 have h3 : (Value.type "list_reverseiterator" == Value.type "tuple") = false := by decide
 simp only [h1, h2, h3, Bool.or_false, Bool.false_eq_true, if_false]
 refine wpAny_bind (wpAny_pyIter_revIter hit ?_)
 refine wpAny_bind (wpAny_holding (PM hit.typeIs ?_))
 refine wpAny_ite_split (fun _ => ?_) (fun _ => wpAny_pure ⟨plainId_quiet F.plain_extend_loop _, key _ c₀ _ hit hl (fun b o _ e => e) hS⟩)
 refine wpAny_bind (wpAny_rule ?_)
 refine wpAny_bind ?_
 show wpAny _ _ (updateSeq S (·.push .none) >>= fun _ => updateSeq S (·.pop)) _ _ _
 refine wpAny_bind (wpAny_updateSeq hS rfl ?_)
 have hS₂ := Heap.get?_update_self (Obj.mapSeq (·.push Value.none)) hS rfl
 refine wpAny_updateSeq (hz := by seq_fits) hS₂ rfl ?_
 have hS₃ := Heap.get?_update_self (Obj.mapSeq (·.pop)) hS₂ rfl
 have oth : ∀ b o, b ≠ S → s.heap.get? b = some o → ((s.heap.update S (Obj.mapSeq (·.push Value.none))).update S (Obj.mapSeq (·.pop))).get? b = some o :=
  fun b o hb e => (Heap.get?_update_other _ _ (Ne.symm hb)).trans ((Heap.get?_update_other _ _ (Ne.symm hb)).trans e)
 obtain ⟨oi, e1, e2, e3⟩ := id hit
 exact wpAny_pure ⟨plainId_quiet F.plain_extend_loop _, key _ _ _ ⟨oi, oth I oi (Ne.symm hSI) e1, e2, e3⟩ (hl.at fun o e => oth l o (Ne.symm hSl) e) (fun b o hb e => oth b o hb e) hS₃⟩
theorem UW (hh : A.handled = none) (hne : l ≠ I) (S : Addr) (hSI : S ≠ I) (hSl : S ≠ l) (hit : s.heap.IsRevIter I l ((items.size : Int) - 1)) (hl : s.heap.IsList l items)
  (hS : s.heap.get? S = some { cls := .type "list", data := .seq #[] }) (hn : items.size ≤ sizeLine)
  (hR : ∀ h' tk acc' c', (∀ b o, b ≠ S → b ≠ I → s.heap.get? b = some o → h'.get? b = some o) → h'.get? S = some { cls := .type "list", dict := none, data := .seq acc' c', slots := #[] } →
   ItemsOf (fun i v => items[items.size - 1 - i]? = some v) acc' items.size → R (.ok (.ret .none)) { s with heap := h', toks := tk }) :
  wpAny (model prog w) A.in1 (Builtin.«list.__init__» ⟨[.ref S, .ref I], []⟩)
   (fun fin s' => match fin with | .done f => R (.ok f) s' | .again c' => c'.quiet = true ∧ codeAny (model prog w) A c' R s') (fun e s' => R (.error e) s') s := by
 show wpAny _ A.in1 (do let old ← Builtin.List.listItems (.ref S); Builtin.List.listUpdate (.ref S) (fun _ => #[]); letGo old.toList.reverse; Builtin.List.listExtendWith (.ref S) (.ref I) .none) _ _ s
 refine wpAny_bind ?_
 unfold Builtin.List.listItems
 refine wpAny_bind (wpAny_seqItems hS rfl (wpAny_pure ?_))
 show wpAny _ A.in1 (updateSeq S (fun _ => #[]) >>= fun _ => letGo (#[] : Array Value).toList.reverse >>= fun _ => Builtin.List.listExtendWith (.ref S) (.ref I) .none) _ _ s
 refine wpAny_bind (wpAny_updateSeq hS rfl ?_)
 have hS₂ := Heap.get?_update_self (Obj.mapSeq (fun _ => (#[] : Array Value))) hS rfl
 have oth : ∀ b o, b ≠ S → s.heap.get? b = some o → (s.heap.update S (Obj.mapSeq (fun _ => (#[] : Array Value)))).get? b = some o :=
  fun b o hb e => (Heap.get?_update_other _ _ (Ne.symm hb)).trans e
 refine wpAny_bind (wpAny_letGo ?_)
 obtain ⟨oi, e1, e2, e3⟩ := id hit
 refine ZY hh hne S hSI hSl .none _ ⟨oi, oth I oi (Ne.symm hSI) e1, e2, e3⟩ (hl.at fun o e => oth l o (Ne.symm hSl) e) hS₂ hn fun h' tk acc' c' hk hS' hacc => ?_
 exact hR h' tk acc' c' (fun b o hb hI e => hk b o hb hI (oth b o hb e)) hS' hacc
theorem LM {Q : Value → Shared → Prop} (hh : A.handled = none) (hne : l ≠ I) (hit : s.heap.IsRevIter I l ((items.size : Int) - 1)) (hl : s.heap.IsList l items) (hn : items.size ≤ sizeLine)
  (hQ : ∀ h' tk c', (∀ b o, b ≠ I → s.heap.get? b = some o → h'.get? b = some o) → h'.get? s.heap.objs.size = some { cls := .type "list", dict := none, data := .seq items.reverse c', slots := #[] } → Q (.ref s.heap.objs.size) { s with heap := h', toks := tk }) :
  wpAny (model prog w) A (call (.type "list") [.ref I]) Q E s := by
 obtain ⟨oi, e1, e2, e3⟩ := id hit
 obtain ⟨ol, f1, f2, nn, f3⟩ := id hl
 have hSI : s.heap.objs.size ≠ I := Nat.ne_of_gt (Heap.lt_size e1)
 have hSl : s.heap.objs.size ≠ l := Nat.ne_of_gt (Heap.lt_size f1)
 refine callType_codes (Q₁ := fun obj s₁ => obj = .ref s.heap.objs.size ∧ s₁ = { s with heap := s.heap.push { cls := .type "list", data := .seq #[] } }) F.called_list (F.typeCall_list_1 _) F.entry_list_init
  (code_list_new _ ⟨rfl, rfl⟩) fun obj s₁ h₁ => ?_
 obtain ⟨rfl, rfl⟩ := h₁
 have hS : (s.heap.push { cls := .type "list", data := .seq #[] }).get? s.heap.objs.size = some { cls := .type "list", data := .seq #[] } := Heap.get?_push_size _ rfl
 refine ⟨⟨_, hS, rfl⟩, F.args_list_init_2 _ _, UW (A := A.in1) (show A.in1.handled = none from hh) hne _ hSI hSl ⟨oi, Heap.get?_push_of_some _ e1, e2, e3⟩ (hl.at fun o e => Heap.get?_push_of_some _ e) hS hn fun h' tk acc' c' hk hS' hacc => ?_⟩
 refine ⟨rfl, hQ h' tk c' (fun b o hb e => hk b o (Nat.ne_of_lt (Heap.lt_size e)) hb (Heap.get?_push_of_some _ e)) ?_⟩
 have ea : acc' = items.reverse := by
  obtain ⟨z1, z2⟩ := hacc
  refine Array.ext (by rw [z1, Array.size_reverse]) fun i h1 h2 => ?_
  have z : items[items.size - 1 - i]? = some acc'[i] := z2 i acc'[i] (Array.getElem?_eq_getElem h1)
  rw [Array.getElem_reverse]
  have hi : items.size - 1 - i < items.size := by rw [z1] at h1; omega
  rw [Array.getElem?_eq_getElem hi] at z
  exact (Option.some.inj z).symm
 rw [← ea]; exact hS'
end
section
variable {X : Cx} {e : Expr} {te : TE} {p p' pos pos' : Pos}
def XZ (K : PySem.W.Frag) (te : TE) : TE := fun σ H Q => te σ H fun x H1 => DR x fun a => ∃ xs, SqL K H1 a xs ∧ ∀ l, H1 l = none → Q (.ref l) (upd H1 l (.lst xs.reverse))
theorem QS (hc : X.calm = true) (hgl : Gl X "list") (hml : X.mg "list" = none) (hgr : Gl X "reversed") (hmr : X.mg "reversed" = none) (ha : PE X e te)
  (he : starEach [.Call (.Name "reversed" p') [e] [] pos'] X.env = [(false, eval (.Call (.Name "reversed" p') [e] [] pos') X.env)] := by rfl)
  (he' : starEach [e] X.env = [(false, eval e X.env)] := by rfl) :
  PE X (.Call (.Name "list" p) [.Call (.Name "reversed" p') [e] [] pos'] [] pos) (XZ X.K te) := by
 intro pins s σ H Q I h
 refine wpAny_Call_Name_kw (EO I hgl hml rfl ?_ (by decide) (by decide))
 refine PyProof.Rows.callWith_type1 ?_ he rfl
 rw [he]
 refine Calls.spliced_cons ?_
 refine wpAny_Call_Name_kw (EO I hgr hmr rfl ?_ (by decide) (by decide))
 refine PyProof.Rows.callWith_type1 ?_ he' rfl
 rw [he']
 refine Calls.spliced_cons (thn (ha pins s σ H _ I h) fun u s1 ⟨x, H1, I1, r1, q1⟩ => Calls.spliced_nil ?_)
 obtain ⟨a, rfl, xs, hq, q⟩ := DR.ex q1
 cases r1
 obtain ⟨its, rv, pl, hz⟩ := I1.list hq
 have hl := pl.isList
 obtain ⟨ol, f1, f2, nn, f3⟩ := id hl
 refine call_reversed_list hl ?_
 refine Calls.spliced_nil ?_
 have hne : a ≠ s1.heap.objs.size := Nat.ne_of_lt (Heap.lt_size f1)
 refine LM (l := a) (I := s1.heap.objs.size) (items := its.toArray) ?_ hne ⟨_, Heap.get?_push_size _ rfl, rfl, rfl⟩ (hl.at fun o e => Heap.get?_push_of_some _ e) (by rw [List.size_toArray, ← rv.length]; exact hz) fun h' tk c' hk hS' => ?_
 ·exact I1.ok.hd hc
 ·have hp : s1.heap.objs.size ≤ (s1.heap.push (revObj a ((its.toArray.size : Int) - 1))).objs.size := by rw [Heap.size_push]; exact Nat.le_succ _
  refine ⟨.ref _, _, I1.laid (t' := tk) (o := .lst xs.reverse) (fun b o e => hk b o (Nat.ne_of_lt (Heap.lt_size e)) (Heap.get?_push_of_some _ e)) hp ?_, rfl, q _ (I1.hok.fresh hp)⟩
  refine ⟨by rw [List.length_reverse]; exact hz, its.reverse, c', rv.reverse, ?_⟩
  rw [hS', List.reverse_toArray]
end
section
variable {X : Cx} {K : PySem.W.Frag} {pos : Pos}
def JR (K : PySem.W.Frag) : List V → Hp → VK → Prop := fun xs H Q => o1 xs fun x => DR x fun p => ∃ ys, SqL K H p ys ∧ ∀ l, H l = none → Q (.ref l) (upd H l (.lst ys))
theorem LK : DJ X (.type "list") (JR X.K) := NH.imp fun _ _ _ z => by
 obtain ⟨x, rfl, z1⟩ := z.ex; obtain ⟨p, rfl, ys, h1, h2⟩ := z1.ex; exact ⟨p, ys, rfl, .inl h1, h2⟩
theorem YC {es : List Expr} {k : Nat} {t : TGs} {n : Nat} (hK : X.K = K) (hc : X.calm = true) (h : PGs X es t)
  (hn : (assignEach es X.env).length = n := by rfl) (hst : (assignEach es X.env).findIdx? (·.1) = none := by rfl) : PG X (.Tuple es k pos) (MD K n t) := hK ▸ FG hc h hn hst
theorem XR (hK : X.K = K) : IxR X (LS K) := hK ▸ AK
end
def KA (t : TE) : TO := fun σ H Q => t σ H fun x H1 => ET x fun i => Q (some i) H1
theorem PO.imp {X : Cx} {e : Option Expr} {t t' : TO} (h : PO X e t) (i : ∀ σ H Q, t' σ H Q → t σ H Q) : PO X e t' := fun pins s σ H Q I q => h pins s σ H Q I (i _ _ _ q)
theorem XB {X : Cx} {e : Expr} {te : TE} (h : PE X e te) : PO X (some e) (KA te) := (ZE h.mono).imp fun _ _ _ q => ⟨_, q, fun _ _ z => z.ex⟩
def OA : R2 := fun x y H Q => DR x fun l => DR y fun b => ∃ xs, H l = some (.lst xs) ∧ ∃ zs, H b = some (.lst zs) ∧ xs.length + zs.length ≤ sizeLine ∧ ∀ p, H p = none → Q (.ref p) (upd H p (.lst (xs ++ zs)))
theorem RH {X : Cx} : OpR X (binaryOp .Add) OA := bB.imp fun _ _ _ _ z => by
 obtain ⟨l, rfl, z1⟩ := z.ex; obtain ⟨b, rfl, xs, h1, zs, h2, h3⟩ := z1.ex; exact ⟨l, b, xs, zs, rfl, rfl, h1, h2, h3⟩
section
variable {X : Cx}
end
section
variable {X : Cx} {pins : List (Addr × Obj)} {σ : St} {H : Hp} {s : Shared} {h' : Heap} {fp : List Addr} {t' : Nat}
end
section
variable {X : Cx} {elts : List Expr} {tx : Nat} {tp p pos : Pos}
end
section
variable {X : Cx} {pins : List (Addr × Obj)} {σ : St} {H : Hp} {s : Shared}
theorem AO.get' : ∀ {vs : List V} {its : List Value} {j : Nat} {u : Value}, AO vs its → its[j]? = some u → ∃ v, vs[j]? = some v ∧ BF v u
 | _, _, j, u, .nil, h => by simp at h
 | _, _, 0, u, .cons r t, h => ⟨_, rfl, by simp at h; exact h ▸ r⟩
 | _, _, j + 1, u, .cons r t, h => by simpa using AO.get' t (by simpa using h)
def dX (x : V) (P : Prop) : Prop := match x with | .non => P | _ => False
theorem dX.ex {x : V} {P : Prop} (h : dX x P) : x = .non ∧ P := by cases x <;> first | exact ⟨rfl, h⟩ | exact h.elim
end
section
variable {X : Cx} {a b : Expr} {ta : TA} {p p' pos pos' : Pos}
end
section
variable {X : Cx}
end
theorem FB {K : PySem.W.Frag} {H : Hp} {ds : List D} {x : V} : Rp K H (.tup ds) x ↔ ∃ p xs, x = .ref p ∧ SqT K H p xs ∧ RpL K H ds xs := by rw [Rp]
section
variable {X : Cx}
theorem VA {prog : Program} {w : World} {A : Around} {E : Value → Shared → Prop} {s : Shared} {t b : Addr} {ws : List Value} {Q : Value → Shared → Prop} (ht : IsTup s.heap t #[]) (hb : IsTup s.heap b ws.toArray) (h : Q (.ref b) s) :
  wpAny (model prog w) A (binaryOp .Add (.ref t) (.ref b)) Q E s := by
 obtain ⟨⟨cls, dd, data, sl⟩, ho, hc, n, hd⟩ := id ht
 obtain ⟨⟨cls2, dd2, data2, sl2⟩, ho2, hc2, n2, hd2⟩ := id hb
 simp only at hc hd hc2 hd2
 subst hc hd hc2 hd2
 exact concat_meets ⟨_, ho, rfl⟩ ⟨_, ho2, rfl⟩ noFill_tuple_add seq_tuple_add PySem.F.slot_tuple_add PySem.F.entry_tuple_add (PySem.F.args_tuple_add_2 _ _)
  (tuple_addW0 t b #[] ws.toArray n n2 dd dd2 sl sl2 (by simp)) ⟨ho, ho2, h⟩
def KY (K : PySem.W.Frag) : R2 := fun x y H Q => ∃ ds es, Rp K H (.tup ds) x ∧ Rp K H (.tup es) y ∧ ds.length + es.length ≤ sizeLine ∧ ∀ v H', AI H H' → Rp K H' (.tup (ds ++ es)) v → Q v H'
theorem NR : OpR X (binaryOp .Add) (KY X.K) := by
 intro pins s σ H x y v u Q I rx ry h
 obtain ⟨ds, es, hx, hy, hz, q⟩ := h
 obtain ⟨a, xs, rfl, ha, la⟩ := FB.mp hx
 obtain ⟨b, ys, rfl, hb, lb⟩ := FB.mp hy
 by_cases h0 : xs = []
 ·subst h0
  have e : ds = [] := by have := la.length; simp at this; exact List.length_eq_zero_iff.mp this.symm
  subst e
  cases rx
  cases ry
  obtain ⟨its, r1, p1, _⟩ := I.tuple ha
  obtain ⟨its2, r2, p2, _⟩ := I.tuple hb
  cases r1
  exact VA p1 p2 ⟨.ref b, H, I, rfl, q _ _ (AI.refl _) hy⟩
 ·refine YG pins s σ H _ _ v u Q I rx ry ⟨a, b, xs, ys, rfl, rfl, ha, hb, h0, by rw [la.length, lb.length]; exact hz, fun e => ?_, fun _ p hp => ?_⟩
  ·subst e
   have e : es = [] := by have := lb.length; simp at this; exact List.length_eq_zero_iff.mp this.symm
   subst e
   exact q _ _ (AI.refl _) (by rw [List.append_nil]; exact hx)
  ·exact q _ _ (AI.upd hp) (FB.mpr ⟨p, _, rfl, SqT.of AB, (la.app lb).same (AI.upd hp)⟩)
theorem HQ (a : Int) (t : Tok) (l : Addr) (items : Array Value) (n : Nat) (dd : Option Addr) (sl : Array (Option Value)) :
  Meets (Builtin.«int.__rmul__» { pos := [.int a t, .ref l] }) fun x R s => s.heap.get? l = some { cls := .type "tuple", dict := dd, data := .seq items n, slots := sl } ∧ R (.ok (.ret .notImplemented)) s := by
 intro prog w A R s ⟨e, h⟩
 unfold Builtin.«int.__rmul__» Builtin.Int.intBinary
 refine wpAny_bind ?_
 rw [show slotArgs "__rmul__" 1 { pos := [.int a t, .ref l] } = pure (.int a t, [.ref l]) from rfl]
 refine wpAny_pure ?_
 dsimp only
 refine wpAny_bind ?_
 rw [show Builtin.Int.intOfSelf (.int a t) = pure a from rfl]
 refine wpAny_pure ?_
 refine wpAny_bind ?_
 show wpAny _ _ (load l >>= _) _ _ _
 refine wpAny_bind (wpAny_load e ?_)
 dsimp only
 refine wpAny_pure ?_
 refine wpAny_bind (wpAny_rule ?_)
 exact wpAny_pure h
theorem EX : fillsNumberSlot (.type "tuple") "mul" = pure false := by first | rfl | decide | (unfold fillsNumberSlot; kernel_rfl)
theorem HE : seqRepeat? (.type "tuple") = pure (some (.builtin "tuple.__mul__")) := by first | rfl | (unfold seqRepeat?; kernel_rfl)
theorem ZA {l : Addr} {items : Array Value} {n : Nat} {dd : Option Addr} {sl : Array (Option Value)} {k : Int} {t : Tok} (h0 : 2 ≤ k) (h1 : k < 2 ^ 62) (hz : items.size * k.toNat ≤ sizeLine) (hne : items.isEmpty = false) :
  Meets (Builtin.«tuple.__mul__» { pos := [.ref l, .int k t] }) fun x R s => s.heap.get? l = some { cls := .type "tuple", dict := dd, data := .seq items n, slots := sl } ∧
   R (.ok (.ret (.ref s.heap.objs.size))) { s with heap := s.heap.push { cls := .type "tuple", data := .seq (List.foldl (fun x1 x2 => x1 ++ x2) #[] (List.replicate k.toNat items)) } } := by
 intro prog w A R s ⟨e, h⟩
 show wpAny _ _ (asIndex (.int k t) >>= _) _ _ s
 refine wpAny_bind ?_
 rw [show asIndex (.int k t) = pure k from rfl]
 refine wpAny_pure ?_
 dsimp only
 rw [if_neg (by simp; omega)]
 refine wpAny_bind (wpAny_tupleItemsOf e rfl ?_)
 try dsimp only
 rw [if_neg (by simp [hne]; omega), if_neg (by simp [hne]; omega)]
 have hk : k = (k.toNat : Int) := by omega
 have hm : (items.size : Int) * k ≤ sizeLine := by rw [hk, ← Int.natCast_mul]; exact Int.ofNat_le.mpr hz
 rw [sizeLine_eq] at hm
 rw [if_neg (by omega), if_neg (by unfold Builtin.Tuple.tupleTooMany; rw [sizeLine_eq]; simp; omega)]
 have hsz : (List.foldl (fun x1 x2 => x1 ++ x2) #[] (List.replicate k.toNat items)).size ≤ sizeLine := by
  have f0 := IJ items.toList k.toNat []
  rw [List.nil_append] at f0
  rw [show items = items.toList.toArray by simp, f0, List.size_toArray, RJ, Nat.mul_comm]
  simpa using hz
 exact wpAny_bind (m := Builtin.Tuple.tupleExact _) (wpAny_newObj_type (wpAny_pure h) hsz)
theorem XG {l : Addr} {items : Array Value} {n : Nat} {dd : Option Addr} {sl : Array (Option Value)} {k : Int} {t : Tok} (h0 : -(2 ^ 62) ≤ k) (h1 : k < 2 ^ 62) (hne : items.isEmpty = true) :
  Meets (Builtin.«tuple.__mul__» { pos := [.ref l, .int k t] }) fun x R s => s.heap.get? l = some { cls := .type "tuple", dict := dd, data := .seq items n, slots := sl } ∧ R (.ok (.ret (.ref l))) s := by
 intro prog w A R s ⟨e, h⟩
 show wpAny _ _ (asIndex (.int k t) >>= _) _ _ s
 refine wpAny_bind ?_
 rw [show asIndex (.int k t) = pure k from rfl]
 refine wpAny_pure ?_
 dsimp only
 rw [if_neg (by simp; omega)]
 refine wpAny_bind (wpAny_tupleItemsOf e rfl ?_)
 try dsimp only
 rw [if_pos (by simp [hne])]
 unfold Builtin.Tuple.tupleIsExact
 refine wpAny_bind (wpAny_bind (wpAny_typeOf (show s.TypeIs (.ref l) "tuple" from ⟨_, e, rfl⟩) (wpAny_pure ?_)))
 rw [if_pos (by decide)]
 refine wpAny_bind (wpAny_rule ?_)
 exact wpAny_pure h
def KC (K : PySem.W.Frag) : R2 := fun x y H Q => ET y fun k => ∃ ds, Rp K H (.tup ds) x ∧ 2 ≤ k ∧ k < 2 ^ 62 ∧ ds.length * k.toNat ≤ sizeLine ∧ ∀ v H', AI H H' → Rp K H' (.tup (List.replicate k.toNat ds).flatten) v → Q v H'
theorem RG {K : PySem.W.Frag} {H : Hp} {ds : List D} {xs : List V} (h : RpL K H ds xs) : ∀ n : Nat, RpL K H (List.replicate n ds).flatten (List.replicate n xs).flatten
 | 0 => RpL.nil
 | n + 1 => by rw [List.replicate_succ, List.replicate_succ, List.flatten_cons, List.flatten_cons]; exact h.app (RG h n)
theorem XT : OpR X (binaryOp .Mult) (KC X.K) := by
 intro pins s σ H x y v u Q I rx ry h
 obtain ⟨k, rfl, ds, hx, h0, h1, hz, q⟩ := ET.ex h
 obtain ⟨a, xs, rfl, ha, la⟩ := FB.mp hx
 cases rx
 obtain ⟨t, rfl⟩ := ry
 obtain ⟨its, r1, p1, _⟩ := I.tuple ha
 obtain ⟨⟨cls, dd, data, sl⟩, e, hc, n, hd⟩ := id p1
 simp only at hc hd
 subst hc hd
 have l1 : its.length = ds.length := by rw [← r1.length, la.length]
 by_cases hne : ds = []
 ·subst hne
  have e0 : its = [] := List.length_eq_zero_iff.mp l1
  subst e0
  have ef : (List.replicate k.toNat ([] : List D)).flatten = [] := by simp
  rw [ef] at q
  exact wpAny_binaryOp_repeat_ref (T := "tuple") (U := "int") (by decide) ⟨_, e, rfl⟩ (fun s' => typeIs_int s' k t) EX F.fills_int_mul F.slot_int_rmul HE F.slot_int_index.lookup
   (call_meets F.slot_int_rmul (typeIs_int s k t) F.entry_int_rmul (F.args_int_rmul_2 _ _) (HQ k t a _ n dd sl)
    ⟨e, rfl, ⟨_, e, rfl⟩, call_meets F.slot_tuple_mul ⟨_, e, rfl⟩ F.entry_tuple_mul (F.args_tuple_mul_2 _ _) (XG (by omega) h1 rfl) ⟨e, ⟨.ref a, H, I, rfl, q _ _ (AI.refl _) hx⟩⟩⟩)
 refine wpAny_binaryOp_repeat_ref (T := "tuple") (U := "int") (by decide) ⟨_, e, rfl⟩ (fun s' => typeIs_int s' k t) EX F.fills_int_mul F.slot_int_rmul HE F.slot_int_index.lookup
  (call_meets F.slot_int_rmul (typeIs_int s k t) F.entry_int_rmul (F.args_int_rmul_2 _ _) (HQ k t a its.toArray n dd sl)
   ⟨e, rfl, ⟨_, e, rfl⟩, call_meets F.slot_tuple_mul ⟨_, e, rfl⟩ F.entry_tuple_mul (F.args_tuple_mul_2 _ _) (ZA h0 h1 (by rw [List.size_toArray, l1]; exact hz) (by
    cases its with
    | nil => simp at l1; exact absurd (List.length_eq_zero_iff.mp l1.symm) hne
    | cons _ _ => rfl)) ⟨e, ?_⟩⟩)
 have f0 := IJ its k.toNat []
 rw [List.nil_append] at f0
 rw [f0]
 have hz' : ((List.replicate k.toNat xs).flatten).length ≤ sizeLine := by rw [RJ, Nat.mul_comm, la.length]; exact hz
 refine ⟨.ref _, _, I.laid (t' := s.toks) (o := .tup (List.replicate k.toNat xs).flatten) (fun b ob q => Heap.get?_push_of_some _ q) (Nat.le_refl _) ⟨hz', _, r1.rep k.toNat, IsTup.new _ _⟩, rfl, q _ _ (AI.upd I.fresh) (FB.mpr ⟨_, _, rfl, SqT.of AB, (RG la k.toNat).same (AI.upd I.fresh)⟩)⟩
abbrev EnT := List (List Key × Addr × V)
section
variable {pins : List (Addr × Obj)} {σ : St} {H : Hp} {s : Shared} {a b : Addr} {es : EnT} {k : List Key}
end
section
variable {o i value : Expr} {pos pos' : Pos} {td ty tv : TE}
end
end
abbrev NK := Int × Int × Int × Int
def MV (h : Heap) (k : NK) (a : Addr) : Prop := ∃ (p q : Addr) (ti th ta tb : Tok), IsTup h a #[.int k.1 ti, .ref p] ∧ IsTup h p #[.int k.2.1 th, .ref q] ∧ IsTup h q #[.int k.2.2.1 ta, .int k.2.2.2 tb]
theorem DL {h : Heap} {a : Addr} {xs ys : Array Value} (p : IsTup h a xs) (q : IsTup h a ys) : xs = ys := by
 obtain ⟨o, e, _, n, d⟩ := p
 obtain ⟨o', e', _, n', d'⟩ := q
 rw [e] at e'
 cases e'
 rw [d] at d'
 injection d'
theorem MV.inj {h : Heap} {a : Addr} {x y : NK} (hx : MV h x a) (hy : MV h y a) : x = y := by
 obtain ⟨p, q, _, _, _, _, h1, h2, h3⟩ := hx
 obtain ⟨p', q', _, _, _, _, g1, g2, g3⟩ := hy
 have e1 := DL h1 g1
 simp at e1
 obtain ⟨⟨a1, _⟩, rfl⟩ := e1
 have e2 := DL h2 g2
 simp at e2
 obtain ⟨⟨a2, _⟩, rfl⟩ := e2
 have e3 := DL h3 g3
 simp at e3
 obtain ⟨⟨a3, _⟩, a4, _⟩ := e3
 obtain ⟨x1, x2, x3, x4⟩ := x
 obtain ⟨y1, y2, y3, y4⟩ := y
 simp_all
theorem IG {h h' : Heap} {a d : Addr} {xs : Array Value} {o : Obj} {es : Array DictEntry} {ep : Nat} (p : IsTup h a xs) (hd : h.get? d = some o) (e : o.data = .dict es ep) (s : Heap.SameBut d h h') : IsTup h' a xs := by
 obtain ⟨o', e', c, n, dd⟩ := p
 have hne : a ≠ d := by
  rintro rfl
  rw [hd] at e'
  cases e'
  rw [e] at dd
  cases dd
 exact ⟨o', by rw [s.2 a hne]; exact e', c, n, dd⟩
def MH (x y : Int) : Int := reduceHash (Builtin.Tuple.tupleHashOf [x, y])
section
variable {prog : Program} {w : World} {A : Around} {E : Value → Shared → Prop} {s : Shared}
theorem ID {a : Addr} {u v : Value} {Q : Int → Shared → Prop} (ht : IsTup s.heap a #[u, v]) (hA : A.units < cLine)
  (h : wpAny (model prog w) A.in1 (pyHash u) (fun x s1 => wpAny (model prog w) A.in1 (pyHash v) (fun y s2 => Q (MH x y) { s2 with toks := s2.toks + 1 }) E s1) E s) : wpAny (model prog w) A (pyHash (.ref a)) Q E s := by
 show wpAny (model prog w) A (pyHashByItsType (.ref a)) Q E s
 refine W.pyHash_slot (T := "tuple") ht.typeIs PySem.F.slot_tuple_hash PySem.F.entry_tuple_hash (PySem.F.args_tuple_hash_1 _) (by decide) (.inr hA) ?_
 unfold Builtin.«tuple.__hash__»
 refine wpAny_bind ?_
 rw [show slotArgs "__hash__" 0 { pos := [.ref a] } = pure (.ref a, []) from rfl]
 refine wpAny_pure ?_
 dsimp only
 refine wpAny_bind (tupleItemsOf_ ht ?_)
 refine wpAny_bind ?_
 rw [show (#[u, v] : Array Value) = [u, v].toArray from rfl, List.forIn_toArray, List.forIn_cons]
 refine wpAny_bind (wpAny_bind (wpAny_mono h (fun x s1 h1 => wpAny_pure ?_) fun _ _ z => z))
 dsimp only
 rw [List.forIn_cons]
 refine wpAny_bind (wpAny_bind (wpAny_mono h1 (fun y s2 h2 => wpAny_pure ?_) fun _ _ z => z))
 dsimp only
 rw [List.forIn_nil]
 refine wpAny_pure ?_
 exact wpAny_bind (wpAny_mkInt (wpAny_pure ⟨_, _, rfl, h2⟩))
def XC (k : NK) : Int := MH (hashInt k.1) (MH (hashInt k.2.1) (MH (hashInt k.2.2.1) (hashInt k.2.2.2)))
theorem YQ {k : NK} {a : Addr} {Q : Int → Shared → Prop} (hA : A.units + 3 < cLine) (hk : MV s.heap k a) (q : Q (XC k) { s with toks := s.toks + 7 }) : wpAny (model prog w) A (pyHash (.ref a)) Q E s := by
 obtain ⟨p, r, ti, th, ta, tb, h1, h2, h3⟩ := hk
 refine ID h1 (by omega) (wpAny_pyHash_int ?_)
 refine ID (s := { s with toks := s.toks + 1 }) h2 (show A.units + 1 < cLine by omega) (wpAny_pyHash_int ?_)
 refine ID (s := { s with toks := s.toks + 1 + 1 }) h3 (show A.units + 1 + 1 < cLine by omega) (wpAny_pyHash_int (wpAny_pyHash_int ?_))
 exact q
theorem XS {k : NK} {a : Addr} {Q : Bool → Shared → Prop} (hk : MV s.heap k a) (q : Q true s) : wpAny (model prog w) A (eqIsQuiet 8 (.ref a)) Q E s := by
 obtain ⟨p, r, ti, th, ta, tb, h1, h2, h3⟩ := hk
 have step : ∀ (n : Nat) (a : Addr) (u v : Value) (Q : Bool → Shared → Prop), IsTup s.heap a #[u, v] → wpAny (model prog w) A (eqIsQuiet n u) (fun b s1 => b = true ∧ s1 = s) E s → wpAny (model prog w) A (eqIsQuiet n v) (fun b s1 => b = true ∧ s1 = s) E s → Q true s → wpAny (model prog w) A (eqIsQuiet (n + 1) (.ref a)) Q E s := by
  intro n a u v Q ht hu hv q
  rw [eqIsQuiet.eq_2]
  refine wpAny_bind (wpAny_specialOf ht.typeIs PySem.F.slot_tuple_eq.lookup ?_)
  show wpAny _ _ (PySem.isInstance (.ref a) (.type "tuple") >>= _) _ _ _
  refine wpAny_bind (wpAny_isInstance ht.typeIs isSubtype_tuple_tuple ?_)
  rw [if_neg (by decide)]
  obtain ⟨o, e, c, n', d⟩ := ht
  rw [seqItems?.eq_1]
  refine wpAny_bind (wpAny_bind (wpAny_load e ?_))
  rw [d]
  refine wpAny_pure ?_
  refine wpAny_bind ?_
  rw [show ((some (#[u, v] : Array Value)).getD #[]) = [u, v].toArray from rfl, List.forIn_toArray, List.forIn_cons]
  refine wpAny_bind (wpAny_bind (wpAny_mono hu (fun b s1 hb => ?_) fun _ _ z => z))
  obtain ⟨rfl, rfl⟩ := hb
  rw [if_neg (by decide)]
  refine wpAny_pure ?_
  dsimp only
  rw [List.forIn_cons]
  refine wpAny_bind (wpAny_bind (wpAny_mono hv (fun b s1 hb => ?_) fun _ _ z => z))
  obtain ⟨rfl, rfl⟩ := hb
  rw [if_neg (by decide)]
  refine wpAny_pure ?_
  dsimp only
  rw [List.forIn_nil]
  exact wpAny_pure (wpAny_pure q)
 have fl : ∀ (n : Nat) (i : Int) (t : Tok), wpAny (model prog w) A (eqIsQuiet n (.int i t)) (fun b s1 => b = true ∧ s1 = s) E s := fun n i t => by
  rw [eqIsQuiet_byValue n (by rfl)]
  exact wpAny_pure ⟨rfl, rfl⟩
 exact step 7 a _ _ _ h1 (fl _ _ _) (step 6 p _ _ _ h2 (fl _ _ _) (step 5 r _ _ _ h3 (fl _ _ _) (fl _ _ _) ⟨rfl, rfl⟩) ⟨rfl, rfl⟩) q
theorem MS {a b : Addr} {u v u' v' : Value} {k1 k2 : Bool} (h1 : IsTup s.heap a #[u, v]) (h2 : IsTup s.heap b #[u', v']) (hA : A.units < cLine) (e1 : SeqAt.EqAt A.in1 s u u' k1) (e2 : SeqAt.EqAt A.in1 s v v' k2) (hs : a = b → (k1 && k2) = true) : SeqAt.EqAt A s (.ref a) (.ref b) (k1 && k2) := by
 by_cases hab : a = b
 ·rw [hs hab]
  subst hab
  exact SeqAt.EqAt.same _
 ·have key := SeqAt.RcAt.tuples (e := fun j => if j = 0 then k1 else k2) h1 h2 hA (fun j g1 g2 => by
   have hj : j = 0 ∨ j = 1 := by simp at g1; omega
   rcases hj with rfl | rfl
   ·exact e1
   ·exact e2)
  refine SeqAt.EqAt.of_refs hab ?_
  have e : ((List.range (min (#[u, v] : Array Value).size (#[u', v'] : Array Value).size)).all (fun j => if j = 0 then k1 else k2) && (#[u, v] : Array Value).size == (#[u', v'] : Array Value).size) = (k1 && k2) := by
   cases k1 <;> cases k2 <;> rfl
  rw [e] at key
  exact key
theorem dD {x y : NK} {a b : Addr} {Q : Bool → Shared → Prop} (hA : A.units + 3 < cLine) (hx : MV s.heap x a) (hy : MV s.heap y b) (q : Q (decide (x = y)) s) : wpAny (model prog w) A (eqBool (.ref a) (.ref b)) Q E s := by
 obtain ⟨p, r, ti, th, ta, tb, h1, h2, h3⟩ := hx
 obtain ⟨p', r', ti', th', ta', tb', g1, g2, g3⟩ := hy
 have E3 : SeqAt.EqAt A.in1.in1 s (.ref r) (.ref r') ((x.2.2.1 == y.2.2.1) && (x.2.2.2 == y.2.2.2)) := MS h3 g3 (show A.units + 1 + 1 < cLine by omega) (SeqAt.EqAt.int_int _ _ _ _) (SeqAt.EqAt.int_int _ _ _ _) (by
  rintro rfl
  have := DL h3 g3
  simp at this
  simp [this.1.1, this.2.1])
 have E2 : SeqAt.EqAt A.in1 s (.ref p) (.ref p') ((x.2.1 == y.2.1) && ((x.2.2.1 == y.2.2.1) && (x.2.2.2 == y.2.2.2))) := MS h2 g2 (show A.units + 1 < cLine by omega) (SeqAt.EqAt.int_int _ _ _ _) E3 (by
  rintro rfl
  have := DL h2 g2
  simp at this
  obtain ⟨⟨a1, _⟩, rfl⟩ := this
  have := DL h3 g3
  simp at this
  simp [this.1.1, this.2.1, a1])
 have E1 : SeqAt.EqAt A s (.ref a) (.ref b) ((x.1 == y.1) && ((x.2.1 == y.2.1) && ((x.2.2.1 == y.2.2.1) && (x.2.2.2 == y.2.2.2)))) := MS h1 g1 (by omega) (SeqAt.EqAt.int_int _ _ _ _) E2 (by
  rintro rfl
  have := DL h1 g1
  simp at this
  obtain ⟨⟨a0, _⟩, rfl⟩ := this
  have := DL h2 g2
  simp at this
  obtain ⟨⟨a1, _⟩, rfl⟩ := this
  have := DL h3 g3
  simp at this
  simp [this.1.1, this.2.1, a1, a0])
 refine E1 prog w E Q ?_
 have e : ((x.1 == y.1) && ((x.2.1 == y.2.1) && ((x.2.2.1 == y.2.2.1) && (x.2.2.2 == y.2.2.2)))) = decide (x = y) := by
  obtain ⟨x1, x2, x3, x4⟩ := x
  obtain ⟨y1, y2, y3, y4⟩ := y
  rw [Bool.eq_iff_iff]
  simp [Prod.ext_iff]
 rw [e]
 exact q
def bT (prog : Program) (w : World) : HeapKind prog w NK where
 is := MV
 hash := XC
 draws := fun _ => 7
 room := fun A => A.units + 3 < cLine
 inj := MV.inj
 keeps := fun ⟨p, q, ti, th, ta, tb, h1, h2, h3⟩ hd e sb => ⟨p, q, ti, th, ta, tb, IG h1 hd e sb, IG h2 hd e sb, IG h3 hd e sb⟩
 pyHash := fun hA hk q => YQ hA hk q
 eqBool := fun hA hx hy q => dD hA hx hy q
 quiet := fun hk q => XS hk q
end
abbrev EnN := List (NK × Addr × V)
def EVN : EnN → List (NK × Addr × Value) → Prop := Paired fun p q => p.1 = q.1 ∧ p.2.1 = q.2.1 ∧ BF p.2.2 q.2.2
def DN (P : Program) (w : World) (a : Addr) (es : EnN) (ep : Nat) : HO := .ext fun h => (a == sysModules) = false ∧ ∃ xs, EVN es xs ∧ ∃ o en, h.get? a = some o ∧ o.ExactDict ∧ o.data = .dict en ep ∧ en.toList = xs.map (entryOfKey (bT P w)) ∧ (xs.map (·.1)).Nodup
def nkD (k : NK) : D := .tup [.int k.1, .tup [.int k.2.1, .tup [.int k.2.2.1, .int k.2.2.2]]]
def aN (K : PySem.W.Frag) (H : Hp) (es : EnN) : Prop := ∀ x ∈ es, Rp K H (nkD x.1) (.ref x.2.1)
theorem EVN.mem : ∀ {es : EnN} {xs : List (NK × Addr × Value)}, EVN es xs → ∀ x ∈ xs, ∃ y ∈ es, y.1 = x.1 ∧ y.2.1 = x.2.1
 | _, _, .nil, x, hx => by cases hx
 | _, _, .cons h t, x, hx => by
  rcases List.mem_cons.mp hx with rfl | hx
  ·exact ⟨_, List.mem_cons_self, h.1, h.2.1⟩
  ·obtain ⟨y, hy, e⟩ := EVN.mem t x hx
   exact ⟨y, List.mem_cons_of_mem _ hy, e⟩
theorem EVN.app {es es' : EnN} {xs xs' : List (NK × Addr × Value)} (h : EVN es xs) (h' : EVN es' xs') : EVN (es ++ es') (xs ++ xs') := by
 unfold EVN at *
 induction h with
 | nil => exact h'
 | cons a _ ih => exact .cons a ih
def lkN (es : EnN) (k : NK) : Option V := (es.find? fun x => decide (x.1 = k)).map (·.2.2)
theorem EVN.look : ∀ {es : EnN} {xs : List (NK × Addr × Value)} {k : NK} {v : V}, EVN es xs → lkN es k = some v → ∃ p, atKey xs k = some p ∧ BF v p.2
 | _, _, k, v, .nil, h => by cases h
 | (k1, a1, v1) :: es, (k2, a2, v2) :: xs, k, v, .cons h t, e => by
  obtain ⟨rfl, rfl, r⟩ := h
  unfold lkN at e
  unfold atKey
  rw [List.find?_cons] at e ⊢
  by_cases hk : k1 = k
  ·simp only [hk, decide_true] at e ⊢
   cases e
   exact ⟨_, rfl, r⟩
  ·simp only [hk, decide_false] at e ⊢
   exact EVN.look t e
theorem EVN.none : ∀ {es : EnN} {xs : List (NK × Addr × Value)} {k : NK}, EVN es xs → lkN es k = none → atKey xs k = none
 | _, _, k, .nil, _ => rfl
 | (k1, a1, v1) :: es, (k2, a2, v2) :: xs, k, .cons h t, e => by
  obtain ⟨rfl, rfl, r⟩ := h
  unfold lkN at e
  unfold atKey
  rw [List.find?_cons] at e ⊢
  by_cases hk : k1 = k
  ·simp only [hk, decide_true] at e
   cases e
  ·simp only [hk, decide_false] at e ⊢
   exact EVN.none t e
section
variable {X : Cx} {pins : List (Addr × Obj)} {σ : St} {H : Hp} {s : Shared} {a b : Addr} {es : EnN} {ep : Nat} {k : NK}
end
section
variable {X : Cx} {o e f : Expr} {pos apos cpos : Pos} {td ty tx : TE}
end
def KI (h : Heap) (it d : Addr) (i n ep : Nat) : Prop := h.get? it = some { cls := .type "dict_keyiterator", data := .fields #[.ref d, .int i 0, .int n 0, .int ep 0] }
section
variable {prog : Program} {w : World} {A : Around} {E : Value → Shared → Prop} {s : Shared} {it d : Addr} {i n ep : Nat} {o : Obj} {en : Array DictEntry}
theorem KI.typeIs (k : KI s.heap it d i n ep) : s.TypeIs (.ref it) "dict_keyiterator" := ⟨_, k, rfl⟩
end
section
variable {X : Cx} {pins : List (Addr × Obj)} {σ : St} {H : Hp} {s : Shared} {d : Addr} {es : EnN} {ep : Nat}
end
section
variable {X : Cx} {tg l : Expr} {tl : TE}
end
def ZI (P : Program) (w : World) (K : PySem.W.Frag) (js : List Nat) (os : List Str) (wi : TI) (g : TG) (tk tv : TE) : TE := fun σ H Q => wi σ H fun J H1 => ∀ p ep, H1 p = none →
 ∃ W : Nat → Nat → St → Hp → Prop, (∃ m, W 0 m (stC js os σ) (upd H1 p (DN P w p [] ep))) ∧ ∀ i m σ H, W i m σ H →
  (J.stop i H ∧ Q (.ref p) H) ∨ (J.go i H ∧ ∀ x H', J.yld i H x H' → g x σ H' fun σ2 H2 => tk σ2 H2 fun y H3 => tv σ2 H3 fun z H4 => DR y fun b =>
   ∃ (es : EnN) (ep : Nat) (k : NK), H4 p = some (DN P w p es ep) ∧ aN K H4 es ∧ es.length ≤ 10000 ∧ Rp K H4 (nkD k) (.ref b) ∧ lkN es k = none ∧ ∀ ep', ∃ m', m' < m ∧ W (i + 1) m' σ2 (upd H4 p (DN P w p (es ++ [(k, b, z)]) ep')))
section
variable {X : Cx}
end
section
variable {prog : Program} {w : World} {A : Around} {R : Result → Shared → Prop} {s : Shared} {elt tg iter tg2 iter2 : Expr} {scope : Scope} {pos : Pos} {it acc : Value} {env : Env}
end
def bC (js : List Nat) (os : List Str) (wi : TI) (g : TG) (wj : TI) (g2 : TG) (te : TE) : TE := fun σ H Q => wi σ H fun J H1 => ∀ p, H1 p = none →
 ∃ W : Nat → Nat → St → Hp → Prop, (∃ m, W 0 m (stC js os σ) (upd H1 p (.lst []))) ∧ ∀ i m σ H, W i m σ H →
  (J.stop i H ∧ Q (.ref p) H) ∨ (J.go i H ∧ ∀ x H', J.yld i H x H' → g x σ H' fun σ2 H2 => wj σ2 H2 fun J2 H3 =>
   ∃ V : Nat → Nat → St → Hp → Prop, (∃ m2, V 0 m2 σ2 H3) ∧ ∀ j m2 σ H, V j m2 σ H →
    (J2.stop j H ∧ ∃ m', m' < m ∧ W (i + 1) m' σ H) ∨ (J2.go j H ∧ ∀ x2 H', J2.yld j H x2 H' → g2 x2 σ H' fun σ4 H4 => te σ4 H4 fun y H5 =>
     ∃ ys, H5 p = some (.lst ys) ∧ ys.length < sizeLine ∧ ∃ m', m' < m2 ∧ V (j + 1) m' σ4 (upd H5 p (.lst (ys ++ [y])))))
section
variable {X : Cx}
end
section
variable {X : Cx} {o i : Expr} {pos : Pos} {td ty : TE}
end
def LtAt (A : Around) (s : Shared) (x y : Value) (b : Bool) : Prop := ∀ (prog : Program) (w : World) (E : Value → Shared → Prop) (Q : Value → Shared → Prop), Q (.bool b) s → wpAny (model prog w) A (richCompare .Lt x y) Q E s
section
variable {A : Around} {s : Shared}
theorem lt_int (i j : Int) (t u : Tok) : LtAt A s (.int i t) (.int j u) (decide (i < j)) := fun prog w E Q q => by
 exact wpAny_lt_int (a := i) (b := j) (t := t) (u := u) q
end
open PySem.W in
def JC {α : Type} (n : Nat) (f : Nat → Nat → Bool) (P : α → Prop) : KasT α → Prop
 | .ret a => P a
 | .ask i j k => i < n ∧ j < n ∧ JC n f P (k (f i j))
section
open PySem.W
variable {n : Nat} {f : Nat → Nat → Bool}
theorem JC.bind {α β : Type} {P : α → Prop} {P' : β → Prop} {g : α → KasT β} (h : ∀ a, P a → JC n f P' (g a)) : ∀ {t : KasT α}, JC n f P t → JC n f P' (t.bind g)
 | .ret a, q => h a q
 | .ask i j k, q => ⟨q.1, q.2.1, JC.bind h q.2.2⟩
def OG (n : Nat) (p : Array Nat) : Prop := 0 < n ∧ p.Perm (List.range n).toArray
theorem OG.lt {p : Array Nat} (h : OG n p) (i : Nat) : p.getD i 0 < n := by
 unfold Array.getD
 split
 ·rename_i hi
  have hm : p[i] ∈ p := Array.getElem_mem hi
  have := h.2.mem_iff.mp hm
  simpa using this
 ·exact h.1
end
abbrev Q4 := Int × Int × Int × Int
def q4D (p : Q4) : D := plc p.1 p.2.1 p.2.2.1 p.2.2.2
abbrev Sk := Int × Q4 × Q4
def skD (k : Sk) : D := .tup [.int k.1, q4D k.2.1, q4D k.2.2]
def nlt (a b c d : Int) : Bool := if (a == c) = true then (if (b == d) = true then false else decide (b < d)) else decide (a < c)
def plt (p q : Q4) : Bool := if deq (num p.1 p.2.1) (num q.1 q.2.1) = true then (if deq (num p.2.2.1 p.2.2.2) (num q.2.2.1 q.2.2.2) = true then false else nlt p.2.2.1 p.2.2.2 q.2.2.1 q.2.2.2) else nlt p.1 p.2.1 q.1 q.2.1
def sklt (k l : Sk) : Bool := if (k.1 == l.1) = true then (if deq (q4D k.2.1) (q4D l.2.1) = true then (if deq (q4D k.2.2) (q4D l.2.2) = true then false else plt k.2.2 l.2.2) else plt k.2.1 l.2.1) else decide (k.1 < l.1)
section
variable {X : Cx} {pins : List (Addr × Obj)} {σ : St} {H : Hp} {s : Shared} {A : Around}
end
section
open PySem.W
def YB {α : Type} (f : Nat → Nat → Bool) : KasT α → α
 | .ret a => a
 | .ask i j k => YB f (k (f i j))
theorem JC.run {α : Type} {n : Nat} {f : Nat → Nat → Bool} {P : α → Prop} : ∀ {t : KasT α}, JC n f P t → JC n f (fun a => a = YB f t ∧ P a) t
 | .ret a, g => ⟨rfl, g⟩
 | .ask i j k, g => ⟨g.1, g.2.1, JC.run g.2.2⟩
theorem JC.post {α : Type} {n : Nat} {f : Nat → Nat → Bool} {P : α → Prop} {t : KasT α} : JC n f P t → P (YB f t) := by
 induction t with
 | ret a => exact id
 | ask i j k ih => exact fun g => ih _ g.2.2
end
def cX (ks : List Sk) (i j : Nat) : Bool := sklt (ks.getD i (0, (0, 0, 0, 0), (0, 0, 0, 0))) (ks.getD j (0, (0, 0, 0, 0), (0, 0, 0, 0)))
def sres (ks : List Sk) : List Nat := if ks.length < 2 then List.range ks.length else (YB (cX ks) (PySem.W.kas_sort ks.length)).toList
section
variable {X : Cx}
end
def KxE (K : PySem.W.Frag) (k : Int × D) (e : DictEntry) : Prop := (∃ t, e.key = .int k.1 t) ∧ e.hash = hashInt k.1 ∧ ∃ v, BF v e.val ∧ ∀ H, Rp K H k.2 v
structure KX (K : PySem.W.Frag) (ks : List (Int × D)) (u : Value) : Prop where
 ex : ∃ p o en ep, u = .ref p ∧ K.lookup p = some o ∧ o.ExactDict ∧ o.data = .dict en ep ∧ Paired (KxE K) ks en.toList
section
variable {X : Cx} {o i : Expr} {pos : Pos} {td ty : TE}
end
section
variable {X : Cx} {tg : Expr}
end
def DCW (P : Program) (w : World) (K : PySem.W.Frag) (J : It) (g : TG) (tk tv : TE) (p : Addr) (Q : VK) (σ : St) (H1 : Hp) : Prop :=
 ∃ W : Nat → Nat → St → Hp → Prop, (∃ m, W 0 m σ H1) ∧ ∀ i m σ H, W i m σ H →
  (J.stop i H ∧ Q (.ref p) H) ∨ (J.go i H ∧ ∀ x H', J.yld i H x H' → g x σ H' fun σ2 H2 => tk σ2 H2 fun y H3 => tv σ2 H3 fun z H4 => DR y fun b =>
   ∃ (es : EnN) (ep : Nat) (k : NK), H4 p = some (DN P w p es ep) ∧ aN K H4 es ∧ es.length ≤ 10000 ∧ Rp K H4 (nkD k) (.ref b) ∧ lkN es k = none ∧ ∀ ep', ∃ m', m' < m ∧ W (i + 1) m' σ2 (upd H4 p (DN P w p (es ++ [(k, b, z)]) ep')))
theorem FC (P : Program) (w : World) (K : PySem.W.Frag) (js : List Nat) (os : List Str) (wi : TI) (g : TG) (tk tv : TE) (σ : St) (H : Hp) (Q : VK) : ZI P w K js os wi g tk tv σ H Q = wi σ H fun J H1 => ∀ p ep, H1 p = none → DCW P w K J g tk tv p Q (stC js os σ) (upd H1 p (DN P w p [] ep)) := rfl
def IW (J2 : It) (g2 : TG) (te : TE) (p : Addr) (R : St → Hp → Prop) (σ : St) (H3 : Hp) : Prop :=
 ∃ V : Nat → Nat → St → Hp → Prop, (∃ m2, V 0 m2 σ H3) ∧ ∀ j m2 σ H, V j m2 σ H →
  (J2.stop j H ∧ R σ H) ∨ (J2.go j H ∧ ∀ x2 H', J2.yld j H x2 H' → g2 x2 σ H' fun σ4 H4 => te σ4 H4 fun y H5 =>
   ∃ ys, H5 p = some (.lst ys) ∧ ys.length < sizeLine ∧ ∃ m', m' < m2 ∧ V (j + 1) m' σ4 (upd H5 p (.lst (ys ++ [y]))))
def CW2 (J : It) (g : TG) (wj : TI) (g2 : TG) (te : TE) (p : Addr) (Q : VK) (σ : St) (H1 : Hp) : Prop :=
 ∃ W : Nat → Nat → St → Hp → Prop, (∃ m, W 0 m σ H1) ∧ ∀ i m σ H, W i m σ H →
  (J.stop i H ∧ Q (.ref p) H) ∨ (J.go i H ∧ ∀ x H', J.yld i H x H' → g x σ H' fun σ2 H2 => wj σ2 H2 fun J2 H3 => IW J2 g2 te p (fun σ H => ∃ m', m' < m ∧ W (i + 1) m' σ H) σ2 H3)
theorem GK (js : List Nat) (os : List Str) (wi : TI) (g : TG) (wj : TI) (g2 : TG) (te : TE) (σ : St) (H : Hp) (Q : VK) : bC js os wi g wj g2 te σ H Q = wi σ H fun J H1 => ∀ p, H1 p = none → CW2 J g wj g2 te p Q (stC js os σ) (upd H1 p (.lst [])) := rfl
section
variable {X : Cx}
end
section
variable {X : Cx}
end
section
open PySem.W
structure dH (n : Nat) (f : Nat → Nat → Bool) : Prop where
 tr : ∀ i j k, i < n → j < n → k < n → f i j = true → f j k = true → f i k = true
 tot : ∀ i j, i < n → j < n → i ≠ j → f i j = true ∨ f j i = true
 as : ∀ i j, i < n → j < n → f i j = true → f j i = false
variable {n : Nat} {f : Nat → Nat → Bool}
theorem OG.size {p : Array Nat} (h : OG n p) : p.size = n := by have := h.2.size_eq; simpa using this
theorem OG.inj {p : Array Nat} (h : OG n p) {i j : Nat} (hi : i < n) (hj : j < n) (e : p.getD i 0 = p.getD j 0) : i = j := by
 have hs := h.size
 have nd : p.toList.Nodup := (Array.perm_iff_toList_perm.mp h.2).nodup_iff.mpr (by simpa using List.nodup_range)
 unfold Array.getD at e
 rw [dif_pos (by omega), dif_pos (by omega)] at e
 exact (List.getElem_inj nd (i := i) (j := j) (h₀ := by simpa using (by omega : i < p.size)) (h₁ := by simpa using (by omega : j < p.size))).mp (by simpa using e)
def Inc (f : Nat → Nat → Bool) (p : Array Nat) (m : Nat) : Prop := ∀ i, i + 1 < m → f (p.getD i 0) (p.getD (i + 1) 0) = true
theorem Inc.lt (o : dH n f) {p : Array Nat} (h : OG n p) {m : Nat} (g : Inc f p m) : ∀ d i, i + d + 1 < m → f (p.getD i 0) (p.getD (i + d + 1) 0) = true
 | 0, i, hi => g i hi
 | d + 1, i, hi => o.tr _ _ _ (h.lt _) (h.lt _) (h.lt _) (Inc.lt o h g d i (by omega)) (g (i + d + 1) (by omega))
theorem Inc.all (o : dH n f) {p : Array Nat} (h : OG n p) {m : Nat} (g : Inc f p m) {i j : Nat} (hij : i < j) (hj : j < m) : f (p.getD i 0) (p.getD j 0) = true := by
 have := Inc.lt o h g (j - i - 1) i (by omega)
 rwa [show i + (j - i - 1) + 1 = j by omega] at this
end
def sorts (ks : List Sk) : List Sk := (sres ks).map fun i => ks.getD i (0, (0, 0, 0, 0), (0, 0, 0, 0))
namespace Tab
open PySem.SetTable
def aO (M i : Nat) : Nat := (i * 5 + 1) % M
def it5 (M : Nat) : Nat → Nat → Nat
 | 0, i => i
 | n + 1, i => it5 M n (aO M i)
def Mk (m : Nat) : Prop := m = 7 ∨ m = 31 ∨ m = 127
theorem JD (M : Nat) : ∀ a b i, it5 M (a + b) i = it5 M b (it5 M a i)
 | 0, b, i => by rw [Nat.zero_add]; rfl
 | a + 1, b, i => by
  rw [show a + 1 + b = (a + b) + 1 by omega]
  exact JD M a b (aO M i)
theorem reach {M : Nat} (c : ∀ r < M, ∃ n < M, it5 M n 0 = r) (p : it5 M M 0 = 0) (i r : Nat) (hi : i < M) (hr : r < M) : ∃ n < M, it5 M n i = r := by
 obtain ⟨a, ha, ea⟩ := c i hi
 obtain ⟨b, hb, eb⟩ := c r hr
 by_cases h : a ≤ b
 ·refine ⟨b - a, by omega, ?_⟩
  rw [← ea, ← JD, show a + (b - a) = b by omega, eb]
 ·refine ⟨M - a + b, by omega, ?_⟩
  rw [← ea, ← JD, show a + (M - a + b) = M + b by omega, JD, p, eb]
def lp (m : Nat) : Nat → Nat × Nat → Nat × Nat
 | 0, x => x
 | n + 1, x => lp m n (leap m x.1 x.2)
def av (t : SetTable) : Nat → Probe → Probe
 | 0, p => p
 | n + 1, p => av t n (t.advance p)
def st (m : Nat) (x : Nat × Nat) : Probe := { j := x.1, more := runEnd m x.1 - x.1, i := x.1, perturb := x.2, dummy := none }
structure POk (t : SetTable) (p : Probe) : Prop where
 i : p.i < t.mask + 1
 pt : p.perturb < 2 ^ 64
 more : p.more ≤ 9
 dm : p.dummy = none
 j : p.j ≤ t.mask
 run : p.more + p.j ≤ t.mask
theorem QO {l : List Nat} {f g : Nat → Bool} {j : Nat} (nd : l.Nodup) (hj : j ∈ l) (e0 : f j = false) (e1 : g j = true) (eq : ∀ i, i ≠ j → g i = f i) : l.countP g = l.countP f + 1 := by
 induction l with
 | nil => cases hj
 | cons a l ih =>
  rw [List.nodup_cons] at nd
  by_cases c : a = j
  ·subst c
   rw [List.countP_cons_of_pos e1, List.countP_cons_of_neg (by rw [e0]; decide)]
   congr 1
   refine List.countP_congr fun x hx => ?_
   rw [eq x (fun z => nd.1 (z ▸ hx))]
  ·have ij := ih nd.2 ((List.mem_cons.mp hj).resolve_left fun z => c z.symm)
   rw [List.countP_cons, List.countP_cons, eq a c, ij]
   omega
def cnt (m : Nat) (ow : Array (Option Nat)) : Nat := (List.range (m + 1)).countP fun j => (ow.getD j none).isSome
structure LO (m n : Nat) (ow : Array (Option Nat)) : Prop where
 size : ow.size = m + 1
 cnt : cnt m ow = n
 lt : ∀ (j k : Nat), ow.getD j none = some k → k < n
theorem LO.put {m n : Nat} {ow : Array (Option Nat)} (o : LO m n ow) {j : Nat} (hj : ow.getD j (some 0) = none) : LO m (n + 1) (ow.setIfInBounds j (some n)) := by
 have hs := o.size
 have jl : j < ow.size := by
  refine Classical.byContradiction fun z => ?_
  unfold Array.getD at hj
  rw [dif_neg z] at hj
  cases hj
 have at' : ∀ i, (ow.setIfInBounds j (some n)).getD i none = if i = j then some n else ow.getD i none := fun i => by
  rw [Array.getD_eq_getD_getElem?, Array.getD_eq_getD_getElem?, Array.getElem?_setIfInBounds]
  by_cases c : j = i
  ·subst c; rw [if_pos rfl, if_pos rfl, if_pos jl]; rfl
  ·rw [if_neg c, if_neg (fun z => c z.symm)]
 have e0 : ow.getD j none = none := by
  unfold Array.getD at hj ⊢
  rw [dif_pos jl] at hj ⊢
  exact hj
 refine ⟨by rw [Array.size_setIfInBounds]; exact hs, ?_, fun i k e => ?_⟩
 ·have := QO (l := List.range (m + 1)) (f := fun i => (ow.getD i none).isSome) (g := fun i => ((ow.setIfInBounds j (some n)).getD i none).isSome) (j := j) List.nodup_range (List.mem_range.mpr (by omega)) (by rw [e0]; rfl) (by rw [at' j, if_pos rfl]; rfl) (fun i hi => by rw [at' i, if_neg hi])
  unfold Tab.cnt
  rw [this]
  have := o.cnt
  unfold Tab.cnt at this
  omega
 ·rw [at' i] at e
  by_cases c : i = j
  ·rw [if_pos c] at e; cases e; omega
  ·rw [if_neg c] at e
   have := o.lt i k e
   omega
theorem LO.nil (m : Nat) : LO m 0 (Array.replicate (m + 1) none) := by
 have at' : ∀ i, (Array.replicate (m + 1) (none : Option Nat)).getD i none = none := fun i => by
  rw [Array.getD_eq_getD_getElem?, Array.getElem?_replicate]
  split <;> rfl
 refine ⟨Array.size_replicate, ?_, fun j k e => ?_⟩
 ·unfold Tab.cnt
  rw [List.countP_eq_zero]
  intro x _
  rw [at' x]
  decide
 ·rw [at' j] at e; cases e
end Tab
section
variable {prog : Program} {w : World} {A : Around} {E : Value → Shared → Prop} {s : Shared}
theorem cls2 {n : Nat} {a : Addr} {u0 u1 : Value} (ht : IsTup s.heap a #[u0, u1]) (h0 : wpAny (model prog w) A (ofAClassStatement n u0) (fun b s1 => b = false ∧ s1 = s) E s) (h1 : wpAny (model prog w) A (ofAClassStatement n u1) (fun b s1 => b = false ∧ s1 = s) E s) : wpAny (model prog w) A (ofAClassStatement (n + 1) (.ref a)) (fun b s1 => b = false ∧ s1 = s) E s := by
 unfold ofAClassStatement
 refine wpAny_bind (wpAny_typeOf ht.typeIs ?_)
 show wpAny _ _ (pure true >>= _) _ _ _
 refine wpAny_bind (wpAny_pure ?_)
 dsimp only
 rw [if_neg (by decide)]
 obtain ⟨o, e, c, n', d⟩ := ht
 rw [seqItems?.eq_1]
 refine wpAny_bind (wpAny_bind (wpAny_load e ?_))
 rw [d]
 refine wpAny_pure ?_
 refine wpAny_bind ?_
 rw [show (#[u0, u1] : Array Value) = [u0, u1].toArray from rfl, List.forIn_toArray]
 rw [List.forIn_cons]
 refine wpAny_bind (wpAny_bind (wpAny_mono h0 (fun b s1 hb => ?_) fun _ _ z => z))
 obtain ⟨rfl, rfl⟩ := hb
 rw [if_neg (by decide)]
 refine wpAny_pure ?_
 dsimp only
 rw [List.forIn_cons]
 refine wpAny_bind (wpAny_bind (wpAny_mono h1 (fun b s1 hb => ?_) fun _ _ z => z))
 obtain ⟨rfl, rfl⟩ := hb
 rw [if_neg (by decide)]
 refine wpAny_pure ?_
 dsimp only
 rw [List.forIn_nil]
 exact wpAny_pure (wpAny_pure ⟨rfl, rfl⟩)
def nH (a b : Int) : Int := MH (hashInt a) (hashInt b)
def q4H (x : Q4) : Int := MH (nH x.1 x.2.1) (nH x.2.2.1 x.2.2.2)
def skH (k : Sk) : Int := reduceHash (Builtin.Tuple.tupleHashOf [hashInt k.1, q4H k.2.1, q4H k.2.2])
end
end L2
namespace L2
open PySem PySem.Spec PyProof.Rows Tab
section
variable {prog : Program} {w : World} {A : Around} {E : Value → Shared → Prop} {s : Shared}
structure bV (R : Sk → Addr → Prop) (h : Heap) (S : Addr) (es : Array (Int × Value)) (t : SetTable) (ks : List Sk) : Prop where
 ex : ∃ o ep, h.get? S = some o ∧ o.ExactSet ∧ o.data = .set es ep t
 mask : Tab.Mk t.mask
 dm : t.dummies = #[]
 sz : t.place.size = es.size
 sm : es.size * 5 < t.mask * 3
 el : ∀ e ∈ es.toList, ∃ l a, e = (skH l, Value.ref a) ∧ R l a ∧ l ∈ ks
 nn : es.size = ks.length
end
end L2
namespace L2
open PySem PySem.Spec PyProof.Rows Tab
section
variable {prog : Program} {w : World} {A : Around} {E : Value → Shared → Prop} {s : Shared}
theorem bV.mv {R : Sk → Addr → Prop} {h h' : Heap} {S : Addr} {es : Array (Int × Value)} {t : SetTable} {ks : List Sk} (z : bV R h S es t ks) (e : ∀ o, h.get? S = some o → h'.get? S = some o) : bV R h' S es t ks := ⟨let ⟨o, ep, a, b, c⟩ := z.ex; ⟨o, ep, e _ a, b, c⟩, z.mask, z.dm, z.sz, z.sm, z.el, z.nn⟩
end
end L2
namespace L2
open PySem PySem.Spec PyProof.Rows Tab
section
variable {X : Cx} {pins : List (Addr × Obj)} {σ : St} {H : Hp} {s : Shared}
end
section
variable {prog : Program} {w : World} {A : Around} {E : Value → Shared → Prop} {s : Shared}
end
section
variable {X : Cx}
end
section
variable {X : Cx}
variable {tg : Expr}
end
section
variable {X : Cx}
end
section
variable {X : Cx}
end
def Itv (K : PySem.W.Frag) (a : Addr) (n : Nat) : It :=
 ⟨fun i H => i < n ∧ ∃ xs, SqL K H a xs ∧ xs.length = n, fun i H x H' => H' = H ∧ ∀ xs, SqL K H a xs → xs[n - 1 - i]? = some x, fun i H => i = n⟩
theorem XM {P : Program} {w : World} {K : PySem.W.Frag} {tg : Expr} (a it : Addr) (n : Nat) : YI P w K tg (Itv K a n) [it] it (fun i h => h.IsRevIter it a ((n : Int) - 1 - i)) where
 mem := by simp
 obj := fun i h st b hb => by
  have e : b = it := by simpa using hb
  subst e
  obtain ⟨o, e, c, d⟩ := st
  exact ⟨o, e, fun v z => by rw [d] at z; cases z⟩
 keep := fun i h h' st k => st.at fun o e => k it (by simp) o e
 item := by
  intro X hP hw hK hc i pins s σ H E I hf st hg
  subst hP hw hK
  obtain ⟨hi, xs, hq, hx⟩ := hg
  obtain ⟨its, rv, p, hz⟩ := I.list hq
  obtain ⟨x, ex⟩ : ∃ x, xs[n - 1 - i]? = some x := ⟨xs[n - 1 - i]'(by omega), by simp⟩
  obtain ⟨u, hu, ru⟩ := rv.get ex
  obtain ⟨f0, f1, f2, f3, f4, f5⟩ := hf it (by simp)
  have ei : ((n : Int) - 1 - i) = ((n - 1 - i : Nat) : Int) := by omega
  rw [ei] at st
  refine wpAny_pyNext_rev_item st p.isList (x := u) (by simpa using hu) fun h' st' sb => ?_
  have I1 : Inv X pins σ H { s with heap := h' } := I.turned (t' := s.toks) (fun b o hb e => (sb.2 b hb).trans e) f0 f1 f3 f4 f5
  obtain ⟨o, e, c, d⟩ := id st'
  have st2 : h'.IsRevIter it a ((n : Int) - 1 - ((i + 1 : Nat) : Int)) := by
   rw [show ((n : Int) - 1 - ((i + 1 : Nat) : Int)) = ((n - 1 - i : Nat) : Int) - 1 by omega]
   exact st'
  exact ⟨u, rfl, WC (s := { s with heap := h' }) e c d (by decide) ⟨x, H, I1, ru, ⟨rfl, fun ys hy => by rw [I.list_inj hy hq]; exact ex⟩, st2, fun b hb => (hf b hb).1⟩⟩
 done := by
  intro X hP hw hK hc i pins s σ H E I hf st hg
  subst hP hw hK
  have hg : i = n := hg
  obtain ⟨f0, f1, f2, f3, f4, f5⟩ := hf it (by simp)
  rw [show ((n : Int) - 1 - i) = -1 by omega] at st
  exact wpAny_pyNext_rev_end (I.ok.hd hc) st fun h' eb => ⟨rfl, I.turned (t' := s.toks) (fun b o hb e => eb b o hb e) f0 f1 f3 f4 f5⟩
 self := fun A i s Q E st q => wpAny_pyIter_revIter st q
section
variable {X : Cx} {e tg : Expr} {te : TE} {p' pos' : Pos}
def bM (K : PySem.W.Frag) (te : TE) : TI := fun σ H R => te σ H fun x H1 => DR x fun a => ∃ xs, SqL K H1 a xs ∧ R (Itv K a xs.length) H1
theorem bO (hgr : Gl X "reversed") (hmr : X.mg "reversed" = none) (ha : PE X e te) (he' : starEach [e] X.env = [(false, eval e X.env)] := by rfl) : PI X tg (.Call (.Name "reversed" p') [e] [] pos') (bM X.K te) := by
 intro pins s σ H R I h
 refine wpAny_Call_Name_kw (EO I hgr hmr rfl ?_ (by decide) (by decide))
 refine PyProof.Rows.callWith_type1 ?_ he' rfl
 rw [he']
 refine Calls.spliced_cons (thn (ha pins s σ H _ I h) fun u s1 ⟨x, H1, I1, r1, q1⟩ => Calls.spliced_nil ?_)
 obtain ⟨a, rfl, xs, hq, q⟩ := DR.ex q1
 cases r1
 obtain ⟨its, rv, pl, hz⟩ := I1.list hq
 have hl := pl.isList
 refine call_reversed_list hl ?_
 have hn : its.toArray.size = xs.length := by rw [List.size_toArray]; exact rv.length.symm
 have st : (s1.heap.push (revObj a ((its.toArray.size : Int) - 1))).IsRevIter s1.heap.objs.size a ((xs.length : Int) - 1 - ((0 : Nat) : Int)) := ⟨_, Heap.get?_push_size _ rfl, rfl, by rw [show ((xs.length : Int) - 1 - ((0 : Nat) : Int)) = (its.toArray.size : Int) - 1 by rw [hn]; omega]; rfl⟩
 refine wpAny_pyIter_revIter (s := { s1 with heap := s1.heap.push (revObj a ((its.toArray.size : Int) - 1)) }) st ?_
 refine ⟨s1.heap.objs.size, [s1.heap.objs.size], _, _, H1, rfl, I1.kept (t' := s1.toks) fun b o e => Heap.get?_push_of_some _ e, XM a _ xs.length, st, fun b hb => ?_, q⟩
 have e : b = s1.heap.objs.size := by simpa using hb
 subst e
 exact I1.fpOk (Nat.le_refl _) (I1.hok.fresh (Nat.le_refl _))
end
theorem cE {K : PySem.W.Frag} {a : Addr} {xs : List V} {g : TG} {tt : TT} {te : TE} {p : Addr} {Q : VK} {σ : St} {H : Hp} (Pv : Nat → St → Hp → Prop) (h0 : Pv 0 σ H) (hl : ∀ i σ H, i ≤ xs.length → Pv i σ H → SqL K H a xs)
  (hs : ∀ i x σ H, i < xs.length → xs[xs.length - 1 - i]? = some x → Pv i σ H → g x σ H fun σ2 H2 => tt σ2 H2 fun b H3 => if b = true then te σ2 H3 fun y H4 => ∃ ys, H4 p = some (.lst ys) ∧ ys.length < sizeLine ∧ Nx xs.length i (Pv (i + 1) σ2 (upd H4 p (.lst (ys ++ [y])))) else Nx xs.length i (Pv (i + 1) σ2 H3))
  (hd : ∀ σ H, Pv xs.length σ H → Q (.ref p) H) : CW (Itv K a xs.length) g tt te p Q σ H := by
 refine ⟨fun i m σ H => m = xs.length - i ∧ i ≤ xs.length ∧ Pv i σ H, ⟨xs.length, by simp, Nat.zero_le _, h0⟩, ?_⟩
 rintro i m σ H ⟨rfl, hi, q⟩
 have w := hl i σ H hi q
 by_cases hlt : i < xs.length
 ·refine .inr ⟨⟨hlt, xs, w, rfl⟩, fun x H' y => ?_⟩
  obtain ⟨e, y⟩ := y
  subst e
  exact hs i x σ _ hlt (y xs w) q
 ·have e : i = xs.length := by omega
  subst e
  exact .inl ⟨rfl, hd σ H q⟩
section
variable {prog : Program} {w : World} {A : Around} {s : Shared} {E : Value → Shared → Prop} {R : Result → Shared → Prop} {I l : Addr} {items : Array Value}
theorem OK {Q : List Value → Shared → Prop} (hh : A.handled = none) (hne : l ≠ I) (hit : s.heap.IsRevIter I l ((items.size : Int) - 1)) (hl : s.heap.IsList l items) (hn : items.size ≤ sizeLine)
  (hQ : ∀ s' acc, Moved [I] (fun a b => b = a) s s' → s.heap.objs.size ≤ s'.heap.objs.size → ItemsOf (fun i v => items[items.size - 1 - i]? = some v) acc items.size → Q acc.toList s') : wpAny (model prog w) A (collect (.ref I)) Q E s := by
 have W := (Walks.listRev (prog := prog) (w := w) (A := A.in1) hh I l hne items).toS
 obtain ⟨oi, ei, _⟩ := id hit
 obtain ⟨ol, el, _⟩ := id hl
 have nI : s.heap.objs.size ≠ I := Nat.ne_of_gt (Heap.lt_size ei)
 have nl : s.heap.objs.size ≠ l := Nat.ne_of_gt (Heap.lt_size el)
 have nF : s.heap.objs.size ∉ [I, l] := by simp only [List.mem_cons, List.not_mem_nil, or_false, not_or]; exact ⟨nI, nl⟩
 unfold collect
 refine wpAny_bind (wpAny_runValue (codeAny_builtin PySem.F.entry_proto_collect ?_))
 rw [Around.under_plainId PySem.F.plain_proto_collect _]
 show wpAny _ A.in1 (newList [] >>= fun z => again (.builtin "list.__iadd__" ⟨[z, .ref I], []⟩)) _ _ s
 refine wpAny_bind (wpAny_newObj_type ?_)
 refine wpAny_pure ⟨plainId_quiet PySem.F.plain_list_iadd _, codeAny_builtin PySem.F.entry_list_iadd ?_⟩
 rw [Around.under_plainId PySem.F.plain_list_iadd _]
 have z0 : (fun (i : Nat) (s : Shared) => i ≤ items.size ∧ s.heap.IsRevIter I l ((items.size : Int) - 1 - (i : Int)) ∧ s.heap.IsList l items) 0 { s with heap := s.heap.push { cls := .type "list", data := .seq ([] : List Value).toArray } } := by
  refine ⟨Nat.zero_le _, ?_, hl.at fun o e => Heap.get?_push_of_some _ e⟩
  rw [show ((items.size : Int) - 1 - ((0 : Nat) : Int)) = (items.size : Int) - 1 by omega]
  exact hit.at fun o e => Heap.get?_push_of_some _ e
 have zS : (s.heap.push { cls := .type "list", data := .seq ([] : List Value).toArray }).get? s.heap.objs.size = some { cls := .type "list", data := .seq ([] : List Value).toArray } := by
  exact Heap.get?_push_size _ rfl
 have ns : Builtin.List.listSameRef (.ref s.heap.objs.size) (.ref I) = false := by simp [Builtin.List.listSameRef, nI]
 show wpAny _ A.in1 (Builtin.List.listExtendWith (.ref s.heap.objs.size) (.ref I) (.ref s.heap.objs.size)) _ _ _
 unfold Builtin.List.listExtendWith
 refine wpAny_bind (wpAny_typeOf z0.2.1.typeIs ?_)
 rw [if_neg (by rw [ns]; decide)]
 refine wpAny_bind (W.self 0 _ _ _ z0 ?_)
 refine wpAny_bind (wpAny_holding (PM z0.2.1.typeIs ?_))
 rw [if_neg (by decide)]
 refine wpAny_pure ⟨plainId_quiet PySem.F.plain_extend_loop _, codeAny_extend_loopS W hn _ nF _ items.size 0 _ _ _ rfl (Nat.zero_le _) z0 zS (ItemsOf.nil _) fun s' acc' c' hm hS' hacc => ?_⟩
 show wpAny _ A (load s.heap.objs.size >>= _) _ _ s'
 refine wpAny_bind (wpAny_load hS' (wpAny_pure ?_))
 exact hQ s' acc' (Moved.drop_new (o := { cls := .type "list", data := .seq ([] : List Value).toArray }) (tk := s.toks) hm (Nat.le_refl _)) (Nat.le_of_lt (Heap.lt_size hS')) hacc
theorem YN {Q₁ : Value → Shared → Prop} (hh : A.handled = none) (hne : l ≠ I) (hit : s.heap.IsRevIter I l ((items.size : Int) - 1)) (hl : s.heap.IsList l items) (hn : items.size ≤ sizeLine)
  (h : ∀ s' acc, Moved [I] (fun a b => b = a) s s' → s.heap.objs.size ≤ s'.heap.objs.size → ItemsOf (fun i v => items[items.size - 1 - i]? = some v) acc items.size → Q₁ (.ref s'.heap.objs.size) { s' with heap := s'.heap.push { cls := .type "tuple", data := .seq acc } }) :
  codeAny (model prog w) A (.call (.builtin "tuple.__new__") ⟨[.type "tuple", .ref I], []⟩) (wants Q₁ E) s := by
 refine codeAny_of_tree ?_
 show wpAny _ A.in1 (do checkBuiltinCall "tuple.__new__" ⟨[.type "tuple", .ref I], []⟩; again (.builtin "tuple.__new__" ⟨[.type "tuple", .ref I], []⟩)) _ _ s
 refine wpAny_bind (wpAny_of_eq (PySem.F.newCall_tuple_1 _) (wpAny_pure ⟨plainId_quiet PySem.F.plain_tuple_new _, codeAny_builtin PySem.F.entry_tuple_new ?_⟩))
 rw [Around.under_plainId PySem.F.plain_tuple_new _]
 have k1 := sub_tuple_self
 have k2 := init_tuple_lookup
 have k3 := madeHere_tuple
 have k4 := hit.typeIs
 have k5 : A.in1.handled = none := hh
 wp_walk using wpAny_typeOf k4, OK k5 hne hit hl hn
 intro s' acc hm hz hacc
 show wpAny _ _ (Builtin.Tuple.tupleExact acc.toList.toArray >>= fun v => ret v) _ _ _
 unfold Builtin.Tuple.tupleExact
 have ea : acc.toList.toArray = acc := by simp
 rw [ea]
 refine wpAny_bind (wpAny_newObj_type (wpAny_pure ?_) (by show acc.size ≤ sizeLine; rw [hacc.1]; exact hn))
 exact h s' acc hm hz hacc
theorem KN {Q : Value → Shared → Prop} (hh : A.handled = none) (hne : l ≠ I) (hit : s.heap.IsRevIter I l ((items.size : Int) - 1)) (hl : s.heap.IsList l items) (hn : items.size ≤ sizeLine)
  (hQ : ∀ (h' : Heap) (tk : Nat), (∀ b o, b ≠ I → s.heap.get? b = some o → h'.get? b = some o) → s.heap.objs.size ≤ h'.objs.size → Q (.ref h'.objs.size) { s with heap := h'.push { cls := .type "tuple", data := .seq items.reverse }, toks := tk }) :
  wpAny (model prog w) A (call (.type "tuple") [.ref I]) Q E s := by
 refine callType_codes (Q₁ := fun obj s₁ => s₁.TypeIs obj "tuple" ∧ Q obj s₁) PySem.F.called_tuple (PySem.F.typeCall_tuple_1 _) PySem.F.entry_object_init
  (YN (A := A.in1) (show A.in1.handled = none from hh) hne hit hl hn fun s' acc hm hz hacc => ⟨⟨_, Heap.get?_push_size _ rfl, rfl⟩, ?_⟩) fun obj s₁ h₁ => ⟨h₁.1, PySem.F.args_object_init_2 obj _, object_init_meets PySem.F.called_tuple.init.lookup PySem.F.called_tuple.made (by decide) prog w A.in1 _ s₁ ⟨h₁.1, rfl, h₁.2⟩⟩
 have ea : acc = items.reverse := by
  obtain ⟨z1, z2⟩ := hacc
  refine Array.ext (by rw [z1, Array.size_reverse]) fun i h1 h2 => ?_
  have z : items[items.size - 1 - i]? = some acc[i] := z2 i acc[i] (Array.getElem?_eq_getElem h1)
  rw [Array.getElem_reverse]
  have hi : items.size - 1 - i < items.size := by rw [z1] at h1; omega
  rw [Array.getElem?_eq_getElem hi] at z
  exact (Option.some.inj z).symm
 rw [ea, Moved.eq_with hm]
 exact hQ s'.heap s'.toks (fun b o hb e => hm.heap b o (fun hmem => hb (List.mem_singleton.mp hmem)) e) hz
end
section
variable {X : Cx} {e : Expr} {te : TE} {p p' pos pos' : Pos}
def UP (K : PySem.W.Frag) (te : TE) : TE := fun σ H Q => te σ H fun x H1 => DR x fun a => ∃ xs, SqL K H1 a xs ∧ ∀ l, H1 l = none → Q (.ref l) (upd H1 l (.tup xs.reverse))
theorem TR (hc : X.calm = true) (hgl : Gl X "tuple") (hml : X.mg "tuple" = none) (hgr : Gl X "reversed") (hmr : X.mg "reversed" = none) (ha : PE X e te)
  (he : starEach [.Call (.Name "reversed" p') [e] [] pos'] X.env = [(false, eval (.Call (.Name "reversed" p') [e] [] pos') X.env)] := by rfl)
  (he' : starEach [e] X.env = [(false, eval e X.env)] := by rfl) :
  PE X (.Call (.Name "tuple" p) [.Call (.Name "reversed" p') [e] [] pos'] [] pos) (UP X.K te) := by
 intro pins s σ H Q I h
 refine wpAny_Call_Name_kw (EO I hgl hml rfl ?_ (by decide) (by decide))
 refine PyProof.Rows.callWith_type1 ?_ he rfl
 rw [he]
 refine Calls.spliced_cons ?_
 refine wpAny_Call_Name_kw (EO I hgr hmr rfl ?_ (by decide) (by decide))
 refine PyProof.Rows.callWith_type1 ?_ he' rfl
 rw [he']
 refine Calls.spliced_cons (thn (ha pins s σ H _ I h) fun u s1 ⟨x, H1, I1, r1, q1⟩ => Calls.spliced_nil ?_)
 obtain ⟨a, rfl, xs, hq, q⟩ := DR.ex q1
 cases r1
 obtain ⟨its, rv, pl, hz⟩ := I1.list hq
 have hl := pl.isList
 obtain ⟨ol, f1, f2, nn, f3⟩ := id hl
 refine call_reversed_list hl ?_
 refine Calls.spliced_nil ?_
 have hne : a ≠ s1.heap.objs.size := Nat.ne_of_lt (Heap.lt_size f1)
 refine KN (l := a) (I := s1.heap.objs.size) (items := its.toArray) (I1.ok.hd hc) hne ⟨_, Heap.get?_push_size _ rfl, rfl, rfl⟩ (hl.at fun o e => Heap.get?_push_of_some _ e) (by rw [List.size_toArray, ← rv.length]; exact hz) fun h' tk hk hsz => ?_
 have hp : s1.heap.objs.size ≤ h'.objs.size := Nat.le_trans (by rw [Heap.size_push]; exact Nat.le_succ _) hsz
 refine ⟨.ref _, _, I1.laid (t' := tk) (o := .tup xs.reverse) (fun b o e => Heap.get?_push_of_some _ (hk b o (Nat.ne_of_lt (Heap.lt_size e)) (Heap.get?_push_of_some _ e))) hp ?_, rfl, q _ (I1.hok.fresh hp)⟩
 refine ⟨by rw [List.length_reverse]; exact hz, its.reverse, rv.reverse, ?_⟩
 rw [← List.reverse_toArray]
 exact ⟨_, Heap.get?_push_size _ rfl, rfl, _, rfl⟩
end
section
variable {X : Cx}
def RL : R2 := fun x y H Q => oBl x fun b => oBl y fun c => Q (.bl (!decide (b = c))) H
theorem ZS : OpR X (compareOp .IsNot) RL := by
 intro pins s σ H x y v u Q I rx ry h
 cases x <;> simp only [RL, oBl] at h
 rename_i b
 cases y <;> simp only [oBl] at h
 rename_i c
 cases rx
 cases ry
 have key : ∀ b c : Bool, compareOp .IsNot (.bool b) (.bool c) = pure (.bool (!decide (b = c))) := by
  intro b c; cases b <;> cases c <;> rfl
 rw [key]
 first | exact wpAny_pure (BB I h rfl) | exact wpAny_pure.mpr (BB I h rfl) | exact pure_of (BB I h rfl) | exact (BB I h rfl)
end
inductive DW (K : PySem.W.Frag) (H : Hp) : Nat → V → V → Prop
 | int (n : Nat) (i : Int) : DW K H n (.int i) (.int i)
 | bl (n : Nat) (b : Bool) : DW K H n (.bl b) (.bl b)
 | str (n : Nat) (x : Str) : DW K H n (.str x) (.str x)
 | non (n : Nat) : DW K H n .non .non
 | same (n : Nat) (p : Addr) : DW K H n (.ref p) (.ref p)
 | tup {n : Nat} {p q : Addr} {xs ys : List V} : SqT K H p xs → SqT K H q ys → xs.length = ys.length → (∀ (i : Nat) (x y : V), xs[i]? = some x → ys[i]? = some y → DW K H n x y) → DW K H (n + 1) (.ref p) (.ref q)
 | lst {n : Nat} {p q : Addr} {xs ys : List V} : SqL K H p xs → SqL K H q ys → xs.length = ys.length → (∀ (i : Nat) (x y : V), xs[i]? = some x → ys[i]? = some y → DW K H n x y) → DW K H (n + 1) (.ref p) (.ref q)
theorem DW.up {K : PySem.W.Frag} {H : Hp} {n : Nat} {v u : V} (h : DW K H n v u) : ∀ {m : Nat}, n ≤ m → DW K H m v u := by
 induction h with
 | int n i => intro m _; exact .int m i
 | bl n i => intro m _; exact .bl m i
 | str n i => intro m _; exact .str m i
 | non n => intro m _; exact .non m
 | same n p => intro m _; exact .same m p
 | @tup n p q xs ys a b c d ih =>
  intro m hm
  obtain ⟨m, rfl⟩ : ∃ k, m = k + 1 := ⟨m - 1, by omega⟩
  exact .tup a b c fun i x y hx hy => ih i x y hx hy (by omega)
 | @lst n p q xs ys a b c d ih =>
  intro m hm
  obtain ⟨m, rfl⟩ : ∃ k, m = k + 1 := ⟨m - 1, by omega⟩
  exact .lst a b c fun i x y hx hy => ih i x y hx hy (by omega)
mutual
theorem Rp.alike {K : PySem.W.Frag} {H : Hp} : ∀ {d : D} {v u : V}, Rp K H d v → Rp K H d u → DW K H (dep d) v u
 | .int i, v, u, h1, h2 => by rw [Rp] at h1 h2; subst h1 h2; exact .int _ _
 | .str x, v, u, h1, h2 => by rw [Rp] at h1 h2; subst h1 h2; exact .str _ _
 | .non, v, u, h1, h2 => by rw [Rp] at h1 h2; subst h1 h2; exact .non _
 | .tup ds, v, u, h1, h2 => by
  rw [Rp] at h1 h2
  obtain ⟨p, xs, rfl, hp, l1⟩ := h1
  obtain ⟨q, ys, rfl, hq, l2⟩ := h2
  rw [dep]
  exact .tup hp hq (by rw [l1.length, l2.length]) (RpL.alike l1 l2)
theorem RpL.alike {K : PySem.W.Frag} {H : Hp} : ∀ {ds : List D} {xs ys : List V}, RpL K H ds xs → RpL K H ds ys → ∀ (i : Nat) (x y : V), xs[i]? = some x → ys[i]? = some y → DW K H (depL ds) x y
 | [], xs, ys, h1, h2, i, x, y, hx, hy => by rw [RpL] at h1; subst h1; simp at hx
 | d :: ds, xs, ys, h1, h2, i, x, y, hx, hy => by
  rw [RpL] at h1 h2
  obtain ⟨v, r, rfl, a1, b1⟩ := h1
  obtain ⟨v', r', rfl, a2, b2⟩ := h2
  rw [depL]
  cases i with
  | zero =>
   simp at hx hy
   subst hx hy
   exact (Rp.alike a1 a2).up (by omega)
  | succ i =>
   simp at hx hy
   exact (RpL.alike b1 b2 i x y hx hy).up (by omega)
end
section
variable {X : Cx} {pins : List (Addr × Obj)} {σ : St} {H : Hp} {s : Shared}
theorem HX (n : Nat) : ((List.range n).all fun _ => true) = true := by simp
theorem DW.eqAt (I : Inv X pins σ H s) {n : Nat} {v u : V} (h : DW X.K H n v u) : ∀ {A : Around} {x y : Value}, BF v x → BF u y → A.units + n < cLine → SeqAt.EqAt A s x y true := by
 induction h with
 | int n i => rintro A x y ⟨t, rfl⟩ ⟨t', rfl⟩ hu; have := SeqAt.EqAt.int_int (A := A) (s := s) i t i t'; rwa [beq_self_eq_true] at this
 | bl n b => intro A x y h1 h2 hu; cases h1; cases h2; exact SeqAt.EqAt.same _
 | str n z => rintro A x y ⟨t, rfl⟩ ⟨t', rfl⟩ hu; have := SeqAt.EqAt.str_str (A := A) (s := s) z t z t'; rwa [beq_self_eq_true] at this
 | non n => intro A x y h1 h2 hu; cases h1; cases h2; exact SeqAt.EqAt.same _
 | same n p => intro A x y h1 h2 hu; cases h1; cases h2; exact SeqAt.EqAt.same _
 | @tup n p q xs ys a b c d ih =>
  intro A x y h1 h2 hu
  cases h1; cases h2
  by_cases hp : p = q
  ·subst hp; exact SeqAt.EqAt.same _
  ·refine SeqAt.EqAt.of_refs hp ?_
   obtain ⟨its, rv, ht, _⟩ := I.tuple a
   obtain ⟨its', rv', ht', _⟩ := I.tuple b
   have key := SeqAt.RcAt.tuples (e := fun _ => true) ht ht' (show A.units < cLine by omega) (fun j h1 h2 => by
    have j1 : j < its.length := by simpa using h1
    have j2 : j < its'.length := by simpa using h2
    obtain ⟨v1, e1, r1⟩ := AO.get' rv (List.getElem?_eq_getElem j1)
    obtain ⟨v2, e2, r2⟩ := AO.get' rv' (List.getElem?_eq_getElem j2)
    exact ih j v1 v2 e1 e2 r1 r2 (show A.units + 1 + n < cLine by omega))
   have e0 : ((List.range (min its.toArray.size its'.toArray.size)).all (fun j => true) && its.toArray.size == its'.toArray.size) = true := by
    rw [HX, Bool.true_and]
    simp only [List.size_toArray, ← rv.length, ← rv'.length, c, beq_self_eq_true]
   rw [e0] at key
   exact key
 | @lst n p q xs ys a b c d ih =>
  intro A x y h1 h2 hu
  cases h1; cases h2
  by_cases hp : p = q
  ·subst hp; exact SeqAt.EqAt.same _
  ·refine SeqAt.EqAt.of_refs hp ?_
   obtain ⟨its, rv, ht, _⟩ := I.list a
   obtain ⟨its', rv', ht', _⟩ := I.list b
   have key := SeqAt.RcAt.lists (e := fun _ => true) ht.isList ht'.isList (by simp only [List.size_toArray, ← rv.length, ← rv'.length, c]) (show A.units < cLine by omega) (fun j h1 h2 => by
    have j1 : j < its.length := by simpa using h1
    have j2 : j < its'.length := by simpa using h2
    obtain ⟨v1, e1, r1⟩ := AO.get' rv (List.getElem?_eq_getElem j1)
    obtain ⟨v2, e2, r2⟩ := AO.get' rv' (List.getElem?_eq_getElem j2)
    exact ih j v1 v2 e1 e2 r1 r2 (show A.units + 1 + n < cLine by omega))
   rw [HX] at key
   exact key
def rAl (K : PySem.W.Frag) (ne : Bool) : R2 := fun x y H Q => (∃ n p q xs ys, n ≤ 60 ∧ x = .ref p ∧ y = .ref q ∧ ((SqT K H p xs ∧ SqT K H q ys) ∨ (SqL K H p xs ∧ SqL K H q ys)) ∧ xs.length = ys.length ∧ (∀ (i : Nat) (x y : V), xs[i]? = some x → ys[i]? = some y → DW K H n x y)) ∧ Q (.bl (!ne)) H
theorem RD (hu : X.A.units + 64 < cLine) : OpR X (compareOp .NotEq) (rAl X.K true) := by
 intro pins s σ H x y v u Q I rx ry h
 obtain ⟨⟨n, p, q, xs, ys, hn, rfl, rfl, h, hl, ha⟩, hq⟩ := h
 cases rx; cases ry
 rcases h with ⟨a, b⟩ | ⟨a, b⟩
 ·obtain ⟨its, rv, ht, _⟩ := I.tuple a
  obtain ⟨its', rv', ht', _⟩ := I.tuple b
  refine SeqAt.RcNeAt.tuples (e := fun _ => true) ht ht' (by omega) (fun j h1 h2 => ?_) X.prog X.w X.xe _ ?_
  ·have j1 : j < its.length := by simpa using h1
   have j2 : j < its'.length := by simpa using h2
   obtain ⟨v1, e1, r1⟩ := AO.get' rv (List.getElem?_eq_getElem j1)
   obtain ⟨v2, e2, r2⟩ := AO.get' rv' (List.getElem?_eq_getElem j2)
   exact (ha j v1 v2 e1 e2).eqAt I r1 r2 (show X.A.units + 1 + n < cLine by omega)
  ·exact BB I hq (by rw [HX, Bool.true_and]; simp only [List.size_toArray, ← rv.length, ← rv'.length, hl, beq_self_eq_true])
 ·obtain ⟨its, rv, ht, _⟩ := I.list a
  obtain ⟨its', rv', ht', _⟩ := I.list b
  refine SeqAt.RcNeAt.lists (e := fun _ => true) ht.isList ht'.isList (by simp only [List.size_toArray, ← rv.length, ← rv'.length, hl]) (by omega) (fun j h1 h2 => ?_) X.prog X.w X.xe _ ?_
  ·have j1 : j < its.length := by simpa using h1
   have j2 : j < its'.length := by simpa using h2
   obtain ⟨v1, e1, r1⟩ := AO.get' rv (List.getElem?_eq_getElem j1)
   obtain ⟨v2, e2, r2⟩ := AO.get' rv' (List.getElem?_eq_getElem j2)
   exact (ha j v1 v2 e1 e2).eqAt I r1 r2 (show X.A.units + 1 + n < cLine by omega)
  ·exact BB I hq (by rw [HX])
end
theorem atom (s : String) (ns : List Nat) (h : s = String.ofList (ns.map Char.ofNat)) (e : (ns.map Char.ofNat).map Char.toNat = ns) : Str.ofString s = ⟨⟨ns⟩⟩ := by
 rw [h, PySem.W.Fast.ofString_ofList, e]
theorem dI {α : Type} {a b : α} {l m : List α} (h : a = b) (t : l = m) : a :: l = b :: m := by rw [h, t]
theorem tr2 {α β : Type} {C : α → β → Prop} {a a' : α} {b b' : β} (e : a = a') (e' : b = b') (h : C a' b') : C a b := by subst e e'; exact h
theorem YU (P : Params) : ((PySem.W.boot_heap P).isNs mainGlobals, (PySem.W.boot_heap P).objs.size, (PySem.W.boot_heap P).nsMap mainGlobals "__annotations__") = (true, 11, some (.ref 6)) := by kernel_rfl
noncomputable def UZ (p q : Program) (loose : List Str) (Xt : Shared → Bool) {α : Type} (Yf : Shared → α) (w : World) (s : Shared) :=
 (PySem.W.staticsOk (importedModules p.main.body) (PySem.W.boot_heap w.params) s.heap && PySem.W.namesBound p s.heap && PySem.W.gensDone s && PySem.W.laidKept (PySem.W.boot_heap w.params) s.heap,
  PySem.W.Fast.tw4187177175401517315 q loose (importedModules p.main.body) Xt true s, Yf s)
def VQ (p q : Program) (loose : List Str) (Xt : Shared → Bool) {α : Type} (Yf : Shared → α) (Ya : World → α) (N : Nat) (w : World) : Prop :=
 (fun os => (PySem.W.Fast.tw14082659384304107361 PySem.W.Fast.tw14364793385576792824 p w 11 (some (.ref 6)) N ⟨PySem.W.boot_heap w.params, Array.mk [], PySem.W.boot_drawn, PySem.W.boot_toks, os⟩ (PySem.W.topStub p)).map (UZ p q loose Xt Yf w)) =
  fun _ => some (true, PySem.W.openGood q loose, Ya w)
theorem TW {p q : Program} {loose : List Str} {Xt : Shared → Bool} {α : Type} {Yf : Shared → α} {Ya : World → α} {N : Nat}
  (e : PySem.W.opening p = PySem.W.plainProg p.main.scope.names) (hN : Nat.ble 600 N = true) (f : ∀ s, fenceModules? p s = some s)
  (run : ∀ w : World, VQ p q loose Xt Yf Ya N w) : PySem.W.LeftO p q loose Xt Yf Ya N := fun w => by
 obtain ⟨⟨h, gs, d, k, os⟩, e1, e2⟩ := Option.map_eq_some_iff.mp (PySem.W.boot_open e hN f w)
 simp only [Prod.mk.injEq] at e2
 obtain ⟨rfl, rfl, rfl, rfl⟩ := e2
 have b := YU w.params
 simp only [Prod.mk.injEq] at b
 obtain ⟨b1, b2, b3⟩ := b
 have r := congrFun (run w) os
 rw [← PySem.W.Fast.te14082659384304107361, ← PySem.W.Fast.te14364793385576792824] at r
 obtain ⟨s₁, r1, r2⟩ := Option.map_eq_some_iff.mp r
 unfold UZ at r2
 rw [← PySem.W.Fast.te4187177175401517315] at r2
 simp only [Prod.mk.injEq] at r2
 obtain ⟨r2, r3, r4⟩ := r2
 unfold PySem.W.openEnds
 rw [e1]
 show (PySem.W.topFrom treeTable p w N _).map _ = _
 have t : PySem.W.topFrom treeTable p w N ⟨PySem.W.boot_heap w.params, Array.mk [], PySem.W.boot_drawn, PySem.W.boot_toks, os⟩ = some s₁ := by
  unfold PySem.W.topFrom
  dsimp only
  rw [b1, b2, b3]
  show Option.bind (PySem.W.topRun treeTable p w 11 (some (.ref 6)) N ⟨PySem.W.boot_heap w.params, Array.mk [], PySem.W.boot_drawn, PySem.W.boot_toks, os⟩ (PySem.W.topStub p)) _ = _
  rw [r1]
  show (match PySem.W.staticsOk (importedModules p.main.body) (PySem.W.boot_heap w.params) s₁.heap && PySem.W.namesBound p s₁.heap && PySem.W.gensDone s₁ && PySem.W.laidKept (PySem.W.boot_heap w.params) s₁.heap with | true => some s₁ | false => none) = _
  rw [r2]
 rw [t]
 exact congrArg some (Prod.ext r3 r4)
noncomputable def nm (l : List Str) (i : Nat) : Str := l.getD i Str.empty
noncomputable def de (P : Params) (x : Str) (t : Nat) (v : Value) : DictEntry := ⟨PyData.keyHash P x, .str x t, v⟩
noncomputable def TY (p : Program) (i : Nat) : Stmt := p.main.body.getD i (.Pass ⟨0, 0, 0, 0⟩)
noncomputable def fnO (p : Program) (x : Str) (i : Nat) (kV doc pm : Value) (an : Option Addr) (cdv ct : Value) : Obj := ⟨.type "function", none, .func (PySem.W.fnOf x x (AN (TY p i)) (AM (TY p i)) (AD (TY p i)) .none kV doc pm an cdv ct), #[]⟩
noncomputable def fnM (p : Program) (x qual : Str) (i j : Nat) (kV doc pm : Value) (an : Option Addr) (cdv ct : Value) : Obj := ⟨.type "function", none, .func (PySem.W.fnOf x qual (AN (CA (TY p i) j)) (AM (CA (TY p i) j)) (AD (CA (TY p i) j)) .none kV doc pm an cdv ct), #[]⟩
end L2
namespace My
open PySem PySem.Spec PyProof.Rows L2
def tmC (c : Char) : Lean.MacroM Lean.Term := do match c with
 | '_' => `(_)
 | 'r' => `((by rfl))
 | 'd' => `((by first | exact Or.inl rfl | exact Or.inr (Or.inl rfl)))
 | 'v' => `((by decide))
 | 'n' => `((fun _ _ => rfl))
 | 'i' => `(rfl)
 | 'o' => `((Or.inl rfl))
 | 'c' => `((by first | exact .inl rfl | exact .inr rfl | assumption))
 | 'a' => return Lean.Syntax.mkApp ⟨Lean.mkIdent `hr.mono⟩ #[← `((by decide))]
 | 'b' => `(.nil)
 | 'e' => return ⟨Lean.mkIdent `BD⟩
 | 'f' => `((by intro _; rfl))
 | 'g' => `((AS _))
 | 'h' => return ⟨Lean.mkIdent `PySem.F.plainAttrs_list⟩
 | 'j' => return ⟨Lean.mkIdent `PySem.F.slot_list_append⟩
 | 'k' => return ⟨Lean.mkIdent `PySem.F.type_list_append⟩
 | 'l' => return ⟨Lean.mkIdent `DC⟩
 | 'm' => return ⟨Lean.mkIdent `HF⟩
 | 'p' => return ⟨Lean.mkIdent `PassesOwn.never⟩
 | 'q' => `(⟨by decide +kernel, by decide +kernel, by decide +kernel, by decide +kernel, by decide +kernel, by decide +kernel⟩)
 | _ => Lean.Macro.throwUnsupported
def tmT : List (Char × Lean.Name × String) := [('A', `pvD, "_*__rdvv"), ('B', `AA, "_____**r"), ('C', `AC, "____"), ('D', `AF, "_"), ('E', `AG, "___*"), ('F', `AE, "_____**"), ('G', `AL, "________***"), ('H', `AV, "_______***n"), ('I', `AT, "__*____*io*rc"), ('J', `AJ, "________****"), ('K', `AY, "____*"), ('L', `BV, "________***"), ('M', `AX, "_____*i"), ('N', `BC, "________________*ar***be*vrr"), ('O', `BK, "_____*v"), ('P', `BE, "_"), ('Q', `BQ, "_____*"), ('R', `BA, "_________*r***vvrr"), ('S', `AW, "______*"), ('T', `BN, "_"), ('U', `BT, "__*_*ioc"), ('V', `BS, "________**i"), ('W', `CL, "____"), ('X', `CK, "____*r"), ('Y', `BU, "_______**"), ('Z', `BL, "_____**"), ('a', `BP, "_____**r"), ('b', `DM, "____*"), ('c', `CU, "___*f"), ('d', `CF, "_______**"), ('e', `CH, "______*"), ('f', `CT, "__"), ('g', `GR, "____"), ('h', `GP, "_______**"), ('i', `EN, "_____r**v"), ('j', `EL, "____________________****a*be*rrr"), ('k', `EK, "________***g"), ('l', `DV, "_________________****a*ber"), ('m', `KT, "____________hjkl**rrrrr"), ('n', `EI, "_"), ('o', `FA, "__*__r**ivv"), ('p', `GW, "____*"), ('q', `II, "______**rrr"), ('r', `FG, "______i*rr"), ('s', `JQ, "_______**"), ('t', `HC, "____*"), ('u', `MG, "______m*"), ('v', `JK, "____*"), ('w', `NI, "________pi***f"), ('x', `JG, "____*"), ('y', `MU, "______*_____****iiiq****f"), ('z', `NF, "_______**"), ('!', `QX, "_____*"), ('#', `JL, "______p**"), ('$', `IB, "_________*r***vvrr")]
def tmK (st : List Lean.Term) (c : Char) : Lean.MacroM (List Lean.Term) := do
 if c.isDigit then return ⟨Lean.Syntax.mkNumLit (toString c)⟩ :: st
 if c == '_' then return (← `(_)) :: st
 let some (f, t) := tmT.lookup c | Lean.Macro.throwUnsupported
 let m := (t.toList.filter (· == '*')).length
 let (as, _) ← t.toList.foldlM (init := ((#[] : Array Lean.Term), (st.take m).reverse)) fun (as, ks) d => do
  if d == '*' then match ks with
   | k :: r => return (as.push k, r)
   | [] => Lean.Macro.throwUnsupported
  else return (as.push (← tmC d), ks)
 return Lean.Syntax.mkApp (← `(@$(Lean.mkIdent f))) as :: st.drop m
def tmD (x : Lean.Syntax) : Lean.MacroM Lean.Term := do
 let st ← x.getArgs.toList.foldlM (init := ([] : List Lean.Term)) fun st c => match c.isInterpolatedStrLit? with
  | some w => w.toList.foldlM tmK st
  | none => return ⟨c⟩ :: st
 match st with
  | [t] => return t
  | _ => Lean.Macro.throwUnsupported
local macro_rules | `(s! $x) => tmD x
def top (i : Nat) : Stmt := PySem.Challenge.pw_turtlehouse_k54_whole_backwards.main.body.getD i (.Pass ⟨0, 0, 0, 0⟩)
abbrev IH : Stmt := top 8
theorem ZH : AQ ["one", "other"] ["one", "other"] (AD IH) := ⟨rfl, rfl, rfl, by decide +kernel, rfl, by decide +kernel, by decide +kernel⟩
abbrev GF : Stmt := top 9
theorem UK : AQ ["number", "factor"] ["number", "factor"] (AD GF) := ⟨rfl, rfl, rfl, by decide +kernel, rfl, by decide +kernel, by decide +kernel⟩
abbrev GJ : Stmt := top 10
theorem FX : AQ ["place", "heading", "steps", "x", "y", "east", "north"] ["place", "heading", "steps"] (AD GJ) := ⟨rfl, rfl, rfl, by decide +kernel, rfl, by decide +kernel, by decide +kernel⟩
abbrev DF : Stmt := CA (top 13) 0
theorem NP : AQ ["self"] ["self"] (AD DF) := ⟨rfl, rfl, rfl, by decide +kernel, rfl, by decide +kernel, by decide +kernel⟩
abbrev CQ : Stmt := CA (top 13) 1
theorem KW : AQ ["self", "spot"] ["self", "spot"] (AD CQ) := ⟨rfl, rfl, rfl, by decide +kernel, rfl, by decide +kernel, by decide +kernel⟩
abbrev EC : Stmt := CA (top 13) 2
theorem JP : AQ ["self", "steps", "start"] ["self", "steps"] (AD EC) := ⟨rfl, rfl, rfl, by decide +kernel, rfl, by decide +kernel, by decide +kernel⟩
abbrev DG : Stmt := CA (top 13) 3
theorem NJ : AQ ["self", "eighths"] ["self", "eighths"] (AD DG) := ⟨rfl, rfl, rfl, by decide +kernel, rfl, by decide +kernel, by decide +kernel⟩
abbrev DO : Stmt := CA (top 13) 5
theorem IR : AQ ["self", "statement", "first"] ["self", "statement"] (AD DO) := ⟨rfl, rfl, rfl, by decide +kernel, rfl, by decide +kernel, by decide +kernel⟩
abbrev DQ : Stmt := CA (top 13) 6
theorem OZ : AQ ["self"] ["self"] (AD DQ) := ⟨rfl, rfl, rfl, by decide +kernel, rfl, by decide +kernel, by decide +kernel⟩
abbrev EA : Stmt := top 15
theorem LC : AQ ["statement", "hand", "first"] ["statement", "hand"] (AD EA) := ⟨rfl, rfl, rfl, by decide +kernel, rfl, by decide +kernel, by decide +kernel⟩
abbrev DH : Stmt := top 16
theorem DY : AQ ["program", "hand", "undone", "statement"] ["program"] (AD DH) := ⟨rfl, rfl, rfl, by decide +kernel, rfl, by decide +kernel, by decide +kernel⟩
abbrev GD : Stmt := top 20
theorem PP : AQ ["amount", "sources", "value", "factor", "source", "more"] ["amount", "sources"] (AD GD) := ⟨rfl, rfl, rfl, by decide +kernel, rfl, by decide +kernel, by decide +kernel⟩
abbrev CY : Stmt := CA (top 21) 0
theorem LF : AQ ["self", "body", "sources"] ["self", "body", "sources"] (AD CY) := ⟨rfl, rfl, rfl, by decide +kernel, rfl, by decide +kernel, by decide +kernel⟩
abbrev CG : Stmt := CA (top 21) 1
theorem HY : AQ ["self"] ["self"] (AD CG) := ⟨rfl, rfl, rfl, by decide +kernel, rfl, by decide +kernel, by decide +kernel⟩
abbrev BW : Stmt := CA (top 21) 2
theorem GY : AQ ["self"] ["self"] (AD BW) := ⟨rfl, rfl, rfl, by decide +kernel, rfl, by decide +kernel, by decide +kernel⟩
abbrev BI : Stmt := CA (top 21) 4
theorem FK : AQ ["self"] ["self"] (AD BI) := ⟨rfl, rfl, rfl, by decide +kernel, rfl, by decide +kernel, by decide +kernel⟩
abbrev CS : Stmt := CA (top 23) 0
theorem FL : AQ ["self", "program", "words", "body"] ["self", "program"] (AD CS) := ⟨rfl, rfl, rfl, by decide +kernel, rfl, by decide +kernel, by decide +kernel⟩
abbrev CP : Stmt := CA (top 23) 1
theorem JN : AQ ["self"] ["self"] (AD CP) := ⟨rfl, rfl, rfl, by decide +kernel, rfl, by decide +kernel, by decide +kernel⟩
abbrev CO : Stmt := CA (top 23) 2
theorem FZ : AQ ["self", "level"] ["self"] (AD CO) := ⟨rfl, rfl, rfl, by decide +kernel, rfl, by decide +kernel, by decide +kernel⟩
abbrev CV : Stmt := CA (top 23) 3
theorem GQ : AQ ["self", "statement", "sources", "first", "chosen", "handed"] ["self", "statement", "sources"] (AD CV) := ⟨rfl, rfl, rfl, by decide +kernel, rfl, by decide +kernel, by decide +kernel⟩
abbrev DP : Stmt := CA (top 23) 4
theorem OJ : AQ ["self", "statement"] ["self", "statement"] (AD DP) := ⟨rfl, rfl, rfl, by decide +kernel, rfl, by decide +kernel, by decide +kernel⟩
abbrev EU : Stmt := top 24
theorem GN : AQ ["program", "most", "walk", "deeds"] ["program", "most"] (AD EU) := ⟨rfl, rfl, rfl, by decide +kernel, rfl, by decide +kernel, by decide +kernel⟩
abbrev MF : Stmt := top 25
theorem RC : AQ ["program", "most", "walk", "hand"] ["program", "most"] (AD MF) := ⟨rfl, rfl, rfl, by decide +kernel, rfl, by decide +kernel, by decide +kernel⟩
abbrev EV : Stmt := top 27
theorem GA : AQ ["_law_cell_here", "_law_k", "_law_number"] ["_law_cell_here", "_law_k"] (AD EV) := ⟨rfl, rfl, rfl, by decide +kernel, rfl, by decide +kernel, by decide +kernel⟩
abbrev GX : Stmt := top 28
theorem HH : AQ ["_law_cell_here", "_law_most", "_law_many", "_law_found", "_law_rest", "_law_k"] ["_law_cell_here", "_law_most", "_law_many"] (AD GX) := ⟨rfl, rfl, rfl, by decide +kernel, rfl, by decide +kernel, by decide +kernel⟩
abbrev GG : Stmt := top 29
theorem JU : AQ ["_law_script", "_law_k", "_law_number"] ["_law_script", "_law_k"] (AD GG) := ⟨rfl, rfl, rfl, by decide +kernel, rfl, by decide +kernel, by decide +kernel⟩
abbrev GI : Stmt := top 30
theorem HA : AQ ["_law_script", "_law_start", "_law_deck_here", "_law_k"] ["_law_script", "_law_start"] (AD GI) := ⟨rfl, rfl, rfl, by decide +kernel, rfl, by decide +kernel, by decide +kernel⟩
abbrev GM : Stmt := top 31
theorem VT : AQ ["_law_deck_here"] ["_law_deck_here"] (AD GM) := ⟨rfl, rfl, rfl, by decide +kernel, rfl, by decide +kernel, by decide +kernel⟩
abbrev EB : Stmt := top 32
theorem GU : AQ ["_law_deck_here", "_law_way", "_law_steps"] ["_law_deck_here"] (AD EB) := ⟨rfl, rfl, rfl, by decide +kernel, rfl, by decide +kernel, by decide +kernel⟩
abbrev EW : Stmt := top 33
theorem LQ : AQ ["_law_deck_here", "_law_most", "_law_body"] ["_law_deck_here", "_law_most"] (AD EW) := ⟨rfl, rfl, rfl, by decide +kernel, rfl, by decide +kernel, by decide +kernel⟩
abbrev IA : Stmt := top 34
theorem ZG : AQ ["_law_found"] ["_law_found"] (AD IA) := ⟨rfl, rfl, rfl, by decide +kernel, rfl, by decide +kernel, by decide +kernel⟩
abbrev DE : Stmt := top 35
theorem ML : AQ ["_law_statement"] ["_law_statement"] (AD DE) := ⟨rfl, rfl, rfl, by decide +kernel, rfl, by decide +kernel, by decide +kernel⟩
abbrev EY : Stmt := top 36
theorem DD : AQ ["_law_place", "_law_heading", "_law_steps", "_law_ways", "_law_east", "_law_north", "_law_x", "_law_y", "_law_here"] ["_law_place", "_law_heading", "_law_steps"] (AD EY) := ⟨rfl, rfl, rfl, by decide +kernel, rfl, by decide +kernel, by decide +kernel⟩
abbrev ED : Stmt := top 37
theorem BX : AQ ["_law_body", "_law_place", "_law_heading", "_law_pen", "_law_ink", "_law_strokes", "_law_statement", "_law_ahead"] ["_law_body"] (AD ED) := ⟨rfl, rfl, rfl, by decide +kernel, rfl, by decide +kernel, by decide +kernel⟩
abbrev IV : Stmt := top 38
theorem FH : AQ ["_law_script", "_law_body", "_law_found", "_law_strokes", "_law_end", "_law_due", "_law_start", "_law_told"] ["_law_script"] (AD IV) := ⟨rfl, rfl, rfl, by decide +kernel, rfl, by decide +kernel, by decide +kernel⟩
structure Own (K : PySem.W.Frag) (mg : Str → Option Value) (x : Str) (st : Stmt) (ps : List Str) (f : Addr) (fd : FuncData) : Prop where
 F : Fun K x x st f fd
 b : ES K fd ps []
 m : mg x = some (.ref f)
structure IY (K : PySem.W.Frag) (C : Addr) (x qx : Str) (st : Stmt) (ps : List Str) (f : Addr) (fd : FuncData) : Prop where
 F : Fun K x qx st f fd
 b : ES K fd ps []
 mt : YF K C x f
structure aY (K : PySem.W.Frag) (C : Addr) (x qx : Str) (st : Stmt) (ps : List Str) (f : Addr) (fd : FuncData) : Prop where
 F : Fun K x qx st f fd
 b : ES K fd ps []
 mki : Mk K C f
def JE : D := .int (8)
def IS : D := .tup [.tup [.int (0), .int (0)], .tup [.int (0), .int (0)]]
def HU : D := .tup [.tup [.tup [.int (1), .int (0)], .tup [.int (0), .int (0)]], .tup [.tup [.int (0), .int (1)], .tup [.int (0), .int (1)]], .tup [.tup [.int (0), .int (0)], .tup [.int (1), .int (0)]], .tup [.tup [.int (0), .int (-1)], .tup [.int (0), .int (1)]], .tup [.tup [.int (-1), .int (0)], .tup [.int (0), .int (0)]], .tup [.tup [.int (0), .int (-1)], .tup [.int (0), .int (-1)]], .tup [.tup [.int (0), .int (0)], .tup [.int (-1), .int (0)]], .tup [.tup [.int (0), .int (1)], .tup [.int (0), .int (-1)]]]
def QH : D := .int (8)
def EQ : D := .int (1000000)
set_option genInjectivity false in
set_option genSizeOf false in
structure Adr where
 a_plus : Addr
 d_plus : FuncData
 a_times : Addr
 d_times : FuncData
 a_moved : Addr
 d_moved : FuncData
 a_Hand_init : Addr
 d_Hand_init : FuncData
 a_Hand_cometo : Addr
 d_Hand_cometo : FuncData
 a_Hand_go : Addr
 d_Hand_go : FuncData
 a_Hand_turn : Addr
 d_Hand_turn : FuncData
 a_Hand_act : Addr
 d_Hand_act : FuncData
 a_Hand_end : Addr
 d_Hand_end : FuncData
 a_undoing : Addr
 d_undoing : FuncData
 a_backwards : Addr
 d_backwards : FuncData
 a_worth : Addr
 d_worth : FuncData
 a_Level_init : Addr
 d_Level_init : FuncData
 a_Level_isatend : Addr
 d_Level_isatend : FuncData
 a_Level_isthrough : Addr
 d_Level_isthrough : FuncData
 a_Level_nextstatement : Addr
 d_Level_nextstatement : FuncData
 a_Walk_init : Addr
 d_Walk_init : FuncData
 a_Walk_isdone : Addr
 d_Walk_isdone : FuncData
 a_Walk_dodeed : Addr
 d_Walk_dodeed : FuncData
 a_Walk_begin : Addr
 d_Walk_begin : FuncData
 a_Walk_act : Addr
 d_Walk_act : FuncData
 a_walked : Addr
 d_walked : FuncData
 a_run : Addr
 d_run : FuncData
 a_Lmixed : Addr
 d_Lmixed : FuncData
 a_Lrow : Addr
 d_Lrow : FuncData
 a_Lcell : Addr
 d_Lcell : FuncData
 a_Ldeck : Addr
 d_Ldeck : FuncData
 a_Lnext : Addr
 d_Lnext : FuncData
 a_Lsingle : Addr
 d_Lsingle : FuncData
 a_Lplain : Addr
 d_Lplain : FuncData
 a_Lint : Addr
 d_Lint : FuncData
 a_Lissingle : Addr
 d_Lissingle : FuncData
 a_Lmoved : Addr
 d_Lmoved : FuncData
 a_Lwalked : Addr
 d_Lwalked : FuncData
 a_law : Addr
 d_law : FuncData
 c_Hand : Addr
 c_Level : Addr
 c_Walk : Addr
 u_ROUND : Value
 v_ROUND : V
 u_BEGINNING : Value
 v_BEGINNING : V
 u_STEPS : Value
 v_STEPS : V
 u_INKS : Value
 v_INKS : V
 u_MOST_AMOUNT : Value
 v_MOST_AMOUNT : V
local macro_rules | `(tactic| walk_at "rd") => `(tactic| ((try simp only [L2.start, L2.stC, List.map_cons, List.map_nil, List.length_cons, List.length_nil, List.replicate_succ, List.replicate_zero, List.nil_append, List.cons_append, Nat.reduceAdd, Nat.reduceSub, Nat.zero_add, Nat.sub_self, Nat.add_one_sub_one]); (try dsimp only [WU, NO, XQ, UX, GZ, MI, MK, JZ, VL, XF, WY, ipI, IC, OL, HP, KJ, rIn, UV, WO, UI, tSl, HR, PN, UN, XO, OI, UB, LU, tOp, tUn, rI, rI0, rU, UA, tC, UO, LP, UE, OD, ON, MA, QL, UM, YA, tCB, XY, XU, tOr, PJ, NY, tB, tIf, UR, LG, WB, OB, XL, L2.start, VC, XN, JJ, OX, PD, WS, HL, L2.stC, tBM, HB, List.getElem?_cons_zero, List.getElem?_cons_succ, List.set_cons_zero, List.set_cons_succ, List.map_cons, List.map_nil, List.length_cons, List.length_nil, List.replicate_succ, List.replicate_zero, List.nil_append, List.cons_append, Nat.reduceAdd, Nat.reduceSub, Nat.zero_add, NS, XZ, JR, KA, OA, tBD, JY, PK, OR, FR, rID, KP, rUD, VI, WE, HK, OO, LS, NV, KG, MD, FC, GK, KY, KC, bM, UP, RL, OF, UY, XI, XA, OU, WF, FQ, DR, ET, oBl, MM, o0, o1, o2, oC]); try simp only [WU, NS, XZ, JR, KA, OA, tBD, JY, PK, OR, FR, rID, KP, rUD, VI, WE, HK, OO, LS, NV, KG, MD, FC, GK, KY, KC, OF, UY, XI, XA, OU, WF, FQ, DR, ET, oBl, MM, o0, o1, o2, oC, NO, XQ, UX, GZ, MI, MK, JZ, VL, XF, WY, ipI, IC, OL, HP, KJ, rIn, UV, WO, UI, tSl, HR, PN, UN, XO, OI, UB, LU, tOp, tUn, rI, rI0, rU, UA, tC, UO, LP, UE, OD, ON, MA, QL, UM, YA, tCB, XY, XU, tOr, PJ, NY, tB, tIf, UR, LG, WB, OB, XL, L2.start, VC, XN, JJ, OX, PD, WS, HL, L2.stC, tBM, HB, tyV, List.getElem?_cons_zero, List.getElem?_cons_succ, List.set_cons_zero, List.set_cons_succ, List.map_cons, List.map_nil, List.length_cons, List.length_nil, List.length_map, List.replicate_succ, List.replicate_zero, List.append_nil, List.nil_append, List.cons_append, Option.some.injEq, Option.join_some, V.int.injEq, V.bl.injEq, V.ref.injEq, V.str.injEq, List.cons.injEq, exists_and_left, exists_and_right, exists_eq_left, exists_eq_left', exists_eq, exists_eq', and_true, true_and, and_self, and_assoc, decide_eq_true_eq, Nat.reduceAdd, Nat.reduceSub, Nat.add_one_sub_one, Nat.sub_self, Nat.zero_add, reduceCtorEq, eq_self, not_true_eq_false, not_false_eq_true, false_and, and_false, exists_false, false_or, or_false, if_true, if_false, ite_true, ite_false, Bool.false_eq_true, Bool.not_true, Bool.not_false, Bool.not_eq_true', decide_eq_false_iff_not]))
local macro_rules | `(tactic| walk_at "rh") => `(tactic| ((try refine YH ?_); walk_at "rd"))
local macro_rules | `(tactic| walk_at "ro") => `(tactic| ((try simp only [L2.start, L2.stC, List.map_cons, List.map_nil, List.length_cons, List.length_nil, List.replicate_succ, List.replicate_zero, List.nil_append, List.cons_append, Nat.reduceAdd, Nat.reduceSub, Nat.zero_add, Nat.sub_self, Nat.add_one_sub_one]); (try dsimp only [NO, XQ, UX, GZ, MI, MK, JZ, VL, XF, WY, ipI, IC, OL, HP, KJ, rIn, UV, WO, UI, tSl, HR, PN, UN, XO, OI, UB, LU, tOp, tUn, rI, rI0, rU, UA, tC, UO, LP, UE, OD, ON, MA, QL, UM, YA, tCB, XY, XU, tOr, PJ, NY, tB, tIf, UR, LG, WB, OB, XL, L2.start, VC, XN, JJ, OX, PD, WS, HL, L2.stC, tBM, HB, List.getElem?_cons_zero, List.getElem?_cons_succ, List.set_cons_zero, List.set_cons_succ, List.map_cons, List.map_nil, List.length_cons, List.length_nil, List.replicate_succ, List.replicate_zero, List.nil_append, List.cons_append, Nat.reduceAdd, Nat.reduceSub, Nat.zero_add, NS, XZ, JR, KA, OA, tBD, JY, PK, OR, FR, rID, KP, rUD, VI, WE, HK, OO, LS, NV, KG, MD, FC, GK, KY, KC, bM, UP, RL, OF, UY, XI, XA, OU, WF, FQ, DR, ET, oBl, MM, o0, o1, o2, oC]); try simp only [AB, RM, HO.ins.injEq, NS, XZ, JR, KA, OA, tBD, JY, PK, OR, FR, rID, KP, rUD, VI, WE, HK, OO, LS, NV, KG, MD, FC, GK, KY, KC, OF, UY, XI, XA, OU, WF, FQ, DR, ET, oBl, MM, o0, o1, o2, oC, NO, XQ, UX, GZ, MI, MK, JZ, VL, XF, WY, ipI, IC, OL, HP, KJ, rIn, UV, WO, UI, tSl, HR, PN, UN, XO, OI, UB, LU, tOp, tUn, rI, rI0, rU, UA, tC, UO, LP, UE, OD, ON, MA, QL, UM, YA, tCB, XY, XU, tOr, PJ, NY, tB, tIf, UR, LG, WB, OB, XL, L2.start, VC, XN, JJ, OX, PD, WS, HL, L2.stC, tBM, HB, tyV, List.getElem?_cons_zero, List.getElem?_cons_succ, List.set_cons_zero, List.set_cons_succ, List.map_cons, List.map_nil, List.length_cons, List.length_nil, List.length_map, List.replicate_succ, List.replicate_zero, List.append_nil, List.nil_append, List.cons_append, Option.some.injEq, Option.join_some, V.int.injEq, V.bl.injEq, V.ref.injEq, V.str.injEq, List.cons.injEq, exists_and_left, exists_and_right, exists_eq_left, exists_eq_left', exists_eq, exists_eq', and_true, true_and, and_self, and_assoc, decide_eq_true_eq, Nat.reduceAdd, Nat.reduceSub, Nat.add_one_sub_one, Nat.sub_self, Nat.zero_add, reduceCtorEq, eq_self, not_true_eq_false, not_false_eq_true, false_and, and_false, exists_false, false_or, or_false, if_true, if_false, ite_true, ite_false, Bool.false_eq_true, Bool.not_true, Bool.not_false, Bool.not_eq_true', decide_eq_false_iff_not]))
theorem kk {k : Int} (h0 : 0 ≤ k) (h1 : k ≤ 100) : 0 ≤ k * k ∧ k * k ≤ 10000 := by
 have a : k * k ≤ 100 * 100 := Int.mul_le_mul h1 h1 h0 (by decide)
 have a0 : 0 ≤ k * k := Int.mul_nonneg h0 h0
 exact ⟨a0, a⟩
theorem zk {k z : Int} (h0 : 0 ≤ k) (h1 : k ≤ 100) (z0 : 0 ≤ z) (z1 : z < 10 ^ 40) : 0 ≤ z * (48271 + k) ∧ z * (48271 + k) ≤ 10 ^ 40 * 48371 := by
 have b : z * (48271 + k) ≤ 10 ^ 40 * 48371 := Int.mul_le_mul (by omega) (by omega) (by omega) (by decide)
 exact ⟨Int.mul_nonneg z0 (by omega), b⟩
structure Pl where
 a : Int
 b : Int
 c : Int
 d : Int
def CM (h : Int) : Pl := if h % 8 = 0 then ⟨1, 0, 0, 0⟩ else if h % 8 = 1 then ⟨0, 1, 0, 1⟩ else if h % 8 = 2 then ⟨0, 0, 1, 0⟩ else if h % 8 = 3 then ⟨0, -1, 0, 1⟩ else if h % 8 = 4 then ⟨-1, 0, 0, 0⟩ else if h % 8 = 5 then ⟨0, -1, 0, -1⟩ else if h % 8 = 6 then ⟨0, 0, -1, 0⟩ else ⟨0, 1, 0, -1⟩
def mv (p : Pl) (h n : Int) : Pl := ⟨p.a + (CM h).a * n, p.b + (CM h).b * n, p.c + (CM h).c * n, p.d + (CM h).d * n⟩
abbrev Pl.D (p : Pl) : L2.D := plc p.a p.b p.c p.d
theorem aL (h : Int) : h % 8 = 0 ∨ h % 8 = 1 ∨ h % 8 = 2 ∨ h % 8 = 3 ∨ h % 8 = 4 ∨ h % 8 = 5 ∨ h % 8 = 6 ∨ h % 8 = 7 := by omega
theorem ZN (h : Int) : (match HU with | .tup ds => ds.getD (h % 8).toNat .non | _ => .non) = .tup [num (CM h).a (CM h).b, num (CM h).c (CM h).d] := by
 rcases aL h with e | e | e | e | e | e | e | e <;> simp only [CM, e] <;> rfl
theorem ZC (p : Pl) (h n : Int) : mv (mv p h n) h (0 - n) = p := by
 cases p
 rcases aL h with e | e | e | e | e | e | e | e <;> simp [mv, CM, e] <;> omega
structure Txt (K : PySem.W.Frag) (mg : Str → Option Value) (t : Adr) : Prop where
 plus : Own K mg "plus" IH ["one", "other"] t.a_plus t.d_plus
 times : Own K mg "times" GF ["number", "factor"] t.a_times t.d_times
 moved : Own K mg "moved" GJ ["place", "heading", "steps"] t.a_moved t.d_moved
 Hand_init : aY K t.c_Hand "__init__" "Hand.__init__" DF ["self"] t.a_Hand_init t.d_Hand_init
 Hand_cometo : IY K t.c_Hand "come_to" "Hand.come_to" CQ ["self", "spot"] t.a_Hand_cometo t.d_Hand_cometo
 Hand_go : IY K t.c_Hand "go" "Hand.go" EC ["self", "steps"] t.a_Hand_go t.d_Hand_go
 Hand_turn : IY K t.c_Hand "turn" "Hand.turn" DG ["self", "eighths"] t.a_Hand_turn t.d_Hand_turn
 Hand_act : IY K t.c_Hand "act" "Hand.act" DO ["self", "statement"] t.a_Hand_act t.d_Hand_act
 Hand_end : IY K t.c_Hand "end" "Hand.end" DQ ["self"] t.a_Hand_end t.d_Hand_end
 undoing : Own K mg "undoing" EA ["statement", "hand"] t.a_undoing t.d_undoing
 backwards : Own K mg "backwards" DH ["program"] t.a_backwards t.d_backwards
 worth : Own K mg "worth" GD ["amount", "sources"] t.a_worth t.d_worth
 Level_init : aY K t.c_Level "__init__" "Level.__init__" CY ["self", "body", "sources"] t.a_Level_init t.d_Level_init
 Level_isatend : IY K t.c_Level "is_at_end" "Level.is_at_end" CG ["self"] t.a_Level_isatend t.d_Level_isatend
 Level_isthrough : IY K t.c_Level "is_through" "Level.is_through" BW ["self"] t.a_Level_isthrough t.d_Level_isthrough
 Level_nextstatement : IY K t.c_Level "next_statement" "Level.next_statement" BI ["self"] t.a_Level_nextstatement t.d_Level_nextstatement
 Walk_init : aY K t.c_Walk "__init__" "Walk.__init__" CS ["self", "program"] t.a_Walk_init t.d_Walk_init
 Walk_isdone : IY K t.c_Walk "is_done" "Walk.is_done" CP ["self"] t.a_Walk_isdone t.d_Walk_isdone
 Walk_dodeed : IY K t.c_Walk "do_deed" "Walk.do_deed" CO ["self"] t.a_Walk_dodeed t.d_Walk_dodeed
 Walk_begin : IY K t.c_Walk "begin" "Walk.begin" CV ["self", "statement", "sources"] t.a_Walk_begin t.d_Walk_begin
 Walk_act : IY K t.c_Walk "act" "Walk.act" DP ["self", "statement"] t.a_Walk_act t.d_Walk_act
 walked : Own K mg "walked" EU ["program", "most"] t.a_walked t.d_walked
 run : Own K mg "run" MF ["program", "most"] t.a_run t.d_run
 Lmixed : Own K mg "_law_mixed" EV ["_law_cell_here", "_law_k"] t.a_Lmixed t.d_Lmixed
 Lrow : Own K mg "_law_row" GX ["_law_cell_here", "_law_most", "_law_many"] t.a_Lrow t.d_Lrow
 Lcell : Own K mg "_law_cell" GG ["_law_script", "_law_k"] t.a_Lcell t.d_Lcell
 Ldeck : Own K mg "_law_deck" GI ["_law_script", "_law_start"] t.a_Ldeck t.d_Ldeck
 Lnext : Own K mg "_law_next" GM ["_law_deck_here"] t.a_Lnext t.d_Lnext
 Lsingle : Own K mg "_law_single" EB ["_law_deck_here"] t.a_Lsingle t.d_Lsingle
 Lplain : Own K mg "_law_plain" EW ["_law_deck_here", "_law_most"] t.a_Lplain t.d_Lplain
 Lint : Own K mg "_law_int" IA ["_law_found"] t.a_Lint t.d_Lint
 Lissingle : Own K mg "_law_is_single" DE ["_law_statement"] t.a_Lissingle t.d_Lissingle
 Lmoved : Own K mg "_law_moved" EY ["_law_place", "_law_heading", "_law_steps"] t.a_Lmoved t.d_Lmoved
 Lwalked : Own K mg "_law_walked" ED ["_law_body"] t.a_Lwalked t.d_Lwalked
 law : Own K mg "law" IV ["_law_script"] t.a_law t.d_law
 cl_Hand : Cls K t.c_Hand
 mg_Hand : mg "Hand" = some (.ref t.c_Hand)
 n_Hand_spot : BR K t.c_Hand "spot"
 n_Hand_heading : BR K t.c_Hand "heading"
 n_Hand_down : BR K t.c_Hand "down"
 n_Hand_ink : BR K t.c_Hand "ink"
 n_Hand_turned : BR K t.c_Hand "turned"
 n_Hand_marks : BR K t.c_Hand "marks"
 n_Hand_strokes : BR K t.c_Hand "strokes"
 n_Hand_corners : BR K t.c_Hand "corners"
 cl_Level : Cls K t.c_Level
 mg_Level : mg "Level" = some (.ref t.c_Level)
 n_Level_body : BR K t.c_Level "body"
 n_Level_sources : BR K t.c_Level "sources"
 n_Level_at : BR K t.c_Level "at"
 n_Level_begun : BR K t.c_Level "begun"
 n_Level_rounds : BR K t.c_Level "rounds"
 cl_Walk : Cls K t.c_Walk
 mg_Walk : mg "Walk" = some (.ref t.c_Walk)
 n_Walk_bodies : BR K t.c_Walk "bodies"
 n_Walk_levels : BR K t.c_Walk "levels"
 n_Walk_hand : BR K t.c_Walk "hand"
 n_Walk_acts : BR K t.c_Walk "acts"
 z_bool : mg "bool" = none
 z_int : mg "int" = none
 z_isinstance : mg "isinstance" = none
 z_len : mg "len" = none
 z_list : mg "list" = none
 z_max : mg "max" = none
 z_min : mg "min" = none
 z_range : mg "range" = none
 z_reversed : mg "reversed" = none
 z_str : mg "str" = none
 z_tuple : mg "tuple" = none
 g_ROUND : mg "ROUND" = some t.u_ROUND
 r_ROUND : BF t.v_ROUND t.u_ROUND
 k_ROUND : ∀ H, Rp K H JE t.v_ROUND
 g_BEGINNING : mg "BEGINNING" = some t.u_BEGINNING
 r_BEGINNING : BF t.v_BEGINNING t.u_BEGINNING
 k_BEGINNING : ∀ H, Rp K H IS t.v_BEGINNING
 g_STEPS : mg "STEPS" = some t.u_STEPS
 r_STEPS : BF t.v_STEPS t.u_STEPS
 k_STEPS : ∀ H, Rp K H HU t.v_STEPS
 g_INKS : mg "INKS" = some t.u_INKS
 r_INKS : BF t.v_INKS t.u_INKS
 k_INKS : ∀ H, Rp K H QH t.v_INKS
 g_MOST_AMOUNT : mg "MOST_AMOUNT" = some t.u_MOST_AMOUNT
 r_MOST_AMOUNT : BF t.v_MOST_AMOUNT t.u_MOST_AMOUNT
 k_MOST_AMOUNT : ∀ H, Rp K H EQ t.v_MOST_AMOUNT
section
variable {P : Program} {w : World} {K : PySem.W.Frag} {mg : Str → Option Value} {base : Heap} {t : Adr}
def WA (K : PySem.W.Frag) : Sp := fun vs H Q _ => ∃ (a : Addr) (ns : List Int) (k : Int), vs = [.ref a, .int k] ∧ SqL K H a (ns.map V.int) ∧ ns.length ≤ 63 ∧ 0 ≤ k ∧ k ≤ 100 ∧ ∀ z, Q (.int z) H
theorem NZ (T : Txt K mg t) : BY P w K mg base CX0 1 t.a_Lcell t.d_Lcell ["_law_script", "_law_k"] (WA K) := by
 refine T.Lcell.F.ok JU (fun vs H Q E h => ?_) (fun cdv A outer s H vs Q E hr h => ?_)
 ·obtain ⟨a, ns, k, rfl, _⟩ := h; rfl
 ·obtain ⟨a, ns, k, rfl, hS, hl, k0, k1, q⟩ := h
  have hk := kk k0 k1
  refine ⟨_, s!"{KK}1A{AR}{T.z_len}{PySem.boot_len}0ADBR{AS _}J{DU}0A1AHKETL2{JU.nd}{CI}{BO}{BO}1A1AGCGCGI{KF}{AR}{T.z_len}{PySem.boot_len}0ADBRC{AS _}J2{JU.nd}{CI}2A{BO}{BM}{DU}0A{BM}{BO}1ACG{AR}{T.z_len}{PySem.boot_len}0ADBRGH{RT}CCGG{CI}C1AGGGIETL{BM}{BO}2A2AGCGKEFFF", ?_⟩
  walk_at "rd"
  refine ⟨_, .inl hS, ?_⟩
  walk_at "rd"
  split
  ·rename_i c
   obtain ⟨z, _, hz⟩ := PQ k0 c
   exact ⟨_, hS, _, hz, q z⟩
  ·rename_i c
   refine ⟨DT (by omega) (by omega), GH (by decide) (by decide), _, .inl hS, ?_⟩
   walk_at "rd"
   split
   ·rename_i d
    refine ⟨GH (by decide) (by decide), _, .inl hS, ?_⟩
    walk_at "rd"
    have hp : (0 : Int) < ns.length := by omega
    obtain ⟨z, _, hz⟩ := PQ (ns := ns) (Int.emod_nonneg (k * 7) (by omega)) (Int.emod_lt_of_pos (k * 7) hp)
    refine ⟨hp, _, hS, _, hz, ?_⟩
    walk_at "rd"
    refine ⟨⟨by decide, by decide, by decide⟩, by decide, GH (by omega) (by omega), ?_⟩
    have h1 := zk k0 k1 (Int.emod_nonneg z (by decide : (10 : Int) ^ 40 ≠ 0)) (Int.emod_lt_of_pos z (by decide : (0 : Int) < 10 ^ 40))
    have e40 : (10 : Int) ^ Int.toNat 40 = 10 ^ 40 := rfl
    rw [e40]
    generalize z % 10 ^ 40 * (48271 + k) = y at h1 ⊢
    refine ⟨QQ 200 200 (by omega) (by omega) (by decide), by decide, q _⟩
   ·exact ⟨DT (by omega) (by omega), by decide, q _⟩
def TV : Sp := fun vs H Q _ => ∃ (c k : Int), vs = [.int c, .int k] ∧ 0 ≤ k ∧ k ≤ 100 ∧ ∀ z, Q (.int z) H
theorem SU (T : Txt K mg t) : BY P w K mg base CX0 1 t.a_Lmixed t.d_Lmixed ["_law_cell_here", "_law_k"] TV := by
 refine T.Lmixed.F.ok GA (fun vs H Q E h => ?_) (fun cdv A outer s H vs Q E hr h => ?_)
 ·obtain ⟨c, k, rfl, _⟩ := h; rfl
 ·obtain ⟨c, k, rfl, k0, k1, q⟩ := h
  have hk := kk k0 k1
  have md : ∀ x : Int, 0 ≤ x % 2305843009213693951 ∧ x % 2305843009213693951 < 2305843009213693951 := fun x => ⟨Int.emod_nonneg x (by decide), Int.emod_lt_of_pos x (by decide)⟩
  refine ⟨_, s!"2{GA.nd}{BM}{CI}{CI}0A{BO}{BO}1A1AGCGGCGCGI2{GA.nd}{BM}{BO}2A2AGCGI2{GA.nd}{BM}{BO}{CI}{CI}2A{BO}1ACGGCGCGCGI{GC}{BM}{BO}2A2AGCGCGKEFFF", ?_⟩
  walk_at "rd"
  refine ⟨DT (by omega) (by omega), GH (by decide) (by decide), by decide, ?_⟩
  have h1 := md (c + k * k * 40503 + 12345)
  generalize (c + k * k * 40503 + 12345) % 2305843009213693951 = x1 at h1 ⊢
  refine ⟨DT (by omega) (by omega), by decide, ?_⟩
  have h2 := md (x1 * x1)
  generalize x1 * x1 % 2305843009213693951 = x2 at h2 ⊢
  refine ⟨DT (by omega) (by omega), GH (by decide) (by decide), by decide, ?_⟩
  have h3 := md ((x2 + k * 7919 + 1) * 48271)
  generalize (x2 + k * 7919 + 1) * 48271 % 2305843009213693951 = x3 at h3 ⊢
  refine ⟨DT (by omega) (by omega), by decide, by decide, by decide, q _⟩
def YR : Sp := fun vs H Q _ => ∃ (c most many : Int), vs = [.int c, .int most, .int many] ∧ 0 < most ∧ most < 2 ^ 100 ∧ 0 ≤ many ∧ many ≤ 60 ∧
 ∀ (l : Addr) (xs : List Int) (H' : Hp), AI H H' → H l = none → H' l = some (.lst (xs.map V.int)) → xs.length = many.toNat → (∀ x ∈ xs, 0 ≤ x ∧ x < most) → Q (.ref l) H'
def bS (c m n : Int) (l : Addr) (H : Hp) (i : Nat) (σ : L2.St) (H2 : Hp) : Prop := ∃ (xs : List Int) (r : Int) (kv : Option V), σ = [some (.int c), some (.int m), some (.int n), some (.ref l), some (.int r), kv] ∧ H2 = upd H l (.lst (xs.map V.int)) ∧ xs.length = i ∧ ∀ x ∈ xs, 0 ≤ x ∧ x < m
def ZL (c m : Int) (p : Addr) (H : Hp) (i : Nat) (σ : L2.St) (H2 : Hp) : Prop := ∃ (ys : List Int) (kv : Option V), σ = [some (.int m), some (.int c), kv] ∧ AI H H2 ∧ H2 p = some (.lst (ys.map V.int)) ∧ ys.length = i ∧ ∀ x ∈ ys, 0 ≤ x ∧ x < m
theorem YY (T : Txt K mg t) : BY P w K mg base CX0 2 t.a_Lrow t.d_Lrow ["_law_cell_here", "_law_most", "_law_many"] YR := by
 refine T.Lrow.F.ok HH (fun vs H Q E h => ?_) (fun cdv A outer s H vs Q E hr h => ?_)
 ·obtain ⟨c, m, n, rfl, _⟩ := h; rfl
 ·obtain ⟨c, m, n, rfl, m0, m1, n0, n1, q⟩ := h
  have md : ∀ x : Int, 0 ≤ x % m ∧ x % m < m := fun x => ⟨Int.emod_nonneg x (by omega), Int.emod_lt_of_pos x m0⟩
  refine ⟨_, s!"3{HH.nd}DbI4{HH.nd}0AI{@LZ _ _ _ _ _ _ (by rfl) T.z_range s!"2ADB" (by rfl)}5{HH.nd}U3A{BM}4A1AGDBmX4{HH.nd}{GC}4A1AGIEFw{KF}4AC{AS _}J3AKETL{AD GX}{["_law_cell_here", "_law_most", "_law_many", "_law_found", "_law_rest", "_law_k"]}{["_law_most", "_law_cell_here", "_law_k"]}{["_law_k"]}{[1, 0]}{@LZ _ _ _ _ _ _ (by rfl) T.z_range s!"2ADB" (by rfl)}{fun _ _ _ _ => s!"2{show List.Nodup (["_law_most", "_law_cell_here", "_law_k"] : List Str) by decide +kernel}U"}{fun _ _ _ _ => (@OT _)}{fun _ _ _ _ => s!"{BM}{SU T}{T.Lmixed.m}{T.Lmixed.F.kp}{T.Lmixed.b}1A2ADBBN0AG"}yKEFFFF", ?_⟩
  walk_at "rd"
  refine ⟨Nat.zero_le _, fun l hl => ⟨by omega, by omega, ?_⟩⟩
  refine OW (bS c m n l H) ⟨[], c, none, rfl, rfl, rfl, by intro x hx; cases hx⟩ ?_ ?_
  ·rintro i σ H2 hi ⟨xs, r, kv, rfl, rfl, hx, hb⟩
   walk_at "rd"
   refine ⟨.inl ⟨_, SqL.of AB⟩, m0, ?_⟩
   refine ⟨_, AB, IE (by rw [List.length_map]; omega), m0, m1, xs ++ [r % m], _, _, rfl, ?_, ?_, ?_⟩
   ·rw [RM, List.map_append]; rfl
   ·rw [List.length_append, hx]; rfl
   ·intro x h
    rcases List.mem_append.mp h with h | h
    ·exact hb x h
    ·rw [List.mem_singleton.mp h]; exact md r
  ·rintro σ H2 ⟨xs, r, kv, rfl, rfl, hx, hb⟩
   walk_at "rd"
   split
   ·exact q l xs _ (AI.upd hl) hl AB hx hb
   ·refine ⟨by omega, by omega, fun p hp => ?_⟩
    have hne : p ≠ l := fun e => by rw [e, AB] at hp; cases hp
    have hp0 : H p = none := by rw [AH hne] at hp; exact hp
    refine UF (ZL c m p H) ⟨[], none, rfl, (AI.upd hl).upd2 hp0, AB, rfl, by intro x hx; cases hx⟩ ?_ ?_
    ·rintro i σ H2 hi ⟨ys, kv, rfl, sm, hy, hlen, hby⟩
     walk_at "rd"
     refine ⟨_, _, rfl, by omega, by omega, fun z => ?_⟩
     walk_at "rd"
     refine ⟨m0, _, hy, IE (by rw [List.length_map]; omega), nx hi ⟨ys ++ [z % m], _, rfl, sm.upd2 hp0, ?_, ?_, ?_⟩⟩
     ·rw [AB, List.map_append]; rfl
     ·rw [List.length_append, hlen]; rfl
     ·intro x h
      rcases List.mem_append.mp h with h | h
      ·exact hby x h
      ·rw [List.mem_singleton.mp h]; exact md z
    ·rintro σ H2 ⟨ys, kv, rfl, sm, hy, hlen, hby⟩
     exact q p ys _ sm hp0 hy hlen hby
def ZU (K : PySem.W.Frag) : Sp := fun vs H Q _ => ∃ (x y : V) (a b c d : Int), vs = [x, y] ∧ Rp K H (num a b) x ∧ Rp K H (num c d) y ∧ ∀ v H', AI H H' → Rp K H' (num (a + c) (b + d)) v → Q v H'
theorem RZ (T : Txt K mg t) : BY P w K mg base CX0 1 t.a_plus t.d_plus ["one", "other"] (ZU K) := by
 refine T.plus.F.ok ZH (fun vs H Q E h => ?_) (fun cdv A outer s H vs Q E hr h => ?_)
 ·obtain ⟨x, y, a, b, c, d, rfl, _⟩ := h; rfl
 ·obtain ⟨x, y, a, b, c, d, rfl, hx, hy, q⟩ := h
  obtain ⟨p, rfl, hp⟩ := DK.mp hx
  obtain ⟨p', rfl, hp'⟩ := DK.mp hy
  refine ⟨_, s!"{CI}{AK}0ACH{AK}1ACHG{CI}{AK}0ACH{AK}1ACHGDBBQKE", ?_⟩
  walk_at "rd"
  refine ⟨_, hp, _, rfl, ?_⟩
  walk_at "rd"
  refine ⟨_, hp', _, rfl, ?_⟩
  walk_at "rd"
  refine ⟨_, hp, _, rfl, ?_⟩
  walk_at "rd"
  refine ⟨_, hp', _, rfl, ?_⟩
  walk_at "rd"
  exact ⟨by decide, fun p hp => q _ _ (AI.upd hp) (DK.mpr ⟨p, rfl, SqT.of AB⟩)⟩
def VX (K : PySem.W.Frag) : Sp := fun vs H Q _ => ∃ (x : V) (a b f : Int), vs = [x, .int f] ∧ Rp K H (num a b) x ∧ (-(2 ^ 60) ≤ f ∧ f ≤ 2 ^ 60) ∧ ∀ v H', AI H H' → Rp K H' (num (a * f) (b * f)) v → Q v H'
theorem OH (T : Txt K mg t) : BY P w K mg base CX0 1 t.a_times t.d_times ["number", "factor"] (VX K) := by
 refine T.times.F.ok UK (fun vs H Q E h => ?_) (fun cdv A outer s H vs Q E hr h => ?_)
 ·obtain ⟨x, a, b, f, rfl, _⟩ := h; rfl
 ·obtain ⟨x, a, b, f, rfl, hx, hf, q⟩ := h
  obtain ⟨p, rfl, hp⟩ := DK.mp hx
  have mo : ∀ z, IntMulOk z f := fun z => GH (by have := hf.1; omega) (by have := hf.2; omega)
  refine ⟨_, s!"{BO}{AK}0ACH1AG{BO}{AK}0ACH1AGDBBQKE", ?_⟩
  walk_at "rd"
  refine ⟨_, hp, _, rfl, ?_⟩
  walk_at "rd"
  refine ⟨mo _, _, hp, _, rfl, ?_⟩
  walk_at "rd"
  exact ⟨mo _, by decide, fun p hp => q _ _ (AI.upd hp) (DK.mpr ⟨p, rfl, SqT.of AB⟩)⟩
def XV (K : PySem.W.Frag) : Sp := fun vs H Q _ => ∃ (x : V) (p : Pl) (h n : Int), vs = [x, .int h, .int n] ∧ Rp K H p.D x ∧ (-(2 ^ 60) ≤ n ∧ n ≤ 2 ^ 60) ∧ ∀ v H', AI H H' → Rp K H' (mv p h n).D v → Q v H'
theorem VH (T : Txt K mg t) : BY P w K mg base CX0 2 t.a_moved t.d_moved ["place", "heading", "steps"] (XV K) := by
 refine T.moved.F.ok FX (fun vs H Q E h => ?_) (fun cdv A outer s H vs Q E hr h => ?_)
 ·obtain ⟨x, p, h, n, rfl, _⟩ := h; rfl
 ·obtain ⟨x, p, h, n, rfl, hx, hn, q⟩ := h
  obtain ⟨a0, x1, y1, rfl, hs, hx1, hy1⟩ := BJ.mp hx
  refine ⟨_, s!"0A3{FX.nd}U4{FX.nd}Unaarq{AK}{T.g_STEPS}{T.r_STEPS}i{BM}1A{T.g_ROUND}{T.r_ROUND}iGH5{FX.nd}U6{FX.nd}Unaarq{RZ T}{T.plus.m}{T.plus.F.kp}{T.plus.b}3A{OH T}{T.times.m}{T.times.F.kp}{T.times.b}5A2ADBBNDBBN{RZ T}{T.plus.m}{T.plus.F.kp}{T.plus.b}4A{OH T}{T.times.m}{T.times.F.kp}{T.times.b}6A2ADBBNDBBNDBBQKEFF", ?_⟩
  walk_at "rd"
  refine ⟨_, hs, rfl, ?_⟩
  have eR : t.v_ROUND = .int 8 := by have := T.k_ROUND H; rw [JE, Rp] at this; exact this
  have hS := T.k_STEPS H
  rw [HU, Rp] at hS
  obtain ⟨aS, xs, eS, hsS, hlS⟩ := hS
  rw [eR, eS]
  walk_at "rd"
  obtain ⟨v, hv, rv⟩ := hlS.atI (Int.emod_nonneg h (by decide : (8 : Int) ≠ 0)) (Int.emod_lt_of_pos h (by decide : (0 : Int) < 8))
  have hd := ZN h
  rw [HU] at hd
  dsimp only at hd
  rw [hd] at rv
  obtain ⟨a1, x2, y2, rfl, hs2, hx2, hy2⟩ := BJ.mp rv
  refine ⟨by decide, _, hsS, _, hv, ?_⟩
  walk_at "rd"
  refine ⟨_, hs2, rfl, ?_⟩
  walk_at "rd"
  refine ⟨x2, _, _, n, rfl, hx2, hn, fun v1 H1 s1 hv1 => ?_⟩
  refine ⟨x1, v1, _, _, _, _, rfl, hx1.same s1, hv1, fun v2 H2 s2 hv2 => ?_⟩
  walk_at "rd"
  have s12 := s1.trans s2
  refine ⟨y2, _, _, n, rfl, hy2.same s12, hn, fun v3 H3 s3 hv3 => ?_⟩
  refine ⟨y1, v3, _, _, _, _, rfl, hy1.same (s12.trans s3), hv3, fun v4 H4 s4 hv4 => ?_⟩
  walk_at "rd"
  have s14 := (s12.trans s3).trans s4
  refine ⟨by decide, fun z hz => q _ _ (s14.upd2 (s14.free hz)) ?_⟩
  refine BJ.mpr ⟨z, v2, v4, rfl, SqT.of AB, ?_, ?_⟩
  ·exact hv2.same ((s3.trans s4).trans (AI.upd hz))
  ·exact hv4.same (AI.upd hz)
end
theorem bW (p : Pl) (h n m : Int) (h0 : 0 ≤ h) (h1 : h < 8) (hm : m = if 3 < h then 0 - n else n) : (⟨p.a + m * (CM (h % 4)).a, p.b + m * (CM (h % 4)).b, p.c + m * (CM (h % 4)).c, p.d + m * (CM (h % 4)).d⟩ : Pl) = mv p h n := by
 have e : h = 0 ∨ h = 1 ∨ h = 2 ∨ h = 3 ∨ h = 4 ∨ h = 5 ∨ h = 6 ∨ h = 7 := by omega
 cases p
 rcases e with rfl | rfl | rfl | rfl | rfl | rfl | rfl | rfl <;> simp at hm <;> subst hm <;> simp [mv, CM] <;> omega
section
variable {P : Program} {w : World} {K : PySem.W.Frag} {mg : Str → Option Value} {base : Heap} {t : Adr}
def SW (K : PySem.W.Frag) : Sp := fun vs H Q _ => ∃ (x : V) (p : Pl) (h n : Int), vs = [x, .int h, .int n] ∧ Rp K H p.D x ∧ (0 ≤ h ∧ h < 8) ∧ (-(2 ^ 60) ≤ n ∧ n ≤ 2 ^ 60) ∧ ∀ v H', AI H H' → Rp K H' (mv p h n).D v → Q v H'
theorem SY (T : Txt K mg t) : BY P w K mg base CX0 1 t.a_Lmoved t.d_Lmoved ["_law_place", "_law_heading", "_law_steps"] (SW K) := by
 refine T.Lmoved.F.ok DD (fun vs H Q E h => ?_) (fun cdv A outer s H vs Q E hr h => ?_)
 ·obtain ⟨x, p, h, n, rfl, _⟩ := h; rfl
 ·obtain ⟨x, p, h, n, rfl, hx, hh, hn, q⟩ := h
  refine ⟨_, s!"3{DD.nd}PSSOPSSOPddOPSSOPSSOPddOPSSOPSSOPddO{@SJ _ _ _ _ _ _ _ s!"P"}SOPSSOPddODYYYYbI{KF}1AC{AS _}J2{DD.nd}{GB}C2AGIETL{DU}3A{BM}1ACGH4{DD.nd}U5{DD.nd}Unaarq0A6{DD.nd}U7{DD.nd}Unaarq8{DD.nd}{CI}{AK}6ACH{BO}2A{AK}4ACHGG{CI}{AK}6ACH{BO}2A{AK}4ACHGGDBBQI8A{CI}{AK}7ACH{BO}2A{AK}5ACHGG{CI}{AK}7ACH{BO}2A{AK}5ACHGGDBBQDYBQKEZZZZZ", ?_⟩
  walk_at "rh"
  intro v1 H1 s1 r1 v2 H2 s2 r2 v3 H3 s3 r3 v4 H4 s4 r4
  refine ⟨by decide, fun l hl => ?_⟩
  have sl := AI.upd (o := .lst [v1, v2, v3, v4]) hl
  have sG : AI H (upd H4 l (.lst [v1, v2, v3, v4])) := (((s1.trans s2).trans s3).trans s4).trans sl
  have hL : SqL K (upd H4 l (.lst [v1, v2, v3, v4])) l [v1, v2, v3, v4] := SqL.of AB
  obtain ⟨v, hv, rv⟩ : ∃ v, atI [v1, v2, v3, v4] (h % 4) = some v ∧ Rp K (upd H4 l (.lst [v1, v2, v3, v4])) (.tup [num (CM (h % 4)).a (CM (h % 4)).b, num (CM (h % 4)).c (CM (h % 4)).d]) v := by
   have e : h % 4 = 0 ∨ h % 4 = 1 ∨ h % 4 = 2 ∨ h % 4 = 3 := by omega
   rcases e with e | e | e | e <;> rw [e]
   ·exact ⟨v1, rfl, (((r1.same s2).same s3).same s4).same sl⟩
   ·exact ⟨v2, rfl, ((r2.same s3).same s4).same sl⟩
   ·exact ⟨v3, rfl, (r3.same s4).same sl⟩
   ·exact ⟨v4, rfl, r4.same sl⟩
  generalize upd H4 l (.lst [v1, v2, v3, v4]) = G at sG hL rv ⊢
  obtain ⟨a0, x1, y1, rfl, hs, hx1, hy1⟩ := BJ.mp (hx.same sG)
  obtain ⟨a1, rfl, hs1⟩ := DK.mp hx1
  obtain ⟨a2, rfl, hs2⟩ := DK.mp hy1
  obtain ⟨b0, z1, z2, rfl, gs, gx1, gy1⟩ := BJ.mp rv
  obtain ⟨b1, rfl, gs1⟩ := DK.mp gx1
  obtain ⟨b2, rfl, gs2⟩ := DK.mp gy1
  have fin : ∀ m : Int, (m = if 3 < h then 0 - n else n) → ∀ p1, G p1 = none → ∀ p2, upd G p1 (.tup [.int (p.a + m * (CM (h % 4)).a), .int (p.b + m * (CM (h % 4)).b)]) p2 = none →
    ∀ p3, upd (upd G p1 (.tup [.int (p.a + m * (CM (h % 4)).a), .int (p.b + m * (CM (h % 4)).b)])) p2 (.tup [.int (p.c + m * (CM (h % 4)).c), .int (p.d + m * (CM (h % 4)).d)]) p3 = none →
    Q (.ref p3) (upd (upd (upd G p1 (.tup [.int (p.a + m * (CM (h % 4)).a), .int (p.b + m * (CM (h % 4)).b)])) p2 (.tup [.int (p.c + m * (CM (h % 4)).c), .int (p.d + m * (CM (h % 4)).d)])) p3 (.tup [.ref p1, .ref p2])) := by
   intro m hm p1 h1 p2 h2 p3 h3
   have e := bW p h n m hh.1 hh.2 hm
   have t1 := sG.upd2 (o := .tup [.int (p.a + m * (CM (h % 4)).a), .int (p.b + m * (CM (h % 4)).b)]) (sG.free h1)
   have t2 := t1.upd2 (o := .tup [.int (p.c + m * (CM (h % 4)).c), .int (p.d + m * (CM (h % 4)).d)]) (t1.free h2)
   have t3 := t2.upd2 (o := .tup [.ref p1, .ref p2]) (t2.free h3)
   refine q _ _ t3 ?_
   rw [← e]
   refine BJ.mpr ⟨p3, _, _, rfl, SqT.of AB, ?_, ?_⟩
   ·exact (DK.mpr ⟨p1, rfl, SqT.of AB⟩ : Rp K (upd G p1 (.tup [.int (p.a + m * (CM (h % 4)).a), .int (p.b + m * (CM (h % 4)).b)])) (num _ _) _).same ((AI.upd h2).trans (AI.upd h3))
   ·exact (DK.mpr ⟨p2, rfl, SqT.of AB⟩ : Rp K (upd (upd G p1 (.tup [.int (p.a + m * (CM (h % 4)).a), .int (p.b + m * (CM (h % 4)).b)])) p2 (.tup [.int (p.c + m * (CM (h % 4)).c), .int (p.d + m * (CM (h % 4)).d)])) (num _ _) _).same (AI.upd h3)
  walk_at "rh"
  refine ZW (c := 3 < h) (a := 0 - n) (b := n) (R := fun m => TH (α := L2.St → Hp → Prop) _ [some (.ref a0), some (.int h), some (.int m), _, _, _, _, _, _] G) (fun m hm => ?_)
  have mo : ∀ z : Int, IntMulOk m z := fun z => DT (by split at hm <;> omega) (by split at hm <;> omega)
  have fin := fin m hm
  clear hm
  walk_at "rh"
  refine ⟨by decide, _, hL, _, hv, ?_⟩
  walk_at "rh"
  refine ⟨_, gs, rfl, ?_⟩
  walk_at "rh"
  refine ⟨_, hs, rfl, ?_⟩
  walk_at "rh"
  refine ⟨_, hs1, _, rfl, ?_⟩
  walk_at "rh"
  refine ⟨_, gs1, _, rfl, ?_⟩
  walk_at "rh"
  refine ⟨mo _, _, hs1, _, rfl, ?_⟩
  walk_at "rh"
  refine ⟨_, gs1, _, rfl, ?_⟩
  walk_at "rh"
  refine ⟨mo _, by decide, fun p1 h1 => ?_⟩
  walk_at "rh"
  have u1 := AI.upd (o := .tup [.int (p.a + m * (CM (h % 4)).a), .int (p.b + m * (CM (h % 4)).b)]) h1
  refine ⟨_, u1.tup hs2, _, rfl, ?_⟩
  walk_at "rh"
  refine ⟨_, u1.tup gs2, _, rfl, ?_⟩
  walk_at "rh"
  refine ⟨mo _, _, u1.tup hs2, _, rfl, ?_⟩
  walk_at "rh"
  refine ⟨_, u1.tup gs2, _, rfl, ?_⟩
  walk_at "rh"
  exact ⟨mo _, by decide, fun p2 h2 => ⟨by decide, fun p3 h3 => fin p1 h1 p2 h2 p3 h3⟩⟩
end
inductive St1 where
 | go (n : Int) | turn (n : Int) | ink (n : Int) | up | down
def St1.D : St1 → L2.D
 | .go n => .tup [.str "go", .int n]
 | .turn n => .tup [.str "turn", .int n]
 | .ink n => .tup [.str "ink", .int n]
 | .up => .tup [.str "up"]
 | .down => .tup [.str "down"]
structure Hd where
 p : Pl
 h : Int
 dn : Bool
 ink : Int
 tu : Int
 st : List (Int × Pl × Pl)
 co : List Pl
def skD (x : Int × Pl × Pl) : L2.D := .tup [.int x.1, x.2.1.D, x.2.2.D]
def Hd.come (x : Hd) (q : Pl) : Hd := { x with p := q, co := x.co ++ [q] }
def stp (x : Hd) : St1 → Hd
 | .go n => { x with p := mv x.p x.h n, st := if x.dn = true ∧ n ≠ 0 then x.st ++ [(x.ink, x.p, mv x.p x.h n)] else x.st, co := x.co ++ [mv x.p x.h n] }
 | .turn n => { x with h := (x.h + n) % 8, tu := x.tu + n }
 | .ink n => { x with ink := n % 8 }
 | .up => { x with dn := false }
 | .down => { x with dn := true }
def p0 : Pl := ⟨0, 0, 0, 0⟩
def hd0 : Hd := ⟨p0, 0, true, 0, 0, [], [p0]⟩
def hf (vp : V) (x : Hd) (lm ls lc : Addr) : List (Str × V) := [("spot", vp), ("heading", .int x.h), ("down", .bl x.dn), ("ink", .int x.ink), ("turned", .int x.tu), ("marks", .ref lm), ("strokes", .ref ls), ("corners", .ref lc)]
structure BZ (K : PySem.W.Frag) (C : Addr) (H : Hp) (p ls lc : Addr) (x : Hd) : Prop where
 ob : ∃ dx lm vp, H p = some (.ins C dx (hf vp x lm ls lc)) ∧ Rp K H x.p.D vp
 st : ∃ vs, H ls = some (.lst vs) ∧ RpL K H (x.st.map skD) vs
 co : ∃ vs, H lc = some (.lst vs) ∧ RpL K H (x.co.map Pl.D) vs
 ne : ls ≠ lc
section
variable {P : Program} {w : World} {K : PySem.W.Frag} {mg : Str → Option Value} {base : Heap} {t : Adr}
theorem l8 : (8 : Nat) < 1000 := by decide
theorem IU {n : Nat} (h : n ≤ 5000) : n < sizeLine := Nat.lt_of_le_of_lt h (by decide)
theorem NQ (T : Txt K mg t) (H : Hp) : Rp K H p0.D t.v_BEGINNING := T.k_BEGINNING H
def VM (K : PySem.W.Frag) (C : Addr) : Sp := fun vs H Q _ => ∃ (p dx : Addr), vs = [.ref p] ∧ H p = some (.ins C dx []) ∧ ∀ (ls lc : Addr) (H' : Hp), H ls = none → H lc = none → But [p] H H' → BZ K C H' p ls lc hd0 → Q .non H'
theorem HI (T : Txt K mg t) : BY P w K mg base CX0 1 t.a_Hand_init t.d_Hand_init ["self"] (VM K t.c_Hand) := by
 refine T.Hand_init.F.ok NP (fun vs H Q E h => ?_) (fun cdv A outer s H vs Q E hr h => ?_)
 ·obtain ⟨p, dx, rfl, _⟩ := h; rfl
 ·obtain ⟨p, dx, rfl, hp, q⟩ := h
  refine ⟨_, s!"0A{T.g_BEGINNING}{T.r_BEGINNING}iV0ACV0AgV0ACV0ACV0A{@OV _ _}V0ADbV0A{T.g_BEGINNING}{T.r_BEGINNING}iDBbVEFFFFFFF", ?_⟩
  walk_at "ro"
  refine ⟨_, _, _, hp, T.cl_Hand, T.n_Hand_spot, by decide, ?_⟩
  refine ⟨T.cl_Hand, T.n_Hand_heading, (show (1 : Nat) < 1000 by decide), T.cl_Hand, T.n_Hand_down, (show (2 : Nat) < 1000 by decide), T.cl_Hand, T.n_Hand_ink, (show (3 : Nat) < 1000 by decide), T.cl_Hand, T.n_Hand_turned, (show (4 : Nat) < 1000 by decide), ?_⟩
  have g1 : ∀ o, (upd H p o) p = some o := fun o => AB
  have b1 : ∀ o, But [p] H (upd H p o) := fun o => (But.refl _ H).upd (.inr (by simp))
  generalize e1 : BH (Str.ofString "turned") (V.int 0) _ = f1
  have g1 := g1 (.ins t.c_Hand dx f1)
  have b1 := b1 (.ins t.c_Hand dx f1)
  generalize upd H p (.ins t.c_Hand dx f1) = G1 at g1 b1 ⊢
  intro lm hlm
  have nm := AU g1 hlm
  refine ⟨_, _, _, by rw [AH nm]; exact g1, T.cl_Hand, T.n_Hand_marks, by rw [← e1]; exact (show (5 : Nat) < 1000 by decide), by decide, ?_⟩
  have b2 : But [p] H (upd (upd G1 lm (.dK [])) p (.ins t.c_Hand dx (BH (Str.ofString "marks") (.ref lm) f1))) := (b1.upd (.inl (b1.free (by simp [g1]) hlm))).upd (.inr (by simp))
  have g2 : (upd (upd G1 lm (.dK [])) p (.ins t.c_Hand dx (BH (Str.ofString "marks") (.ref lm) f1))) p = some (.ins t.c_Hand dx (BH (Str.ofString "marks") (.ref lm) f1)) := AB
  generalize upd (upd G1 lm (.dK [])) p (.ins t.c_Hand dx (BH (Str.ofString "marks") (.ref lm) f1)) = G2 at g2 b2 ⊢
  intro ls hls
  have ns := AU g2 hls
  refine ⟨_, _, _, by rw [AH ns]; exact g2, T.cl_Hand, T.n_Hand_strokes, by rw [← e1]; exact (show (6 : Nat) < 1000 by decide), ?_⟩
  have fs := b2.free (by simp [g2]) hls
  have b3 : But [p] H (upd (upd G2 ls (.lst [])) p (.ins t.c_Hand dx (BH (Str.ofString "strokes") (.ref ls) (BH (Str.ofString "marks") (.ref lm) f1)))) := (b2.upd (.inl fs)).upd (.inr (by simp))
  have g3 : (upd (upd G2 ls (.lst [])) p (.ins t.c_Hand dx (BH (Str.ofString "strokes") (.ref ls) (BH (Str.ofString "marks") (.ref lm) f1)))) p = some (.ins t.c_Hand dx (BH (Str.ofString "strokes") (.ref ls) (BH (Str.ofString "marks") (.ref lm) f1))) := AB
  have l3 : (upd (upd G2 ls (.lst [])) p (.ins t.c_Hand dx (BH (Str.ofString "strokes") (.ref ls) (BH (Str.ofString "marks") (.ref lm) f1)))) ls = some (.lst []) := by rw [AH ns.symm, AB]
  generalize upd (upd G2 ls (.lst [])) p (.ins t.c_Hand dx (BH (Str.ofString "strokes") (.ref ls) (BH (Str.ofString "marks") (.ref lm) f1))) = G3 at g3 b3 l3 ⊢
  walk_at "ro"
  refine ⟨by decide, fun lc hlc => ?_⟩
  have nc := AU g3 hlc
  have ncl := AU l3 hlc
  refine ⟨_, _, _, by rw [AH nc]; exact g3, T.cl_Hand, T.n_Hand_corners, by rw [← e1]; exact (show (7 : Nat) < 1000 by decide), ?_⟩
  have fc := b3.free (by simp [g3]) hlc
  refine q ls lc _ fs fc ((b3.upd (.inl fc)).upd (.inr (by simp))) ⟨⟨dx, lm, t.v_BEGINNING, ?_, NQ T _⟩, ⟨[], ?_, RpL.nil⟩, ⟨[t.v_BEGINNING], ?_, RpL.one (NQ T _)⟩, ncl⟩
  ·rw [AB, ← e1]; rfl
  ·rw [AH ns.symm, AH ncl]; exact l3
  ·rw [AH nc.symm, AB]
def WK (K : PySem.W.Frag) (C : Addr) : Sp := fun vs H Q _ => ∃ (p ls lc : Addr) (v : V) (x : Hd) (q : Pl), vs = [.ref p, v] ∧ BZ K C H p ls lc x ∧ Rp K H q.D v ∧ x.co.length ≤ 5000 ∧ ∀ H', But [p, ls, lc] H H' → AZ H H' → BZ K C H' p ls lc (x.come q) → Q .non H'
theorem JO (T : Txt K mg t) : BY P w K mg base CX0 1 t.a_Hand_cometo t.d_Hand_cometo ["self", "spot"] (WK K t.c_Hand) := by
 refine T.Hand_cometo.F.ok KW (fun vs H Q E h => ?_) (fun cdv A outer s H vs Q E hr h => ?_)
 ·obtain ⟨p, ls, lc, v, x, y, rfl, _⟩ := h; rfl
 ·obtain ⟨p, ls, lc, v, x, y, rfl, hA, hv, hc, q⟩ := h
  obtain ⟨⟨dx, lm, vp, hp, rp⟩, ⟨vs1, hs, rs⟩, ⟨vs2, hc2, rc⟩, ne⟩ := id hA
  have n1 := CB hp hs
  have n2 := CB hp hc2
  refine ⟨_, s!"0A1AV0AM1ADBmXEF", ?_⟩
  walk_at "ro"
  refine ⟨_, _, _, hp, T.cl_Hand, T.n_Hand_spot, l8, ?_⟩
  walk_at "ro"
  refine ⟨T.cl_Hand, T.n_Hand_corners, .ref lc, rfl, .inl ⟨vs2, ?_⟩, vs2, ?_, ?_, ?_⟩
  ·exact SqL.of (by rw [AH n2.symm]; exact hc2)
  ·rw [AH n2.symm]; exact hc2
  ·refine IU ?_; rw [rc.length, List.length_map]; exact hc
  ·have st : AZ H (upd (upd H p (.ins t.c_Hand dx (BH (Str.ofString "spot") v (hf vp x lm ls lc)))) lc (.lst (vs2 ++ [v]))) := ((AZ.refl H).upd (KQ hp)).upd (FJ hc2)
   have bt : But [p, ls, lc] H (upd (upd H p (.ins t.c_Hand dx (BH (Str.ofString "spot") v (hf vp x lm ls lc)))) lc (.lst (vs2 ++ [v]))) := ((But.refl _ H).upd (.inr (by simp))).upd (.inr (by simp))
   refine q _ bt st ⟨⟨dx, lm, v, ?_, hv.t st⟩, ⟨vs1, ?_, rs.t st⟩, ⟨vs2 ++ [v], AB, ?_⟩, ne⟩
   ·rw [AH n2, AB]; rfl
   ·rw [AH ne, AH n1.symm]; exact hs
   ·show RpL K _ ((x.co ++ [y]).map Pl.D) _
    rw [List.map_append]
    exact (rc.t st).app (RpL.one (hv.t st))
end
theorem FV {K : PySem.W.Frag} {H : Hp} {d : L2.D} {ds : List L2.D} {v : V} {r : List V} (h1 : Rp K H d v) (h2 : RpL K H ds r) : RpL K H (d :: ds) (v :: r) := by rw [RpL]; exact ⟨_, _, rfl, h1, h2⟩
theorem BZ.same {K : PySem.W.Frag} {C p ls lc : Addr} {H H' : Hp} {x : Hd} (h : BZ K C H p ls lc x) (s : AI H H') : BZ K C H' p ls lc x := by
 obtain ⟨⟨dx, lm, vp, hp, rp⟩, ⟨vs1, hs, rs⟩, ⟨vs2, hc, rc⟩, ne⟩ := h
 exact ⟨⟨dx, lm, vp, s _ _ hp, rp.same s⟩, ⟨vs1, s _ _ hs, rs.same s⟩, ⟨vs2, s _ _ hc, rc.same s⟩, ne⟩
section
variable {P : Program} {w : World} {K : PySem.W.Frag} {mg : Str → Option Value} {base : Heap} {t : Adr}
def cI (K : PySem.W.Frag) (C : Addr) : Sp := fun vs H Q _ => ∃ (p ls lc : Addr) (x : Hd) (n : Int), vs = [.ref p, .int n] ∧ BZ K C H p ls lc x ∧ (-(2 ^ 60) ≤ n ∧ n ≤ 2 ^ 60) ∧ x.co.length ≤ 5000 ∧ x.st.length ≤ 5000 ∧ ∀ H', But [p, ls, lc] H H' → AZ H H' → BZ K C H' p ls lc (stp x (.go n)) → Q .non H'
theorem QC (T : Txt K mg t) : BY P w K mg base CX0 3 t.a_Hand_go t.d_Hand_go ["self", "steps"] (cI K t.c_Hand) := by
 refine T.Hand_go.F.ok JP (fun vs H Q E h => ?_) (fun cdv A outer s H vs Q E hr h => ?_)
 ·obtain ⟨p, ls, lc, x, n, rfl, _⟩ := h; rfl
 ·obtain ⟨p, ls, lc, x, n, rfl, hA, hn, hc, hst, q⟩ := h
  obtain ⟨⟨dx, lm, vp, hp, rp⟩, _, _, _⟩ := id hA
  refine ⟨_, s!"2{JP.nd}0AMI0A{T.cl_Hand}{T.Hand_cometo.mt}{JO T}{T.Hand_cometo.b}{VH T}{T.moved.m}{T.moved.F.kp}{T.moved.b}2A0AM1ADBBBNDBjX{@PW.pt _ _ _ s!"0AMc{KH}1AC{AS _}Jts"}0AM0AM2A0AMDBBBQDYmXETLEFF", ?_⟩
  walk_at "ro"
  refine ⟨_, _, _, hp, T.cl_Hand, T.n_Hand_spot, vp, rfl, ?_⟩
  walk_at "ro"
  refine ⟨_, _, hp, rfl, _, _, _, hp, T.cl_Hand, T.n_Hand_heading, _, rfl, ?_⟩
  refine ⟨vp, x.p, x.h, n, rfl, rp, hn, fun v H1 s1 r1 => ?_⟩
  refine ⟨p, ls, lc, v, x, _, rfl, hA.same s1, r1, hc, fun H2 b2 t2 hB => ?_⟩
  walk_at "ro"
  have b02 : But [p, ls, lc] H H2 := s1.but.trans b2
  have t02 : AZ H H2 := s1.t.trans t2
  obtain ⟨⟨dx2, lm2, vp2, hp2, rp2⟩, ⟨vs1, hs2, rs2⟩, ⟨vs2, hc2, rc2⟩, ne2⟩ := id hB
  have ns := CB hp2 hs2
  have nc := CB hp2 hc2
  refine ⟨_, _, _, hp2, T.cl_Hand, T.n_Hand_down, _, rfl, ?_⟩
  walk_at "ro"
  rw [show (x.come (mv x.p x.h n)).dn = x.dn from rfl]
  by_cases hd : x.dn = true
  ·rw [if_pos hd]
   by_cases h0 : n = 0
   ·rw [if_neg (not_not_intro h0)]
    refine q H2 b02 t02 ?_
    have e : stp x (.go n) = x.come (mv x.p x.h n) := by simp [stp, Hd.come, h0]
    rw [e]; exact hB
   ·rw [if_pos h0]
    refine ⟨_, _, _, hp2, T.cl_Hand, T.n_Hand_strokes, .ref ls, rfl, .inl ⟨_, SqL.of hs2⟩, _, _, _, hp2, T.cl_Hand, T.n_Hand_ink, _, rfl, _, _, _, hp2, T.cl_Hand, T.n_Hand_spot, vp2, rfl, by decide, fun tp htp => ?_⟩
    walk_at "ro"
    have ntl := AU hs2 htp
    have ntp := AU hp2 htp
    have ntc := AU hc2 htp
    refine ⟨_, by rw [AH ntl]; exact hs2, by refine IU ?_; rw [rs2.length, List.length_map]; exact hst, ?_⟩
    have sU := AI.upd (o := .tup [.int (x.come (mv x.p x.h n)).ink, vp, vp2]) htp
    have hu : upd H2 tp (.tup [.int (x.come (mv x.p x.h n)).ink, vp, vp2]) ls = some (.lst vs1) := by rw [AH ntl]; exact hs2
    have tU : AZ H2 (upd (upd H2 tp (.tup [.int (x.come (mv x.p x.h n)).ink, vp, vp2])) ls (.lst (vs1 ++ [.ref tp]))) := sU.t.upd (FJ hs2)
    have bU : But [p, ls, lc] H (upd (upd H2 tp (.tup [.int (x.come (mv x.p x.h n)).ink, vp, vp2])) ls (.lst (vs1 ++ [.ref tp]))) := (b02.upd (.inl (b02.free (by simp [hp2, hs2, hc2]) htp))).upd (.inr (by simp))
    refine q _ bU (t02.trans tU) ?_
    have e : stp x (.go n) = { x.come (mv x.p x.h n) with st := x.st ++ [(x.ink, x.p, mv x.p x.h n)] } := by simp [stp, Hd.come, h0, hd]
    rw [e]
    refine ⟨⟨dx2, lm2, vp2, by rw [AH ns, AH ntp]; exact hp2, rp2.t tU⟩, ⟨_, AB, ?_⟩, ⟨vs2, by rw [AH ne2.symm, AH ntc]; exact hc2, rc2.t tU⟩, ne2⟩
    show RpL K _ ((x.st ++ [(x.ink, x.p, mv x.p x.h n)]).map skD) _
    rw [List.map_append]
    refine (rs2.t tU).app (RpL.one ?_)
    rw [skD, Rp]
    refine ⟨tp, [.int x.ink, vp, vp2], rfl, SqT.of ?_, ?_⟩
    ·rw [AH ntl.symm, AB]; rfl
    ·exact FV (by rw [Rp]) (FV ((rp.t t02).t tU) (FV (rp2.t tU) RpL.nil))
  ·rw [if_neg hd]
   refine q H2 b02 t02 ?_
   have e : stp x (.go n) = x.come (mv x.p x.h n) := by simp [stp, Hd.come, hd]
   rw [e]; exact hB
def WP (K : PySem.W.Frag) (C : Addr) : Sp := fun vs H Q _ => ∃ (p ls lc : Addr) (x : Hd) (n : Int), vs = [.ref p, .int n] ∧ BZ K C H p ls lc x ∧ ∀ H', But [p, ls, lc] H H' → AZ H H' → BZ K C H' p ls lc (stp x (.turn n)) → Q .non H'
theorem BZ.put {K : PySem.W.Frag} {C p ls lc dx lm : Addr} {vp : V} {H : Hp} {x y : Hd} {fs : List (Str × V)} (h : BZ K C H p ls lc x) (hp : H p = some (.ins C dx (hf vp x lm ls lc))) (rp : Rp K H y.p.D vp) (e : fs = hf vp y lm ls lc) (e1 : y.st = x.st) (e2 : y.co = x.co) :
  But [p, ls, lc] H (upd H p (.ins C dx fs)) ∧ AZ H (upd H p (.ins C dx fs)) ∧ BZ K C (upd H p (.ins C dx fs)) p ls lc y := by
 subst e
 obtain ⟨_, ⟨vs1, hs, rs⟩, ⟨vs2, hc, rc⟩, ne⟩ := h
 have st : AZ H (upd H p (.ins C dx (hf vp y lm ls lc))) := (AZ.refl H).upd (KQ hp)
 have n1 := CB hp hs
 have n2 := CB hp hc
 refine ⟨(But.refl _ H).upd (.inr (by simp)), st, ⟨dx, lm, vp, AB, rp.t st⟩, ⟨vs1, by rw [AH n1.symm]; exact hs, ?_⟩, ⟨vs2, by rw [AH n2.symm]; exact hc, ?_⟩, ne⟩
 ·rw [e1]; exact rs.t st
 ·rw [e2]; exact rc.t st
theorem NG (T : Txt K mg t) : BY P w K mg base CX0 1 t.a_Hand_turn t.d_Hand_turn ["self", "eighths"] (WP K t.c_Hand) := by
 refine T.Hand_turn.F.ok NJ (fun vs H Q E h => ?_) (fun cdv A outer s H vs Q E hr h => ?_)
 ·obtain ⟨p, ls, lc, x, n, rfl, _⟩ := h; rfl
 ·obtain ⟨p, ls, lc, x, n, rfl, hA, q⟩ := h
  obtain ⟨⟨dx, lm, vp, hp, rp⟩, _, _, _⟩ := id hA
  have eR : t.v_ROUND = .int 8 := by have := T.k_ROUND H; rw [JE, Rp] at this; exact this
  refine ⟨_, s!"0A{BM}{CI}0AM1AG{T.g_ROUND}{T.r_ROUND}iGV{@KD _ _ _ _ _ _ _ _ _ _ s!"0A" s!"1A" WV}EF", ?_⟩
  walk_at "ro"
  refine ⟨_, _, _, hp, T.cl_Hand, T.n_Hand_heading, _, rfl, ?_⟩
  rw [eR]
  walk_at "ro"
  refine ⟨by decide, _, _, _, hp, T.cl_Hand, T.n_Hand_heading, l8, ?_⟩
  walk_at "ro"
  refine ⟨T.cl_Hand, T.n_Hand_turned, _, rfl, x.tu, rfl, l8, ?_⟩
  obtain ⟨b, s1, h1⟩ := hA.put (y := stp x (.turn n)) hp rp (fs := BH (Str.ofString "turned") (V.int (x.tu + n)) (BH (Str.ofString "heading") (V.int ((x.h + n) % 8)) (hf vp x lm ls lc))) rfl rfl rfl
  exact q _ b s1 h1
end
theorem VZ : (Str.ofString "go" = Str.ofString "ink") = False := eq_false (by decide +kernel)
theorem QP : (Str.ofString "go" = Str.ofString "again") = False := eq_false (by decide +kernel)
theorem ZD : (Str.ofString "go" = Str.ofString "if") = False := eq_false (by decide +kernel)
theorem YK : (Str.ofString "go" = Str.ofString "do") = False := eq_false (by decide +kernel)
theorem SK : (Str.ofString "turn" = Str.ofString "go") = False := eq_false (by decide +kernel)
theorem RE : (Str.ofString "turn" = Str.ofString "ink") = False := eq_false (by decide +kernel)
theorem MZ : (Str.ofString "turn" = Str.ofString "again") = False := eq_false (by decide +kernel)
theorem SQ : (Str.ofString "turn" = Str.ofString "if") = False := eq_false (by decide +kernel)
theorem SR : (Str.ofString "turn" = Str.ofString "do") = False := eq_false (by decide +kernel)
theorem VY : (Str.ofString "ink" = Str.ofString "go") = False := eq_false (by decide +kernel)
theorem QT : (Str.ofString "ink" = Str.ofString "turn") = False := eq_false (by decide +kernel)
theorem PL : (Str.ofString "ink" = Str.ofString "again") = False := eq_false (by decide +kernel)
theorem WN : (Str.ofString "ink" = Str.ofString "if") = False := eq_false (by decide +kernel)
theorem VW : (Str.ofString "ink" = Str.ofString "do") = False := eq_false (by decide +kernel)
theorem ZJ : (Str.ofString "up" = Str.ofString "go") = False := eq_false (by decide +kernel)
theorem SO : (Str.ofString "up" = Str.ofString "turn") = False := eq_false (by decide +kernel)
theorem WI : (Str.ofString "up" = Str.ofString "ink") = False := eq_false (by decide +kernel)
theorem SA : (Str.ofString "up" = Str.ofString "mark") = False := eq_false (by decide +kernel)
theorem TQ : (Str.ofString "up" = Str.ofString "back") = False := eq_false (by decide +kernel)
theorem TF : (Str.ofString "up" = Str.ofString "down") = False := eq_false (by decide +kernel)
theorem QZ : (Str.ofString "up" = Str.ofString "again") = False := eq_false (by decide +kernel)
theorem YW : (Str.ofString "up" = Str.ofString "if") = False := eq_false (by decide +kernel)
theorem aD : (Str.ofString "up" = Str.ofString "do") = False := eq_false (by decide +kernel)
theorem TD : (Str.ofString "down" = Str.ofString "go") = False := eq_false (by decide +kernel)
theorem OC : (Str.ofString "down" = Str.ofString "turn") = False := eq_false (by decide +kernel)
theorem QV : (Str.ofString "down" = Str.ofString "ink") = False := eq_false (by decide +kernel)
theorem OP : (Str.ofString "down" = Str.ofString "mark") = False := eq_false (by decide +kernel)
theorem PF : (Str.ofString "down" = Str.ofString "back") = False := eq_false (by decide +kernel)
theorem MN : (Str.ofString "down" = Str.ofString "again") = False := eq_false (by decide +kernel)
theorem SX : (Str.ofString "down" = Str.ofString "if") = False := eq_false (by decide +kernel)
theorem SH : (Str.ofString "down" = Str.ofString "do") = False := eq_false (by decide +kernel)
local macro_rules | `(tactic| walk_at "ws") => `(tactic| try simp only [VZ, QP, ZD, YK, SK, RE, MZ, SQ, SR, VY, QT, PL, WN, VW, ZJ, SO, WI, SA, TQ, TF, QZ, YW, aD, TD, OC, QV, OP, PF, MN, SX, SH, if_true, if_false, decide_true, decide_false, Bool.false_eq_true, eq_self])
def St1.ok : St1 → Prop
 | .go n => -1000000 ≤ n ∧ n ≤ 1000000
 | .turn n => -1000000 ≤ n ∧ n ≤ 1000000
 | .ink n => -1000000 ≤ n ∧ n ≤ 1000000
 | _ => True
theorem rp2 {K : PySem.W.Frag} {H : Hp} {x : Str} {n : Int} {v : V} (h : Rp K H (.tup [.str x, .int n]) v) : ∃ a, v = .ref a ∧ SqT K H a [.str x, .int n] := by
 obtain ⟨a, y, z, rfl, hs, hy, hz⟩ := BJ.mp h
 have hy : y = .str x := by rw [Rp] at hy; exact hy
 have hz : z = .int n := by rw [Rp] at hz; exact hz
 subst hy; subst hz
 exact ⟨a, rfl, hs⟩
theorem rp1 {K : PySem.W.Frag} {H : Hp} {x : Str} {v : V} (h : Rp K H (.tup [.str x]) v) : ∃ a, v = .ref a ∧ SqT K H a [.str x] := by
 rw [Rp] at h
 obtain ⟨a, xs, rfl, hs, hl⟩ := h
 rw [RpL] at hl
 obtain ⟨y, r, rfl, hy, hr⟩ := hl
 rw [RpL] at hr
 rw [Rp] at hy
 subst hr; subst hy
 exact ⟨a, rfl, hs⟩
theorem RP {K : PySem.W.Frag} {H : Hp} {s : St1} {v : V} (h : Rp K H s.D v) : ∃ a xs, v = .ref a ∧ SqT K H a xs ∧
  (match s with | .go n => xs = [.str "go", .int n] | .turn n => xs = [.str "turn", .int n] | .ink n => xs = [.str "ink", .int n] | .up => xs = [.str "up"] | .down => xs = [.str "down"]) := by
 cases s with
 | go n => obtain ⟨a, rfl, hs⟩ := rp2 h; exact ⟨a, _, rfl, hs, rfl⟩
 | turn n => obtain ⟨a, rfl, hs⟩ := rp2 h; exact ⟨a, _, rfl, hs, rfl⟩
 | ink n => obtain ⟨a, rfl, hs⟩ := rp2 h; exact ⟨a, _, rfl, hs, rfl⟩
 | up => obtain ⟨a, rfl, hs⟩ := rp1 h; exact ⟨a, _, rfl, hs, rfl⟩
 | down => obtain ⟨a, rfl, hs⟩ := rp1 h; exact ⟨a, _, rfl, hs, rfl⟩
section
variable {P : Program} {w : World} {K : PySem.W.Frag} {mg : Str → Option Value} {base : Heap} {t : Adr}
def YX (K : PySem.W.Frag) (C : Addr) : Sp := fun vs H Q _ => ∃ (p ls lc : Addr) (x : Hd) (s : St1) (v : V), vs = [.ref p, v] ∧ BZ K C H p ls lc x ∧ Rp K H s.D v ∧ s.ok ∧ x.co.length ≤ 5000 ∧ x.st.length ≤ 5000 ∧ ∀ H', But [p, ls, lc] H H' → AZ H H' → BZ K C H' p ls lc (stp x s) → Q .non H'
theorem IN (T : Txt K mg t) : BY P w K mg base CX0 4 t.a_Hand_act t.d_Hand_act ["self", "statement"] (YX K t.c_Hand) := by
 refine T.Hand_act.F.ok IR (fun vs H Q E h => ?_) (fun cdv A outer s H vs Q E hr h => ?_)
 ·obtain ⟨p, ls, lc, x, s, v, rfl, _⟩ := h; rfl
 ·obtain ⟨p, ls, lc, x, s1, v, rfl, hA, hv, ho, hc, hst, q⟩ := h
  obtain ⟨⟨dx, lm, vp, hp, rp⟩, _, _, _⟩ := id hA
  obtain ⟨a, xs, rfl, hs, hxs⟩ := RP hv
  have eI : t.v_INKS = .int 8 := by have := T.k_INKS H; rw [QH, Rp] at this; exact this
  refine ⟨_, s!"2{IR.nd}{AK}1ACHI{CC}2AW{AS _}J0A{T.cl_Hand}{T.Hand_go.mt}{QC T}{T.Hand_go.b}{AK}1ACHDBjXE{CC}2AW{AS _}J0A{T.cl_Hand}{T.Hand_turn.mt}{NG T}{T.Hand_turn.b}{AK}1ACHDBjXE{CC}2AW{AS _}J0A{BM}{AK}1ACH{T.g_INKS}{T.r_INKS}iGVE{CC}2AW{AS _}JfE{CC}2AW{AS _}JfE0A{CC}2AWkVELELELELELEF", ?_⟩
  walk_at "ro"
  cases s1 with
  | go n =>
   dsimp only at hxs; subst hxs
   refine ⟨_, hs, _, rfl, ?_⟩
   walk_at "ro"
   walk_at "ws"
   refine ⟨_, _, hp, rfl, _, hs, _, rfl, p, ls, lc, x, n, rfl, hA, ⟨by have := ho.1; omega, by have := ho.2; omega⟩, hc, hst, q⟩
  | turn n =>
   dsimp only at hxs; subst hxs
   refine ⟨_, hs, _, rfl, ?_⟩
   walk_at "ro"
   walk_at "ws"
   refine ⟨_, _, hp, rfl, _, hs, _, rfl, p, ls, lc, x, n, rfl, hA, q⟩
  | ink n =>
   dsimp only at hxs; subst hxs
   refine ⟨_, hs, _, rfl, ?_⟩
   walk_at "ro"
   walk_at "ws"
   refine ⟨_, hs, _, rfl, ?_⟩
   rw [eI]
   walk_at "ro"
   refine ⟨by decide, _, _, _, hp, T.cl_Hand, T.n_Hand_ink, l8, ?_⟩
   obtain ⟨b, s1, h1⟩ := hA.put (y := stp x (.ink n)) hp rp (fs := BH (Str.ofString "ink") (V.int (n % 8)) (hf vp x lm ls lc)) rfl rfl rfl
   exact q _ b s1 h1
  | up =>
   dsimp only at hxs; subst hxs
   refine ⟨_, hs, _, rfl, ?_⟩
   walk_at "ro"
   walk_at "ws"
   refine ⟨_, _, _, hp, T.cl_Hand, T.n_Hand_down, l8, ?_⟩
   obtain ⟨b, s1, h1⟩ := hA.put (y := stp x .up) hp rp (fs := BH (Str.ofString "down") (V.bl false) (hf vp x lm ls lc)) rfl rfl rfl
   exact q _ b s1 h1
  | down =>
   dsimp only at hxs; subst hxs
   refine ⟨_, hs, _, rfl, ?_⟩
   walk_at "ro"
   walk_at "ws"
   refine ⟨_, _, _, hp, T.cl_Hand, T.n_Hand_down, l8, ?_⟩
   obtain ⟨b, s1, h1⟩ := hA.put (y := stp x .down) hp rp (fs := BH (Str.ofString "down") (V.bl true) (hf vp x lm ls lc)) rfl rfl rfl
   exact q _ b s1 h1
def YO (K : PySem.W.Frag) (C : Addr) : Sp := fun vs H Q _ => ∃ (p ls lc : Addr) (x : Hd), vs = [.ref p] ∧ BZ K C H p ls lc x ∧ ∀ a vp H', AI H H' → H' a = some (.tup [vp, .int x.h, .bl x.dn, .int x.ink]) → Rp K H' x.p.D vp → Q (.ref a) H'
theorem NU (T : Txt K mg t) : BY P w K mg base CX0 1 t.a_Hand_end t.d_Hand_end ["self"] (YO K t.c_Hand) := by
 refine T.Hand_end.F.ok OZ (fun vs H Q E h => ?_) (fun cdv A outer s H vs Q E hr h => ?_)
 ·obtain ⟨p, ls, lc, x, rfl, _⟩ := h; rfl
 ·obtain ⟨p, ls, lc, x, rfl, hA, q⟩ := h
  obtain ⟨⟨dx, lm, vp, hp, rp⟩, _, _, _⟩ := id hA
  refine ⟨_, s!"0AM0AM0AM0AMDBBBBQKE", ?_⟩
  walk_at "ro"
  refine ⟨_, _, _, hp, T.cl_Hand, T.n_Hand_spot, _, rfl, _, _, _, hp, T.cl_Hand, T.n_Hand_heading, _, rfl, _, _, _, hp, T.cl_Hand, T.n_Hand_down, _, rfl, _, _, _, hp, T.cl_Hand, T.n_Hand_ink, _, rfl, by decide, fun a ha => ?_⟩
  exact q a vp _ (AI.upd ha) AB (rp.same (AI.upd ha))
def VF : Sp := fun vs H Q _ => ∃ (n : Int) (v : V), vs = [.int n, v] ∧ -1000000 ≤ n ∧ n ≤ 1000000 ∧ Q (.int n) H
theorem LH {K : PySem.W.Frag} : PySem.W.kitOne K (.type "int") (.type "tuple") = some false := US (by decide +kernel) (by decide +kernel) (by decide +kernel)
theorem VE (T : Txt K mg t) : BY P w K mg base CX0 1 t.a_worth t.d_worth ["amount", "sources"] VF := by
 refine T.worth.F.ok PP (fun vs H Q E h => ?_) (fun cdv A outer s H vs Q E hr h => ?_)
 ·obtain ⟨n, v, rfl, _⟩ := h; rfl
 ·obtain ⟨n, v, rfl, h0, h1, q⟩ := h
  have eM : t.v_MOST_AMOUNT = .int 1000000 := by have := T.k_MOST_AMOUNT H; rw [EQ, Rp] at this; exact this
  refine ⟨_, s!"2{PP.nd}0AI{DB (c := .type "tuple")}{T.z_isinstance}{boot_isinstance}0A{.ty "tuple"}{T.z_tuple}{boot_tuple}oDBBRcffEFTL{@UH _ _ _ _ _ _ _ _ _ _ _ _ NN NN s!"{T.g_MOST_AMOUNT}{T.r_MOST_AMOUNT}iu" s!"2A" s!"{T.g_MOST_AMOUNT}{T.r_MOST_AMOUNT}i" (by with_unfolding_all rfl)}pfETL2AKEFFF", ?_⟩
  walk_at "ro"
  refine ⟨rfl, ⟨_, rfl⟩, _, .int n, _, LH, ?_⟩
  walk_at "ro"
  rw [eM]
  walk_at "ro"
  rw [if_pos h0, if_neg (not_not_intro h1)]
  exact q
end
def lf (vb vs : V) (i : Int) : List (Str × V) := [("body", vb), ("sources", vs), ("at", .int i), ("begun", .int 0), ("rounds", .int 0)]
abbrev bD (body : List St1) : L2.D := .tup (body.map St1.D)
theorem FE {K : PySem.W.Frag} {H : Hp} {body : List St1} {v : V} (h : Rp K H (bD body) v) : ∃ a xs, v = .ref a ∧ SqT K H a xs ∧ RpL K H (body.map St1.D) xs ∧ xs.length = body.length := by
 rw [Rp] at h
 obtain ⟨a, xs, rfl, hs, hl⟩ := h
 exact ⟨a, xs, rfl, hs, hl, by rw [hl.length, List.length_map]⟩
theorem l5 : (5 : Nat) < 1000 := by decide
section
variable {P : Program} {w : World} {K : PySem.W.Frag} {mg : Str → Option Value} {base : Heap} {t : Adr}
def VR (C : Addr) : Sp := fun vs H Q _ => ∃ (p dx : Addr) (vb v : V), vs = [.ref p, vb, v] ∧ H p = some (.ins C dx []) ∧ ∀ H', H' = upd H p (.ins C dx (lf vb v 0)) → Q .non H'
theorem LJ (T : Txt K mg t) : BY P w K mg base CX0 1 t.a_Level_init t.d_Level_init ["self", "body", "sources"] (VR t.c_Level) := by
 refine T.Level_init.F.ok LF (fun vs H Q E h => ?_) (fun cdv A outer s H vs Q E hr h => ?_)
 ·obtain ⟨p, dx, vb, v, rfl, _⟩ := h; rfl
 ·obtain ⟨p, dx, vb, v, rfl, hp, q⟩ := h
  refine ⟨_, s!"0A1AV0A2AV0ACV0ACV0ACVEFFFF", ?_⟩
  walk_at "ro"
  refine ⟨_, _, _, hp, T.cl_Level, T.n_Level_body, by decide, ?_⟩
  walk_at "ro"
  refine ⟨T.cl_Level, T.n_Level_sources, (show (1 : Nat) < 1000 by decide), T.cl_Level, T.n_Level_at, (show (2 : Nat) < 1000 by decide), T.cl_Level, T.n_Level_begun, (show (3 : Nat) < 1000 by decide), T.cl_Level, T.n_Level_rounds, (show (4 : Nat) < 1000 by decide), ?_⟩
  exact q _ rfl
def MC (K : PySem.W.Frag) (C : Addr) : Sp := fun vs H Q _ => ∃ (p dx : Addr) (vb v : V) (i : Nat) (body : List St1), vs = [.ref p] ∧ H p = some (.ins C dx (lf vb v i)) ∧ Rp K H (bD body) vb ∧ Q (.bl (decide (i = body.length))) H
theorem ER (T : Txt K mg t) : BY P w K mg base CX0 1 t.a_Level_isatend t.d_Level_isatend ["self"] (MC K t.c_Level) := by
 refine T.Level_isatend.F.ok HY (fun vs H Q E h => ?_) (fun cdv A outer s H vs Q E hr h => ?_)
 ·obtain ⟨p, dx, vb, v, i, body, rfl, _⟩ := h; rfl
 ·obtain ⟨p, dx, vb, v, i, body, rfl, hp, rb, q⟩ := h
  obtain ⟨a, xs, rfl, hs, hl, hlen⟩ := FE rb
  refine ⟨_, s!"{CC}0AM{AR}{T.z_len}{PySem.boot_len}0AMDBRkKE", ?_⟩
  walk_at "ro"
  refine ⟨_, _, _, hp, T.cl_Level, T.n_Level_at, _, rfl, _, _, _, hp, T.cl_Level, T.n_Level_body, _, rfl, xs, .inr hs, ?_⟩
  walk_at "ro"
  refine qb q ?_
  rw [hlen]
  exact decide_eq_decide.mpr (by omega)
def YL (K : PySem.W.Frag) (C : Addr) : Sp := MC K C
theorem GV (T : Txt K mg t) : BY P w K mg base CX0 2 t.a_Level_isthrough t.d_Level_isthrough ["self"] (YL K t.c_Level) := by
 refine T.Level_isthrough.F.ok GY (fun vs H Q E h => ?_) (fun cdv A outer s H vs Q E hr h => ?_)
 ·obtain ⟨p, dx, vb, v, i, body, rfl, _⟩ := h; rfl
 ·obtain ⟨p, dx, vb, v, i, body, rfl, hp, rb, q⟩ := h
  refine ⟨_, s!"0A{T.cl_Level}{T.Level_isatend.mt}{ER T}{T.Level_isatend.b}l{aU}0AM0AMk!zKE", ?_⟩
  walk_at "ro"
  refine ⟨_, _, hp, rfl, p, dx, vb, v, i, body, rfl, hp, rb, ?_⟩
  walk_at "ro"
  by_cases hi : i = body.length
  ·rw [if_pos hi]
   refine ⟨_, _, _, hp, T.cl_Level, T.n_Level_begun, _, rfl, _, _, _, hp, T.cl_Level, T.n_Level_rounds, _, rfl, ?_⟩
   exact qb q (by simp [hi])
  ·rw [if_neg hi]
   exact qb q (by simp [hi])
def UD (K : PySem.W.Frag) (C : Addr) : Sp := fun vs H Q _ => ∃ (p dx : Addr) (vb v : V) (i : Nat) (body : List St1) (s1 : St1), vs = [.ref p] ∧ H p = some (.ins C dx (lf vb v i)) ∧ Rp K H (bD body) vb ∧ body[i]? = some s1 ∧ ∀ u H', H' = upd H p (.ins C dx (lf vb v ((i + 1 : Nat) : Int))) → Rp K H' s1.D u → Q u H'
theorem FF (T : Txt K mg t) : BY P w K mg base CX0 1 t.a_Level_nextstatement t.d_Level_nextstatement ["self"] (UD K t.c_Level) := by
 refine T.Level_nextstatement.F.ok FK (fun vs H Q E h => ?_) (fun cdv A outer s H vs Q E hr h => ?_)
 ·obtain ⟨p, dx, vb, v, i, body, s1, rfl, _⟩ := h; rfl
 ·obtain ⟨p, dx, vb, v, i, body, s1, rfl, hp, rb, hi, q⟩ := h
  obtain ⟨a, xs, rfl, hs, hl, hlen⟩ := FE rb
  refine ⟨_, s!"{@KD _ _ _ _ _ _ _ _ _ _ s!"0A" s!"C" WV}{AK}0AM{GB}0AMCGHKEF", ?_⟩
  walk_at "ro"
  refine ⟨_, _, _, hp, T.cl_Level, T.n_Level_at, _, rfl, ?_⟩
  walk_at "ro"
  refine ⟨_, _, hp, l5, T.cl_Level, T.n_Level_body, _, rfl, T.cl_Level, T.n_Level_at, _, rfl, xs, ?_⟩
  have st : AZ H (upd H p (.ins t.c_Level dx (BH (Str.ofString "at") (V.int ((i : Int) + 1)) (lf (.ref a) v i)))) := (AZ.refl H).upd (KQ hp)
  have hil : i < body.length := (List.getElem?_eq_some_iff.mp hi).1
  obtain ⟨u, hu, ru⟩ := hl.atI (i := (i : Int)) (by omega) (by rw [List.length_map]; omega)
  have e1 : (i : Int) + 1 - 1 = i := by omega
  refine ⟨st.tup hs, u, by rw [e1]; exact hu, ?_⟩
  have e2 : (body.map St1.D).getD (i : Int).toNat .non = s1.D := by
   rw [Int.toNat_natCast, List.getD_eq_getElem?_getD, List.getElem?_map, hi]; rfl
  rw [e2] at ru
  exact q u _ rfl (ru.t st)
end
structure Wa where
 (pw ll ph la pl ls lc : Addr) (vb : V)
def wf (db ll ph la : Addr) : List (Str × V) := [("bodies", .ref db), ("levels", .ref ll), ("hand", .ref ph), ("acts", .ref la)]
structure CN (K : PySem.W.Frag) (t : Adr) (H : Hp) (a : Wa) (body : List St1) (i j : Nat) (on : Bool) (x : Hd) : Prop where
 wo : ∃ dx db, H a.pw = some (.ins t.c_Walk dx (wf db a.ll a.ph a.la))
 le : H a.ll = some (.lst (if on then [.ref a.pl] else []))
 lo : ∃ dx v, H a.pl = some (.ins t.c_Level dx (lf a.vb v i))
 bo : Rp K H (bD body) a.vb
 ha : BZ K t.c_Hand H a.ph a.ls a.lc x
 ac : ∃ vs, H a.la = some (.lst vs) ∧ vs.length = j
 ne : a.pw ≠ a.pl ∧ a.pw ≠ a.ph ∧ a.pl ≠ a.ph ∧ a.ll ≠ a.la ∧ a.ll ≠ a.ls ∧ a.ll ≠ a.lc ∧ a.la ≠ a.ls ∧ a.la ≠ a.lc
theorem dQ {l : List Addr} {H G : Hp} (b : But l H G) (h : ∀ c ∈ l, ∀ u, H c = some u → ¬ ((∃ xs, u = .tup xs) ∨ ∃ o1 o2, u = .frz o1 o2)) : AZ H G := fun c o e k => by
 by_cases m : c ∈ l
 ·exact absurd k (h c m o e)
 ·exact b c o e m
section
variable {P : Program} {w : World} {K : PySem.W.Frag} {mg : Str → Option Value} {base : Heap} {t : Adr}
def WQ (K : PySem.W.Frag) (t : Adr) : Sp := fun vs H Q _ => ∃ (p dx : Addr) (v : V) (body : List St1), vs = [.ref p, v] ∧ H p = some (.ins t.c_Walk dx []) ∧ Rp K H (.tup [.tup [], bD body]) v ∧
 ∀ (a : Wa) (H' : Hp), a.pw = p → H a.ll = none → H a.ph = none → H a.la = none → H a.pl = none → H a.ls = none → H a.lc = none → But [p] H H' → CN K t H' a body 0 0 true hd0 → Q .non H'
theorem cV {K : PySem.W.Frag} {H : Hp} {v : V} (h : Rp K H (.tup []) v) : ∃ a, v = .ref a ∧ SqT K H a [] := by
 rw [Rp] at h
 obtain ⟨a, xs, rfl, hs, hl⟩ := h
 rw [RpL] at hl
 subst hl
 exact ⟨a, rfl, hs⟩
theorem NB (T : Txt K mg t) : BY P w K mg base CX0 3 t.a_Walk_init t.d_Walk_init ["self", "program"] (WQ K t) := by
 refine T.Walk_init.F.ok FL (fun vs H Q E h => ?_) (fun cdv A outer s H vs Q E hr h => ?_)
 ·obtain ⟨p, dx, v, body, rfl, _⟩ := h; rfl
 ·obtain ⟨p, dx, v, body, rfl, hp, rv, q⟩ := h
  obtain ⟨a0, x1, vb, rfl, hs, hx1, rb⟩ := BJ.mp rv
  obtain ⟨a1, rfl, hs1⟩ := cV hx1
  refine ⟨_, s!"1A2{FL.nd}U3{FL.nd}Unaarq0A{@TN _ _ _ _ _ _ _ (AD CS) _ _ (["self", "program", "words", "body"]) (["name", "many", "inner"]) (["name", "many", "inner"]) ([]) rfl rfl rfl ⟨by decide +kernel, by decide +kernel, by decide +kernel, by decide +kernel, by decide +kernel, by decide +kernel⟩ s!"2Ax" (by intro _; rfl)}V0A{@RR _ _ _ _ _ _ _ _ _ _ _ _ _ _ _ _ _ T.Level_init.mki (LJ T) (hr.mono (by decide)) (by rfl) T.mg_Level T.Level_init.b .nil BD s!"3A{@OV _ _}DBB" (by decide) (by rfl) (by rfl)}DBbV0A{@OY _ _ _ _ _ _ _ _ _ _ _ _ _ _ T.Hand_init.mki (HI T) (hr.mono (by decide)) (by rfl) T.mg_Hand T.Hand_init.b .nil BD (by decide)}V0ADbVEFFFF", ?_⟩
  walk_at "ro"
  refine ⟨_, hs, rfl, ?_⟩
  walk_at "ro"
  refine ⟨⟨_, hs1⟩, fun d0 hd0 => ?_⟩
  have nd0 := AU hp hd0
  refine ⟨⟨[], (AI.upd hd0).tup hs1, Nat.le_refl _⟩, _, _, _, by rw [AH nd0]; exact hp, T.cl_Walk, T.n_Walk_bodies, by decide, ?_⟩
  have b1 : But [p] H (upd (upd H d0 (.dK [])) p (.ins t.c_Walk dx (BH (Str.ofString "bodies") (.ref d0) []))) := ((But.refl _ H).upd (.inl hd0)).upd (.inr (by simp))
  have g1 : (upd (upd H d0 (.dK [])) p (.ins t.c_Walk dx (BH (Str.ofString "bodies") (.ref d0) []))) p = some (.ins t.c_Walk dx (BH (Str.ofString "bodies") (.ref d0) [])) := AB
  generalize upd (upd H d0 (.dK [])) p (.ins t.c_Walk dx (BH (Str.ofString "bodies") (.ref d0) [])) = G1 at b1 g1 ⊢
  intro d1 hd1 pl dxl hpl hdxl nel
  have c1 : But [p] G1 (upd (upd (upd G1 d1 (.dK [])) dxl (.own pl)) pl (.ins t.c_Level dxl [])) := (((But.refl _ G1).upd (.inl hd1)).upd (.inl (un hdxl).2)).upd (.inl (un hpl).2)
  have g2 : (upd (upd (upd G1 d1 (.dK [])) dxl (.own pl)) pl (.ins t.c_Level dxl [])) p = some (.ins t.c_Walk dx (BH (Str.ofString "bodies") (.ref d0) [])) := by
   rw [AH (AU g1 (un hpl).2), AH (AU g1 (un hdxl).2), AH (AU g1 hd1)]; exact g1
  have l2 : (upd (upd (upd G1 d1 (.dK [])) dxl (.own pl)) pl (.ins t.c_Level dxl [])) pl = some (.ins t.c_Level dxl []) := AB
  have npl := AU g1 (un hpl).2
  have fpl : H pl = none := b1.free (by simp [g1]) (un hpl).2
  have b2 := b1.trans c1
  generalize upd (upd (upd G1 d1 (.dK [])) dxl (.own pl)) pl (.ins t.c_Level dxl []) = G2 at b2 g2 l2 ⊢
  refine ⟨pl, dxl, vb, .ref d1, rfl, l2, fun G3 e3 => ?_⟩
  have b3 : But [p] H G3 := by rw [e3]; exact b2.upd (.inl fpl)
  have g3 : G3 p = some (.ins t.c_Walk dx (BH (Str.ofString "bodies") (.ref d0) [])) := by rw [e3, AH npl]; exact g2
  have l3 : G3 pl = some (.ins t.c_Level dxl (lf vb (.ref d1) 0)) := by rw [e3, AB]
  clear e3 b2 g2 l2 c1 hpl hdxl
  refine ⟨rfl, by decide, fun ll hll => ?_⟩
  have nll := AU g3 hll
  refine ⟨_, _, _, by rw [AH nll]; exact g3, T.cl_Walk, T.n_Walk_levels, by exact (show (1 : Nat) < 1000 by decide), ?_⟩
  have fll : H ll = none := b3.free (by simp [g3]) hll
  have b4 : But [p] H (upd (upd G3 ll (.lst [.ref pl])) p (.ins t.c_Walk dx (BH (Str.ofString "levels") (.ref ll) (BH (Str.ofString "bodies") (.ref d0) [])))) := (b3.upd (.inl fll)).upd (.inr (by simp))
  have g4 : (upd (upd G3 ll (.lst [.ref pl])) p (.ins t.c_Walk dx (BH (Str.ofString "levels") (.ref ll) (BH (Str.ofString "bodies") (.ref d0) [])))) p = some (.ins t.c_Walk dx (BH (Str.ofString "levels") (.ref ll) (BH (Str.ofString "bodies") (.ref d0) []))) := AB
  have l4 : (upd (upd G3 ll (.lst [.ref pl])) p (.ins t.c_Walk dx (BH (Str.ofString "levels") (.ref ll) (BH (Str.ofString "bodies") (.ref d0) [])))) pl = some (.ins t.c_Level dxl (lf vb (.ref d1) 0)) := by rw [AH npl.symm, AH (AU l3 hll)]; exact l3
  have m4 : (upd (upd G3 ll (.lst [.ref pl])) p (.ins t.c_Walk dx (BH (Str.ofString "levels") (.ref ll) (BH (Str.ofString "bodies") (.ref d0) [])))) ll = some (.lst [.ref pl]) := by rw [AH nll.symm, AB]
  generalize upd (upd G3 ll (.lst [.ref pl])) p (.ins t.c_Walk dx (BH (Str.ofString "levels") (.ref ll) (BH (Str.ofString "bodies") (.ref d0) []))) = G4 at b4 g4 l4 m4 ⊢
  intro ph dxh hph hdxh neh
  have fph : H ph = none := b4.free (by simp [g4]) hph
  have nph := AU g4 hph
  have nlh := AU l4 hph
  have c5 : ∀ b o, G4 b = some o → (upd (upd G4 dxh (.own ph)) ph (.ins t.c_Hand dxh [])) b = some o := fun b o e => by rw [AH (AU e hph), AH (AU e hdxh)]; exact e
  have b5 : But [p] H (upd (upd G4 dxh (.own ph)) ph (.ins t.c_Hand dxh [])) := fun b o e k => c5 b o (b4 b o e k)
  refine ⟨ph, dxh, rfl, AB, fun ls lc G6 hls hlc b6 hA => ?_⟩
  have k6 : ∀ b o, G4 b = some o → G6 b = some o := fun b o e => b6 b o (c5 b o e) (by simp only [List.mem_singleton]; exact AU e hph)
  have b7 : But [p] H G6 := fun b o e k => k6 b o (b4 b o e k)
  have fr : ∀ {b}, (upd (upd G4 dxh (.own ph)) ph (.ins t.c_Hand dxh [])) b = none → H b = none ∧ G4 b = none := fun {b} e => ⟨b4.free (by simp [g4]) (un (un e).2).2, (un (un e).2).2⟩
  refine ⟨rfl, ?_⟩
  walk_at "ro"
  have g6 := k6 p _ g4
  have l6 := k6 pl _ l4
  have m6 := k6 ll _ m4
  obtain ⟨⟨dh, lm, vp, hp6, rp6⟩, ⟨vs1, hs6, rs6⟩, ⟨vs2, hc6, rc6⟩, ne6⟩ := id hA
  refine ⟨_, _, _, g6, T.cl_Walk, T.n_Walk_hand, (show (2 : Nat) < 1000 by decide), by decide, fun la hla => ?_⟩
  have nla := (un hla).1
  have fla6 := (un hla).2
  have fla : H la = none := b7.free (by simp [g6]) fla6
  refine ⟨_, _, _, by rw [AH nla.symm, AB], T.cl_Walk, T.n_Walk_acts, by exact (show (3 : Nat) < 1000 by decide), ?_⟩
  have cF : ∀ b o, b ≠ p → G6 b = some o → (upd (upd (upd G6 p (.ins t.c_Walk dx (BH (Str.ofString "hand") (V.ref ph) (BH (Str.ofString "levels") (.ref ll) (BH (Str.ofString "bodies") (.ref d0) []))))) la (.lst [])) p (.ins t.c_Walk dx (BH (Str.ofString "acts") (V.ref la) (BH (Str.ofString "hand") (V.ref ph) (BH (Str.ofString "levels") (.ref ll) (BH (Str.ofString "bodies") (.ref d0) [])))))) b = some o := fun b o hb e => by
   rw [AH hb, AH (AU e fla6), AH hb]; exact e
  have bF : But [p] H _ := fun b o e k => cF b o (by simpa using k) (b7 b o e k)
  have tF : AZ G6 _ := fun b o e k => cF b o (by rintro rfl; rw [g6] at e; cases e; rcases k with ⟨_, k⟩ | ⟨_, _, k⟩ <;> cases k) e
  have t0 : AZ H _ := dQ bF (by intro c hc; rw [List.mem_singleton] at hc; subst hc; exact KQ hp)
  refine q ⟨p, ll, ph, la, pl, ls, lc, vb⟩ _ rfl fll fph fla fpl (fr hls).1 (fr hlc).1 bF ⟨⟨dx, d0, by rw [AB]; rfl⟩, cF ll _ nll.symm m6, ⟨dxl, .ref d1, cF pl _ npl.symm l6⟩, rb.t t0, ⟨⟨dh, lm, vp, cF ph _ nph.symm hp6, rp6.t tF⟩, ⟨vs1, cF ls _ ?_ hs6, rs6.t tF⟩, ⟨vs2, cF lc _ ?_ hc6, rc6.t tF⟩, ne6⟩, ⟨[], by rw [AH nla, AB], rfl⟩, ⟨npl, nph, nlh, AU m6 fla6, ?_, ?_, (AU hs6 fla6).symm, (AU hc6 fla6).symm⟩⟩
  ·exact (AU g4 (fr hls).2).symm
  ·exact (AU g4 (fr hlc).2).symm
  ·exact AU m4 (fr hls).2
  ·exact AU m4 (fr hlc).2
end
def lvn (ll : Addr) (_ : L2.St) (H : Hp) : Nat := match H ll with | some (.lst xs) => xs.length | _ => 0
def YT (K : PySem.W.Frag) (t : Adr) (a : Wa) (body : List St1) (i j : Nat) (on : Bool) (x : Hd) (H : Hp) (σ : L2.St) (H2 : Hp) : Prop :=
 ∃ on', σ = [some (.ref a.pw)] ∧ But [a.ll] H H2 ∧ AZ H H2 ∧ CN K t H2 a body i j on' x ∧ (on && decide (i ≠ body.length)) = (on' && decide (i ≠ body.length))
theorem CN.lev {K : PySem.W.Frag} {t : Adr} {H : Hp} {a : Wa} {body : List St1} {i j : Nat} {on : Bool} {x : Hd} (h : CN K t H a body i j on x) (on' : Bool) :
  But [a.ll] H (upd H a.ll (.lst (if on' then [.ref a.pl] else []))) ∧ AZ H (upd H a.ll (.lst (if on' then [.ref a.pl] else []))) ∧ CN K t (upd H a.ll (.lst (if on' then [.ref a.pl] else []))) a body i j on' x := by
 obtain ⟨⟨dx, db, wo⟩, le, ⟨dl, v, lo⟩, bo, ⟨⟨dh, lm, vp, hp, rp⟩, ⟨vs1, hs, rs⟩, ⟨vs2, hc, rc⟩, ne⟩, ⟨vs, ac, hj⟩, n1, n2, n3, n4, n5, n6, n7, n8⟩ := h
 have st : AZ H (upd H a.ll (.lst (if on' then [.ref a.pl] else []))) := (AZ.refl H).upd (FJ le)
 have k : ∀ b o, b ≠ a.ll → H b = some o → (upd H a.ll (.lst (if on' then [.ref a.pl] else []))) b = some o := fun b o hb e => by rw [AH hb]; exact e
 refine ⟨(But.refl _ H).upd (.inr (by simp)), st, ⟨dx, db, k _ _ (CB wo le) wo⟩, AB, ⟨dl, v, k _ _ (CB lo le) lo⟩, bo.t st, ⟨⟨dh, lm, vp, k _ _ (CB hp le) hp, rp.t st⟩, ⟨vs1, k _ _ n5.symm hs, rs.t st⟩, ⟨vs2, k _ _ n6.symm hc, rc.t st⟩, ne⟩, ⟨vs, k _ _ n4.symm ac, hj⟩, n1, n2, n3, n4, n5, n6, n7, n8⟩
section
variable {P : Program} {w : World} {K : PySem.W.Frag} {mg : Str → Option Value} {base : Heap} {t : Adr}
def XX (K : PySem.W.Frag) (t : Adr) : Sp := fun vs H Q _ => ∃ (a : Wa) (body : List St1) (i j : Nat) (on : Bool) (x : Hd), vs = [.ref a.pw] ∧ CN K t H a body i j on x ∧
 ∀ H', But [a.ll] H H' → AZ H H' → CN K t H' a body i j (on && decide (i ≠ body.length)) x → Q (.bl (!(on && decide (i ≠ body.length)))) H'
theorem FT (T : Txt K mg t) : BY P w K mg base CX0 3 t.a_Walk_isdone t.d_Walk_isdone ["self"] (XX K t) := by
 refine T.Walk_isdone.F.ok JN (fun vs H Q E h => ?_) (fun cdv A outer s H vs Q E hr h => ?_)
 ·obtain ⟨a, body, i, j, on, x, rfl, _⟩ := h; rfl
 ·obtain ⟨a, body, i, j, on, x, rfl, hW, q⟩ := h
  refine ⟨_, s!"{@PW.pt _ _ _ s!"{@WD _ _ _ s!"0AM" (fun _ => rfl)}{DU}0AMCuH{T.cl_Level}{T.Level_isthrough.mt}{GV T}{T.Level_isthrough.b}lcts"}{@VO _ _ _ _ _ _ _ _ _ PySem.F.plainAttrs_list PySem.F.slot_list_pop PySem.F.type_list_pop WX s!"0AM" (by rfl) (by rfl)}XE#{@ZT _ _ _ _ s!"0AM"}KEF", ?_⟩
  walk_at "ro"
  refine NA (YT K t a body i j on x H) (lvn a.ll) ⟨on, rfl, But.refl _ H, AZ.refl H, hW, rfl⟩ ?_
  rintro σ H2 ⟨on', rfl, b2, t2, hW2, he⟩
  obtain ⟨⟨dx, db, wo⟩, le, ⟨dl, v, lo⟩, bo, _, _, _⟩ := id hW2
  walk_at "ro"
  refine ⟨_, _, _, wo, T.cl_Walk, T.n_Walk_levels, _, rfl, !((if on' then [V.ref a.pl] else []) : List V).isEmpty, .inl ⟨_, SqL.of le, rfl⟩, ?_⟩
  cases on' with
  | false =>
   rw [if_neg (by simp)]
   refine ⟨_, _, _, wo, T.cl_Walk, T.n_Walk_levels, _, rfl, false, .inl ⟨_, SqL.of le, rfl⟩, ?_⟩
   have he' : (on && decide (i ≠ body.length)) = false := by rw [he]; rfl
   have z := q H2 b2 t2
   rw [he'] at z
   exact z hW2
  | true =>
   have le' : H2 a.ll = some (.lst [.ref a.pl]) := le
   walk_at "ro"
   rw [if_pos (show [V.ref a.pl].isEmpty = false from rfl)]
   refine ⟨_, _, _, wo, T.cl_Walk, T.n_Walk_levels, _, rfl, _, SqL.of le', .ref a.pl, rfl, _, rfl, dl, _, lo, rfl, a.pl, dl, a.vb, v, i, body, rfl, lo, bo, ?_⟩
   dsimp only
   by_cases hi : i = body.length
   ·rw [if_pos (by simp [hi])]
    refine ⟨fun σ' H' => σ' = [some (.ref a.pw)] ∧ H' = upd H2 a.ll (.lst (if false then [.ref a.pl] else [])), ?_, ?_⟩
    ·rintro σ' H' ⟨rfl, rfl⟩
     obtain ⟨b3, t3, h3⟩ := hW2.lev false
     refine ⟨0, ?_, ?_, false, rfl, b2.trans b3, t2.trans t3, h3, ?_⟩
     ·simp only [lvn, le']; exact Nat.zero_lt_one
     ·simp only [lvn, AB]; rfl
     ·rw [he]; simp [hi]
    ·walk_at "ro"
     refine ⟨_, _, _, wo, T.cl_Walk, T.n_Walk_levels, _, rfl, .inl ⟨_, SqL.of le'⟩, _, rfl, _, le', ⟨.ref a.pl, rfl⟩, ?_⟩
     rfl
   ·rw [if_neg (by simp [hi])]
    refine ⟨_, _, _, wo, T.cl_Walk, T.n_Walk_levels, _, rfl, true, .inl ⟨_, SqL.of le', rfl⟩, ?_⟩
    have he' : (on && decide (i ≠ body.length)) = true := by rw [he]; simp [hi]
    have z := q H2 b2 t2
    rw [he'] at z
    exact z hW2
end
theorem rp3 {K : PySem.W.Frag} {H : Hp} {x y z : Str} {v : V} (h : Rp K H (.tup [.str x, .str y, .str z]) v) : ∃ a, v = .ref a ∧ SqT K H a [.str x, .str y, .str z] := by
 rw [Rp] at h
 obtain ⟨a, xs, rfl, hs, hl⟩ := h
 rw [RpL] at hl
 obtain ⟨v1, r1, rfl, h1, hl⟩ := hl
 rw [RpL] at hl
 obtain ⟨v2, r2, rfl, h2, hl⟩ := hl
 rw [RpL] at hl
 obtain ⟨v3, r3, rfl, h3, hl⟩ := hl
 rw [RpL] at hl
 subst hl
 have e1 : v1 = .str x := by rw [Rp] at h1; exact h1
 have e2 : v2 = .str y := by rw [Rp] at h2; exact h2
 have e3 : v3 = .str z := by rw [Rp] at h3; exact h3
 subst e1; subst e2; subst e3
 exact ⟨a, rfl, hs⟩
theorem IF {K : PySem.W.Frag} {H : Hp} {p : Addr} {x : Str} {n : Int} (h : H p = some (.tup [.str x, .int n])) : Rp K H (.tup [.str x, .int n]) (.ref p) := by
 rw [Rp]
 exact ⟨p, _, rfl, SqT.of h, FV (by rw [Rp]) (FV (by rw [Rp]) RpL.nil)⟩
section
variable {P : Program} {w : World} {K : PySem.W.Frag} {mg : Str → Option Value} {base : Heap} {t : Adr}
def ZM (K : PySem.W.Frag) (t : Adr) : Sp := fun vs H Q _ => ∃ (a : Wa) (body : List St1) (i j : Nat) (on : Bool) (x : Hd) (s : St1) (v : V), vs = [.ref a.pw, v] ∧ CN K t H a body i j on x ∧ Rp K H s.D v ∧ s.ok ∧ x.co.length ≤ 5000 ∧ x.st.length ≤ 5000 ∧ j ≤ 5000 ∧
 ∀ H', But [a.ph, a.ls, a.lc, a.la] H H' → AZ H H' → CN K t H' a body i (j + 1) on (stp x s) → Q .non H'
theorem IP (T : Txt K mg t) : BY P w K mg base CX0 5 t.a_Walk_act t.d_Walk_act ["self", "statement"] (ZM K t) := by
 refine T.Walk_act.F.ok OJ (fun vs H Q E h => ?_) (fun cdv A outer s H vs Q E hr h => ?_)
 ·obtain ⟨a, body, i, j, on, x, s, v, rfl, _⟩ := h; rfl
 ·obtain ⟨a, body, i, j, on, x, s1, v, rfl, hW, rv, ho, hc, hst, hj, q⟩ := h
  obtain ⟨⟨dx, db, wo⟩, le, ⟨dl, v', lo⟩, bo, hA, ⟨vs, ac, ej⟩, n1, n2, n3, n4, n5, n6, n7, n8⟩ := id hW
  obtain ⟨⟨dh, lm, vp, hp, rp⟩, ⟨vs1, hs, rs⟩, ⟨vs2, hc2, rc⟩, ne⟩ := id hA
  refine ⟨_, s!"0AM{T.cl_Hand}{T.Hand_act.mt}{IN T}{T.Hand_act.b}1ADBjX0AM1ADBmXEF", ?_⟩
  walk_at "ro"
  refine ⟨_, _, _, wo, T.cl_Walk, T.n_Walk_hand, _, rfl, a.ph, rfl, _, _, hp, rfl, a.ph, a.ls, a.lc, x, s1, v, rfl, hA, rv, ho, hc, hst, fun H2 b2 t2 hA2 => ?_⟩
  have k2 : ∀ b o, b ≠ a.ph → b ≠ a.ls → b ≠ a.lc → H b = some o → H2 b = some o := fun b o m1 m2 m3 e => b2 b o e (by simp [m1, m2, m3])
  have wo2 := k2 _ _ n2 (CB wo hs) (CB wo hc2) wo
  have le2 := k2 _ _ (CB hp le).symm n5 n6 le
  have lo2 := k2 _ _ n3 (CB lo hs) (CB lo hc2) lo
  have ac2 := k2 _ _ (CB hp ac).symm n7 n8 ac
  walk_at "ro"
  refine ⟨_, _, _, wo2, T.cl_Walk, T.n_Walk_acts, _, rfl, .inl ⟨_, SqL.of ac2⟩, _, ac2, by rw [ej]; exact IU hj, ?_⟩
  have t3 : AZ H2 (upd H2 a.la (.lst (vs ++ [v]))) := (AZ.refl H2).upd (FJ ac2)
  have k3 : ∀ b o, b ≠ a.la → H2 b = some o → (upd H2 a.la (.lst (vs ++ [v]))) b = some o := fun b o m e => by rw [AH m]; exact e
  obtain ⟨⟨dh2, lm2, vp2, hp2, rp2⟩, ⟨us1, hs2, rs2⟩, ⟨us2, hc3, rc2⟩, ne2⟩ := hA2
  refine q _ ((b2.mono (by intro b hb; simp at hb ⊢; rcases hb with h | h | h <;> simp [h])).upd (.inr (by simp))) (t2.trans t3) ⟨⟨dx, db, k3 _ _ (CB wo ac) wo2⟩, k3 _ _ n4 le2, ⟨dl, v', k3 _ _ (CB lo ac) lo2⟩, (bo.t t2).t t3,
   ⟨⟨dh2, lm2, vp2, k3 _ _ (CB hp ac) hp2, rp2.t t3⟩, ⟨us1, k3 _ _ n7.symm hs2, rs2.t t3⟩, ⟨us2, k3 _ _ n8.symm hc3, rc2.t t3⟩, ne2⟩, ⟨_, AB, ?_⟩, n1, n2, n3, n4, n5, n6, n7, n8⟩
  rw [List.length_append, ej]; rfl
theorem CN.same {H H' : Hp} {a : Wa} {body : List St1} {i j : Nat} {on : Bool} {x : Hd} (h : CN K t H a body i j on x) (s : AI H H') : CN K t H' a body i j on x := by
 obtain ⟨⟨dx, db, wo⟩, le, ⟨dl, v', lo⟩, bo, hA, ⟨vs, ac, ej⟩, n⟩ := h
 exact ⟨⟨dx, db, s _ _ wo⟩, s _ _ le, ⟨dl, v', s _ _ lo⟩, bo.same s, hA.same s, ⟨vs, s _ _ ac, ej⟩, n⟩
def SD (K : PySem.W.Frag) (t : Adr) : Sp := fun vs H Q _ => ∃ (a : Wa) (body : List St1) (i j : Nat) (on : Bool) (x : Hd) (s : St1) (v u : V), vs = [.ref a.pw, v, u] ∧ CN K t H a body i j on x ∧ Rp K H s.D v ∧ s.ok ∧ x.co.length ≤ 5000 ∧ x.st.length ≤ 5000 ∧ j ≤ 5000 ∧
 ∀ H', But [a.ph, a.ls, a.lc, a.la] H H' → AZ H H' → CN K t H' a body i (j + 1) on (stp x s) → Q .non H'
theorem LI (T : Txt K mg t) : BY P w K mg base CX0 6 t.a_Walk_begin t.d_Walk_begin ["self", "statement", "sources"] (SD K t) := by
 refine T.Walk_begin.F.ok GQ (fun vs H Q E h => ?_) (fun cdv A outer s H vs Q E hr h => ?_)
 ·obtain ⟨a, body, i, j, on, x, s, v, u, rfl, _⟩ := h; rfl
 ·obtain ⟨a, body, i, j, on, x, s1, v, u, rfl, hW, rv, ho, hc, hst, hj, q⟩ := h
  obtain ⟨dx, db, wo⟩ := id hW.wo
  obtain ⟨a1, xs, rfl, hs, hxs⟩ := RP rv
  refine ⟨_, s!"3{GQ.nd}{AK}1ACHI{CC}3AW{AS _}JfE{CC}3AW{AS _}JffEF{CC}3AW{AS _}JffEF{IK}3APeeeO{by with_unfolding_all rfl}J0A{T.cl_Walk}{T.Walk_act.mt}{IP T}{T.Walk_act.b}3A{VE T}{T.worth.m}{T.worth.F.kp}{T.worth.b}{AK}1ACH2ADBBNDBBQDYjXE0A{T.cl_Walk}{T.Walk_act.mt}{IP T}{T.Walk_act.b}1ADBjXELELELELEF", ?_⟩
  walk_at "ro"
  cases s1 with
  | go n =>
   dsimp only at hxs; subst hxs
   refine ⟨_, hs, _, rfl, ?_⟩
   walk_at "ro"
   walk_at "ws"
   intro vt H1 s1 rt
   obtain ⟨pt, rfl, ht⟩ := rp3 rt
   refine ⟨pt, rfl, _, .inr ht, rfl, rfl, ?_⟩
   rw [if_pos (by rfl)]
   refine ⟨_, _, s1 _ _ wo, rfl, _, s1.tup hs, _, rfl, n, u, rfl, ho.1, ho.2, by decide, fun p2 hp2 => ?_⟩
   have s2 := s1.trans (AI.upd (o := .tup [.str (Str.ofString "go"), .int n]) hp2)
   refine ⟨a, body, i, j, on, x, .go n, .ref p2, rfl, hW.same s2, IF AB, ho, hc, hst, hj, fun H' b' t' h' => q _ (s2.but.trans b') (s2.t.trans t') h'⟩
  | turn n =>
   dsimp only at hxs; subst hxs
   refine ⟨_, hs, _, rfl, ?_⟩
   walk_at "ro"
   walk_at "ws"
   intro vt H1 s1 rt
   obtain ⟨pt, rfl, ht⟩ := rp3 rt
   refine ⟨pt, rfl, _, .inr ht, rfl, rfl, ?_⟩
   rw [if_pos (by rfl)]
   refine ⟨_, _, s1 _ _ wo, rfl, _, s1.tup hs, _, rfl, n, u, rfl, ho.1, ho.2, by decide, fun p2 hp2 => ?_⟩
   have s2 := s1.trans (AI.upd (o := .tup [.str (Str.ofString "turn"), .int n]) hp2)
   refine ⟨a, body, i, j, on, x, .turn n, .ref p2, rfl, hW.same s2, IF AB, ho, hc, hst, hj, fun H' b' t' h' => q _ (s2.but.trans b') (s2.t.trans t') h'⟩
  | ink n =>
   dsimp only at hxs; subst hxs
   refine ⟨_, hs, _, rfl, ?_⟩
   walk_at "ro"
   walk_at "ws"
   intro vt H1 s1 rt
   obtain ⟨pt, rfl, ht⟩ := rp3 rt
   refine ⟨pt, rfl, _, .inr ht, rfl, rfl, ?_⟩
   rw [if_pos (by rfl)]
   refine ⟨_, _, s1 _ _ wo, rfl, _, s1.tup hs, _, rfl, n, u, rfl, ho.1, ho.2, by decide, fun p2 hp2 => ?_⟩
   have s2 := s1.trans (AI.upd (o := .tup [.str (Str.ofString "ink"), .int n]) hp2)
   refine ⟨a, body, i, j, on, x, .ink n, .ref p2, rfl, hW.same s2, IF AB, ho, hc, hst, hj, fun H' b' t' h' => q _ (s2.but.trans b') (s2.t.trans t') h'⟩
  | up =>
   dsimp only at hxs; subst hxs
   refine ⟨_, hs, _, rfl, ?_⟩
   walk_at "ro"
   walk_at "ws"
   intro vt H1 s1 rt
   obtain ⟨pt, rfl, ht⟩ := rp3 rt
   refine ⟨pt, rfl, _, .inr ht, rfl, rfl, ?_⟩
   rw [if_neg (by decide +kernel)]
   refine ⟨_, _, s1 _ _ wo, rfl, a, body, i, j, on, x, .up, .ref a1, rfl, hW.same s1, rv.same s1, ho, hc, hst, hj, fun H' b' t' h' => q _ (s1.but.trans b') (s1.t.trans t') h'⟩
  | down =>
   dsimp only at hxs; subst hxs
   refine ⟨_, hs, _, rfl, ?_⟩
   walk_at "ro"
   walk_at "ws"
   intro vt H1 s1 rt
   obtain ⟨pt, rfl, ht⟩ := rp3 rt
   refine ⟨pt, rfl, _, .inr ht, rfl, rfl, ?_⟩
   rw [if_neg (by decide +kernel)]
   refine ⟨_, _, s1 _ _ wo, rfl, a, body, i, j, on, x, .down, .ref a1, rfl, hW.same s1, rv.same s1, ho, hc, hst, hj, fun H' b' t' h' => q _ (s1.but.trans b') (s1.t.trans t') h'⟩
def WL (K : PySem.W.Frag) (t : Adr) : Sp := fun vs H Q _ => ∃ (a : Wa) (body : List St1) (i : Nat) (x : Hd) (s : St1), vs = [.ref a.pw] ∧ CN K t H a body i i true x ∧ body[i]? = some s ∧ s.ok ∧ x.co.length ≤ 5000 ∧ x.st.length ≤ 5000 ∧ i ≤ 5000 ∧
 ∀ H', But [a.ph, a.ls, a.lc, a.la, a.pl] H H' → AZ H H' → CN K t H' a body (i + 1) (i + 1) true (stp x s) → Q .non H'
theorem JX (T : Txt K mg t) : BY P w K mg base CX0 7 t.a_Walk_dodeed t.d_Walk_dodeed ["self"] (WL K t) := by
 refine T.Walk_dodeed.F.ok FZ (fun vs H Q E h => ?_) (fun cdv A outer s H vs Q E hr h => ?_)
 ·obtain ⟨a, body, i, x, s, rfl, _⟩ := h; rfl
 ·obtain ⟨a, body, i, x, s1, rfl, hW, hi, ho, hc, hst, hj, q⟩ := h
  obtain ⟨⟨dx, db, wo⟩, le, ⟨dl, v', lo⟩, bo, hA, ⟨vs, ac, ej⟩, n1, n2, n3, n4, n5, n6, n7, n8⟩ := id hW
  obtain ⟨⟨dh, lm, vp, hp, rp⟩, ⟨vs1, hs, rs⟩, ⟨vs2, hc2, rc⟩, ne⟩ := id hA
  have hil : i < body.length := (List.getElem?_eq_some_iff.mp hi).1
  have le' : H a.ll = some (.lst [.ref a.pl]) := le
  refine ⟨_, s!"1{FZ.nd}{DU}0AMCuHI1A{T.cl_Level}{T.Level_isatend.mt}{ER T}{T.Level_isatend.b}lcfE0A{T.cl_Walk}{T.Walk_begin.mt}{LI T}{T.Walk_begin.b}1A{T.cl_Level}{T.Level_nextstatement.mt}{FF T}{T.Level_nextstatement.b}l1AMDBBjXELEF", ?_⟩
  walk_at "ro"
  refine ⟨_, _, _, wo, T.cl_Walk, T.n_Walk_levels, _, rfl, _, SqL.of le', .ref a.pl, rfl, ?_⟩
  walk_at "ro"
  refine ⟨_, _, lo, rfl, a.pl, dl, a.vb, v', i, body, rfl, lo, bo, ?_⟩
  dsimp only
  rw [if_neg (by simp; omega)]
  refine ⟨_, _, wo, rfl, _, _, lo, rfl, a.pl, dl, a.vb, v', i, body, s1, rfl, lo, bo, hi, fun u H1 e1 ru => ?_⟩
  have k1 : ∀ b o, b ≠ a.pl → H b = some o → H1 b = some o := fun b o m e => by rw [e1, AH m]; exact e
  have lo1 : H1 a.pl = some (.ins t.c_Level dl (lf a.vb v' ((i + 1 : Nat) : Int))) := by rw [e1, AB]
  have t1 : AZ H H1 := by rw [e1]; exact (AZ.refl H).upd (KQ lo)
  have b1 : But [a.ph, a.ls, a.lc, a.la, a.pl] H H1 := by rw [e1]; exact (But.refl _ H).upd (.inr (by simp))
  have hW1 : CN K t H1 a body (i + 1) i true x := ⟨⟨dx, db, k1 _ _ n1 wo⟩, k1 _ _ (CB lo le).symm le, ⟨dl, v', lo1⟩, bo.t t1, ⟨⟨dh, lm, vp, k1 _ _ n3.symm hp, rp.t t1⟩, ⟨vs1, k1 _ _ (CB lo hs).symm hs, rs.t t1⟩, ⟨vs2, k1 _ _ (CB lo hc2).symm hc2, rc.t t1⟩, ne⟩, ⟨vs, k1 _ _ (CB lo ac).symm ac, ej⟩, n1, n2, n3, n4, n5, n6, n7, n8⟩
  refine ⟨_, _, _, lo1, T.cl_Level, T.n_Level_sources, _, rfl, a, body, i + 1, i, true, x, s1, u, v', rfl, hW1, ru, ho, hc, hst, hj, fun H' b' t' h' => ?_⟩
  exact q _ (b1.trans (b'.mono (by intro b hb; simp at hb ⊢; rcases hb with h | h | h | h <;> simp [h]))) (t1.trans t') h'
end
def fin (body : List St1) (i : Nat) : Hd := (body.take i).foldl stp hd0
theorem HD {body : List St1} {i : Nat} {s : St1} (h : body[i]? = some s) : fin body (i + 1) = stp (fin body i) s := by
 unfold fin
 rw [List.take_add_one, h, List.foldl_append]; rfl
theorem aV (x : Hd) (s : St1) : (stp x s).co.length ≤ x.co.length + 1 ∧ (stp x s).st.length ≤ x.st.length + 1 := by
 cases s with
 | go n =>
  simp only [stp, List.length_append, List.length_cons, List.length_nil]
  refine ⟨by omega, ?_⟩
  split
  ·simp
  ·omega
 | _ => simp [stp]
theorem PB : ∀ (l : List St1) (x : Hd), (l.foldl stp x).co.length ≤ x.co.length + l.length ∧ (l.foldl stp x).st.length ≤ x.st.length + l.length
 | [], x => by simp
 | s :: l, x => by
  have a := aV x s
  have b := PB l (stp x s)
  simp only [List.foldl_cons, List.length_cons]
  omega
theorem KU {body : List St1} {i : Nat} (h : body.length ≤ 3900) : (fin body i).co.length ≤ 5000 ∧ (fin body i).st.length ≤ 5000 := by
 have a := PB (body.take i) hd0
 have b : (body.take i).length ≤ body.length := by rw [List.length_take]; omega
 have c : hd0.co.length = 1 := rfl
 have d : hd0.st.length = 0 := rfl
 unfold fin
 omega
theorem EH {l : List Addr} {H G G' : Hp} (s : AI H G) (b : But l G G') (h : ∀ c ∈ l, H c = none) : AI H G' := fun c o e => b c o (s c o e) fun m => by rw [h c m] at e; cases e
structure aF (H : Hp) (a : Wa) : Prop where
 (pw : H a.pw = none) (ll : H a.ll = none) (ph : H a.ph = none) (la : H a.la = none) (pl : H a.pl = none) (ls : H a.ls = none) (lc : H a.lc = none)
def aK (K : PySem.W.Frag) (t : Adr) (a : Wa) (body : List St1) (v : V) (m : Int) (H : Hp) (σ : L2.St) (H2 : Hp) : Prop :=
 ∃ (i : Nat) (on : Bool), σ = [some v, some (.int m), some (.ref a.pw), some (.int i)] ∧ AI H H2 ∧ CN K t H2 a body i i on (fin body i) ∧ (i : Int) ≤ m ∧ i ≤ body.length ∧ (on = false → i = body.length)
def aH (m : Int) (σ : L2.St) (_ : Hp) : Nat := match σ with | [_, _, _, some (.int d)] => (m - d).toNat | _ => 0
section
variable {P : Program} {w : World} {K : PySem.W.Frag} {mg : Str → Option Value} {base : Heap} {t : Adr}
def TX (K : PySem.W.Frag) (t : Adr) : Sp := fun vs H Q _ => ∃ (v : V) (m : Int) (body : List St1), vs = [v, .int m] ∧ Rp K H (.tup [.tup [], bD body]) v ∧ 0 ≤ m ∧ m ≤ 4000 ∧ body.length ≤ 3900 ∧ (∀ s ∈ body, s.ok) ∧
 ∀ (a : Wa) (i : Nat) (on : Bool) (H' : Hp), AI H H' → aF H a → CN K t H' a body i i on (fin body i) → i = min m.toNat body.length → (on = false → i = body.length) → Q (.ref a.pw) H'
theorem SC (T : Txt K mg t) : BY P w K mg base CX0 8 t.a_walked t.d_walked ["program", "most"] (TX K t) := by
 refine T.walked.F.ok GN (fun vs H Q E h => ?_) (fun cdv A outer s H vs Q E hr h => ?_)
 ·obtain ⟨v, m, body, rfl, _⟩ := h; rfl
 ·obtain ⟨v, m, body, rfl, rv, h0, h1, hl, hok, q⟩ := h
  refine ⟨_, s!"2{GN.nd}{@RR _ _ _ _ _ _ _ _ _ _ _ _ _ _ _ _ _ T.Walk_init.mki (NB T) (hr.mono (by decide)) (by rfl) T.mg_Walk T.Walk_init.b .nil BD s!"0ADB" (by decide) (by rfl) (by rfl)}I3{GN.nd}CI{@PW.pt _ _ _ s!"{KK}3A1A{AS _}J2A{T.cl_Walk}{T.Walk_isdone.mt}{FT T}{T.Walk_isdone.b}lcpts"}2A{T.cl_Walk}{T.Walk_dodeed.mt}{JX T}{T.Walk_dodeed.b}lX{@aQ _ _ (3) _ _ _ _ _ _ GN.nd rfl (Or.inl rfl) s!"C" bN (by first | exact .inl rfl | exact .inr rfl | assumption)}EF#2AKEFFF", ?_⟩
  walk_at "ro"
  intro pw dx hpw hdx nx
  have s0 : AI H (upd (upd H dx (.own pw)) pw (.ins t.c_Walk dx [])) := fun b o e => by rw [AH (AU e hpw), AH (AU e hdx)]; exact e
  refine ⟨pw, dx, v, body, rfl, AB, rv.same s0, fun a H1 ea f1 f2 f3 f4 f5 f6 b1 hW => ?_⟩
  have fr : ∀ {b}, (upd (upd H dx (.own pw)) pw (.ins t.c_Walk dx [])) b = none → H b = none := fun {b} e => (un (un e).2).2
  have s1 : AI H H1 := EH s0 b1 (by intro c hc; rw [List.mem_singleton] at hc; subst hc; exact hpw)
  have F : aF H a := ⟨by rw [ea]; exact hpw, fr f1, fr f2, fr f3, fr f4, fr f5, fr f6⟩
  subst ea
  refine ⟨rfl, ?_⟩
  walk_at "ro"
  refine NA (aK K t a body v m H) (aH m) ⟨0, true, rfl, s1, hW, h0, Nat.zero_le _, by intro z; cases z⟩ ?_
  rintro σ H2 ⟨i, on, rfl, s2, hW2, hi, hil, hon⟩
  walk_at "ro"
  obtain ⟨dw, db, wo⟩ := id hW2.wo
  by_cases hm : (i : Int) < m
  ·rw [if_pos hm]
   refine ⟨_, _, wo, rfl, a, body, i, i, on, _, rfl, hW2, fun H3 b3 t3 hW3 => ?_⟩
   dsimp only
   have s3 : AI H H3 := EH s2 b3 (by intro c hc; rw [List.mem_singleton] at hc; subst hc; exact F.ll)
   by_cases hd : i = body.length
   ·have e : (on && decide (i ≠ body.length)) = false := by simp [hd]
    rw [e] at hW3
    rw [if_neg (by rw [e]; simp)]
    exact q a i false H3 s3 F hW3 (by omega) fun _ => hd
   ·have hon' : on = true := by cases on with | true => rfl | false => exact absurd (hon rfl) hd
    have e : (on && decide (i ≠ body.length)) = true := by simp [hd, hon']
    rw [e] at hW3
    rw [if_pos (by rw [e]; rfl)]
    obtain ⟨s1', hs1⟩ : ∃ s1, body[i]? = some s1 := ⟨_, List.getElem?_eq_getElem (by omega)⟩
    refine ⟨fun σ' H' => σ' = [some v, some (.int m), some (.ref a.pw), some (.int ((i : Int) + 1))] ∧ aK K t a body v m H σ' H', ?_, ?_⟩
    ·rintro σ' H' ⟨rfl, hv⟩
     refine ⟨_, ?_, rfl, hv⟩
     simp only [aH]; omega
    ·obtain ⟨dw3, db3, wo3⟩ := id hW3.wo
     have sz := KU (body := body) (i := i) hl
     refine ⟨_, _, wo3, rfl, a, body, i, fin body i, s1', rfl, hW3, hs1, hok _ (List.mem_of_getElem? hs1), sz.1, sz.2, by omega, fun H4 b4 t4 hW4 => ?_⟩
     rw [← HD hs1] at hW4
     refine ⟨rfl, i + 1, true, rfl, ?_, hW4, by omega, by omega, by intro z; cases z⟩
     refine EH s3 b4 fun c hc => ?_
     simp at hc
     rcases hc with h | h | h | h | h
     ·rw [h]; exact F.ph
     ·rw [h]; exact F.ls
     ·rw [h]; exact F.lc
     ·rw [h]; exact F.la
     ·rw [h]; exact F.pl
  ·rw [if_neg hm]
   exact q a i on H2 s2 F hW2 (by omega) hon
def aZ (K : PySem.W.Frag) (t : Adr) : Sp := fun vs H Q _ => ∃ (v : V) (m : Int) (body : List St1), vs = [v, .int m] ∧ Rp K H (.tup [.tup [], bD body]) v ∧ 0 ≤ m ∧ m ≤ 4000 ∧ body.length ≤ 3900 ∧ (∀ s ∈ body, s.ok) ∧
 ∀ (rr ls lc ae : Addr) (vp : V) (vs1 vs2 : List V) (x : Hd) (H' : Hp), x = fin body (min m.toNat body.length) → AI H H' → H ls = none → H lc = none → ls ≠ lc → H' rr = some (.tup [.ref ls, .ref lc, .ref ae, .int x.tu, .bl (decide ((body.length : Int) ≤ m))]) → H rr = none →
  H' ls = some (.lst vs1) → RpL K H' (x.st.map skD) vs1 → H' lc = some (.lst vs2) → RpL K H' (x.co.map Pl.D) vs2 → H' ae = some (.tup [vp, .int x.h, .bl x.dn, .int x.ink]) → Rp K H' x.p.D vp → Q (.ref rr) H'
theorem cL (T : Txt K mg t) : BY P w K mg base CX0 9 t.a_run t.d_run ["program", "most"] (aZ K t) := by
 refine T.run.F.ok RC (fun vs H Q E h => ?_) (fun cdv A outer s H vs Q E hr h => ?_)
 ·obtain ⟨v, m, body, rfl, _⟩ := h; rfl
 ·obtain ⟨v, m, body, rfl, rv, h0, h1, hl, hok, q⟩ := h
  refine ⟨_, s!"2{RC.nd}{SC T}{T.walked.m}{T.walked.F.kp}{T.walked.b}0A1ADBBNI3{RC.nd}2AMI3AM3AM3A{T.cl_Hand}{T.Hand_end.mt}{NU T}{T.Hand_end.b}l3AM2A{T.cl_Walk}{T.Walk_isdone.mt}{FT T}{T.Walk_isdone.b}lDBBBBBQKEFF", ?_⟩
  walk_at "ro"
  refine ⟨v, m, body, rfl, rv, h0, h1, hl, hok, fun a i on H1 s1 F hW hi hon => ?_⟩
  obtain ⟨⟨dx, db, wo⟩, _, _, _, hA, _, n1, n2, n3, n4, n5, n6, n7, n8⟩ := id hW
  obtain ⟨⟨dh, lm, vp, hp, rp⟩, ⟨vs1, hs, rs⟩, ⟨vs2, hc2, rc⟩, ne⟩ := id hA
  walk_at "ro"
  refine ⟨_, _, _, wo, T.cl_Walk, T.n_Walk_hand, _, rfl, ?_⟩
  walk_at "ro"
  refine ⟨_, _, _, hp, T.cl_Hand, T.n_Hand_strokes, _, rfl, _, _, _, hp, T.cl_Hand, T.n_Hand_corners, _, rfl, _, _, hp, rfl, a.ph, a.ls, a.lc, _, rfl, hA, fun ae vp2 H2 s2 hae rvp => ?_⟩
  walk_at "ro"
  refine ⟨_, _, _, s2 _ _ hp, T.cl_Hand, T.n_Hand_turned, _, rfl, _, _, s2 _ _ wo, rfl, a, body, i, i, on, _, rfl, hW.same s2, fun H3 b3 t3 hW3 => ?_⟩
  have ed : (!(on && decide (i ≠ body.length))) = decide ((body.length : Int) ≤ m) := by
   by_cases hd : i = body.length
   ·simp only [hd, ne_eq, not_true_eq_false, decide_false, Bool.and_false, Bool.not_false]
    exact (decide_eq_true (by omega)).symm
   ·have hon' : on = true := by cases on with | true => rfl | false => exact absurd (hon rfl) hd
    simp only [hon', hd, ne_eq, not_false_eq_true, decide_true, Bool.and_self, Bool.not_true]
    exact (decide_eq_false (by omega)).symm
  refine ⟨by decide, fun rr hrr => ?_⟩
  have k3 : ∀ b o, b ≠ a.ll → H2 b = some o → H3 b = some o := fun b o mm e => b3 b o e (by simpa using mm)
  have s13 : AI H H3 := EH (s1.trans s2) b3 (by intro c hc; rw [List.mem_singleton] at hc; subst hc; exact F.ll)
  have sr := AI.upd (o := .tup [.ref a.ls, .ref a.lc, .ref ae, .int (fin body i).tu, .bl (!(on && decide (i ≠ body.length)))]) hrr
  have tr : AZ H2 _ := t3.trans sr.t
  have nae : ae ≠ a.ll := by rintro rfl; have := hW.le; rw [s2 _ _ this] at hae; cases hae
  refine q rr a.ls a.lc ae vp2 vs1 vs2 (fin body i) _ (by rw [hi]) (s13.trans sr) F.ls F.lc ne (by rw [AB, ed]) (s13.free hrr) (sr _ _ (k3 _ _ n5.symm (s2 _ _ hs))) ((rs.same s2).t tr) (sr _ _ (k3 _ _ n6.symm (s2 _ _ hc2))) ((rc.same s2).t tr) (sr _ _ (k3 _ _ nae hae)) (rvp.t tr)
end
def und (x : Hd) : St1 → St1
 | .go n => .go (-n)
 | .turn n => .turn (-n)
 | .ink _ => .ink x.ink
 | _ => if x.dn = true then .down else .up
theorem rpp {K : PySem.W.Frag} {H : Hp} {x y : Str} {v : V} (h : Rp K H (.tup [.str x, .str y]) v) : ∃ a, v = .ref a ∧ SqT K H a [.str x, .str y] := by
 obtain ⟨a, y1, z, rfl, hs, hy, hz⟩ := BJ.mp h
 rw [Rp] at hy hz
 subst hy; subst hz
 exact ⟨a, rfl, hs⟩
section
variable {P : Program} {w : World} {K : PySem.W.Frag} {mg : Str → Option Value} {base : Heap} {t : Adr}
def PU (K : PySem.W.Frag) (C : Addr) : Sp := fun vs H Q _ => ∃ (p ls lc : Addr) (x : Hd) (s : St1) (v : V), vs = [v, .ref p] ∧ BZ K C H p ls lc x ∧ Rp K H s.D v ∧ s.ok ∧ ∀ H' u, AI H H' → Rp K H' (und x s).D u → Q u H'
theorem QD (T : Txt K mg t) : BY P w K mg base CX0 1 t.a_undoing t.d_undoing ["statement", "hand"] (PU K t.c_Hand) := by
 refine T.undoing.F.ok LC (fun vs H Q E h => ?_) (fun cdv A outer s H vs Q E hr h => ?_)
 ·obtain ⟨p, ls, lc, x, s, v, rfl, _⟩ := h; rfl
 ·obtain ⟨p, ls, lc, x, s1, v, rfl, hA, hv, ho, q⟩ := h
  obtain ⟨⟨dx, lm, vp, hp, rp⟩, _, _, _⟩ := id hA
  obtain ⟨a, xs, rfl, hs, hxs⟩ := RP hv
  refine ⟨_, s!"2{LC.nd}{AK}0ACHI{IK}2APeeO{by with_unfolding_all rfl}J2A{AK}0ACHuDBBQKETL{CC}2AW{AS _}JW1AMDBBQKETL{@XW _ _ _ _ _ _ _ _ s!"1AMc" s!"PeO" s!"PeO"}KEFFF", ?_⟩
  walk_at "ro"
  cases s1 with
  | go n =>
   dsimp only at hxs; subst hxs
   refine ⟨_, hs, _, rfl, ?_⟩
   walk_at "ro"
   walk_at "ws"
   intro vt H1 s1 rt
   obtain ⟨pt, rfl, ht⟩ := rpp rt
   refine ⟨pt, rfl, _, .inr ht, rfl, rfl, ?_⟩
   rw [if_pos (by rfl)]
   refine ⟨_, s1.tup hs, _, rfl, ?_⟩
   dsimp only
   exact ⟨by decide, fun p2 hp2 => q _ _ (s1.trans (AI.upd hp2)) (IF AB)⟩
  | turn n =>
   dsimp only at hxs; subst hxs
   refine ⟨_, hs, _, rfl, ?_⟩
   walk_at "ro"
   walk_at "ws"
   intro vt H1 s1 rt
   obtain ⟨pt, rfl, ht⟩ := rpp rt
   refine ⟨pt, rfl, _, .inr ht, rfl, rfl, ?_⟩
   rw [if_pos (by rfl)]
   refine ⟨_, s1.tup hs, _, rfl, ?_⟩
   dsimp only
   exact ⟨by decide, fun p2 hp2 => q _ _ (s1.trans (AI.upd hp2)) (IF AB)⟩
  | ink n =>
   dsimp only at hxs; subst hxs
   refine ⟨_, hs, _, rfl, ?_⟩
   walk_at "ro"
   walk_at "ws"
   intro vt H1 s1 rt
   obtain ⟨pt, rfl, ht⟩ := rpp rt
   refine ⟨pt, rfl, _, .inr ht, rfl, rfl, ?_⟩
   rw [if_neg (by decide)]
   walk_at "ws"
   exact ⟨_, _, _, s1 _ _ hp, T.cl_Hand, T.n_Hand_ink, _, rfl, by decide, fun p2 hp2 => q _ _ (s1.trans (AI.upd hp2)) (IF AB)⟩
  | up =>
   dsimp only at hxs; subst hxs
   refine ⟨_, hs, _, rfl, ?_⟩
   walk_at "ro"
   walk_at "ws"
   intro vt H1 s1 rt
   obtain ⟨pt, rfl, ht⟩ := rpp rt
   refine ⟨pt, rfl, _, .inr ht, rfl, rfl, ?_⟩
   rw [if_neg (by decide)]
   walk_at "ws"
   refine ⟨_, _, _, s1 _ _ hp, T.cl_Hand, T.n_Hand_down, _, rfl, ?_⟩
   dsimp only
   by_cases hd : x.dn = true
   ·rw [if_pos hd]
    exact fun v H2 s2 r2 => q _ _ (s1.trans s2) (by simp only [und, hd, if_true]; exact r2)
   ·rw [if_neg hd]
    exact fun v H2 s2 r2 => q _ _ (s1.trans s2) (by simp only [und, hd, if_false, Bool.false_eq_true]; exact r2)
  | down =>
   dsimp only at hxs; subst hxs
   refine ⟨_, hs, _, rfl, ?_⟩
   walk_at "ro"
   walk_at "ws"
   intro vt H1 s1 rt
   obtain ⟨pt, rfl, ht⟩ := rpp rt
   refine ⟨pt, rfl, _, .inr ht, rfl, rfl, ?_⟩
   rw [if_neg (by decide)]
   walk_at "ws"
   refine ⟨_, _, _, s1 _ _ hp, T.cl_Hand, T.n_Hand_down, _, rfl, ?_⟩
   dsimp only
   by_cases hd : x.dn = true
   ·rw [if_pos hd]
    exact fun v H2 s2 r2 => q _ _ (s1.trans s2) (by simp only [und, hd, if_true]; exact r2)
   ·rw [if_neg hd]
    exact fun v H2 s2 r2 => q _ _ (s1.trans s2) (by simp only [und, hd, if_false, Bool.false_eq_true]; exact r2)
end
def FO (body : List St1) : Nat → List St1
 | 0 => []
 | i + 1 => FO body i ++ (match body[i]? with | some s => [und (fin body i) s] | none => [])
theorem LW {body : List St1} {i : Nat} {s : St1} (h : body[i]? = some s) : FO body (i + 1) = FO body i ++ [und (fin body i) s] := by
 rw [FO, h]
theorem LA (body : List St1) : ∀ i, (FO body i).length ≤ i
 | 0 => by simp [FO]
 | i + 1 => by
  have := LA body i
  rw [FO, List.length_append]
  split <;> simp <;> omega
def cZ (K : PySem.W.Frag) (C : Addr) (v : V) (p ls lc l : Addr) (body : List St1) (H : Hp) (i : Nat) (σ : L2.St) (H2 : Hp) : Prop :=
 ∃ (o : Option V) (us : List V), σ = [some v, some (.ref p), some (.ref l), o] ∧ AI H H2 ∧ BZ K C H2 p ls lc (fin body i) ∧ H2 l = some (.lst us) ∧ RpL K H2 ((FO body i).map St1.D) us
theorem UQ {K : PySem.W.Frag} {H : Hp} : ∀ {ds : List L2.D} {xs : List V}, RpL K H ds xs → RpL K H ds.reverse xs.reverse
 | [], xs, h => by rw [RpL] at h; subst h; exact RpL.nil
 | d :: ds, xs, h => by
  rw [RpL] at h
  obtain ⟨v, r, rfl, h1, h2⟩ := h
  rw [List.reverse_cons, List.reverse_cons]
  exact (UQ h2).app (RpL.one h1)
theorem NE {K : PySem.W.Frag} {H : Hp} {body : List St1} {xs : List V} {i : Nat} {x : V} (h : RpL K H (body.map St1.D) xs) (hx : xs[i]? = some x) : ∃ s, body[i]? = some s ∧ Rp K H s.D x := by
 have hi : i < xs.length := by
  rcases Nat.lt_or_ge i xs.length with h | h
  ·exact h
  ·rw [List.getElem?_eq_none h] at hx; cases hx
 have hb : i < body.length := by rw [h.length, List.length_map] at hi; exact hi
 obtain ⟨v, e, r⟩ := h.at (j := i) (by rw [List.length_map]; exact hb)
 rw [hx] at e; cases e
 refine ⟨body[i], List.getElem?_eq_getElem hb, ?_⟩
 rw [List.getD_eq_getElem?_getD, List.getElem?_map, List.getElem?_eq_getElem hb] at r
 exact r
theorem BZ.off {K : PySem.W.Frag} {C p ls lc l : Addr} {H : Hp} {x : Hd} {us us' : List V} (h : BZ K C H p ls lc x) (hl : H l = some (.lst us)) (n1 : l ≠ p) (n2 : l ≠ ls) (n3 : l ≠ lc) : BZ K C (upd H l (.lst us')) p ls lc x := by
 have st : AZ H (upd H l (.lst us')) := (AZ.refl H).upd (FJ hl)
 obtain ⟨⟨dx, lm, vp, hp, rp⟩, ⟨vs1, hs, rs⟩, ⟨vs2, hc, rc⟩, ne⟩ := h
 exact ⟨⟨dx, lm, vp, by rw [AH n1.symm]; exact hp, rp.t st⟩, ⟨vs1, by rw [AH n2.symm]; exact hs, rs.t st⟩, ⟨vs2, by rw [AH n3.symm]; exact hc, rc.t st⟩, ne⟩
section
variable {P : Program} {w : World} {K : PySem.W.Frag} {mg : Str → Option Value} {base : Heap} {t : Adr}
def MO (K : PySem.W.Frag) : Sp := fun vs H Q _ => ∃ (v : V) (body : List St1), vs = [v] ∧ Rp K H (.tup [.tup [], bD body]) v ∧ body.length ≤ 3900 ∧ (∀ s ∈ body, s.ok) ∧
 ∀ (u : V) (H' : Hp), AI H H' → Rp K H' (.tup [.tup [], bD (FO body body.length).reverse]) u → Q u H'
theorem HN (T : Txt K mg t) : BY P w K mg base CX0 5 t.a_backwards t.d_backwards ["program"] (MO K) := by
 refine T.backwards.F.ok DY (fun vs H Q E h => ?_) (fun cdv A outer s H vs Q E hr h => ?_)
 ·obtain ⟨v, body, rfl, _⟩ := h; rfl
 ·obtain ⟨v, body, rfl, rv, hl, hok, q⟩ := h
  refine ⟨_, s!"1{DY.nd}{@OY _ _ _ _ _ _ _ _ _ _ _ _ _ _ T.Hand_init.mki (HI T) (hr.mono (by decide)) (by rfl) T.mg_Hand T.Hand_init.b .nil BD (by decide)}I2{DY.nd}DbI{AK}0ACHx3{DY.nd}U2A{QD T}{T.undoing.m}{T.undoing.F.kp}{T.undoing.b}3A1ADBBNDBmX1A{T.cl_Hand}{T.Hand_act.mt}{IN T}{T.Hand_act.b}3ADBjXEFwPO{@TR _ _ _ _ _ _ _ rfl (by rfl) T.z_tuple (by rfl) T.z_reversed s!"2A" (by rfl) (by rfl)}DBYQKEFFF", ?_⟩
  walk_at "ro"
  intro ph dx hph hdx nx
  have s0 : AI H (upd (upd H dx (.own ph)) ph (.ins t.c_Hand dx [])) := fun b o e => by rw [AH (AU e hph), AH (AU e hdx)]; exact e
  refine ⟨ph, dx, rfl, AB, fun ls lc H1 f1 f2 b1 hA => ?_⟩
  have fr : ∀ {b}, (upd (upd H dx (.own ph)) ph (.ins t.c_Hand dx [])) b = none → H b = none := fun {b} e => (un (un e).2).2
  have s1 : AI H H1 := EH s0 b1 (by intro c hc; rw [List.mem_singleton] at hc; subst hc; exact hph)
  refine ⟨rfl, ?_⟩
  walk_at "ro"
  refine ⟨by decide, fun l hl0 => ?_⟩
  have nA := hA
  obtain ⟨⟨_, _, _, gp, _⟩, ⟨_, gs, _⟩, ⟨_, gc, _⟩, nsc⟩ := id hA
  have np : l ≠ ph := by rintro rfl; rw [hl0] at gp; cases gp
  have ns : l ≠ ls := by rintro rfl; rw [hl0] at gs; cases gs
  have nc : l ≠ lc := by rintro rfl; rw [hl0] at gc; cases gc
  have sl := AI.upd (o := .lst []) hl0
  have s2 := s1.trans sl
  obtain ⟨a0, x1, vb, rfl, hs, hx1, rb⟩ := BJ.mp rv
  obtain ⟨ab, xs, rfl, hab, rl, len⟩ := FE rb
  have gl : H l = none := s1.free hl0
  have gls : H ls = none := fr f1
  have glc : H lc = none := fr f2
  dsimp only
  refine ⟨_, s2.tup hs, _, rfl, ?_⟩
  dsimp only
  refine ⟨⟨_, s2.tup hab⟩, VB (xs := xs) (cZ K t.c_Hand (.ref a0) ph ls lc l body H) ⟨none, [], rfl, s2, hA.same sl, AB, RpL.nil⟩ (fun i σ H2 _ z => by obtain ⟨_, _, rfl, s3, _⟩ := z; exact s3.tup hab) ?_ ?_⟩
  ·rintro i x σ H2 hx ⟨o, us, rfl, s3, hA3, hl3, ru⟩
   walk_at "ro"
   obtain ⟨s1', hs1, rx⟩ := NE (rl.same s3) hx
   have hi : i < body.length := by
    rcases Nat.lt_or_ge i body.length with h | h
    ·exact h
    ·rw [List.getElem?_eq_none h] at hs1; cases hs1
   refine ⟨.inl ⟨us, SqL.of hl3⟩, ph, ls, lc, fin body i, s1', x, rfl, hA3, rx, hok _ (List.mem_of_getElem? hs1), fun H4 u s4 r4 => ?_⟩
   have hl4 := s4 _ _ hl3
   have hA4 := hA3.same s4
   have hlen : us.length ≤ 5000 := by
    rw [ru.length, List.length_map]
    have := LA body i
    omega
   have hA5 : BZ K t.c_Hand (upd H4 l (.lst (us ++ [u]))) ph ls lc (fin body i) := hA4.off hl4 np ns nc
   have t5 : AZ H4 (upd H4 l (.lst (us ++ [u]))) := (AZ.refl H4).upd (FJ hl4)
   obtain ⟨dx5, lm5, vp5, hp5, _⟩ := hA5.ob
   have sz := KU (body := body) (i := i) hl
   refine ⟨us, hl4, IU hlen, _, _, hp5, rfl, ph, ls, lc, fin body i, s1', x, rfl, hA5, (rx.same s4).t t5, hok _ (List.mem_of_getElem? hs1), sz.1, sz.2, fun H6 b6 t6 hA6 => ?_⟩
   rw [← HD hs1] at hA6
   refine ⟨some x, us ++ [u], rfl, ?_, hA6, ?_, ?_⟩
   ·refine EH (G := upd H4 l (.lst (us ++ [u]))) (fun b o e => ?_) b6 fun c hc => ?_
    ·rw [AH (AU e gl)]
     exact (s3.trans s4) _ _ e
    ·simp at hc
     rcases hc with h | h | h
     ·rw [h]; exact hph
     ·rw [h]; exact gls
     ·rw [h]; exact glc
   ·exact b6 _ _ AB (by simp [np, ns, nc])
   ·rw [LW hs1, List.map_append]
    exact (((ru.same s4).t t5).t t6).app (RpL.one ((r4.t t5).t t6))
  ·rintro σ H2 ⟨o, us, rfl, s3, hA3, hl3, ru⟩
   walk_at "ro"
   intro v0 H3 s4 r0
   refine ⟨us, SqL.of (s4 _ _ hl3), fun lt ht => ⟨by decide, fun p2 hp2 => ?_⟩⟩
   have s5 := AI.upd (o := .tup us.reverse) ht
   have s6 := AI.upd (o := .tup [v0, .ref lt]) hp2
   refine q _ _ (((s3.trans s4).trans s5).trans s6) (BJ.mpr ⟨p2, _, _, rfl, SqT.of AB, (r0.same s5).same s6, ?_⟩)
   rw [bD, Rp]
   refine ⟨lt, _, rfl, SqT.of (s6 _ _ AB), ?_⟩
   rw [List.map_reverse, ← len]
   exact UQ (((ru.same s4).same s5).same s6)
end
theorem FS {K : PySem.W.Frag} : PySem.W.kitOne K (.type "str") (.type "str") = some true := rfl
theorem IQ {K : PySem.W.Frag} : PySem.W.kitOne K (.type "int") (.type "int") = some true := rfl
theorem HW {K : PySem.W.Frag} : PySem.W.kitOne K (.type "int") (.type "bool") = some false := rfl
theorem CD {K : PySem.W.Frag} : PySem.W.kitOne K (.type "tuple") (.type "tuple") = some true := rfl
def okOne (d : List L2.D) : Prop := d = [.str "up"] ∨ d = [.str "down"] ∨ ∃ i : Int, (-1000000 ≤ i ∧ i ≤ 1000000) ∧ (d = [.str "go", .int i] ∨ d = [.str "turn", .int i] ∨ d = [.str "ink", .int i])
section
variable {P : Program} {w : World} {K : PySem.W.Frag} {mg : Str → Option Value} {base : Heap} {t : Adr}
def YE : Sp := fun vs H Q _ => ∃ v : Int, vs = [.int v] ∧ Q (.bl true) H
theorem ZF (T : Txt K mg t) : BY P w K mg base CX0 1 t.a_Lint t.d_Lint ["_law_found"] YE := by
 refine T.Lint.F.ok ZG (fun vs H Q E h => ?_) (fun cdv A outer s H vs Q E hr h => ?_)
 ·obtain ⟨v, rfl, _⟩ := h; rfl
 ·obtain ⟨v, rfl, k⟩ := h
  refine ⟨_, s!"{DB (c := .type "int")}{T.z_isinstance}{boot_isinstance}0A{.ty "int"}{T.z_int}{boot_int}oDBBR{@bP _ _ _ _ s!"{DB (c := .type "bool")}{T.z_isinstance}{boot_isinstance}0A{.ty "bool"}{T.z_bool}{boot_bool}oDBBR"}!zKE", ?_⟩
  walk_at "rd"
  refine ⟨rfl, ⟨_, rfl⟩, _, .int v, _, IQ, ?_⟩
  walk_at "rd"
  refine ⟨rfl, ⟨_, rfl⟩, _, .int v, _, HW, ?_⟩
  walk_at "rd"
  exact k
theorem okOne.tup {d : List L2.D} (h : okOne d) : ∃ s r, d = .str s :: r ∧ s ≠ "again" := by
 rcases h with rfl | rfl | ⟨i, _, rfl | rfl | rfl⟩
 ·exact ⟨"up", [], rfl, by decide⟩
 ·exact ⟨"down", [], rfl, by decide⟩
 ·exact ⟨"go", [.int i], rfl, by decide⟩
 ·exact ⟨"turn", [.int i], rfl, by decide⟩
 ·exact ⟨"ink", [.int i], rfl, by decide⟩
theorem DS {H : Hp} {s : Str} {v : V} : Rp K H (.str s) v ↔ v = .str s := by rw [Rp]
theorem RK {H : Hp} {i : Int} {v : V} : Rp K H (.int i) v ↔ v = .int i := by rw [Rp]
theorem JF {H : Hp} {d : L2.D} {v : V} : Rp K H (.tup [d]) v ↔ ∃ p x, v = .ref p ∧ SqT K H p [x] ∧ Rp K H d x := by
 rw [FB]
 constructor
 ·rintro ⟨p, xs, rfl, h, hl⟩
  rw [RpL] at hl
  obtain ⟨x, r, rfl, hx, hr⟩ := hl
  rw [RpL] at hr
  subst hr
  exact ⟨p, x, rfl, h, hx⟩
 ·rintro ⟨p, x, rfl, h, hx⟩
  exact ⟨p, [x], rfl, h, RpL.one hx⟩
def ND (K : PySem.W.Frag) : Sp := fun vs H Q _ => ∃ (x : V) (d : List L2.D), vs = [x] ∧ okOne d ∧ Rp K H (.tup d) x ∧ ∀ H', AI H H' → Q (.bl true) H'
theorem NL (T : Txt K mg t) : BY P w K mg base CX0 2 t.a_Lissingle t.d_Lissingle ["_law_statement"] (ND K) := by
 refine T.Lissingle.F.ok ML (fun vs H Q E h => ?_) (fun cdv A outer s H vs Q E hr h => ?_)
 ·obtain ⟨x, d, rfl, _⟩ := h; rfl
 ·obtain ⟨x, d, rfl, ok, rx, q⟩ := h
  have hu := hr.units
  refine ⟨_, s!"{@PW.pt _ _ _ s!"{DB (c := .type "tuple")}{T.z_isinstance}{boot_isinstance}0A{.ty "tuple"}{T.z_tuple}{boot_tuple}oDBBRcp{CC}{AR}{T.z_len}{PySem.boot_len}0ADBRC{AS _}J{DB (c := .type "str")}{T.z_isinstance}{boot_isinstance}{AK}0ACH{.ty "str"}{T.z_str}{boot_str}oDBBRcpvhh"}gKETL{IK}{AK}0ACHPeeO{by with_unfolding_all rfl}J{CC}{AR}{T.z_len}{PySem.boot_len}0ADBRCkKETL{@PW.pt _ _ _ s!"{MR}{AK}0ACHPeeeO{by with_unfolding_all rfl}J{KH}{AR}{T.z_len}{PySem.boot_len}0ADBRC{AS _}J{ZF T}{T.Lint.m}{T.Lint.F.kp}{T.Lint.b}{AK}0ACHDBNcpvhh"}gKETL{@WT _ _ _ _ _ _ _ _ _ _ _ _ NN NN s!"Cu" s!"{AK}0ACH" s!"C" (by with_unfolding_all rfl)}KEFFF", ?_⟩
  rcases ok with rfl | rfl | ⟨i, hi, hd⟩
  ·obtain ⟨p, y, rfl, hS, hy⟩ := JF.mp rx
   rw [DS] at hy
   subst hy
   walk_at "rd"
   refine ⟨rfl, ⟨_, rfl⟩, _, .inr ⟨⟨_, hS⟩, rfl⟩, _, CD, ?_⟩
   rw [if_neg (by decide)]
   refine ⟨_, .inr hS, ?_⟩
   rw [if_neg (by simp)]
   refine ⟨_, hS, _, rfl, rfl, ⟨_, rfl⟩, _, .inl (.str _), _, FS, ?_⟩
   rw [if_neg (by decide)]
   refine ⟨_, hS, _, rfl, fun v1 H1 s1 r1 => ?_⟩
   obtain ⟨p1, x1, x2, rfl, h1, e1, e2⟩ := BJ.mp r1
   rw [DS] at e1 e2
   subst e1 e2
   walk_at "rd"
   refine ⟨_, .inr h1, rfl, rfl, ?_⟩
   rw [if_pos (by decide)]
   refine ⟨_, .inr (s1.tup hS), ?_⟩
   exact q _ s1
  ·obtain ⟨p, y, rfl, hS, hy⟩ := JF.mp rx
   rw [DS] at hy
   subst hy
   walk_at "rd"
   refine ⟨rfl, ⟨_, rfl⟩, _, .inr ⟨⟨_, hS⟩, rfl⟩, _, CD, ?_⟩
   rw [if_neg (by decide)]
   refine ⟨_, .inr hS, ?_⟩
   rw [if_neg (by simp)]
   refine ⟨_, hS, _, rfl, rfl, ⟨_, rfl⟩, _, .inl (.str _), _, FS, ?_⟩
   rw [if_neg (by decide)]
   refine ⟨_, hS, _, rfl, fun v1 H1 s1 r1 => ?_⟩
   obtain ⟨p1, x1, x2, rfl, h1, e1, e2⟩ := BJ.mp r1
   rw [DS] at e1 e2
   subst e1 e2
   walk_at "rd"
   refine ⟨_, .inr h1, rfl, rfl, ?_⟩
   rw [if_pos (by decide)]
   refine ⟨_, .inr (s1.tup hS), ?_⟩
   exact q _ s1
  ·obtain ⟨nm, rfl, hnm⟩ : ∃ nm : Str, d = [.str nm, .int i] ∧ (nm = "go" ∨ nm = "turn" ∨ nm = "ink") := by
    rcases hd with rfl | rfl | rfl
    ·exact ⟨_, rfl, .inl rfl⟩
    ·exact ⟨_, rfl, .inr (.inl rfl)⟩
    ·exact ⟨_, rfl, .inr (.inr rfl)⟩
   obtain ⟨p, y, z, rfl, hS, hy, hz⟩ := BJ.mp rx
   rw [DS] at hy
   rw [RK] at hz
   subst hy hz
   have n2 : inV (.str nm) [.str "up", .str "down"] = false := by rcases hnm with rfl | rfl | rfl <;> decide
   have n3 : inV (.str nm) [.str "go", .str "turn", .str "ink"] = true := by rcases hnm with rfl | rfl | rfl <;> decide
   clear hnm hd
   walk_at "rd"
   refine ⟨rfl, ⟨_, rfl⟩, _, .inr ⟨⟨_, hS⟩, rfl⟩, _, CD, ?_⟩
   rw [if_neg (by decide)]
   refine ⟨_, .inr hS, ?_⟩
   rw [if_neg (by simp)]
   refine ⟨_, hS, _, rfl, rfl, ⟨_, rfl⟩, _, .inl (.str _), _, FS, ?_⟩
   rw [if_neg (by decide)]
   refine ⟨_, hS, _, rfl, fun v1 H1 s1 r1 => ?_⟩
   obtain ⟨p1, x1, x2, rfl, h1, e1, e2⟩ := BJ.mp r1
   rw [DS] at e1 e2
   subst e1 e2
   walk_at "rd"
   refine ⟨_, .inr h1, rfl, rfl, ?_⟩
   rw [n2, if_neg (by decide)]
   refine ⟨_, s1.tup hS, _, rfl, fun v2 H2 s2 r2 => ?_⟩
   obtain ⟨p2, ys, rfl, h2, hl2⟩ := FB.mp r2
   have ey : ys = [.str "go", .str "turn", .str "ink"] := by
    simp only [RpL, DS] at hl2
    obtain ⟨_, _, rfl, rfl, _, _, rfl, rfl, _, _, rfl, rfl, rfl⟩ := hl2
    rfl
   subst ey
   have s12 := s1.trans s2
   walk_at "rd"
   refine ⟨_, .inr h2, rfl, rfl, ?_⟩
   rw [n3, if_neg (by decide)]
   refine ⟨_, .inr (s12.tup hS), ?_⟩
   rw [if_neg (by simp)]
   refine ⟨_, s12.tup hS, _, rfl, i, rfl, ?_⟩
   walk_at "rd"
   refine ⟨_, s12.tup hS, _, rfl, ?_⟩
   show (if -1000000 ≤ i then Q (V.bl (decide (i ≤ 1000000))) H2 else Q (V.bl false) H2)
   rw [if_pos hi.1, decide_eq_true hi.2]
   exact q _ s12
def dk (ns : List Int) : Prop := ∀ n ∈ ns, 0 ≤ n ∧ n < 1000
theorem dk.last {ns : List Int} (h : dk ns) : dk ns.dropLast := fun n hn => h n (List.dropLast_subset ns hn)
structure Dkf (l : Addr) (ns : List Int) (H : Hp) (ms : List Int) (H' : Hp) : Prop where
 h0 : H l = some (.lst (ns.map V.int))
 d : dk ms
 le : ms.length ≤ ns.length
 b : But [l] H H'
 h : H' l = some (.lst (ms.map V.int))
theorem Dkf.refl {l : Addr} {ns : List Int} {H : Hp} (h0 : H l = some (.lst (ns.map V.int))) (d : dk ns) : Dkf l ns H ns H := ⟨h0, d, Nat.le_refl _, But.refl _ _, h0⟩
theorem Dkf.st {l : Addr} {ns ms : List Int} {H H' : Hp} (f : Dkf l ns H ms H') : AZ H H' := fun b o e k => f.b b o e (by
 intro hb
 rw [List.mem_singleton.mp hb, f.h0] at e
 cases e
 rcases k with ⟨xs, k⟩ | ⟨o1, o2, k⟩ <;> cases k)
theorem Dkf.trans {l : Addr} {ns ms ks : List Int} {H H' H'' : Hp} (f : Dkf l ns H ms H') (g : Dkf l ms H' ks H'') : Dkf l ns H ks H'' := ⟨f.h0, g.d, Nat.le_trans g.le f.le, f.b.trans g.b, g.h⟩
theorem Dkf.same {l : Addr} {ns ms : List Int} {H H' H'' : Hp} (f : Dkf l ns H ms H') (s : AI H' H'') : Dkf l ns H ms H'' := ⟨f.h0, f.d, f.le, f.b.trans s.but, s _ _ f.h⟩
def VD (K : PySem.W.Frag) : Sp := fun vs H Q _ => ∃ (l : Addr) (ns : List Int), vs = [.ref l] ∧ H l = some (.lst (ns.map V.int)) ∧ dk ns ∧ ∀ (z : Int) (ms : List Int) (H' : Hp), 0 ≤ z → z < 1000 → ms.length = ns.length - 1 → Dkf l ns H ms H' → Q (.int z) H'
theorem EE (T : Txt K mg t) : BY P w K mg base CX0 1 t.a_Lnext t.d_Lnext ["_law_deck_here"] (VD K) := by
 refine T.Lnext.F.ok VT (fun vs H Q E h => ?_) (fun cdv A outer s H vs Q E hr h => ?_)
 ·obtain ⟨l, ns, rfl, _⟩ := h; rfl
 ·obtain ⟨l, ns, rfl, hl, hd, q⟩ := h
  refine ⟨_, s!"{CC}{AR}{T.z_len}{PySem.boot_len}0ADBRC{AS _}JCKETL{@VO _ _ _ _ _ _ _ _ _ PySem.F.plainAttrs_list PySem.F.slot_list_pop PySem.F.type_list_pop WX s!"0A" (by rfl) (by rfl)}KEF", ?_⟩
  walk_at "rd"
  refine ⟨_, .inl (SqL.of hl), ?_⟩
  by_cases h0 : ns = []
  ·subst h0
   rw [if_pos (by simp)]
   exact q 0 [] H (by decide) (by decide) rfl (Dkf.refl hl hd)
  ·have hpos : 0 < ns.length := List.length_pos_iff.mpr h0
   rw [if_neg (by simp [h0])]
   have hlt : ns.length - 1 < ns.length := by omega
   have hz := hd ns[ns.length - 1] (List.getElem_mem hlt)
   refine ⟨.inl ⟨_, SqL.of hl⟩, _, hl, .int ns[ns.length - 1], ?_, ?_⟩
   ·rw [List.length_map, List.getElem?_map, List.getElem?_eq_getElem hlt]; rfl
   ·rw [← List.map_dropLast]
    exact q _ ns.dropLast _ hz.1 hz.2 (by rw [List.length_dropLast]) ⟨hl, hd.last, by rw [List.length_dropLast]; omega, (But.refl _ _).upd (.inr (by simp)), AB⟩
def UL (K : PySem.W.Frag) : Sp := fun vs H Q _ => ∃ (a : Addr) (ns : List Int), vs = [.ref a, .int 0] ∧ SqL K H a (ns.map V.int) ∧ ns.length ≤ 63 ∧ ∀ (l : Addr) (ms : List Int) (H' : Hp), AI H H' → H l = none → H' l = some (.lst (ms.map V.int)) → dk ms → Q (.ref l) H'
def dO (a : Addr) (H : Hp) (i : Nat) (σ : L2.St) (H2 : Hp) : Prop := ∃ (l : Addr) (ms : List Int) (o : Option V), σ = [some (.ref a), some (.int 0), some (.ref l), o] ∧ AI H H2 ∧ H2 l = some (.lst (ms.map V.int)) ∧ dk ms ∧ ms.length = 8 * i
theorem WH (T : Txt K mg t) : BY P w K mg base CX0 3 t.a_Ldeck t.d_Ldeck ["_law_script", "_law_start"] (UL K) := by
 refine T.Ldeck.F.ok HA (fun vs H Q E h => ?_) (fun cdv A outer s H vs Q E hr h => ?_)
 ·obtain ⟨a, ns, rfl, _⟩ := h; rfl
 ·obtain ⟨a, ns, rfl, hS, hl, q⟩ := h
  refine ⟨_, s!"2{HA.nd}DbI{@TZ _ _ _ _ _ _ _ (by rfl) T.z_range s!"1A{QK rfl}{T.z_max}{boot_max}{CI}1ACG{QU rfl}{T.z_min}{boot_min}C{AR}{T.z_len}{PySem.boot_len}0ADBRDBBRDBBRDBB" (by rfl) (by rfl)}3{HA.nd}U2{HA.nd}{RH}2A{YY T}{T.Lrow.m}{T.Lrow.F.kp}{T.Lrow.b}{NZ T}{T.Lcell.m}{T.Lcell.F.kp}{T.Lcell.b}0A3ADBBNCCDBBBNGIEw{@QS _ _ _ _ _ _ _ rfl (by rfl) T.z_list (by rfl) T.z_reversed s!"2A" (by rfl) (by rfl)}KEFF", ?_⟩
  walk_at "rd"
  refine ⟨by decide, fun l0 hl0 => ?_⟩
  have u0 := AI.upd (o := .lst []) hl0
  walk_at "rd"
  refine ⟨_, .inl (u0.seq hS), ?_⟩
  rw [List.length_map]
  obtain ⟨m, em, m63⟩ : ∃ m : Nat, (if (if (ns.length : Int) < 63 then (ns.length : Int) else 63) > 0 + 4 then (if (ns.length : Int) < 63 then (ns.length : Int) else 63) else 0 + 4) = (m : Int) ∧ m ≤ 63 := by
   by_cases h : (ns.length : Int) < 63
   ·rw [if_pos h]
    by_cases h2 : (ns.length : Int) > 0 + 4
    ·rw [if_pos h2]; exact ⟨ns.length, rfl, hl⟩
    ·rw [if_neg h2]; exact ⟨4, rfl, by decide⟩
   ·rw [if_neg h]; exact ⟨63, rfl, by decide⟩
  rw [em]
  refine ⟨by decide, by decide, by omega, by omega, ?_⟩
  rw [show ((m : Int) - 0).toNat = m by omega]
  refine OW (dO a H) ⟨l0, [], none, rfl, u0, AB, (fun n hn => nomatch hn), rfl⟩ ?_ ?_
  ·rintro i σ H2 hi ⟨l, ms, o, rfl, s2, h2, d2, ml⟩
   have ei : (0 : Int) + (i : Int) = (i : Int) := by omega
   walk_at "rd"
   rw [ei]
   refine ⟨a, ns, _, rfl, s2.seq hS, hl, by omega, by omega, fun z => ?_⟩
   walk_at "rd"
   refine ⟨_, _, _, rfl, by decide, by decide, by decide, by decide, fun lr ys H3 s3 hl3 hL hly hb => ?_⟩
   refine ⟨_, s3 _ _ h2, _, hL, ?_, fun p hp => ?_⟩
   ·rw [List.length_map, List.length_map, ml, hly]; exact Nat.le_of_lt (IE (by show 8 * i + 8 ≤ 1000; omega))
   ·refine ⟨p, ms ++ ys, _, rfl, (s2.trans s3).trans (AI.upd hp), by rw [List.map_append]; exact AB, fun n hn => ?_, by rw [List.length_append, ml, hly]; show 8 * i + 8 = _; omega⟩
    rcases List.mem_append.mp hn with hn | hn
    ·exact d2 n hn
    ·exact hb n hn
  ·rintro σ H2 ⟨l, ms, o, rfl, s2, h2, d2, ml⟩
   walk_at "rd"
   refine ⟨_, SqL.of h2, fun p hp => ?_⟩
   refine q p ms.reverse _ (s2.trans (AI.upd hp)) (s2.free hp) (by rw [List.map_reverse]; exact AB) fun n hn => d2 n (List.mem_reverse.mp hn)
end
section
variable {P : Program} {w : World} {K : PySem.W.Frag} {mg : Str → Option Value} {base : Heap} {t : Adr}
def PZ (K : PySem.W.Frag) : Sp := fun vs H Q _ => ∃ (l : Addr) (ns : List Int), vs = [.ref l] ∧ H l = some (.lst (ns.map V.int)) ∧ dk ns ∧ ∀ (v : V) (d : List L2.D) (ms : List Int) (H' : Hp), okOne d → Rp K H' (.tup d) v → Dkf l ns H ms H' → Q v H'
theorem RA (T : Txt K mg t) : BY P w K mg base CX0 2 t.a_Lsingle t.d_Lsingle ["_law_deck_here"] (PZ K) := by
 refine T.Lsingle.F.ok GU (fun vs H Q E h => ?_) (fun cdv A outer s H vs Q E hr h => ?_)
 ·obtain ⟨l, ns, rfl, _⟩ := h; rfl
 ·obtain ⟨l, ns, rfl, hl, hd, q⟩ := h
  refine ⟨_, s!"1{GU.nd}{BM}{EE T}{T.Lnext.m}{T.Lnext.F.kp}{T.Lnext.b}0ADBNCGI{KK}1AC{AS _}J2{GU.nd}{DU}{GB}{BM}{EE T}{T.Lnext.m}{T.Lnext.F.kp}{T.Lnext.b}0ADBNCGCG{GB}{EE T}{T.Lnext.m}{T.Lnext.F.kp}{T.Lnext.b}0ADBNCGDBBb{GC}1ACGHIW{BO}2A{DU}CCDBBb{SL}{T.z_int}{boot_int}{CC}1ACk{CC}{BM}{EE T}{T.Lnext.m}{T.Lnext.F.kp}{T.Lnext.b}0ADBNCGCk!zDB$HGDBBQKEFTL{KK}1AC{AS _}JW{GB}{BM}{EE T}{T.Lnext.m}{T.Lnext.F.kp}{T.Lnext.b}0ADBNCGCGDBBQKETL{CC}1AC{AS _}JW{GB}{BM}{EE T}{T.Lnext.m}{T.Lnext.F.kp}{T.Lnext.b}0ADBNCGCGDBBQKETL{DU}WWDBBb{BM}{EE T}{T.Lnext.m}{T.Lnext.F.kp}{T.Lnext.b}0ADBNCGHDBQKEFFFF", ?_⟩
  have fin0 : ∀ (nm : Str) (i : Int) (ms : List Int) (H1 : Hp), (nm = "go" ∨ nm = "turn" ∨ nm = "ink") → -1000000 ≤ i ∧ i ≤ 1000000 → Dkf l ns H ms H1 → 2 ≤ sizeLine ∧ ∀ p, H1 p = none → Q (.ref p) (upd H1 p (.tup [.str nm, .int i])) := by
   intro nm i ms H1 hn hi f
   refine ⟨by decide, fun p hp => q _ [.str nm, .int i] ms _ ?_ (BJ.mpr ⟨p, _, _, rfl, SqT.of AB, DS.mpr rfl, RK.mpr rfl⟩) (f.same (AI.upd hp))⟩
   rcases hn with rfl | rfl | rfl
   ·exact .inr (.inr ⟨i, hi, .inl rfl⟩)
   ·exact .inr (.inr ⟨i, hi, .inr (.inl rfl)⟩)
   ·exact .inr (.inr ⟨i, hi, .inr (.inr rfl)⟩)
  walk_at "rd"
  refine ⟨l, ns, rfl, hl, hd, fun z1 m1 H1 z10 z11 l1 f1 => ?_⟩
  walk_at "rd"
  refine ⟨by decide, ?_⟩
  split
  ·rename_i hw
   refine ⟨l, m1, rfl, f1.h, f1.d, fun z2 m2 H2 z20 z21 l2 f2 => ?_⟩
   dsimp only
   refine ⟨by decide, l, m2, rfl, f2.h, f2.d, fun z3 m3 H3 z30 z31 l3 f3 => ?_⟩
   dsimp only
   refine ⟨by decide, fun p hp => ⟨by decide, by decide, _, SqL.of AB, ?_⟩⟩
   have e : z1 % 9 / 3 = 0 ∨ z1 % 9 / 3 = 1 := by omega
   have ff := ((f1.trans f2).trans f3).same (AI.upd (o := .lst [.int (z2 % 19 - 9), .int (z3 - 500)]) hp)
   generalize upd H3 p (.lst [.int (z2 % 19 - 9), .int (z3 - 500)]) = H4 at ff ⊢
   obtain ⟨w, ew, w0, w1, w2⟩ : ∃ w : Int, atI [V.int (z2 % 19 - 9), V.int (z3 - 500)] (z1 % 9 / 3) = some (.int w) ∧ -500 ≤ w ∧ w ≤ 500 ∧ True := by
    rcases e with e | e <;> rw [e]
    ·exact ⟨_, rfl, by omega, by omega, trivial⟩
    ·exact ⟨_, rfl, by omega, by omega, trivial⟩
   refine ⟨_, ew, ?_⟩
   walk_at "rd"
   refine ⟨by decide, fun p1 hp1 => ?_⟩
   have u1 := AI.upd (o := .lst [.int 1, .int 2000]) hp1
   have np1 : p1 ≠ l := by rintro rfl; rw [ff.h] at hp1; cases hp1
   have f4 := ff.same u1
   split
   ·refine ⟨l, m3, rfl, f4.h, f4.d, fun z4 m4 H5 z40 z41 l4 f5 => ?_⟩
    dsimp only
    have hp5 := f5.b p1 _ AB (by simp [np1])
    refine ⟨by decide, _, SqL.of hp5, ?_⟩
    have fg := f4.trans f5
    split
    ·exact ⟨_, rfl, DT (by omega) (by omega), fin0 "go" _ _ _ (.inl rfl) ⟨by omega, by omega⟩ fg⟩
    ·exact ⟨_, rfl, DT (by omega) (by omega), fin0 "go" _ _ _ (.inl rfl) ⟨by omega, by omega⟩ fg⟩
   ·refine ⟨_, SqL.of AB, ?_⟩
    exact ⟨_, rfl, DT (by omega) (by omega), fin0 "go" _ _ _ (.inl rfl) ⟨by omega, by omega⟩ f4⟩
  ·split
   ·refine ⟨l, m1, rfl, f1.h, f1.d, fun z2 m2 H2 z20 z21 l2 f2 => ?_⟩
    dsimp only
    exact ⟨by decide, fin0 "turn" _ _ _ (.inr (.inl rfl)) ⟨by omega, by omega⟩ (f1.trans f2)⟩
   ·split
    ·refine ⟨l, m1, rfl, f1.h, f1.d, fun z2 m2 H2 z20 z21 l2 f2 => ?_⟩
     dsimp only
     exact ⟨by decide, fin0 "ink" _ _ _ (.inr (.inr rfl)) ⟨by omega, by omega⟩ (f1.trans f2)⟩
    ·refine ⟨by decide, fun p hp => ?_⟩
     have u1 := AI.upd (o := .lst [.str "up", .str "down"]) hp
     have f1' := f1.same u1
     refine ⟨l, m1, rfl, f1'.h, f1'.d, fun z2 m2 H2 z20 z21 l2 f2 => ?_⟩
     dsimp only
     have np : p ≠ l := by rintro rfl; rw [f1.h] at hp; cases hp
     have hp2 := f2.b p _ AB (by simp [np])
     refine ⟨by decide, _, SqL.of hp2, ?_⟩
     have e : z2 % 2 = 0 ∨ z2 % 2 = 1 := by omega
     have ff := f1'.trans f2
     rcases e with e | e <;> rw [e]
     ·exact ⟨_, rfl, by decide, fun p2 hp2 => q _ [.str "up"] _ _ (.inl rfl) (JF.mpr ⟨p2, _, rfl, SqT.of AB, DS.mpr rfl⟩) (ff.same (AI.upd hp2))⟩
     ·exact ⟨_, rfl, by decide, fun p2 hp2 => q _ [.str "down"] _ _ (.inr (.inl rfl)) (JF.mpr ⟨p2, _, rfl, SqT.of AB, DS.mpr rfl⟩) (ff.same (AI.upd hp2))⟩
end
theorem okOne.st {d : List L2.D} (h : okOne d) : ∃ s : St1, s.ok ∧ s.D = .tup d := by
 rcases h with rfl | rfl | ⟨i, hi, rfl | rfl | rfl⟩
 ·exact ⟨.up, trivial, rfl⟩
 ·exact ⟨.down, trivial, rfl⟩
 ·exact ⟨.go i, hi, rfl⟩
 ·exact ⟨.turn i, hi, rfl⟩
 ·exact ⟨.ink i, hi, rfl⟩
def aM (K : PySem.W.Frag) (l lb : Addr) (ns : List Int) (H : Hp) (σ : L2.St) (H2 : Hp) : Prop :=
 ∃ (body : List St1) (us : List V) (ms : List Int), σ = [some (.ref l), some (.int 200), some (.ref lb)] ∧ But [l] H H2 ∧ H2 l = some (.lst (ms.map V.int)) ∧ dk ms ∧ H2 lb = some (.lst us) ∧ RpL K H2 (body.map St1.D) us ∧ (∀ s ∈ body, s.ok) ∧ body.length ≤ 200
section
variable {P : Program} {w : World} {K : PySem.W.Frag} {mg : Str → Option Value} {base : Heap} {t : Adr}
def SS (K : PySem.W.Frag) : Sp := fun vs H Q _ => ∃ (l : Addr) (ns : List Int), vs = [.ref l, .int 200] ∧ H l = some (.lst (ns.map V.int)) ∧ dk ns ∧ ∀ (v : V) (body : List St1) (H' : Hp), But [l] H H' → Rp K H' (bD body) v → (∀ s ∈ body, s.ok) → body.length ≤ 200 → Q v H'
theorem TU (T : Txt K mg t) : BY P w K mg base CX0 3 t.a_Lplain t.d_Lplain ["_law_deck_here", "_law_most"] (SS K) := by
 refine T.Lplain.F.ok LQ (fun vs H Q E h => ?_) (fun cdv A outer s H vs Q E hr h => ?_)
 ·obtain ⟨l, ns, rfl, _⟩ := h; rfl
 ·obtain ⟨l, ns, rfl, hl, hd, q⟩ := h
  refine ⟨_, s!"2{LQ.nd}DbI{@PW.pt _ _ _ s!"{KF}{AR}{T.z_len}{PySem.boot_len}0ADBRC{AS _}J{KK}{AR}{T.z_len}{PySem.boot_len}2ADBR1A{AS _}Jts"}2A{RA T}{T.Lsingle.m}{T.Lsingle.F.kp}{T.Lsingle.b}0ADBNDBmXE#{IZ}{T.z_tuple}{boot_tuple}2ADB$KEFF", ?_⟩
  walk_at "rd"
  refine ⟨by decide, fun lb hlb => ?_⟩
  walk_at "rd"
  have n1 : lb ≠ l := by rintro rfl; rw [hl] at hlb; cases hlb
  refine NA (aM K l lb ns H) (fun σ H => match H lb with | some (.lst us) => 200 - us.length | _ => 0) ⟨[], [], ns, rfl, AI.but (AI.upd hlb), by rw [AH n1.symm]; exact hl, hd, AB, RpL.nil, by simp, by decide⟩ ?_
  rintro σ H2 ⟨body, us, ms, rfl, b2, h2, d2, hb2, ru, ok, le⟩
  walk_at "rd"
  have ul : us.length = body.length := by rw [ru.length, List.length_map]
  have fin0 : ∃ ys, SqL K H2 lb ys ∧ ∀ (l : Addr), H2 l = none → Q (V.ref l) (upd H2 l (HO.tup ys)) := by
   refine ⟨us, SqL.of hb2, fun p hp => ?_⟩
   have sp := AI.upd (o := .tup us) hp
   refine q _ body _ (b2.trans sp.but) ?_ ok le
   rw [bD, Rp]
   exact ⟨p, us, rfl, SqT.of AB, ru.same sp⟩
  refine ⟨_, .inl (SqL.of h2), ?_⟩
  split
  ·refine ⟨_, .inl (SqL.of hb2), ?_⟩
   split
   ·rename_i hlt
    refine ⟨fun σ' H' => (∃ x, H' lb = some (.lst (us ++ [x]))) ∧ aM K l lb ns H σ' H', ?_, .inl ⟨_, SqL.of hb2⟩, l, ms, rfl, h2, d2, fun v d ks H3 od rd f3 => ?_⟩
    ·rintro σ' H' ⟨⟨x, hx⟩, hv⟩
     refine ⟨_, ?_, rfl, hv⟩
     rw [hx, hb2]
     dsimp only
     rw [List.length_append, List.length_singleton]
     omega
    ·have hb3 := f3.b lb _ hb2 (by simp [n1])
     obtain ⟨s1, ok1, e1⟩ := od.st
     have t4 : AZ H3 (upd H3 lb (.lst (us ++ [v]))) := (AZ.refl H3).upd (FJ hb3)
     refine ⟨us, hb3, IU (by omega), ⟨v, AB⟩, body ++ [s1], us ++ [v], ks, rfl, ?_, by rw [AH n1.symm]; exact f3.h, f3.d, AB, ?_, ?_, by rw [List.length_append, List.length_singleton]; omega⟩
     ·exact (b2.trans f3.b).upd (.inl hlb)
     ·rw [List.map_append]
      refine ((ru.t f3.st).t t4).app (RpL.one ?_)
      rw [e1]; exact rd.t t4
     ·intro s hs
      rcases List.mem_append.mp hs with h | h
      ·exact ok s h
      ·rw [List.mem_singleton.mp h]; exact ok1
   ·exact fin0
  ·exact fin0
end
theorem aI (body : List St1) (i : Nat) : 0 ≤ (fin body i).h ∧ (fin body i).h < 8 := by
 have key : ∀ (l : List St1) (x : Hd), 0 ≤ x.h ∧ x.h < 8 → 0 ≤ (l.foldl stp x).h ∧ (l.foldl stp x).h < 8 := by
  intro l
  induction l with
  | nil => intro x h; exact h
  | cons s l ih =>
   intro x h
   rw [List.foldl_cons]
   refine ih _ ?_
   cases s with
   | turn n => exact ⟨Int.emod_nonneg _ (by decide), Int.emod_lt_of_pos _ (by decide)⟩
   | _ => exact h
 exact key _ _ ⟨by decide, by decide⟩
def dS (K : PySem.W.Frag) (vb : V) (sl : Addr) (body : List St1) (H : Hp) (i : Nat) (σ : L2.St) (H2 : Hp) : Prop :=
 ∃ (ov av : Option V) (vp : V) (vs : List V), σ = [some vb, some vp, some (.int (fin body i).h), some (.bl (fin body i).dn), some (.int (fin body i).ink), some (.ref sl), ov, av] ∧ AI H H2 ∧ Rp K H2 (fin body i).p.D vp ∧ H2 sl = some (.lst vs) ∧ RpL K H2 ((fin body i).st.map skD) vs
section
variable {P : Program} {w : World} {K : PySem.W.Frag} {mg : Str → Option Value} {base : Heap} {t : Adr}
def PR (K : PySem.W.Frag) : Sp := fun vs H Q _ => ∃ (vb : V) (body : List St1), vs = [vb] ∧ Rp K H (bD body) vb ∧ body.length ≤ 3900 ∧ (∀ s ∈ body, s.ok) ∧
 ∀ (rr sl ae : Addr) (vp : V) (vs : List V) (x : Hd) (H' : Hp), x = fin body body.length → AI H H' → H sl = none → H' rr = some (.tup [.ref sl, .ref ae]) → H' sl = some (.lst vs) → RpL K H' (x.st.map skD) vs → H' ae = some (.tup [vp, .int x.h, .bl x.dn, .int x.ink]) → Rp K H' x.p.D vp → Q (.ref rr) H'
theorem KR (T : Txt K mg t) : BY P w K mg base CX0 2 t.a_Lwalked t.d_Lwalked ["_law_body"] (PR K) := by
 refine T.Lwalked.F.ok BX (fun vs H Q E h => ?_) (fun cdv A outer s H vs Q E hr h => ?_)
 ·obtain ⟨vb, body, rfl, _⟩ := h; rfl
 ·obtain ⟨vb, body, rfl, rv, hl, hok, q⟩ := h
  refine ⟨_, s!"1{BX.nd}PSSOPSSOPddOI2{BX.nd}CI3{BX.nd}gI4{BX.nd}CI5{BX.nd}DbI0Ax6{BX.nd}U{CC}{AK}6ACHW{AS _}J7{BX.nd}{SY T}{T.Lmoved.m}{T.Lmoved.F.kp}{T.Lmoved.b}1A2A{AK}6ACHDBBBNI{@PW.pt _ _ _ s!"3Ac{KH}{AK}6ACHC{AS _}Jts"}5A4A1A7ADBBBQDYmXETL1{BX.nd}7AIEFF{CC}{AK}6ACHW{AS _}J2{BX.nd}{BM}{CI}2A{AK}6ACHGCGIE{CC}{AK}6ACHW{AS _}J4{BX.nd}{BM}{AK}6ACHCGIE3{BX.nd}{CC}{AK}6ACHWkIELELELEw5A1A2A3A4ADBBBBQDYBQKEFFFFFF", ?_⟩
  walk_at "rd"
  intro vp0 H1 s1 r0
  walk_at "rd"
  refine ⟨by decide, fun sl hsl => ?_⟩
  obtain ⟨ab, xs, rfl, hab, rl, len⟩ := FE rv
  have gl : H sl = none := s1.free hsl
  have su := AI.upd (o := .lst []) hsl
  have s2 := s1.trans su
  walk_at "rd"
  refine ⟨⟨_, s2.tup hab⟩, VB (xs := xs) (dS K (.ref ab) sl body H) ⟨none, none, vp0, [], rfl, s2, r0.same su, AB, RpL.nil⟩ (fun i σ H2 _ z => by obtain ⟨_, _, _, _, rfl, s3, _⟩ := z; exact s3.tup hab) ?_ ?_⟩
  ·rintro i y σ H2 hy ⟨ov, av, vp, vs, rfl, s3, rp, hk, rs⟩
   obtain ⟨s1', hs1, rx⟩ := NE (rl.same s3) hy
   have ho := hok _ (List.mem_of_getElem? hs1)
   obtain ⟨a1, zs, rfl, hz, hzs⟩ := RP rx
   have hsz := KU (body := body) (i := i) hl
   have hh := aI body i
   have est := HD hs1
   walk_at "rd"
   cases s1' with
   | go n =>
    dsimp only at hzs; subst hzs
    refine ⟨_, hz, _, rfl, ?_⟩
    walk_at "rd"
    walk_at "ws"
    refine ⟨_, hz, _, rfl, vp, (fin body i).p, _, n, rfl, rp, hh, ⟨by have := ho.1; omega, by have := ho.2; omega⟩, fun va H3 s4 ra => ?_⟩
    have hk3 := s4 _ _ hk
    have szk : vs.length < sizeLine := IU (by rw [rs.length, List.length_map]; exact hsz.2)
    dsimp only
    by_cases hdn : (fin body i).dn = true
    ·rw [if_pos hdn]
     refine ⟨_, s4.tup hz, _, rfl, ?_⟩
     dsimp only
     by_cases h0 : n = 0
     ·rw [if_neg (not_not_intro h0)]
      refine ⟨_, _, va, vs, by rw [est]; rfl, s3.trans s4, by rw [est]; exact ra, hk3, ?_⟩
      rw [est, show (stp (fin body i) (.go n)).st = (fin body i).st by simp [stp, h0]]
      exact rs.same s4
     ·rw [if_pos h0]
      refine ⟨.inl ⟨_, SqL.of hk3⟩, by decide, fun tp htp => ?_⟩
      have ntl := AU hk3 htp
      have su := AI.upd (o := .tup [.int (fin body i).ink, vp, va]) htp
      refine ⟨_, su _ _ hk3, szk, ?_⟩
      have tU : AZ H3 (upd (upd H3 tp (.tup [.int (fin body i).ink, vp, va])) sl (.lst (vs ++ [.ref tp]))) := su.t.upd (FJ hk3)
      have rk : Rp K (upd (upd H3 tp (.tup [.int (fin body i).ink, vp, va])) sl (.lst (vs ++ [.ref tp]))) (skD ((fin body i).ink, (fin body i).p, mv (fin body i).p (fin body i).h n)) (.ref tp) := by
       rw [skD, Rp]
       refine ⟨tp, _, rfl, SqT.of (by rw [AH ntl.symm, AB]), FV (by rw [Rp]) (FV ((rp.same s4).t tU) (FV (ra.t tU) RpL.nil))⟩
      refine ⟨_, _, va, _, by rw [est]; rfl, ((s3.trans s4).trans su).upd2 gl, by rw [est]; exact ra.t tU, AB, ?_⟩
      rw [est, show (stp (fin body i) (.go n)).st = (fin body i).st ++ [((fin body i).ink, (fin body i).p, mv (fin body i).p (fin body i).h n)] by simp [stp, h0, hdn], List.map_append]
      exact ((rs.same s4).t tU).app (RpL.one rk)
    ·rw [if_neg hdn]
     refine ⟨_, _, va, vs, by rw [est]; rfl, s3.trans s4, by rw [est]; exact ra, hk3, ?_⟩
     rw [est, show (stp (fin body i) (.go n)).st = (fin body i).st by simp [stp, hdn]]
     exact rs.same s4
   | turn n =>
    dsimp only at hzs; subst hzs
    refine ⟨_, hz, _, rfl, ?_⟩
    walk_at "rd"
    walk_at "ws"
    refine ⟨_, hz, _, rfl, ?_⟩
    walk_at "rd"
    walk_at "ws"
    refine ⟨_, hz, _, rfl, ?_⟩
    dsimp only
    exact ⟨by decide, _, _, vp, vs, by rw [est]; rfl, s3, by rw [est]; exact rp, hk, by rw [est]; exact rs⟩
   | ink n =>
    dsimp only at hzs; subst hzs
    refine ⟨_, hz, _, rfl, ?_⟩
    walk_at "rd"
    walk_at "ws"
    refine ⟨_, hz, _, rfl, ?_⟩
    walk_at "rd"
    walk_at "ws"
    refine ⟨_, hz, _, rfl, ?_⟩
    walk_at "rd"
    walk_at "ws"
    refine ⟨_, hz, _, rfl, ?_⟩
    dsimp only
    exact ⟨by decide, _, _, vp, vs, by rw [est]; rfl, s3, by rw [est]; exact rp, hk, by rw [est]; exact rs⟩
   | up =>
    dsimp only at hzs; subst hzs
    refine ⟨_, hz, _, rfl, ?_⟩
    walk_at "rd"
    walk_at "ws"
    refine ⟨_, hz, _, rfl, ?_⟩
    walk_at "rd"
    walk_at "ws"
    refine ⟨_, hz, _, rfl, ?_⟩
    walk_at "rd"
    walk_at "ws"
    refine ⟨_, hz, _, rfl, ?_⟩
    walk_at "rd"
    walk_at "ws"
    exact ⟨_, _, vp, vs, by rw [est]; rfl, s3, by rw [est]; exact rp, hk, by rw [est]; exact rs⟩
   | down =>
    dsimp only at hzs; subst hzs
    refine ⟨_, hz, _, rfl, ?_⟩
    walk_at "rd"
    walk_at "ws"
    refine ⟨_, hz, _, rfl, ?_⟩
    walk_at "rd"
    walk_at "ws"
    refine ⟨_, hz, _, rfl, ?_⟩
    walk_at "rd"
    walk_at "ws"
    refine ⟨_, hz, _, rfl, ?_⟩
    walk_at "rd"
    walk_at "ws"
    exact ⟨_, _, vp, vs, by rw [est]; rfl, s3, by rw [est]; exact rp, hk, by rw [est]; exact rs⟩
  ·rintro σ H2 ⟨ov, av, vp, vs, rfl, s3, rp, hk, rs⟩
   walk_at "rd"
   refine ⟨by decide, fun ae hae => ⟨by decide, fun rr hrr => ?_⟩⟩
   have s4 := AI.upd (o := .tup [vp, .int (fin body xs.length).h, .bl (fin body xs.length).dn, .int (fin body xs.length).ink]) hae
   have s5 := AI.upd (o := .tup [.ref sl, .ref ae]) hrr
   have s6 := s4.trans s5
   exact q rr sl ae vp vs (fin body xs.length) _ (by rw [len]) (s3.trans s6) gl AB (s6 _ _ hk) (rs.same s6) (s5 _ _ AB) (rp.same s6)
end
theorem RS (body : List St1) (i : Nat) : 0 ≤ (fin body i).ink ∧ (fin body i).ink < 8 := by
 have key : ∀ (l : List St1) (x : Hd), 0 ≤ x.ink ∧ x.ink < 8 → 0 ≤ (l.foldl stp x).ink ∧ (l.foldl stp x).ink < 8 := by
  intro l
  induction l with
  | nil => intro x h; exact h
  | cons s l ih =>
   intro x h
   rw [List.foldl_cons]
   refine ih _ ?_
   cases s with
   | ink n => exact ⟨Int.emod_nonneg _ (by decide), Int.emod_lt_of_pos _ (by decide)⟩
   | _ => exact h
 exact key _ _ ⟨by decide, by decide⟩
theorem bE {x : Hd} {s : St1} (h : s.ok) (hi : 0 ≤ x.ink ∧ x.ink < 8) : (und x s).ok := by
 cases s with
 | go n => have := h.1; have := h.2; exact ⟨by omega, by omega⟩
 | turn n => have := h.1; have := h.2; exact ⟨by omega, by omega⟩
 | ink n => exact ⟨by omega, by omega⟩
 | up => simp only [und]; split <;> trivial
 | down => simp only [und]; split <;> trivial
theorem RV {body : List St1} (h : ∀ s ∈ body, s.ok) : ∀ i, ∀ s ∈ FO body i, s.ok
 | 0, s, hs => by simp [FO] at hs
 | i + 1, s, hs => by
  rw [FO] at hs
  rcases List.mem_append.mp hs with hs | hs
  ·exact RV h i s hs
  ·cases e : body[i]? with
   | none => rw [e] at hs; simp at hs
   | some z =>
    rw [e] at hs
    rw [List.mem_singleton.mp hs]
    exact bE (h _ (List.mem_of_getElem? e)) (RS body i)
def core (x y : Hd) : Prop := x.p = y.p ∧ x.h = y.h ∧ x.dn = y.dn ∧ x.ink = y.ink
def flp (x : Int × Pl × Pl) : Int × Pl × Pl := (x.1, x.2.2, x.2.1)
theorem VS (p : Pl) (h n : Int) : mv (mv p h n) h (-n) = p := by
 have := ZC p h n
 rwa [Int.zero_sub] at this
theorem ZP (f x : Hd) (s : St1) (hh : 0 ≤ f.h ∧ f.h < 8) (hi : 0 ≤ f.ink ∧ f.ink < 8) (c : core x (stp f s)) :
  core (stp x (und f s)) f ∧ (stp x (und f s)).st ++ (f.st.reverse.map flp) = x.st ++ ((stp f s).st.reverse.map flp) := by
 obtain ⟨c1, c2, c3, c4⟩ := c
 cases s with
 | go n =>
  simp only [stp] at c1 c2 c3 c4
  refine ⟨⟨?_, c2, c3, c4⟩, ?_⟩
  ·simp only [und, stp, c1, c2]; exact VS _ _ _
  ·simp only [und, stp, c1, c2, c3, c4, VS]
   by_cases hd : f.dn = true
   ·by_cases h0 : n = 0
    ·simp [hd, h0]
    ·have : ¬ -n = 0 := by omega
     simp [hd, h0, flp]
   ·simp [hd]
 | turn n =>
  simp only [stp] at c1 c2 c3 c4
  refine ⟨⟨c1, ?_, c3, c4⟩, rfl⟩
  simp only [und, stp, c2]; omega
 | ink n =>
  simp only [stp] at c1 c2 c3 c4
  refine ⟨⟨c1, c2, c3, ?_⟩, rfl⟩
  simp only [und, stp]; omega
 | up =>
  simp only [stp] at c1 c2 c3 c4
  by_cases hd : f.dn = true
  ·simp only [und, hd, if_true]; exact ⟨⟨c1, c2, hd.symm, c4⟩, rfl⟩
  ·have hd' : f.dn = false := by simpa using hd
   simp only [und, hd', if_false, Bool.false_eq_true]; exact ⟨⟨c1, c2, hd'.symm, c4⟩, rfl⟩
 | down =>
  simp only [stp] at c1 c2 c3 c4
  by_cases hd : f.dn = true
  ·simp only [und, hd, if_true]; exact ⟨⟨c1, c2, hd.symm, c4⟩, rfl⟩
  ·have hd' : f.dn = false := by simpa using hd
   simp only [und, hd', if_false, Bool.false_eq_true]; exact ⟨⟨c1, c2, hd'.symm, c4⟩, rfl⟩
theorem RI (body : List St1) : ∀ (i : Nat) (x : Hd), i ≤ body.length → core x (fin body i) →
  core ((FO body i).reverse.foldl stp x) hd0 ∧ ((FO body i).reverse.foldl stp x).st = x.st ++ ((fin body i).st.reverse.map flp)
 | 0, x, _, c => by
  refine ⟨c, ?_⟩
  simp [FO, fin, hd0]
 | i + 1, x, hi, c => by
  obtain ⟨s, hs⟩ : ∃ s, body[i]? = some s := ⟨_, List.getElem?_eq_getElem (by omega)⟩
  rw [HD hs] at c ⊢
  obtain ⟨c1, e1⟩ := ZP (fin body i) x s (aI body i) (RS body i) c
  obtain ⟨c2, e2⟩ := RI body i (stp x (und (fin body i) s)) (by omega) c1
  rw [LW hs, List.reverse_append, List.reverse_singleton, List.singleton_append, List.foldl_cons]
  exact ⟨c2, by rw [e2, e1]⟩
def bth (body : List St1) : List St1 := body ++ (FO body body.length).reverse
theorem YZ (body : List St1) : core (fin (bth body) (bth body).length) hd0 ∧ (fin (bth body) (bth body).length).st = (fin body body.length).st ++ ((fin body body.length).st.reverse.map flp) := by
 have e : fin (bth body) (bth body).length = (FO body body.length).reverse.foldl stp (fin body body.length) := by
  unfold fin bth
  rw [List.take_length, List.take_length, List.foldl_append]
 rw [e]
 exact RI body body.length _ (Nat.le_refl _) ⟨rfl, rfl, rfl, rfl⟩
theorem WJ (z : Int × Pl × Pl) : dep (skD z) = 3 := by simp [skD, plc, num, dep, depL]
theorem HJ {α : Type} {f : α → L2.D} {n : Nat} (h : ∀ a, dep (f a) ≤ n) : ∀ l : List α, depL (l.map f) ≤ n
 | [] => by simp [depL]
 | a :: l => by rw [List.map_cons, depL]; have := h a; have := HJ h l; omega
theorem ZO {xs : List V} (h : xs.length ≤ 1900) : MX xs none (some 1900) = xs := by
 unfold MX HT.sIx
 simp only [List.drop_zero, Nat.sub_zero]
 rw [if_neg (by omega), List.take_of_length_le]
 omega
theorem dM {c : Prop} [Decidable c] {B : Prop} {R : L2.St → Hp → Prop} {σ : L2.St} {H : Hp} (Ph : L2.St → Hp → Prop) (k : ∀ σ H, Ph σ H → TH R σ H) (h1 : c → (∀ σ H, Ph σ H → TH R σ H) → B) (h2 : ¬ c → Ph σ H) : if c then B else TH R σ H := by
 split
 ·exact h1 ‹_› k
 ·exact k _ _ (h2 ‹_›)
def Ph_b (K : PySem.W.Frag) (a : Addr) (σ : L2.St) (H2 : Hp) : Prop := ∃ (vb : V) (body : List St1), σ = [some (.ref a), some vb, none, none, none, none, none, none] ∧ Rp K H2 (bD body) vb ∧ (∀ s ∈ body, s.ok) ∧ body.length ≤ 1900
theorem RU {α β : Type} (f : α → β) (l : List α) : ∀ n, (List.replicate n (l.map f)).flatten = ((List.replicate n l).flatten).map f
 | 0 => rfl
 | n + 1 => by rw [List.replicate_succ, List.replicate_succ, List.flatten_cons, List.flatten_cons, List.map_append, RU f l n]
theorem St1.okOne (s : St1) (h : s.ok) : ∃ d, okOne d ∧ s.D = .tup d := by
 cases s with
 | go n => exact ⟨_, .inr (.inr ⟨n, h, .inl rfl⟩), rfl⟩
 | turn n => exact ⟨_, .inr (.inr ⟨n, h, .inr (.inl rfl)⟩), rfl⟩
 | ink n => exact ⟨_, .inr (.inr ⟨n, h, .inr (.inr rfl)⟩), rfl⟩
 | up => exact ⟨_, .inl rfl, rfl⟩
 | down => exact ⟨_, .inr (.inl rfl), rfl⟩
def dE (K : PySem.W.Frag) (p : Addr) (H : Hp) (i : Nat) (σ : L2.St) (H2 : Hp) : Prop := ∃ (us : List V) (o : Option V), σ = [o] ∧ AI H H2 ∧ H2 p = some (.lst us) ∧ us.length = i
def dN (K : PySem.W.Frag) (p : Addr) (st : List (Int × Pl × Pl)) (H : Hp) (i : Nat) (σ : L2.St) (H2 : Hp) : Prop := ∃ (us : List V) (o1 o2 o3 : Option V), σ = [o1, o2, o3] ∧ AI H H2 ∧ H2 p = some (.lst us) ∧ RpL K H2 (((st.reverse.take i).map flp).map skD) us
section
variable {P : Program} {w : World} {K : PySem.W.Frag} {mg : Str → Option Value} {base : Heap} {t : Adr}
def MY (K : PySem.W.Frag) : Sp := fun vs H Q _ => ∃ (a : Addr) (ns : List Int), vs = [.ref a] ∧ SqL K H a (ns.map V.int) ∧ ns.length ≤ 63 ∧ ∀ H', Q (.bl true) H'
theorem bA (T : Txt K mg t) : BY P w K mg base CX0 10 t.a_law t.d_law ["_law_script"] (MY K) := by
 refine T.law.F.ok FH (fun vs H Q E h => ?_) (fun cdv A outer s H vs Q E hr h => ?_)
 ·obtain ⟨a, ns, rfl, _⟩ := h; rfl
 ·obtain ⟨a, ns, rfl, hS, hl, q⟩ := h
  have hu := hr.units
  refine ⟨_, s!"1{FH.nd}{TU T}{T.Lplain.m}{T.Lplain.F.kp}{T.Lplain.b}{WH T}{T.Ldeck.m}{T.Ldeck.F.kp}{T.Ldeck.b}0ACDBBNCDBBNI{CC}{BM}{GC}{NZ T}{T.Lcell.m}{T.Lcell.F.kp}{T.Lcell.b}0ACDBBN{RT}CCGGCGC{AS _}J1{FH.nd}{@VV _ _ _ _ _ _ _ _ _ _ ZV s!"{XT}1ACG" (@YM _) (@XB _ _ _ s!"C")}IETL2{FH.nd}{HN T}{T.backwards.m}{T.backwards.F.kp}{T.backwards.b}PO1ADBYQDYNI{@PW.pt _ _ _ s!"{DB (c := .type "tuple")}{T.z_isinstance}{boot_isinstance}2A{.ty "tuple"}{T.z_tuple}{boot_tuple}oDBBRcp{KH}{AR}{T.z_len}{PySem.boot_len}2ADBRC{AS _}J{aW hu}{AK}2ACHPO{AS _}J{DB (c := .type "tuple")}{T.z_isinstance}{boot_isinstance}{AK}2ACH{.ty "tuple"}{T.z_tuple}{boot_tuple}oDBBRcpvhhh"}gKETL{@PW.pt _ _ _ s!"{KH}{AR}{T.z_len}{PySem.boot_len}{AD IV}{["_law_script", "_law_body", "_law_found", "_law_strokes", "_law_end", "_law_due", "_law_start", "_law_told"]}{["_law_one"]}{["_law_one"]}{[]}{XR (K := K) rfl}2ACHx{fun _ _ _ _ => s!"0{show List.Nodup (["_law_one"] : List Str) by decide +kernel}U"}{fun _ _ _ _ => (@VN _ _ _ s!"{NL T}{T.Lissingle.m}{T.Lissingle.F.kp}{T.Lissingle.b}0ADBNc")}{fun _ _ _ _ => s!"0A"}yDBR{AR}{T.z_len}{PySem.boot_len}{AK}2ACHDBR{AS _}J{KF}{CI}{AR}{T.z_len}{PySem.boot_len}1ADBR{AR}{T.z_len}{PySem.boot_len}{AK}2ACHDBRGC{AS _}Jvh"}gKETL{KR T}{T.Lwalked.m}{T.Lwalked.F.kp}{T.Lwalked.b}1ADBN3{FH.nd}U4{FH.nd}Unaarq5{FH.nd}{RH}3A{AD IV}{["_law_script", "_law_body", "_law_found", "_law_strokes", "_law_end", "_law_due", "_law_start", "_law_told"]}{["_law_ink", "_law_begin", "_law_last"]}{["_law_ink", "_law_begin", "_law_last"]}{[]}{@bO _ _ _ _ _ _ (by rfl) T.z_reversed s!"3A" (by rfl)}{fun _ _ _ _ => (@YC _ (K) _ _ _ _ (3) rfl rfl s!"0{show List.Nodup (["_law_ink", "_law_begin", "_law_last"] : List Str) by decide +kernel}U1{show List.Nodup (["_law_ink", "_law_begin", "_law_last"] : List Str) by decide +kernel}U2{show List.Nodup (["_law_ink", "_law_begin", "_law_last"] : List Str) by decide +kernel}Unaaa" (by rfl) (by rfl))}{fun _ _ _ _ => (@OT _)}{fun _ _ _ _ => s!"0A2A1ADBBBQ"}yGI6{FH.nd}PSSOPSSOPddOCgCDBBBYQI{RD hu}{KR T}{T.Lwalked.m}{T.Lwalked.F.kp}{T.Lwalked.b}{NR}1A{AK}2ACHGDBN5A6ADBBQ{AS _}JgKETL7{FH.nd}{cL T}{T.run.m}{T.run.F.kp}{T.run.b}PO{NR}1A{AK}2ACHGDBYQCDBYNI{@PW.pt _ _ _ s!"{RD hu}{LK}{T.z_list}{boot_list}{AK}7ACHDB$5A{AS _}J{RD hu}{AK}7ACH6A{AS _}J{ZS}{AK}7ACHg{AS _}Jvhh"}gKETL{aR hu}{HN T}{T.backwards.m}{T.backwards.F.kp}{T.backwards.b}PO1ADBYQDYN2AkKEZZZZZZZZZZZ", ?_⟩
  walk_at "rh"
  refine ⟨a, ns, rfl, hS, hl, fun l ms H1 s1 hl1 hL hd => ?_⟩
  refine ⟨l, ms, rfl, hL, hd, fun vb body H2 b2 rb hok hbl => ?_⟩
  have s2 : AI H H2 := EH s1 b2 (by intro c hc; rw [List.mem_singleton] at hc; subst hc; exact hl1)
  have hS := s2.seq hS
  clear s1 b2 hL hd hl1 s2
  walk_at "rh"
  refine ⟨a, ns, _, rfl, hS, hl, by omega, by omega, fun z => ?_⟩
  refine ⟨⟨by decide, by decide, by decide⟩, by decide, by decide, by decide, ?_⟩
  refine dM (Ph_b K a) ?FD (fun c1 FD => ?nine) (fun _ => ⟨vb, body, rfl, rb, hok, by omega⟩)
  case nine =>
   refine ⟨body.map St1.D, rb, by decide, by decide, ?_, fun v H3 s3 rv => ?_⟩
   ·rw [List.length_map]; exact Nat.le_trans (Nat.mul_le_mul_right _ hbl) (by decide)
   ·rw [RU] at rv
    have ln : ((List.replicate (Int.toNat 9) body).flatten).length ≤ 1900 := by simp; omega
    obtain ⟨av, xs, rfl, hav, rx, lx⟩ := FE rv
    refine ⟨av, rfl, xs, hav, fun p H4 s4 hp => ?_⟩
    rw [ZO (by omega)] at hp
    refine FD _ _ ⟨.ref p, (List.replicate (Int.toNat 9) body).flatten, rfl, ?_, ?_, ln⟩
    ·rw [bD, Rp]; exact ⟨p, xs, rfl, hp, rx.same s4⟩
    ·intro s hs
     rw [List.mem_flatten] at hs
     obtain ⟨l, hl', hs⟩ := hs
     rw [List.eq_of_mem_replicate hl'] at hs
     exact hok s hs
  clear rb hok hbl hS
  rintro σ H3 ⟨vb, body, rfl, rb, hok, hbl⟩
  clear hl
  walk_at "rh"
  intro v0 H4 s4 r0
  walk_at "rh"
  refine ⟨by decide, fun p hp => ?_⟩
  have u := AI.upd (o := .tup [v0, vb]) hp
  have rb5 := (rb.same s4).same u
  have rP : Rp K (upd H4 p (.tup [v0, vb])) (.tup [.tup [], bD body]) (.ref p) := BJ.mpr ⟨p, _, _, rfl, SqT.of AB, r0.same u, rb5⟩
  refine ⟨.ref p, body, rfl, rP, by omega, hok, fun fo H5 s5 rf => ?_⟩
  have rb := rb5.same s5
  clear rP rb5 u hp r0 s4
  have rf0 := rf
  obtain ⟨af, f0, f1, rfl, hf, rf0', rf1⟩ := BJ.mp rf
  obtain ⟨e0, ex0, rfl, he0, _⟩ := FB.mp rf0'
  obtain ⟨e1, xs1, rfl, he1, rx1, lx1⟩ := FE rf1
  have uok := RV hok body.length
  have ulen := LA body body.length
  generalize hU : FO body body.length = U at *
  obtain ⟨ab, xb, rfl, hab, rxb, lxb⟩ := FE rb
  rw [List.length_reverse] at lx1
  walk_at "rh"
  refine ⟨rfl, ⟨_, rfl⟩, _, .inr ⟨⟨_, hf⟩, rfl⟩, _, CD, ?_⟩
  try dsimp only
  rw [if_neg (by decide)]
  walk_at "rh"
  refine ⟨_, .inr hf, ?_⟩
  rw [if_neg (by simp)]
  refine ⟨_, hf, _, rfl, fun v1 H6 s6 r6 => ?_⟩
  refine ⟨[], [], rf0'.same s6, r6, by decide, ?_⟩
  try dsimp only
  rw [if_neg (by decide)]
  have hf := s6.tup hf
  have he1 := s6.tup he1
  have rx1 := rx1.same s6
  have hab := s6.tup hab
  have rxb := rxb.same s6
  have rf := rf0.same s6
  clear r6 s6 rf0 rf0' he0 rf1 s5 rb
  refine ⟨_, hf, _, rfl, rfl, ⟨_, rfl⟩, _, .inr ⟨e1, rfl, ⟨_, he1⟩, rfl⟩, _, CD, ?_⟩
  try dsimp only
  rw [if_neg (by decide)]
  walk_at "rh"
  refine ⟨_, hf, _, rfl, ⟨_, he1⟩, fun lp hlp => ?_⟩
  refine bJ (xs := xs1) (dE K lp H6) ⟨[], _, rfl, AI.upd hlp, AB, rfl⟩ (fun i σ H2 _ z => by obtain ⟨_, _, rfl, s2, _⟩ := z; exact s2.tup he1) ?_ ?_
  ·rintro i x σ H7 hx ⟨us, o, rfl, s7, h7, l7⟩
   have hi : i < xs1.length := (List.getElem?_eq_some_iff.mp hx).1
   walk_at "rd"
   obtain ⟨s1', hs1, rx⟩ := NE (rx1.same s7) hx
   obtain ⟨d, hd, ed⟩ := St1.okOne s1' (uok _ (List.mem_reverse.mp (List.mem_of_getElem? hs1)))
   rw [ed] at rx
   refine ⟨x, d, rfl, hd, rx, fun H8 s8 => ?_⟩
   try dsimp only
   rw [if_pos (by decide)]
   refine ⟨us, s8 _ _ h7, IU (by omega), nx hi ⟨us ++ [x], _, rfl, ?_, AB, by simp [l7]⟩⟩
   exact (s7.trans s8).upd2 hlp
  rintro σ H7 ⟨us, o, rfl, s7, h7, l7⟩
  dsimp only
  have hf := s7.tup hf
  have he1 := s7.tup he1
  have hab := s7.tup hab
  refine ⟨us, .inl (SqL.of h7), _, hf, _, rfl, ?_⟩
  dsimp only
  refine ⟨_, .inr he1, ?_⟩
  rw [if_neg (by rw [l7]; exact not_not_intro rfl)]
  refine ⟨_, .inr hab, _, hf, _, rfl, ?_⟩
  dsimp only
  refine ⟨_, .inr he1, ?_⟩
  rw [if_neg (by omega)]
  have rx1 := rx1.same s7
  have rxb := rxb.same s7
  have rf := rf.same s7
  clear h7 l7 hlp s7
  have rb : Rp K H7 (bD body) (.ref ab) := by rw [bD, Rp]; exact ⟨ab, xb, rfl, hab, rxb⟩
  walk_at "rh"
  refine ⟨.ref ab, body, rfl, rb, by omega, hok, fun rr sl ae vp vs x H8 ex s8 fsl hrr hsl rsl hae rp => ?_⟩
  walk_at "rh"
  refine ⟨_, SqT.of hrr, rfl, ?_⟩
  walk_at "rh"
  have rpx : Rp K H8 x.p.D vp := rp
  refine ⟨vs, SqL.of hsl, fun lp hlp => ?_⟩
  have lst : vs.length = x.st.length := by rw [rsl.length, List.length_map]
  refine cE (xs := vs) (dN K lp x.st H8) ⟨[], _, _, _, rfl, AI.upd hlp, AB, RpL.nil⟩ (fun i σ H2 _ z => by obtain ⟨_, _, _, _, rfl, s2, _⟩ := z; exact s2.seq (SqL.of hsl)) ?_ ?_
  ·rintro i y σ H9 hi hy ⟨us, o1, o2, o3, rfl, s9, h9, r9⟩
   have hj : x.st.length - 1 - i < x.st.length := by omega
   obtain ⟨v', e', r'⟩ := rsl.at (j := vs.length - 1 - i) (by rw [List.length_map]; omega)
   rw [hy] at e'; cases e'
   rw [List.getD_eq_getElem?_getD, List.getElem?_map, lst, List.getElem?_eq_getElem hj] at r'
   have r' : Rp K H8 (skD (x.st[x.st.length - 1 - i])) y := r'
   have hk : x.st.reverse[i]? = some (x.st[x.st.length - 1 - i]) := by
    rw [List.getElem?_reverse (by omega), List.getElem?_eq_getElem]
   generalize x.st[x.st.length - 1 - i] = k at r' hk
   obtain ⟨ki, kp, kq⟩ := k
   obtain ⟨ay, ys, rfl, hys, ry⟩ := FB.mp (r'.same s9)
   obtain ⟨y0, y1, y2, rfl, q0, q1, q2⟩ : ∃ y0 y1 y2, ys = [y0, y1, y2] ∧ y0 = .int ki ∧ Rp K H9 kp.D y1 ∧ Rp K H9 kq.D y2 := by
    rw [RpL] at ry
    obtain ⟨y0, r0, rfl, a0, ry⟩ := ry
    rw [RpL] at ry
    obtain ⟨y1, r1, rfl, a1, ry⟩ := ry
    rw [RpL] at ry
    obtain ⟨y2, r2, rfl, a2, ry⟩ := ry
    rw [RpL] at ry
    subst ry
    rw [Rp] at a0
    exact ⟨_, _, _, rfl, a0, a1, a2⟩
   subst q0
   walk_at "rd"
   refine ⟨_, hys, rfl, ?_⟩
   walk_at "rd"
   refine ⟨by decide, fun pt hpt => ?_⟩
   have ut := AI.upd (o := .tup [.int ki, y2, y1]) hpt
   have szu : us.length ≤ 5000 := by
    have := KU (body := body) (i := body.length) (by omega)
    rw [r9.length]; simp only [List.length_map, List.length_take]
    rw [← ex] at this
    omega
   refine ⟨us, ut _ _ h9, IU szu, nx hi ⟨us ++ [.ref pt], _, _, _, rfl, (s9.trans ut).upd2 hlp, AB, ?_⟩⟩
   have tU : AZ H9 (upd (upd H9 pt (.tup [.int ki, y2, y1])) lp (.lst (us ++ [.ref pt]))) := ut.t.upd (FJ h9)
   rw [List.take_add_one, hk, List.map_append, List.map_append]
   refine (r9.t tU).app (RpL.one ?_)
   rw [flp, skD, Rp]
   refine ⟨pt, _, rfl, SqT.of ?_, FV (by rw [Rp]) (FV (q2.t tU) (FV (q1.t tU) RpL.nil))⟩
   rw [AH (AU h9 hpt).symm, AB]
  rintro σ H9 ⟨us, o1, o2, o3, rfl, s9, h9, r9⟩
  rw [lst, List.take_of_length_le (by simp)] at r9
  have szx := KU (body := body) (i := body.length) (by omega)
  rw [← ex] at szx
  dsimp only
  refine ⟨vs, s9 _ _ hsl, us, h9, ?_, fun ld hld => ?_⟩
  ·rw [rsl.length, r9.length]; simp only [List.length_map, List.length_reverse]
   exact Nat.le_trans (Nat.add_le_add szx.2 szx.2) (by decide)
  have ud := AI.upd (o := .lst (vs ++ us)) hld
  have s9 := s9.trans ud
  have rdu : RpL K (upd H9 ld (.lst (vs ++ us))) ((x.st ++ x.st.reverse.map flp).map skD) (vs ++ us) := by
   rw [List.map_append]
   exact (rsl.same s9).app (r9.same ud)
  have hldu : upd H9 ld (.lst (vs ++ us)) ld = some (.lst (vs ++ us)) := AB
  generalize upd H9 ld (.lst (vs ++ us)) = H10 at *
  have s710 := s8.trans s9
  have hf := s710.tup hf
  have he1 := s710.tup he1
  have hab := s710.tup hab
  have rxb := rxb.same s710
  have rx1 := rx1.same s710
  have rb := rb.same s710
  have rf := rf.same s710
  clear ud s9 r9 h9 rsl hsl hrr hae rp rpx s710 s8 hld
  generalize vs ++ us = dv at *
  walk_at "rh"
  intro vz H11 s11 rz
  refine ⟨by decide, fun ps hps => ?_⟩
  have up := AI.upd (o := .tup [vz, .int 0, .bl true, .int 0]) hps
  have s11u := s11.trans up
  have hpsu : upd H11 ps (.tup [vz, .int 0, .bl true, .int 0]) ps = some (.tup [vz, .int 0, .bl true, .int 0]) := AB
  have rz := rz.same up
  generalize upd H11 ps (.tup [vz, .int 0, .bl true, .int 0]) = H12 at *
  have hf := s11u.tup hf
  have he1 := s11u.tup he1
  have rx1 := rx1.same s11u
  have rb := rb.same s11u
  have rf := rf.same s11u
  have rdu := rdu.same s11u
  have hldu := s11u _ _ hldu
  clear up s11 s11u hps hab rxb
  have hbf := YZ body
  have hbl2 : (bth body).length ≤ 3900 := by rw [bth, hU, List.length_append, List.length_reverse]; omega
  have hbok : ∀ s ∈ bth body, s.ok := by
   intro s hs
   rw [bth, hU] at hs
   rcases List.mem_append.mp hs with h | h
   ·exact hok s h
   ·exact uok s (List.mem_reverse.mp h)
  obtain ⟨⟨cp, ch, cd, ci⟩, cst⟩ := hbf
  have rU : Rp K H12 (.tup (U.reverse.map St1.D)) (.ref e1) := by rw [Rp]; exact ⟨e1, xs1, rfl, he1, rx1⟩
  have szc : (body.map St1.D).length + (U.reverse.map St1.D).length ≤ sizeLine := by
   rw [List.length_map, List.length_map, List.length_reverse]; exact Nat.le_trans (by omega : _ ≤ 3900) (by decide)
  have ebt : .tup (body.map St1.D ++ U.reverse.map St1.D) = bD (bth body) := by rw [bD, bth, hU, List.map_append]
  walk_at "rh"
  refine ⟨_, hf, _, rfl, body.map St1.D, rb, U.reverse.map St1.D, rU, szc, fun vc H13 s13 rc => ?_⟩
  rw [ebt] at rc
  refine ⟨vc, bth body, rfl, rc, hbl2, hbok, fun rr sl ae vp vs y H14 ey s14 fsl hrr hsl rsl hae rp => ?_⟩
  rw [← ey] at cp ch cd ci cst
  refine ⟨by decide, fun pp hpp => ?_⟩
  have upp := AI.upd (o := .tup [.ref ld, .ref ps]) hpp
  have s1214 := s13.trans s14
  have s12p := s1214.trans upp
  refine ⟨⟨10, rr, pp, _, _, by decide, rfl, rfl, .inl ⟨SqT.of (upp _ _ hrr), SqT.of AB⟩, rfl, ?_⟩, ?_⟩
  ·intro i a b ha hb
   match i, ha, hb with
   | 0, ha, hb =>
    cases ha; cases hb
    refine .lst (n := 9) (SqL.of (upp _ _ hsl)) (SqL.of (s12p _ _ hldu)) ?_ ?_
    ·rw [rsl.length, rdu.length, cst, ex]
    ·rw [cst, ← ex] at rsl
     intro i a b ha hb
     exact (RpL.alike (rsl.same upp) (rdu.same s12p) i a b ha hb).up (Nat.le_trans (HJ (n := 3) (fun a => Nat.le_of_eq (WJ a)) _) (by decide))
   | 1, ha, hb =>
    cases ha; cases hb
    refine .tup (n := 9) (SqT.of (upp _ _ hae)) (SqT.of (s12p _ _ hpsu)) rfl ?_
    intro i a b ha hb
    match i, ha, hb with
    | 0, ha, hb =>
     cases ha; cases hb
     rw [cp] at rp
     exact (Rp.alike (rp.same upp) (rz.same s12p)).up (by decide)
    | 1, ha, hb => cases ha; cases hb; rw [ch]; exact .int _ _
    | 2, ha, hb => cases ha; cases hb; rw [cd]; exact .bl _ _
    | 3, ha, hb => cases ha; cases hb; rw [ci]; exact .int _ _
    | n + 4, ha, hb => simp at ha
   | n + 2, ha, hb => simp at ha
  dsimp only
  rw [if_neg (by decide)]
  have hf := s12p.tup hf
  have rU := rU.same s12p
  have rb := rb.same s12p
  have rf := rf.same s12p
  have rdu := rdu.same s12p
  have hldu := s12p _ _ hldu
  have hpsu := s12p _ _ hpsu
  have rz := rz.same s12p
  generalize upd H14 pp (.tup [.ref ld, .ref ps]) = H15 at *
  have dl : (List.map skD (x.st ++ List.map flp x.st.reverse)) = List.map skD y.st := by rw [cst, ex]
  rw [dl] at rdu
  clear hrr hsl rsl hae rp upp s12p s1214 rc hpp s13 s14 he1 rx1 lst ex szx fsl
  walk_at "rh"
  intro v0 H16 s16 r0
  refine ⟨_, s16.tup hf, _, rfl, body.map St1.D, rb.same s16, U.reverse.map St1.D, rU.same s16, szc, fun vc H17 s17 rc => ?_⟩
  rw [ebt] at rc
  refine ⟨by decide, fun pp hpp => ?_⟩
  have upp := AI.upd (o := .tup [v0, vc]) hpp
  have rP : Rp K (upd H17 pp (.tup [v0, vc])) (.tup [.tup [], bD (bth body)]) (.ref pp) := BJ.mpr ⟨pp, v0, vc, rfl, SqT.of AB, (r0.same s17).same upp, rc.same upp⟩
  have s15p := (s16.trans s17).trans upp
  refine ⟨.ref pp, 4000, bth body, rfl, rP, by decide, by decide, hbl2, hbok, fun rr ls lc ae vp vs1 vs2 z H18 ez s18 fls flc nlc hrr frr hls rs hlc rcc hae rvp => ?_⟩
  have ez : z = fin (bth body) (bth body).length := by
   rw [ez, Nat.min_eq_right]
   exact Nat.le_trans hbl2 (by decide)
  have hb4 : (((bth body).length : Nat) : Int) ≤ 4000 := by omega
  rw [decide_eq_true hb4] at hrr
  have s18 := s15p.trans s18
  have rf := rf.same s18
  have rb := rb.same s18
  have rdu := rdu.same s18
  have hldu := s18 _ _ hldu
  have hpsu := s18 _ _ hpsu
  have rz := rz.same s18
  clear s15p upp rP rc s16 s17 r0 hpp flc fls nlc frr hlc rcc s18 hf rU
  walk_at "rh"
  have ezy : z = y := by rw [ez, ey]
  clear ez
  subst ezy
  refine ⟨_, SqT.of hrr, _, rfl, ?_⟩
  dsimp only
  refine ⟨_, SqL.of hls, fun l2 hl2 => ?_⟩
  have u2 := AI.upd (o := .lst vs1) hl2
  refine ⟨⟨10, l2, ld, _, _, by decide, rfl, rfl, .inr ⟨SqL.of AB, SqL.of (u2 _ _ hldu)⟩, by rw [rs.length, rdu.length], fun i a b ha hb => (RpL.alike (rs.same u2) (rdu.same u2) i a b ha hb).up (Nat.le_trans (HJ (n := 3) (fun a => Nat.le_of_eq (WJ a)) _) (by decide))⟩, ?_⟩
  dsimp only
  rw [if_neg (by decide)]
  refine ⟨_, SqT.of (u2 _ _ hrr), _, rfl, ⟨10, ae, ps, _, _, by decide, rfl, rfl, .inl ⟨SqT.of (u2 _ _ hae), SqT.of (u2 _ _ hpsu)⟩, rfl, fun i a b ha hb => ?_⟩, ?_⟩
  ·match i, ha, hb with
   | 0, ha, hb =>
    cases ha; cases hb
    rw [cp] at rvp
    exact (Rp.alike (rvp.same u2) (rz.same u2)).up (by decide)
   | 1, ha, hb => cases ha; cases hb; rw [ch]; exact .int _ _
   | 2, ha, hb => cases ha; cases hb; rw [cd]; exact .bl _ _
   | 3, ha, hb => cases ha; cases hb; rw [ci]; exact .int _ _
   | n + 4, ha, hb => simp at ha
  dsimp only
  rw [if_neg (by decide)]
  refine ⟨_, SqT.of (u2 _ _ hrr), _, rfl, ?_⟩
  dsimp only
  rw [if_neg (by decide)]
  have rf := rf.same u2
  have rb := rb.same u2
  generalize upd H18 l2 (.lst vs1) = H19 at *
  clear u2 hl2 hrr hls rs hae rvp rdu hldu hpsu rz
  walk_at "rh"
  intro v0 H20 s20 r0
  refine ⟨by decide, fun p hp => ?_⟩
  have u := AI.upd (o := .tup [v0, .ref ab]) hp
  have rb5 := (rb.same s20).same u
  have rP : Rp K (upd H20 p (.tup [v0, .ref ab])) (.tup [.tup [], bD body]) (.ref p) := BJ.mpr ⟨p, _, _, rfl, SqT.of AB, r0.same u, rb5⟩
  refine ⟨.ref p, body, rfl, rP, by omega, hok, fun fo H21 s21 rf2 => ?_⟩
  rw [hU] at rf2
  refine ⟨_, _, rf2, ((rf.same s20).same u).same s21, ?_, ?_⟩
  ·rw [depL, depL, depL, bD, dep, dep, depL]
   have := HJ (f := St1.D) (n := 1) (fun s => by cases s <;> simp [St1.D, dep, depL]) U.reverse
   omega
  ·rw [deqL_self]; exact q _
end
@[elab_as_elim] theorem HV {α : Type} {Pr : List α → Prop} (us : List α) (hl : us.length = 1) (h : ∀ a, Pr [a]) : Pr us := by
 match us, hl with
 | [a], _ => exact h a
@[elab_as_elim] theorem GO {α : Type} {Pr : List α → Prop} (us : List α) (hl : us.length = 2) (h : ∀ a b, Pr [a, b]) : Pr us := by
 match us, hl with
 | [a, b], _ => exact h a b
@[elab_as_elim] theorem VG {α : Type} {Pr : List α → Prop} (us : List α) (hl : us.length = 3) (h : ∀ a b c, Pr [a, b, c]) : Pr us := by
 match us, hl with
 | [a, b, c], _ => exact h a b c
@[elab_as_elim] theorem len4 {α : Type} {Pr : List α → Prop} (us : List α) (hl : us.length = 4) (h : ∀ a b c d, Pr [a, b, c, d]) : Pr us := by
 match us, hl with
 | [a, b, c, d], _ => exact h a b c d
theorem all_mk {l : PySem.W.OpenLaw} {w : World} {K : PySem.W.Frag} {h : Heap} {mg : Str → Option Value} {fa : Addr} (X : K.In h) (G : h.Ns mainGlobals mg) (hfa : mg "law" = some (.ref fa))
  {c_Hand : Addr}
  {c_Level : Addr}
  {c_Walk : Addr}
  {f0 : Addr} {od0 an0 : Option Addr} {sl0 : Array (Option Value)} {oc0 kV0 dc0 pm0 cd0 ct0 : Value}
  {f1 : Addr} {od1 an1 : Option Addr} {sl1 : Array (Option Value)} {oc1 kV1 dc1 pm1 cd1 ct1 : Value}
  {f2 : Addr} {od2 an2 : Option Addr} {sl2 : Array (Option Value)} {oc2 kV2 dc2 pm2 cd2 ct2 : Value}
  {f3 : Addr} {od3 an3 : Option Addr} {sl3 : Array (Option Value)} {oc3 kV3 dc3 pm3 cd3 ct3 : Value}
  {f4 : Addr} {od4 an4 : Option Addr} {sl4 : Array (Option Value)} {oc4 kV4 dc4 pm4 cd4 ct4 : Value}
  {f5 : Addr} {od5 an5 : Option Addr} {sl5 : Array (Option Value)} {oc5 kV5 dc5 pm5 cd5 ct5 : Value}
  {f6 : Addr} {od6 an6 : Option Addr} {sl6 : Array (Option Value)} {oc6 kV6 dc6 pm6 cd6 ct6 : Value}
  {f7 : Addr} {od7 an7 : Option Addr} {sl7 : Array (Option Value)} {oc7 kV7 dc7 pm7 cd7 ct7 : Value}
  {f8 : Addr} {od8 an8 : Option Addr} {sl8 : Array (Option Value)} {oc8 kV8 dc8 pm8 cd8 ct8 : Value}
  {f9 : Addr} {od9 an9 : Option Addr} {sl9 : Array (Option Value)} {oc9 kV9 dc9 pm9 cd9 ct9 : Value}
  {f10 : Addr} {od10 an10 : Option Addr} {sl10 : Array (Option Value)} {oc10 kV10 dc10 pm10 cd10 ct10 : Value}
  {f11 : Addr} {od11 an11 : Option Addr} {sl11 : Array (Option Value)} {oc11 kV11 dc11 pm11 cd11 ct11 : Value}
  {f12 : Addr} {od12 an12 : Option Addr} {sl12 : Array (Option Value)} {oc12 kV12 dc12 pm12 cd12 ct12 : Value}
  {f13 : Addr} {od13 an13 : Option Addr} {sl13 : Array (Option Value)} {oc13 kV13 dc13 pm13 cd13 ct13 : Value}
  {f14 : Addr} {od14 an14 : Option Addr} {sl14 : Array (Option Value)} {oc14 kV14 dc14 pm14 cd14 ct14 : Value}
  {f15 : Addr} {od15 an15 : Option Addr} {sl15 : Array (Option Value)} {oc15 kV15 dc15 pm15 cd15 ct15 : Value}
  {f16 : Addr} {od16 an16 : Option Addr} {sl16 : Array (Option Value)} {oc16 kV16 dc16 pm16 cd16 ct16 : Value}
  {f17 : Addr} {od17 an17 : Option Addr} {sl17 : Array (Option Value)} {oc17 kV17 dc17 pm17 cd17 ct17 : Value}
  {f18 : Addr} {od18 an18 : Option Addr} {sl18 : Array (Option Value)} {oc18 kV18 dc18 pm18 cd18 ct18 : Value}
  {f19 : Addr} {od19 an19 : Option Addr} {sl19 : Array (Option Value)} {oc19 kV19 dc19 pm19 cd19 ct19 : Value}
  {f20 : Addr} {od20 an20 : Option Addr} {sl20 : Array (Option Value)} {oc20 kV20 dc20 pm20 cd20 ct20 : Value}
  {f21 : Addr} {od21 an21 : Option Addr} {sl21 : Array (Option Value)} {oc21 kV21 dc21 pm21 cd21 ct21 : Value}
  {f22 : Addr} {od22 an22 : Option Addr} {sl22 : Array (Option Value)} {oc22 kV22 dc22 pm22 cd22 ct22 : Value}
  {f23 : Addr} {od23 an23 : Option Addr} {sl23 : Array (Option Value)} {oc23 kV23 dc23 pm23 cd23 ct23 : Value}
  {f24 : Addr} {od24 an24 : Option Addr} {sl24 : Array (Option Value)} {oc24 kV24 dc24 pm24 cd24 ct24 : Value}
  {f25 : Addr} {od25 an25 : Option Addr} {sl25 : Array (Option Value)} {oc25 kV25 dc25 pm25 cd25 ct25 : Value}
  {f26 : Addr} {od26 an26 : Option Addr} {sl26 : Array (Option Value)} {oc26 kV26 dc26 pm26 cd26 ct26 : Value}
  {f27 : Addr} {od27 an27 : Option Addr} {sl27 : Array (Option Value)} {oc27 kV27 dc27 pm27 cd27 ct27 : Value}
  {f28 : Addr} {od28 an28 : Option Addr} {sl28 : Array (Option Value)} {oc28 kV28 dc28 pm28 cd28 ct28 : Value}
  {f29 : Addr} {od29 an29 : Option Addr} {sl29 : Array (Option Value)} {oc29 kV29 dc29 pm29 cd29 ct29 : Value}
  {f30 : Addr} {od30 an30 : Option Addr} {sl30 : Array (Option Value)} {oc30 kV30 dc30 pm30 cd30 ct30 : Value}
  {f31 : Addr} {od31 an31 : Option Addr} {sl31 : Array (Option Value)} {oc31 kV31 dc31 pm31 cd31 ct31 : Value}
  {f32 : Addr} {od32 an32 : Option Addr} {sl32 : Array (Option Value)} {oc32 kV32 dc32 pm32 cd32 ct32 : Value}
  {f33 : Addr} {od33 an33 : Option Addr} {sl33 : Array (Option Value)} {oc33 kV33 dc33 pm33 cd33 ct33 : Value}
  {f34 : Addr} {od34 an34 : Option Addr} {sl34 : Array (Option Value)} {oc34 kV34 dc34 pm34 cd34 ct34 : Value}
  (aC_Hand : PySem.W.nsIn K mainGlobals "Hand" = some (some (.ref c_Hand))) (pg_Hand : PySem.W.plainGet K c_Hand Str.empty = true) (hd_Hand : PySem.W.hasDictIn K c_Hand = true) (po_Hand : PySem.W.plainOver K c_Hand = true) (sa_Hand : PySem.W.findIn K (.ref c_Hand) "__setattr__" = some (some (.builtin "object.__setattr__"))) (mk_Hand : PySem.W.makesIn K c_Hand = true) (kc_Hand : PySem.W.keepIn K (.ref c_Hand) = true)
  (n_Hand_spot : PySem.W.findIn K (.ref c_Hand) "spot" = some none)
  (n_Hand_heading : PySem.W.findIn K (.ref c_Hand) "heading" = some none)
  (n_Hand_down : PySem.W.findIn K (.ref c_Hand) "down" = some none)
  (n_Hand_ink : PySem.W.findIn K (.ref c_Hand) "ink" = some none)
  (n_Hand_turned : PySem.W.findIn K (.ref c_Hand) "turned" = some none)
  (n_Hand_marks : PySem.W.findIn K (.ref c_Hand) "marks" = some none)
  (n_Hand_strokes : PySem.W.findIn K (.ref c_Hand) "strokes" = some none)
  (n_Hand_corners : PySem.W.findIn K (.ref c_Hand) "corners" = some none)
  (aC_Level : PySem.W.nsIn K mainGlobals "Level" = some (some (.ref c_Level))) (pg_Level : PySem.W.plainGet K c_Level Str.empty = true) (hd_Level : PySem.W.hasDictIn K c_Level = true) (po_Level : PySem.W.plainOver K c_Level = true) (sa_Level : PySem.W.findIn K (.ref c_Level) "__setattr__" = some (some (.builtin "object.__setattr__"))) (mk_Level : PySem.W.makesIn K c_Level = true) (kc_Level : PySem.W.keepIn K (.ref c_Level) = true)
  (n_Level_body : PySem.W.findIn K (.ref c_Level) "body" = some none)
  (n_Level_sources : PySem.W.findIn K (.ref c_Level) "sources" = some none)
  (n_Level_at : PySem.W.findIn K (.ref c_Level) "at" = some none)
  (n_Level_begun : PySem.W.findIn K (.ref c_Level) "begun" = some none)
  (n_Level_rounds : PySem.W.findIn K (.ref c_Level) "rounds" = some none)
  (aC_Walk : PySem.W.nsIn K mainGlobals "Walk" = some (some (.ref c_Walk))) (pg_Walk : PySem.W.plainGet K c_Walk Str.empty = true) (hd_Walk : PySem.W.hasDictIn K c_Walk = true) (po_Walk : PySem.W.plainOver K c_Walk = true) (sa_Walk : PySem.W.findIn K (.ref c_Walk) "__setattr__" = some (some (.builtin "object.__setattr__"))) (mk_Walk : PySem.W.makesIn K c_Walk = true) (kc_Walk : PySem.W.keepIn K (.ref c_Walk) = true)
  (n_Walk_bodies : PySem.W.findIn K (.ref c_Walk) "bodies" = some none)
  (n_Walk_levels : PySem.W.findIn K (.ref c_Walk) "levels" = some none)
  (n_Walk_hand : PySem.W.findIn K (.ref c_Walk) "hand" = some none)
  (n_Walk_acts : PySem.W.findIn K (.ref c_Walk) "acts" = some none)
  (a0 : PySem.W.nsIn K mainGlobals "plus" = some (some (.ref f0))) (l0 : K.lookup f0 = some ⟨oc0, od0, .func (PySem.W.fnOf "plus" "plus" (AN IH) (AM IH) (AD IH) .none kV0 dc0 pm0 an0 cd0 ct0), sl0⟩) (c0 : PySem.W.codeIn K cd0 "plus" = true) (k0 : PySem.W.keepIn K (.ref f0) = true)
  (a1 : PySem.W.nsIn K mainGlobals "times" = some (some (.ref f1))) (l1 : K.lookup f1 = some ⟨oc1, od1, .func (PySem.W.fnOf "times" "times" (AN GF) (AM GF) (AD GF) .none kV1 dc1 pm1 an1 cd1 ct1), sl1⟩) (c1 : PySem.W.codeIn K cd1 "times" = true) (k1 : PySem.W.keepIn K (.ref f1) = true)
  (a2 : PySem.W.nsIn K mainGlobals "moved" = some (some (.ref f2))) (l2 : K.lookup f2 = some ⟨oc2, od2, .func (PySem.W.fnOf "moved" "moved" (AN GJ) (AM GJ) (AD GJ) .none kV2 dc2 pm2 an2 cd2 ct2), sl2⟩) (c2 : PySem.W.codeIn K cd2 "moved" = true) (k2 : PySem.W.keepIn K (.ref f2) = true)
  (a3 : PySem.W.findIn K (.ref c_Hand) "__init__" = some (some (.ref f3))) (i3 : PySem.W.isFn K (.ref f3) = true) (l3 : K.lookup f3 = some ⟨oc3, od3, .func (PySem.W.fnOf "__init__" "Hand.__init__" (AN DF) (AM DF) (AD DF) .none kV3 dc3 pm3 an3 cd3 ct3), sl3⟩) (c3 : PySem.W.codeIn K cd3 "Hand.__init__" = true) (k3 : PySem.W.keepIn K (.ref f3) = true)
  (a4 : PySem.W.findIn K (.ref c_Hand) "come_to" = some (some (.ref f4))) (i4 : PySem.W.isFn K (.ref f4) = true) (l4 : K.lookup f4 = some ⟨oc4, od4, .func (PySem.W.fnOf "come_to" "Hand.come_to" (AN CQ) (AM CQ) (AD CQ) .none kV4 dc4 pm4 an4 cd4 ct4), sl4⟩) (c4 : PySem.W.codeIn K cd4 "Hand.come_to" = true) (k4 : PySem.W.keepIn K (.ref f4) = true)
  (a5 : PySem.W.findIn K (.ref c_Hand) "go" = some (some (.ref f5))) (i5 : PySem.W.isFn K (.ref f5) = true) (l5 : K.lookup f5 = some ⟨oc5, od5, .func (PySem.W.fnOf "go" "Hand.go" (AN EC) (AM EC) (AD EC) .none kV5 dc5 pm5 an5 cd5 ct5), sl5⟩) (c5 : PySem.W.codeIn K cd5 "Hand.go" = true) (k5 : PySem.W.keepIn K (.ref f5) = true)
  (a6 : PySem.W.findIn K (.ref c_Hand) "turn" = some (some (.ref f6))) (i6 : PySem.W.isFn K (.ref f6) = true) (l6 : K.lookup f6 = some ⟨oc6, od6, .func (PySem.W.fnOf "turn" "Hand.turn" (AN DG) (AM DG) (AD DG) .none kV6 dc6 pm6 an6 cd6 ct6), sl6⟩) (c6 : PySem.W.codeIn K cd6 "Hand.turn" = true) (k6 : PySem.W.keepIn K (.ref f6) = true)
  (a7 : PySem.W.findIn K (.ref c_Hand) "act" = some (some (.ref f7))) (i7 : PySem.W.isFn K (.ref f7) = true) (l7 : K.lookup f7 = some ⟨oc7, od7, .func (PySem.W.fnOf "act" "Hand.act" (AN DO) (AM DO) (AD DO) .none kV7 dc7 pm7 an7 cd7 ct7), sl7⟩) (c7 : PySem.W.codeIn K cd7 "Hand.act" = true) (k7 : PySem.W.keepIn K (.ref f7) = true)
  (a8 : PySem.W.findIn K (.ref c_Hand) "end" = some (some (.ref f8))) (i8 : PySem.W.isFn K (.ref f8) = true) (l8 : K.lookup f8 = some ⟨oc8, od8, .func (PySem.W.fnOf "end" "Hand.end" (AN DQ) (AM DQ) (AD DQ) .none kV8 dc8 pm8 an8 cd8 ct8), sl8⟩) (c8 : PySem.W.codeIn K cd8 "Hand.end" = true) (k8 : PySem.W.keepIn K (.ref f8) = true)
  (a9 : PySem.W.nsIn K mainGlobals "undoing" = some (some (.ref f9))) (l9 : K.lookup f9 = some ⟨oc9, od9, .func (PySem.W.fnOf "undoing" "undoing" (AN EA) (AM EA) (AD EA) .none kV9 dc9 pm9 an9 cd9 ct9), sl9⟩) (c9 : PySem.W.codeIn K cd9 "undoing" = true) (k9 : PySem.W.keepIn K (.ref f9) = true)
  (a10 : PySem.W.nsIn K mainGlobals "backwards" = some (some (.ref f10))) (l10 : K.lookup f10 = some ⟨oc10, od10, .func (PySem.W.fnOf "backwards" "backwards" (AN DH) (AM DH) (AD DH) .none kV10 dc10 pm10 an10 cd10 ct10), sl10⟩) (c10 : PySem.W.codeIn K cd10 "backwards" = true) (k10 : PySem.W.keepIn K (.ref f10) = true)
  (a11 : PySem.W.nsIn K mainGlobals "worth" = some (some (.ref f11))) (l11 : K.lookup f11 = some ⟨oc11, od11, .func (PySem.W.fnOf "worth" "worth" (AN GD) (AM GD) (AD GD) .none kV11 dc11 pm11 an11 cd11 ct11), sl11⟩) (c11 : PySem.W.codeIn K cd11 "worth" = true) (k11 : PySem.W.keepIn K (.ref f11) = true)
  (a12 : PySem.W.findIn K (.ref c_Level) "__init__" = some (some (.ref f12))) (i12 : PySem.W.isFn K (.ref f12) = true) (l12 : K.lookup f12 = some ⟨oc12, od12, .func (PySem.W.fnOf "__init__" "Level.__init__" (AN CY) (AM CY) (AD CY) .none kV12 dc12 pm12 an12 cd12 ct12), sl12⟩) (c12 : PySem.W.codeIn K cd12 "Level.__init__" = true) (k12 : PySem.W.keepIn K (.ref f12) = true)
  (a13 : PySem.W.findIn K (.ref c_Level) "is_at_end" = some (some (.ref f13))) (i13 : PySem.W.isFn K (.ref f13) = true) (l13 : K.lookup f13 = some ⟨oc13, od13, .func (PySem.W.fnOf "is_at_end" "Level.is_at_end" (AN CG) (AM CG) (AD CG) .none kV13 dc13 pm13 an13 cd13 ct13), sl13⟩) (c13 : PySem.W.codeIn K cd13 "Level.is_at_end" = true) (k13 : PySem.W.keepIn K (.ref f13) = true)
  (a14 : PySem.W.findIn K (.ref c_Level) "is_through" = some (some (.ref f14))) (i14 : PySem.W.isFn K (.ref f14) = true) (l14 : K.lookup f14 = some ⟨oc14, od14, .func (PySem.W.fnOf "is_through" "Level.is_through" (AN BW) (AM BW) (AD BW) .none kV14 dc14 pm14 an14 cd14 ct14), sl14⟩) (c14 : PySem.W.codeIn K cd14 "Level.is_through" = true) (k14 : PySem.W.keepIn K (.ref f14) = true)
  (a15 : PySem.W.findIn K (.ref c_Level) "next_statement" = some (some (.ref f15))) (i15 : PySem.W.isFn K (.ref f15) = true) (l15 : K.lookup f15 = some ⟨oc15, od15, .func (PySem.W.fnOf "next_statement" "Level.next_statement" (AN BI) (AM BI) (AD BI) .none kV15 dc15 pm15 an15 cd15 ct15), sl15⟩) (c15 : PySem.W.codeIn K cd15 "Level.next_statement" = true) (k15 : PySem.W.keepIn K (.ref f15) = true)
  (a16 : PySem.W.findIn K (.ref c_Walk) "__init__" = some (some (.ref f16))) (i16 : PySem.W.isFn K (.ref f16) = true) (l16 : K.lookup f16 = some ⟨oc16, od16, .func (PySem.W.fnOf "__init__" "Walk.__init__" (AN CS) (AM CS) (AD CS) .none kV16 dc16 pm16 an16 cd16 ct16), sl16⟩) (c16 : PySem.W.codeIn K cd16 "Walk.__init__" = true) (k16 : PySem.W.keepIn K (.ref f16) = true)
  (a17 : PySem.W.findIn K (.ref c_Walk) "is_done" = some (some (.ref f17))) (i17 : PySem.W.isFn K (.ref f17) = true) (l17 : K.lookup f17 = some ⟨oc17, od17, .func (PySem.W.fnOf "is_done" "Walk.is_done" (AN CP) (AM CP) (AD CP) .none kV17 dc17 pm17 an17 cd17 ct17), sl17⟩) (c17 : PySem.W.codeIn K cd17 "Walk.is_done" = true) (k17 : PySem.W.keepIn K (.ref f17) = true)
  (a18 : PySem.W.findIn K (.ref c_Walk) "do_deed" = some (some (.ref f18))) (i18 : PySem.W.isFn K (.ref f18) = true) (l18 : K.lookup f18 = some ⟨oc18, od18, .func (PySem.W.fnOf "do_deed" "Walk.do_deed" (AN CO) (AM CO) (AD CO) .none kV18 dc18 pm18 an18 cd18 ct18), sl18⟩) (c18 : PySem.W.codeIn K cd18 "Walk.do_deed" = true) (k18 : PySem.W.keepIn K (.ref f18) = true)
  (a19 : PySem.W.findIn K (.ref c_Walk) "begin" = some (some (.ref f19))) (i19 : PySem.W.isFn K (.ref f19) = true) (l19 : K.lookup f19 = some ⟨oc19, od19, .func (PySem.W.fnOf "begin" "Walk.begin" (AN CV) (AM CV) (AD CV) .none kV19 dc19 pm19 an19 cd19 ct19), sl19⟩) (c19 : PySem.W.codeIn K cd19 "Walk.begin" = true) (k19 : PySem.W.keepIn K (.ref f19) = true)
  (a20 : PySem.W.findIn K (.ref c_Walk) "act" = some (some (.ref f20))) (i20 : PySem.W.isFn K (.ref f20) = true) (l20 : K.lookup f20 = some ⟨oc20, od20, .func (PySem.W.fnOf "act" "Walk.act" (AN DP) (AM DP) (AD DP) .none kV20 dc20 pm20 an20 cd20 ct20), sl20⟩) (c20 : PySem.W.codeIn K cd20 "Walk.act" = true) (k20 : PySem.W.keepIn K (.ref f20) = true)
  (a21 : PySem.W.nsIn K mainGlobals "walked" = some (some (.ref f21))) (l21 : K.lookup f21 = some ⟨oc21, od21, .func (PySem.W.fnOf "walked" "walked" (AN EU) (AM EU) (AD EU) .none kV21 dc21 pm21 an21 cd21 ct21), sl21⟩) (c21 : PySem.W.codeIn K cd21 "walked" = true) (k21 : PySem.W.keepIn K (.ref f21) = true)
  (a22 : PySem.W.nsIn K mainGlobals "run" = some (some (.ref f22))) (l22 : K.lookup f22 = some ⟨oc22, od22, .func (PySem.W.fnOf "run" "run" (AN MF) (AM MF) (AD MF) .none kV22 dc22 pm22 an22 cd22 ct22), sl22⟩) (c22 : PySem.W.codeIn K cd22 "run" = true) (k22 : PySem.W.keepIn K (.ref f22) = true)
  (a23 : PySem.W.nsIn K mainGlobals "_law_mixed" = some (some (.ref f23))) (l23 : K.lookup f23 = some ⟨oc23, od23, .func (PySem.W.fnOf "_law_mixed" "_law_mixed" (AN EV) (AM EV) (AD EV) .none kV23 dc23 pm23 an23 cd23 ct23), sl23⟩) (c23 : PySem.W.codeIn K cd23 "_law_mixed" = true) (k23 : PySem.W.keepIn K (.ref f23) = true)
  (a24 : PySem.W.nsIn K mainGlobals "_law_row" = some (some (.ref f24))) (l24 : K.lookup f24 = some ⟨oc24, od24, .func (PySem.W.fnOf "_law_row" "_law_row" (AN GX) (AM GX) (AD GX) .none kV24 dc24 pm24 an24 cd24 ct24), sl24⟩) (c24 : PySem.W.codeIn K cd24 "_law_row" = true) (k24 : PySem.W.keepIn K (.ref f24) = true)
  (a25 : PySem.W.nsIn K mainGlobals "_law_cell" = some (some (.ref f25))) (l25 : K.lookup f25 = some ⟨oc25, od25, .func (PySem.W.fnOf "_law_cell" "_law_cell" (AN GG) (AM GG) (AD GG) .none kV25 dc25 pm25 an25 cd25 ct25), sl25⟩) (c25 : PySem.W.codeIn K cd25 "_law_cell" = true) (k25 : PySem.W.keepIn K (.ref f25) = true)
  (a26 : PySem.W.nsIn K mainGlobals "_law_deck" = some (some (.ref f26))) (l26 : K.lookup f26 = some ⟨oc26, od26, .func (PySem.W.fnOf "_law_deck" "_law_deck" (AN GI) (AM GI) (AD GI) .none kV26 dc26 pm26 an26 cd26 ct26), sl26⟩) (c26 : PySem.W.codeIn K cd26 "_law_deck" = true) (k26 : PySem.W.keepIn K (.ref f26) = true)
  (a27 : PySem.W.nsIn K mainGlobals "_law_next" = some (some (.ref f27))) (l27 : K.lookup f27 = some ⟨oc27, od27, .func (PySem.W.fnOf "_law_next" "_law_next" (AN GM) (AM GM) (AD GM) .none kV27 dc27 pm27 an27 cd27 ct27), sl27⟩) (c27 : PySem.W.codeIn K cd27 "_law_next" = true) (k27 : PySem.W.keepIn K (.ref f27) = true)
  (a28 : PySem.W.nsIn K mainGlobals "_law_single" = some (some (.ref f28))) (l28 : K.lookup f28 = some ⟨oc28, od28, .func (PySem.W.fnOf "_law_single" "_law_single" (AN EB) (AM EB) (AD EB) .none kV28 dc28 pm28 an28 cd28 ct28), sl28⟩) (c28 : PySem.W.codeIn K cd28 "_law_single" = true) (k28 : PySem.W.keepIn K (.ref f28) = true)
  (a29 : PySem.W.nsIn K mainGlobals "_law_plain" = some (some (.ref f29))) (l29 : K.lookup f29 = some ⟨oc29, od29, .func (PySem.W.fnOf "_law_plain" "_law_plain" (AN EW) (AM EW) (AD EW) .none kV29 dc29 pm29 an29 cd29 ct29), sl29⟩) (c29 : PySem.W.codeIn K cd29 "_law_plain" = true) (k29 : PySem.W.keepIn K (.ref f29) = true)
  (a30 : PySem.W.nsIn K mainGlobals "_law_int" = some (some (.ref f30))) (l30 : K.lookup f30 = some ⟨oc30, od30, .func (PySem.W.fnOf "_law_int" "_law_int" (AN IA) (AM IA) (AD IA) .none kV30 dc30 pm30 an30 cd30 ct30), sl30⟩) (c30 : PySem.W.codeIn K cd30 "_law_int" = true) (k30 : PySem.W.keepIn K (.ref f30) = true)
  (a31 : PySem.W.nsIn K mainGlobals "_law_is_single" = some (some (.ref f31))) (l31 : K.lookup f31 = some ⟨oc31, od31, .func (PySem.W.fnOf "_law_is_single" "_law_is_single" (AN DE) (AM DE) (AD DE) .none kV31 dc31 pm31 an31 cd31 ct31), sl31⟩) (c31 : PySem.W.codeIn K cd31 "_law_is_single" = true) (k31 : PySem.W.keepIn K (.ref f31) = true)
  (a32 : PySem.W.nsIn K mainGlobals "_law_moved" = some (some (.ref f32))) (l32 : K.lookup f32 = some ⟨oc32, od32, .func (PySem.W.fnOf "_law_moved" "_law_moved" (AN EY) (AM EY) (AD EY) .none kV32 dc32 pm32 an32 cd32 ct32), sl32⟩) (c32 : PySem.W.codeIn K cd32 "_law_moved" = true) (k32 : PySem.W.keepIn K (.ref f32) = true)
  (a33 : PySem.W.nsIn K mainGlobals "_law_walked" = some (some (.ref f33))) (l33 : K.lookup f33 = some ⟨oc33, od33, .func (PySem.W.fnOf "_law_walked" "_law_walked" (AN ED) (AM ED) (AD ED) .none kV33 dc33 pm33 an33 cd33 ct33), sl33⟩) (c33 : PySem.W.codeIn K cd33 "_law_walked" = true) (k33 : PySem.W.keepIn K (.ref f33) = true)
  (a34 : PySem.W.nsIn K mainGlobals "law" = some (some (.ref f34))) (l34 : K.lookup f34 = some ⟨oc34, od34, .func (PySem.W.fnOf "law" "law" (AN IV) (AM IV) (AD IV) .none kV34 dc34 pm34 an34 cd34 ct34), sl34⟩) (c34 : PySem.W.codeIn K cd34 "law" = true) (k34 : PySem.W.keepIn K (.ref f34) = true)
  (z_bool : PySem.W.nsIn K mainGlobals "bool" = some none)
  (z_int : PySem.W.nsIn K mainGlobals "int" = some none)
  (z_isinstance : PySem.W.nsIn K mainGlobals "isinstance" = some none)
  (z_len : PySem.W.nsIn K mainGlobals "len" = some none)
  (z_list : PySem.W.nsIn K mainGlobals "list" = some none)
  (z_max : PySem.W.nsIn K mainGlobals "max" = some none)
  (z_min : PySem.W.nsIn K mainGlobals "min" = some none)
  (z_range : PySem.W.nsIn K mainGlobals "range" = some none)
  (z_reversed : PySem.W.nsIn K mainGlobals "reversed" = some none)
  (z_str : PySem.W.nsIn K mainGlobals "str" = some none)
  (z_tuple : PySem.W.nsIn K mainGlobals "tuple" = some none)
  {u_ROUND : Value} (g_ROUND : PySem.W.nsIn K mainGlobals "ROUND" = some (some u_ROUND)) (k_ROUND : HM K JE u_ROUND = true)
  {u_BEGINNING : Value} (g_BEGINNING : PySem.W.nsIn K mainGlobals "BEGINNING" = some (some u_BEGINNING)) (k_BEGINNING : HM K IS u_BEGINNING = true)
  {u_STEPS : Value} (g_STEPS : PySem.W.nsIn K mainGlobals "STEPS" = some (some u_STEPS)) (k_STEPS : HM K HU u_STEPS = true)
  {u_INKS : Value} (g_INKS : PySem.W.nsIn K mainGlobals "INKS" = some (some u_INKS)) (k_INKS : HM K QH u_INKS = true)
  {u_MOST_AMOUNT : Value} (g_MOST_AMOUNT : PySem.W.nsIn K mainGlobals "MOST_AMOUNT" = some (some u_MOST_AMOUNT)) (k_MOST_AMOUNT : HM K EQ u_MOST_AMOUNT = true)
  : ∃ fd : FuncData, (∀ (s : Shared) (v : Value), BindsTo s fd ⟨[v], []⟩ [("_law_script", v)]) ∧ ∀ base : Heap, K.In base → base.Ns mainGlobals mg → BY l.prog w K mg base CX0 10 fa fd ["_law_script"] (MY K) := by
 have e := hfa.symm.trans (PySem.W.mg_of X G a34)
 cases e
 have F0 := BG (st := IH) l0 c0 k0
 have b0 := F0.binds (ps := ["one", "other"]) fun _ _ _ _ _ _ us hl => GO us hl (fun _ _ => rfl)
 have F1 := BG (st := GF) l1 c1 k1
 have b1 := F1.binds (ps := ["number", "factor"]) fun _ _ _ _ _ _ us hl => GO us hl (fun _ _ => rfl)
 have F2 := BG (st := GJ) l2 c2 k2
 have b2 := F2.binds (ps := ["place", "heading", "steps"]) fun _ _ _ _ _ _ us hl => VG us hl (fun _ _ _ => rfl)
 have F3 := BG (st := DF) l3 c3 k3
 have b3 := F3.binds (ps := ["self"]) fun _ _ _ _ _ _ us hl => HV us hl (fun _ => rfl)
 have F4 := BG (st := CQ) l4 c4 k4
 have b4 := F4.binds (ps := ["self", "spot"]) fun _ _ _ _ _ _ us hl => GO us hl (fun _ _ => rfl)
 have F5 := BG (st := EC) l5 c5 k5
 have b5 := F5.binds (ps := ["self", "steps"]) fun _ _ _ _ _ _ us hl => GO us hl (fun _ _ => rfl)
 have F6 := BG (st := DG) l6 c6 k6
 have b6 := F6.binds (ps := ["self", "eighths"]) fun _ _ _ _ _ _ us hl => GO us hl (fun _ _ => rfl)
 have F7 := BG (st := DO) l7 c7 k7
 have b7 := F7.binds (ps := ["self", "statement"]) fun _ _ _ _ _ _ us hl => GO us hl (fun _ _ => rfl)
 have F8 := BG (st := DQ) l8 c8 k8
 have b8 := F8.binds (ps := ["self"]) fun _ _ _ _ _ _ us hl => HV us hl (fun _ => rfl)
 have F9 := BG (st := EA) l9 c9 k9
 have b9 := F9.binds (ps := ["statement", "hand"]) fun _ _ _ _ _ _ us hl => GO us hl (fun _ _ => rfl)
 have F10 := BG (st := DH) l10 c10 k10
 have b10 := F10.binds (ps := ["program"]) fun _ _ _ _ _ _ us hl => HV us hl (fun _ => rfl)
 have F11 := BG (st := GD) l11 c11 k11
 have b11 := F11.binds (ps := ["amount", "sources"]) fun _ _ _ _ _ _ us hl => GO us hl (fun _ _ => rfl)
 have F12 := BG (st := CY) l12 c12 k12
 have b12 := F12.binds (ps := ["self", "body", "sources"]) fun _ _ _ _ _ _ us hl => VG us hl (fun _ _ _ => rfl)
 have F13 := BG (st := CG) l13 c13 k13
 have b13 := F13.binds (ps := ["self"]) fun _ _ _ _ _ _ us hl => HV us hl (fun _ => rfl)
 have F14 := BG (st := BW) l14 c14 k14
 have b14 := F14.binds (ps := ["self"]) fun _ _ _ _ _ _ us hl => HV us hl (fun _ => rfl)
 have F15 := BG (st := BI) l15 c15 k15
 have b15 := F15.binds (ps := ["self"]) fun _ _ _ _ _ _ us hl => HV us hl (fun _ => rfl)
 have F16 := BG (st := CS) l16 c16 k16
 have b16 := F16.binds (ps := ["self", "program"]) fun _ _ _ _ _ _ us hl => GO us hl (fun _ _ => rfl)
 have F17 := BG (st := CP) l17 c17 k17
 have b17 := F17.binds (ps := ["self"]) fun _ _ _ _ _ _ us hl => HV us hl (fun _ => rfl)
 have F18 := BG (st := CO) l18 c18 k18
 have b18 := F18.binds (ps := ["self"]) fun _ _ _ _ _ _ us hl => HV us hl (fun _ => rfl)
 have F19 := BG (st := CV) l19 c19 k19
 have b19 := F19.binds (ps := ["self", "statement", "sources"]) fun _ _ _ _ _ _ us hl => VG us hl (fun _ _ _ => rfl)
 have F20 := BG (st := DP) l20 c20 k20
 have b20 := F20.binds (ps := ["self", "statement"]) fun _ _ _ _ _ _ us hl => GO us hl (fun _ _ => rfl)
 have F21 := BG (st := EU) l21 c21 k21
 have b21 := F21.binds (ps := ["program", "most"]) fun _ _ _ _ _ _ us hl => GO us hl (fun _ _ => rfl)
 have F22 := BG (st := MF) l22 c22 k22
 have b22 := F22.binds (ps := ["program", "most"]) fun _ _ _ _ _ _ us hl => GO us hl (fun _ _ => rfl)
 have F23 := BG (st := EV) l23 c23 k23
 have b23 := F23.binds (ps := ["_law_cell_here", "_law_k"]) fun _ _ _ _ _ _ us hl => GO us hl (fun _ _ => rfl)
 have F24 := BG (st := GX) l24 c24 k24
 have b24 := F24.binds (ps := ["_law_cell_here", "_law_most", "_law_many"]) fun _ _ _ _ _ _ us hl => VG us hl (fun _ _ _ => rfl)
 have F25 := BG (st := GG) l25 c25 k25
 have b25 := F25.binds (ps := ["_law_script", "_law_k"]) fun _ _ _ _ _ _ us hl => GO us hl (fun _ _ => rfl)
 have F26 := BG (st := GI) l26 c26 k26
 have b26 := F26.binds (ps := ["_law_script", "_law_start"]) fun _ _ _ _ _ _ us hl => GO us hl (fun _ _ => rfl)
 have F27 := BG (st := GM) l27 c27 k27
 have b27 := F27.binds (ps := ["_law_deck_here"]) fun _ _ _ _ _ _ us hl => HV us hl (fun _ => rfl)
 have F28 := BG (st := EB) l28 c28 k28
 have b28 := F28.binds (ps := ["_law_deck_here"]) fun _ _ _ _ _ _ us hl => HV us hl (fun _ => rfl)
 have F29 := BG (st := EW) l29 c29 k29
 have b29 := F29.binds (ps := ["_law_deck_here", "_law_most"]) fun _ _ _ _ _ _ us hl => GO us hl (fun _ _ => rfl)
 have F30 := BG (st := IA) l30 c30 k30
 have b30 := F30.binds (ps := ["_law_found"]) fun _ _ _ _ _ _ us hl => HV us hl (fun _ => rfl)
 have F31 := BG (st := DE) l31 c31 k31
 have b31 := F31.binds (ps := ["_law_statement"]) fun _ _ _ _ _ _ us hl => HV us hl (fun _ => rfl)
 have F32 := BG (st := EY) l32 c32 k32
 have b32 := F32.binds (ps := ["_law_place", "_law_heading", "_law_steps"]) fun _ _ _ _ _ _ us hl => VG us hl (fun _ _ _ => rfl)
 have F33 := BG (st := ED) l33 c33 k33
 have b33 := F33.binds (ps := ["_law_body"]) fun _ _ _ _ _ _ us hl => HV us hl (fun _ => rfl)
 have F34 := BG (st := IV) l34 c34 k34
 have b34 := F34.binds (ps := ["_law_script"]) fun _ _ _ _ _ _ us hl => HV us hl (fun _ => rfl)
 obtain ⟨v_ROUND, r_ROUND, p_ROUND⟩ := LR k_ROUND
 obtain ⟨v_BEGINNING, r_BEGINNING, p_BEGINNING⟩ := LR k_BEGINNING
 obtain ⟨v_STEPS, r_STEPS, p_STEPS⟩ := LR k_STEPS
 obtain ⟨v_INKS, r_INKS, p_INKS⟩ := LR k_INKS
 obtain ⟨v_MOST_AMOUNT, r_MOST_AMOUNT, p_MOST_AMOUNT⟩ := LR k_MOST_AMOUNT
 have T : Txt K mg ⟨_, _, _, _, _, _, _, _, _, _, _, _, _, _, _, _, _, _, _, _, _, _, _, _, _, _, _, _, _, _, _, _, _, _, _, _, _, _, _, _, _, _, _, _, _, _, _, _, _, _, _, _, _, _, _, _, _, _, _, _, _, _, _, _, _, _, _, _, _, _, _, _, _, _, _, _, _, _, _, _, _, _, _⟩ := ⟨⟨F0, b0, PySem.W.mg_of X G a0⟩, ⟨F1, b1, PySem.W.mg_of X G a1⟩, ⟨F2, b2, PySem.W.mg_of X G a2⟩, ⟨F3, b3, ⟨mk_Hand, a3, i3, kc_Hand⟩⟩, ⟨F4, b4, ⟨a4, i4, k4⟩⟩, ⟨F5, b5, ⟨a5, i5, k5⟩⟩, ⟨F6, b6, ⟨a6, i6, k6⟩⟩, ⟨F7, b7, ⟨a7, i7, k7⟩⟩, ⟨F8, b8, ⟨a8, i8, k8⟩⟩, ⟨F9, b9, PySem.W.mg_of X G a9⟩, ⟨F10, b10, PySem.W.mg_of X G a10⟩, ⟨F11, b11, PySem.W.mg_of X G a11⟩, ⟨F12, b12, ⟨mk_Level, a12, i12, kc_Level⟩⟩, ⟨F13, b13, ⟨a13, i13, k13⟩⟩, ⟨F14, b14, ⟨a14, i14, k14⟩⟩, ⟨F15, b15, ⟨a15, i15, k15⟩⟩, ⟨F16, b16, ⟨mk_Walk, a16, i16, kc_Walk⟩⟩, ⟨F17, b17, ⟨a17, i17, k17⟩⟩, ⟨F18, b18, ⟨a18, i18, k18⟩⟩, ⟨F19, b19, ⟨a19, i19, k19⟩⟩, ⟨F20, b20, ⟨a20, i20, k20⟩⟩, ⟨F21, b21, PySem.W.mg_of X G a21⟩, ⟨F22, b22, PySem.W.mg_of X G a22⟩, ⟨F23, b23, PySem.W.mg_of X G a23⟩, ⟨F24, b24, PySem.W.mg_of X G a24⟩, ⟨F25, b25, PySem.W.mg_of X G a25⟩, ⟨F26, b26, PySem.W.mg_of X G a26⟩, ⟨F27, b27, PySem.W.mg_of X G a27⟩, ⟨F28, b28, PySem.W.mg_of X G a28⟩, ⟨F29, b29, PySem.W.mg_of X G a29⟩, ⟨F30, b30, PySem.W.mg_of X G a30⟩, ⟨F31, b31, PySem.W.mg_of X G a31⟩, ⟨F32, b32, PySem.W.mg_of X G a32⟩, ⟨F33, b33, PySem.W.mg_of X G a33⟩, ⟨F34, b34, PySem.W.mg_of X G a34⟩, ⟨pg_Hand, hd_Hand, po_Hand, sa_Hand⟩, PySem.W.mg_of X G aC_Hand, n_Hand_spot, n_Hand_heading, n_Hand_down, n_Hand_ink, n_Hand_turned, n_Hand_marks, n_Hand_strokes, n_Hand_corners, ⟨pg_Level, hd_Level, po_Level, sa_Level⟩, PySem.W.mg_of X G aC_Level, n_Level_body, n_Level_sources, n_Level_at, n_Level_begun, n_Level_rounds, ⟨pg_Walk, hd_Walk, po_Walk, sa_Walk⟩, PySem.W.mg_of X G aC_Walk, n_Walk_bodies, n_Walk_levels, n_Walk_hand, n_Walk_acts, PySem.W.mg_none_of X G z_bool, PySem.W.mg_none_of X G z_int, PySem.W.mg_none_of X G z_isinstance, PySem.W.mg_none_of X G z_len, PySem.W.mg_none_of X G z_list, PySem.W.mg_none_of X G z_max, PySem.W.mg_none_of X G z_min, PySem.W.mg_none_of X G z_range, PySem.W.mg_none_of X G z_reversed, PySem.W.mg_none_of X G z_str, PySem.W.mg_none_of X G z_tuple, PySem.W.mg_of X G g_ROUND, r_ROUND, p_ROUND, PySem.W.mg_of X G g_BEGINNING, r_BEGINNING, p_BEGINNING, PySem.W.mg_of X G g_STEPS, r_STEPS, p_STEPS, PySem.W.mg_of X G g_INKS, r_INKS, p_INKS, PySem.W.mg_of X G g_MOST_AMOUNT, r_MOST_AMOUNT, p_MOST_AMOUNT⟩
 exact ⟨_, fun s v => .of_eq rfl, fun base _ _ => bA T⟩
theorem walk {l : PySem.W.OpenLaw} {q : Program} {loose : List Str} {XP : (Str → Option Value) → Heap → Prop} {YP : World → Heap → Prop} {d : DefRec} {K : Params → PySem.W.Frag} (hn : l.most = some 63) (hdf : d.params.defaults = [])
  (hY : ∀ (w : World) (h : Heap), YP w h → (K w.params).In h)
  (F : ∀ (w : World) (mg : Str → Option Value) (fa : Addr) (h : Heap), (K w.params).In h → h.Ns mainGlobals mg → mg d.name = some (.ref fa) →
   ∃ fd : FuncData, (∀ (s : Shared) (u : Value), BindsTo s fd ⟨[u], []⟩ [("_law_script", u)]) ∧ ∀ base : Heap, (K w.params).In base → base.Ns mainGlobals mg → BY l.prog w (K w.params) mg base CX0 10 fa fd ["_law_script"] (MY (K w.params))) :
  PySem.W.WalkO q loose XP YP l.row.toRowW d [] (fun f vs => PySem.call f vs) :=
 L2.walk_of (n := 63) (k := 10) (x := "_law_script") (CX := fun _ => CX0) (sp := fun w => MY (K w.params)) hn (by decide) hdf ⟨rfl, by decide, by decide⟩ hY F (fun _ _ a ns hl _ hS => ⟨a, ns, rfl, hS, hl, fun _ => rfl⟩) fun _ _ _ _ _ z => z
end My
namespace Hd
open PySem PySem.Spec PyProof.Rows L2
noncomputable def la : List Str := List.map Str.ofString ["_law_int", "_law_found", "isinstance", "int", "bool", "_law_is_single", "_law_statement", "tuple", "len", "str", "up", "down", "go", "turn", "ink", "_law_moved", "_law_place", "_law_heading", "_law_steps", "_law_ways", "_law_east", "_law_north", "_law_x", "_law_y", "_law_here", "_law_walked", "_law_body", "_law_pen", "_law_ink", "_law_strokes", "_law_ahead", "append", "law", "_law_script", "_law_plain", "_law_deck", "_law_cell", "backwards", "_law_one", ".0", "_law_end", "_law_due", "_law_last", "_law_begin", "reversed", "_law_start", "_law_told", "run", "list", "fast", "_law_k", "_law_number", "_law_deck_here", "range", "max", "min", "_law_row", "_law_next", "pop", "_law_single", "_law_way", "_law_most", "walked", "program", "most", "walk", "Walk", "deeds", "is_done", "do_deed", "hand", "strokes", "corners", "end", "turned", "__name__", "law_turtlehouse_k54_whole_backwards", "_law_mixed", "_law_cell_here", "_law_many", "_law_rest", "turtlehouse.runs", "worth", "amount", "sources", "value", "factor", "source", "more", "MOST_AMOUNT", "TooGreat", "an amount comes to more than is allowed", "Level", "__init__", "self", "body", "at", "begun", "rounds", "is_at_end", "is_through", "begin_round", "count", "next_statement", "again_level", "level", "dict", "words", "bodies", "name", "inner", "many", "levels", "Hand", "acts", "begin", "statement", "first", "again", "if", "chosen", "do", "handed", "zip", "NUMBERS", "act", "turtlehouse.backward", "undoing", "undone", "n0", "n1", "n2", "n3", "times", "number", "moved", "place", "heading", "steps", "x", "y", "east", "north", "STEPS", "ROUND", "plus", "turtlehouse.hands", "INKS", "spot", "BEGINNING", "marks", "come_to", "start", "eighths", "back", "NoMark", "that mark was not made", "mark", "turtlehouse.floor", "one", "other", "turtlehouse.errors", "HouseError", "ValueError", "/claim/cut.py", "__doc__", "__package__", "__loader__", "__spec__", "__annotations__", "__builtins__", "__file__", "__cached__", "__module__", "__firstlineno__", "__static_attributes__", "__weakref__", "Hand.__init__", "Hand.come_to", "Hand.go", "Hand.turn", "Hand.back", "Hand.act", "Hand.end", "__dict__", "Level.__init__", "Level.is_at_end", "Level.is_through", "Level.begin_round", "Level.next_statement", "Walk.__init__", "Walk.is_done", "Walk.do_deed", "Walk.begin", "Walk.act"]
noncomputable def lb : List Str := [⟨⟨[95,108,97,119,95,105,110,116]⟩⟩, ⟨⟨[95,108,97,119,95,102,111,117,110,100]⟩⟩, ⟨⟨[105,115,105,110,115,116,97,110,99,101]⟩⟩, ⟨⟨[105,110,116]⟩⟩, ⟨⟨[98,111,111,108]⟩⟩, ⟨⟨[95,108,97,119,95,105,115,95,115,105,110,103,108,101]⟩⟩, ⟨⟨[95,108,97,119,95,115,116,97,116,101,109,101,110,116]⟩⟩, ⟨⟨[116,117,112,108,101]⟩⟩, ⟨⟨[108,101,110]⟩⟩, ⟨⟨[115,116,114]⟩⟩, ⟨⟨[117,112]⟩⟩, ⟨⟨[100,111,119,110]⟩⟩, ⟨⟨[103,111]⟩⟩, ⟨⟨[116,117,114,110]⟩⟩, ⟨⟨[105,110,107]⟩⟩, ⟨⟨[95,108,97,119,95,109,111,118,101,100]⟩⟩, ⟨⟨[95,108,97,119,95,112,108,97,99,101]⟩⟩, ⟨⟨[95,108,97,119,95,104,101,97,100,105,110,103]⟩⟩, ⟨⟨[95,108,97,119,95,115,116,101,112,115]⟩⟩, ⟨⟨[95,108,97,119,95,119,97,121,115]⟩⟩, ⟨⟨[95,108,97,119,95,101,97,115,116]⟩⟩, ⟨⟨[95,108,97,119,95,110,111,114,116,104]⟩⟩, ⟨⟨[95,108,97,119,95,120]⟩⟩, ⟨⟨[95,108,97,119,95,121]⟩⟩, ⟨⟨[95,108,97,119,95,104,101,114,101]⟩⟩, ⟨⟨[95,108,97,119,95,119,97,108,107,101,100]⟩⟩, ⟨⟨[95,108,97,119,95,98,111,100,121]⟩⟩, ⟨⟨[95,108,97,119,95,112,101,110]⟩⟩, ⟨⟨[95,108,97,119,95,105,110,107]⟩⟩, ⟨⟨[95,108,97,119,95,115,116,114,111,107,101,115]⟩⟩, ⟨⟨[95,108,97,119,95,97,104,101,97,100]⟩⟩, ⟨⟨[97,112,112,101,110,100]⟩⟩, ⟨⟨[108,97,119]⟩⟩, ⟨⟨[95,108,97,119,95,115,99,114,105,112,116]⟩⟩, ⟨⟨[95,108,97,119,95,112,108,97,105,110]⟩⟩, ⟨⟨[95,108,97,119,95,100,101,99,107]⟩⟩, ⟨⟨[95,108,97,119,95,99,101,108,108]⟩⟩, ⟨⟨[98,97,99,107,119,97,114,100,115]⟩⟩, ⟨⟨[95,108,97,119,95,111,110,101]⟩⟩, ⟨⟨[46,48]⟩⟩, ⟨⟨[95,108,97,119,95,101,110,100]⟩⟩, ⟨⟨[95,108,97,119,95,100,117,101]⟩⟩, ⟨⟨[95,108,97,119,95,108,97,115,116]⟩⟩, ⟨⟨[95,108,97,119,95,98,101,103,105,110]⟩⟩, ⟨⟨[114,101,118,101,114,115,101,100]⟩⟩, ⟨⟨[95,108,97,119,95,115,116,97,114,116]⟩⟩, ⟨⟨[95,108,97,119,95,116,111,108,100]⟩⟩, ⟨⟨[114,117,110]⟩⟩, ⟨⟨[108,105,115,116]⟩⟩, ⟨⟨[102,97,115,116]⟩⟩, ⟨⟨[95,108,97,119,95,107]⟩⟩, ⟨⟨[95,108,97,119,95,110,117,109,98,101,114]⟩⟩, ⟨⟨[95,108,97,119,95,100,101,99,107,95,104,101,114,101]⟩⟩, ⟨⟨[114,97,110,103,101]⟩⟩, ⟨⟨[109,97,120]⟩⟩, ⟨⟨[109,105,110]⟩⟩, ⟨⟨[95,108,97,119,95,114,111,119]⟩⟩, ⟨⟨[95,108,97,119,95,110,101,120,116]⟩⟩, ⟨⟨[112,111,112]⟩⟩, ⟨⟨[95,108,97,119,95,115,105,110,103,108,101]⟩⟩, ⟨⟨[95,108,97,119,95,119,97,121]⟩⟩, ⟨⟨[95,108,97,119,95,109,111,115,116]⟩⟩, ⟨⟨[119,97,108,107,101,100]⟩⟩, ⟨⟨[112,114,111,103,114,97,109]⟩⟩, ⟨⟨[109,111,115,116]⟩⟩, ⟨⟨[119,97,108,107]⟩⟩, ⟨⟨[87,97,108,107]⟩⟩, ⟨⟨[100,101,101,100,115]⟩⟩, ⟨⟨[105,115,95,100,111,110,101]⟩⟩, ⟨⟨[100,111,95,100,101,101,100]⟩⟩, ⟨⟨[104,97,110,100]⟩⟩, ⟨⟨[115,116,114,111,107,101,115]⟩⟩, ⟨⟨[99,111,114,110,101,114,115]⟩⟩, ⟨⟨[101,110,100]⟩⟩, ⟨⟨[116,117,114,110,101,100]⟩⟩, ⟨⟨[95,95,110,97,109,101,95,95]⟩⟩, ⟨⟨[108,97,119,95,116,117,114,116,108,101,104,111,117,115,101,95,107,53,52,95,119,104,111,108,101,95,98,97,99,107,119,97,114,100,115]⟩⟩, ⟨⟨[95,108,97,119,95,109,105,120,101,100]⟩⟩, ⟨⟨[95,108,97,119,95,99,101,108,108,95,104,101,114,101]⟩⟩, ⟨⟨[95,108,97,119,95,109,97,110,121]⟩⟩, ⟨⟨[95,108,97,119,95,114,101,115,116]⟩⟩, ⟨⟨[116,117,114,116,108,101,104,111,117,115,101,46,114,117,110,115]⟩⟩, ⟨⟨[119,111,114,116,104]⟩⟩, ⟨⟨[97,109,111,117,110,116]⟩⟩, ⟨⟨[115,111,117,114,99,101,115]⟩⟩, ⟨⟨[118,97,108,117,101]⟩⟩, ⟨⟨[102,97,99,116,111,114]⟩⟩, ⟨⟨[115,111,117,114,99,101]⟩⟩, ⟨⟨[109,111,114,101]⟩⟩, ⟨⟨[77,79,83,84,95,65,77,79,85,78,84]⟩⟩, ⟨⟨[84,111,111,71,114,101,97,116]⟩⟩, ⟨⟨[97,110,32,97,109,111,117,110,116,32,99,111,109,101,115,32,116,111,32,109,111,114,101,32,116,104,97,110,32,105,115,32,97,108,108,111,119,101,100]⟩⟩, ⟨⟨[76,101,118,101,108]⟩⟩, ⟨⟨[95,95,105,110,105,116,95,95]⟩⟩, ⟨⟨[115,101,108,102]⟩⟩, ⟨⟨[98,111,100,121]⟩⟩, ⟨⟨[97,116]⟩⟩, ⟨⟨[98,101,103,117,110]⟩⟩, ⟨⟨[114,111,117,110,100,115]⟩⟩, ⟨⟨[105,115,95,97,116,95,101,110,100]⟩⟩, ⟨⟨[105,115,95,116,104,114,111,117,103,104]⟩⟩, ⟨⟨[98,101,103,105,110,95,114,111,117,110,100]⟩⟩, ⟨⟨[99,111,117,110,116]⟩⟩, ⟨⟨[110,101,120,116,95,115,116,97,116,101,109,101,110,116]⟩⟩, ⟨⟨[97,103,97,105,110,95,108,101,118,101,108]⟩⟩, ⟨⟨[108,101,118,101,108]⟩⟩, ⟨⟨[100,105,99,116]⟩⟩, ⟨⟨[119,111,114,100,115]⟩⟩, ⟨⟨[98,111,100,105,101,115]⟩⟩, ⟨⟨[110,97,109,101]⟩⟩, ⟨⟨[105,110,110,101,114]⟩⟩, ⟨⟨[109,97,110,121]⟩⟩, ⟨⟨[108,101,118,101,108,115]⟩⟩, ⟨⟨[72,97,110,100]⟩⟩, ⟨⟨[97,99,116,115]⟩⟩, ⟨⟨[98,101,103,105,110]⟩⟩, ⟨⟨[115,116,97,116,101,109,101,110,116]⟩⟩, ⟨⟨[102,105,114,115,116]⟩⟩, ⟨⟨[97,103,97,105,110]⟩⟩, ⟨⟨[105,102]⟩⟩, ⟨⟨[99,104,111,115,101,110]⟩⟩, ⟨⟨[100,111]⟩⟩, ⟨⟨[104,97,110,100,101,100]⟩⟩, ⟨⟨[122,105,112]⟩⟩, ⟨⟨[78,85,77,66,69,82,83]⟩⟩, ⟨⟨[97,99,116]⟩⟩, ⟨⟨[116,117,114,116,108,101,104,111,117,115,101,46,98,97,99,107,119,97,114,100]⟩⟩, ⟨⟨[117,110,100,111,105,110,103]⟩⟩, ⟨⟨[117,110,100,111,110,101]⟩⟩, ⟨⟨[110,48]⟩⟩, ⟨⟨[110,49]⟩⟩, ⟨⟨[110,50]⟩⟩, ⟨⟨[110,51]⟩⟩, ⟨⟨[116,105,109,101,115]⟩⟩, ⟨⟨[110,117,109,98,101,114]⟩⟩, ⟨⟨[109,111,118,101,100]⟩⟩, ⟨⟨[112,108,97,99,101]⟩⟩, ⟨⟨[104,101,97,100,105,110,103]⟩⟩, ⟨⟨[115,116,101,112,115]⟩⟩, ⟨⟨[120]⟩⟩, ⟨⟨[121]⟩⟩, ⟨⟨[101,97,115,116]⟩⟩, ⟨⟨[110,111,114,116,104]⟩⟩, ⟨⟨[83,84,69,80,83]⟩⟩, ⟨⟨[82,79,85,78,68]⟩⟩, ⟨⟨[112,108,117,115]⟩⟩, ⟨⟨[116,117,114,116,108,101,104,111,117,115,101,46,104,97,110,100,115]⟩⟩, ⟨⟨[73,78,75,83]⟩⟩, ⟨⟨[115,112,111,116]⟩⟩, ⟨⟨[66,69,71,73,78,78,73,78,71]⟩⟩, ⟨⟨[109,97,114,107,115]⟩⟩, ⟨⟨[99,111,109,101,95,116,111]⟩⟩, ⟨⟨[115,116,97,114,116]⟩⟩, ⟨⟨[101,105,103,104,116,104,115]⟩⟩, ⟨⟨[98,97,99,107]⟩⟩, ⟨⟨[78,111,77,97,114,107]⟩⟩, ⟨⟨[116,104,97,116,32,109,97,114,107,32,119,97,115,32,110,111,116,32,109,97,100,101]⟩⟩, ⟨⟨[109,97,114,107]⟩⟩, ⟨⟨[116,117,114,116,108,101,104,111,117,115,101,46,102,108,111,111,114]⟩⟩, ⟨⟨[111,110,101]⟩⟩, ⟨⟨[111,116,104,101,114]⟩⟩, ⟨⟨[116,117,114,116,108,101,104,111,117,115,101,46,101,114,114,111,114,115]⟩⟩, ⟨⟨[72,111,117,115,101,69,114,114,111,114]⟩⟩, ⟨⟨[86,97,108,117,101,69,114,114,111,114]⟩⟩, ⟨⟨[47,99,108,97,105,109,47,99,117,116,46,112,121]⟩⟩, ⟨⟨[95,95,100,111,99,95,95]⟩⟩, ⟨⟨[95,95,112,97,99,107,97,103,101,95,95]⟩⟩, ⟨⟨[95,95,108,111,97,100,101,114,95,95]⟩⟩, ⟨⟨[95,95,115,112,101,99,95,95]⟩⟩, ⟨⟨[95,95,97,110,110,111,116,97,116,105,111,110,115,95,95]⟩⟩, ⟨⟨[95,95,98,117,105,108,116,105,110,115,95,95]⟩⟩, ⟨⟨[95,95,102,105,108,101,95,95]⟩⟩, ⟨⟨[95,95,99,97,99,104,101,100,95,95]⟩⟩, ⟨⟨[95,95,109,111,100,117,108,101,95,95]⟩⟩, ⟨⟨[95,95,102,105,114,115,116,108,105,110,101,110,111,95,95]⟩⟩, ⟨⟨[95,95,115,116,97,116,105,99,95,97,116,116,114,105,98,117,116,101,115,95,95]⟩⟩, ⟨⟨[95,95,119,101,97,107,114,101,102,95,95]⟩⟩, ⟨⟨[72,97,110,100,46,95,95,105,110,105,116,95,95]⟩⟩, ⟨⟨[72,97,110,100,46,99,111,109,101,95,116,111]⟩⟩, ⟨⟨[72,97,110,100,46,103,111]⟩⟩, ⟨⟨[72,97,110,100,46,116,117,114,110]⟩⟩, ⟨⟨[72,97,110,100,46,98,97,99,107]⟩⟩, ⟨⟨[72,97,110,100,46,97,99,116]⟩⟩, ⟨⟨[72,97,110,100,46,101,110,100]⟩⟩, ⟨⟨[95,95,100,105,99,116,95,95]⟩⟩, ⟨⟨[76,101,118,101,108,46,95,95,105,110,105,116,95,95]⟩⟩, ⟨⟨[76,101,118,101,108,46,105,115,95,97,116,95,101,110,100]⟩⟩, ⟨⟨[76,101,118,101,108,46,105,115,95,116,104,114,111,117,103,104]⟩⟩, ⟨⟨[76,101,118,101,108,46,98,101,103,105,110,95,114,111,117,110,100]⟩⟩, ⟨⟨[76,101,118,101,108,46,110,101,120,116,95,115,116,97,116,101,109,101,110,116]⟩⟩, ⟨⟨[87,97,108,107,46,95,95,105,110,105,116,95,95]⟩⟩, ⟨⟨[87,97,108,107,46,105,115,95,100,111,110,101]⟩⟩, ⟨⟨[87,97,108,107,46,100,111,95,100,101,101,100]⟩⟩, ⟨⟨[87,97,108,107,46,98,101,103,105,110]⟩⟩, ⟨⟨[87,97,108,107,46,97,99,116]⟩⟩]
theorem hl : la = lb := by
 unfold la lb
 iterate 195 (refine dI (atom _ _ (by kernel_rfl) (by kernel_rfl)) ?_)
 rfl
noncomputable def Gp : { G : Str → Str → Str → Str → Str → Str → Str → Str → Str → Str → Str → Str → Str → Str → Str → Str → Str → Str → Str → Str → Str → Str → Str → Str → Str → Str → Str → Str → Str → Str → Str → Str → Str → Str → Str → Str → Str → Str → Str → Str → Str → Str → Str → Str → Str → Str → Str → Str → Str → Str → Str → Str → Str → Str → Str → Str → Str → Str → Str → Str → Str → Str → Str → Str → Str → Str → Str → Str → Str → Str → Str → Str → Str → Str → Str → Str → Str → Str → Str → Str → Str → Str → Str → Str → Str → Str → Str → Str → Str → Str → Str → Str → Str → Str → Str → Str → Str → Str → Str → Str → Str → Str → Str → Str → Str → Str → Str → Str → Str → Str → Str → Str → Str → Str → Str → Str → Str → Str → Str → Str → Str → Str → Str → Str → Str → Str → Str → Str → Str → Str → Str → Str → Str → Str → Str → Str → Str → Str → Str → Str → Str → Str → Str → Str → Str → Str → Str → Str → Str → Str → Str → Str → Str → Str → Str → Str → Str → Str → Str → Str → Str → Str → Str → Str → Str → Program // PySem.Challenge.pw_turtlehouse_k54_whole_backwards = G (Str.ofString "_law_int") (Str.ofString "_law_found") (Str.ofString "isinstance") (Str.ofString "int") (Str.ofString "bool") (Str.ofString "_law_is_single") (Str.ofString "_law_statement") (Str.ofString "tuple") (Str.ofString "len") (Str.ofString "str") (Str.ofString "up") (Str.ofString "down") (Str.ofString "go") (Str.ofString "turn") (Str.ofString "ink") (Str.ofString "_law_moved") (Str.ofString "_law_place") (Str.ofString "_law_heading") (Str.ofString "_law_steps") (Str.ofString "_law_ways") (Str.ofString "_law_east") (Str.ofString "_law_north") (Str.ofString "_law_x") (Str.ofString "_law_y") (Str.ofString "_law_here") (Str.ofString "_law_walked") (Str.ofString "_law_body") (Str.ofString "_law_pen") (Str.ofString "_law_ink") (Str.ofString "_law_strokes") (Str.ofString "_law_ahead") (Str.ofString "append") (Str.ofString "law") (Str.ofString "_law_script") (Str.ofString "_law_plain") (Str.ofString "_law_deck") (Str.ofString "_law_cell") (Str.ofString "backwards") (Str.ofString "_law_one") (Str.ofString ".0") (Str.ofString "_law_end") (Str.ofString "_law_due") (Str.ofString "_law_last") (Str.ofString "_law_begin") (Str.ofString "reversed") (Str.ofString "_law_start") (Str.ofString "_law_told") (Str.ofString "run") (Str.ofString "list") (Str.ofString "fast") (Str.ofString "_law_k") (Str.ofString "_law_number") (Str.ofString "_law_deck_here") (Str.ofString "range") (Str.ofString "max") (Str.ofString "min") (Str.ofString "_law_row") (Str.ofString "_law_next") (Str.ofString "pop") (Str.ofString "_law_single") (Str.ofString "_law_way") (Str.ofString "_law_most") (Str.ofString "walked") (Str.ofString "program") (Str.ofString "most") (Str.ofString "walk") (Str.ofString "Walk") (Str.ofString "deeds") (Str.ofString "is_done") (Str.ofString "do_deed") (Str.ofString "hand") (Str.ofString "strokes") (Str.ofString "corners") (Str.ofString "end") (Str.ofString "turned") (Str.ofString "__name__") (Str.ofString "law_turtlehouse_k54_whole_backwards") (Str.ofString "_law_mixed") (Str.ofString "_law_cell_here") (Str.ofString "_law_many") (Str.ofString "_law_rest") (Str.ofString "turtlehouse.runs") (Str.ofString "worth") (Str.ofString "amount") (Str.ofString "sources") (Str.ofString "value") (Str.ofString "factor") (Str.ofString "source") (Str.ofString "more") (Str.ofString "MOST_AMOUNT") (Str.ofString "TooGreat") (Str.ofString "an amount comes to more than is allowed") (Str.ofString "Level") (Str.ofString "__init__") (Str.ofString "self") (Str.ofString "body") (Str.ofString "at") (Str.ofString "begun") (Str.ofString "rounds") (Str.ofString "is_at_end") (Str.ofString "is_through") (Str.ofString "begin_round") (Str.ofString "count") (Str.ofString "next_statement") (Str.ofString "again_level") (Str.ofString "level") (Str.ofString "dict") (Str.ofString "words") (Str.ofString "bodies") (Str.ofString "name") (Str.ofString "inner") (Str.ofString "many") (Str.ofString "levels") (Str.ofString "Hand") (Str.ofString "acts") (Str.ofString "begin") (Str.ofString "statement") (Str.ofString "first") (Str.ofString "again") (Str.ofString "if") (Str.ofString "chosen") (Str.ofString "do") (Str.ofString "handed") (Str.ofString "zip") (Str.ofString "NUMBERS") (Str.ofString "act") (Str.ofString "turtlehouse.backward") (Str.ofString "undoing") (Str.ofString "undone") (Str.ofString "n0") (Str.ofString "n1") (Str.ofString "n2") (Str.ofString "n3") (Str.ofString "times") (Str.ofString "number") (Str.ofString "moved") (Str.ofString "place") (Str.ofString "heading") (Str.ofString "steps") (Str.ofString "x") (Str.ofString "y") (Str.ofString "east") (Str.ofString "north") (Str.ofString "STEPS") (Str.ofString "ROUND") (Str.ofString "plus") (Str.ofString "turtlehouse.hands") (Str.ofString "INKS") (Str.ofString "spot") (Str.ofString "BEGINNING") (Str.ofString "marks") (Str.ofString "come_to") (Str.ofString "start") (Str.ofString "eighths") (Str.ofString "back") (Str.ofString "NoMark") (Str.ofString "that mark was not made") (Str.ofString "mark") (Str.ofString "turtlehouse.floor") (Str.ofString "one") (Str.ofString "other") (Str.ofString "turtlehouse.errors") (Str.ofString "HouseError") (Str.ofString "ValueError") (Str.ofString "/claim/cut.py") } := ⟨_, by
 unfold PySem.Challenge.pw_turtlehouse_k54_whole_backwards
 generalize Str.ofString "_law_int" = s0
 generalize Str.ofString "_law_found" = s1
 generalize Str.ofString "isinstance" = s2
 generalize Str.ofString "int" = s3
 generalize Str.ofString "bool" = s4
 generalize Str.ofString "_law_is_single" = s5
 generalize Str.ofString "_law_statement" = s6
 generalize Str.ofString "tuple" = s7
 generalize Str.ofString "len" = s8
 generalize Str.ofString "str" = s9
 generalize Str.ofString "up" = s10
 generalize Str.ofString "down" = s11
 generalize Str.ofString "go" = s12
 generalize Str.ofString "turn" = s13
 generalize Str.ofString "ink" = s14
 generalize Str.ofString "_law_moved" = s15
 generalize Str.ofString "_law_place" = s16
 generalize Str.ofString "_law_heading" = s17
 generalize Str.ofString "_law_steps" = s18
 generalize Str.ofString "_law_ways" = s19
 generalize Str.ofString "_law_east" = s20
 generalize Str.ofString "_law_north" = s21
 generalize Str.ofString "_law_x" = s22
 generalize Str.ofString "_law_y" = s23
 generalize Str.ofString "_law_here" = s24
 generalize Str.ofString "_law_walked" = s25
 generalize Str.ofString "_law_body" = s26
 generalize Str.ofString "_law_pen" = s27
 generalize Str.ofString "_law_ink" = s28
 generalize Str.ofString "_law_strokes" = s29
 generalize Str.ofString "_law_ahead" = s30
 generalize Str.ofString "append" = s31
 generalize Str.ofString "law" = s32
 generalize Str.ofString "_law_script" = s33
 generalize Str.ofString "_law_plain" = s34
 generalize Str.ofString "_law_deck" = s35
 generalize Str.ofString "_law_cell" = s36
 generalize Str.ofString "backwards" = s37
 generalize Str.ofString "_law_one" = s38
 generalize Str.ofString ".0" = s39
 generalize Str.ofString "_law_end" = s40
 generalize Str.ofString "_law_due" = s41
 generalize Str.ofString "_law_last" = s42
 generalize Str.ofString "_law_begin" = s43
 generalize Str.ofString "reversed" = s44
 generalize Str.ofString "_law_start" = s45
 generalize Str.ofString "_law_told" = s46
 generalize Str.ofString "run" = s47
 generalize Str.ofString "list" = s48
 generalize Str.ofString "fast" = s49
 generalize Str.ofString "_law_k" = s50
 generalize Str.ofString "_law_number" = s51
 generalize Str.ofString "_law_deck_here" = s52
 generalize Str.ofString "range" = s53
 generalize Str.ofString "max" = s54
 generalize Str.ofString "min" = s55
 generalize Str.ofString "_law_row" = s56
 generalize Str.ofString "_law_next" = s57
 generalize Str.ofString "pop" = s58
 generalize Str.ofString "_law_single" = s59
 generalize Str.ofString "_law_way" = s60
 generalize Str.ofString "_law_most" = s61
 generalize Str.ofString "walked" = s62
 generalize Str.ofString "program" = s63
 generalize Str.ofString "most" = s64
 generalize Str.ofString "walk" = s65
 generalize Str.ofString "Walk" = s66
 generalize Str.ofString "deeds" = s67
 generalize Str.ofString "is_done" = s68
 generalize Str.ofString "do_deed" = s69
 generalize Str.ofString "hand" = s70
 generalize Str.ofString "strokes" = s71
 generalize Str.ofString "corners" = s72
 generalize Str.ofString "end" = s73
 generalize Str.ofString "turned" = s74
 generalize Str.ofString "__name__" = s75
 generalize Str.ofString "law_turtlehouse_k54_whole_backwards" = s76
 generalize Str.ofString "_law_mixed" = s77
 generalize Str.ofString "_law_cell_here" = s78
 generalize Str.ofString "_law_many" = s79
 generalize Str.ofString "_law_rest" = s80
 generalize Str.ofString "turtlehouse.runs" = s81
 generalize Str.ofString "worth" = s82
 generalize Str.ofString "amount" = s83
 generalize Str.ofString "sources" = s84
 generalize Str.ofString "value" = s85
 generalize Str.ofString "factor" = s86
 generalize Str.ofString "source" = s87
 generalize Str.ofString "more" = s88
 generalize Str.ofString "MOST_AMOUNT" = s89
 generalize Str.ofString "TooGreat" = s90
 generalize Str.ofString "an amount comes to more than is allowed" = s91
 generalize Str.ofString "Level" = s92
 generalize Str.ofString "__init__" = s93
 generalize Str.ofString "self" = s94
 generalize Str.ofString "body" = s95
 generalize Str.ofString "at" = s96
 generalize Str.ofString "begun" = s97
 generalize Str.ofString "rounds" = s98
 generalize Str.ofString "is_at_end" = s99
 generalize Str.ofString "is_through" = s100
 generalize Str.ofString "begin_round" = s101
 generalize Str.ofString "count" = s102
 generalize Str.ofString "next_statement" = s103
 generalize Str.ofString "again_level" = s104
 generalize Str.ofString "level" = s105
 generalize Str.ofString "dict" = s106
 generalize Str.ofString "words" = s107
 generalize Str.ofString "bodies" = s108
 generalize Str.ofString "name" = s109
 generalize Str.ofString "inner" = s110
 generalize Str.ofString "many" = s111
 generalize Str.ofString "levels" = s112
 generalize Str.ofString "Hand" = s113
 generalize Str.ofString "acts" = s114
 generalize Str.ofString "begin" = s115
 generalize Str.ofString "statement" = s116
 generalize Str.ofString "first" = s117
 generalize Str.ofString "again" = s118
 generalize Str.ofString "if" = s119
 generalize Str.ofString "chosen" = s120
 generalize Str.ofString "do" = s121
 generalize Str.ofString "handed" = s122
 generalize Str.ofString "zip" = s123
 generalize Str.ofString "NUMBERS" = s124
 generalize Str.ofString "act" = s125
 generalize Str.ofString "turtlehouse.backward" = s126
 generalize Str.ofString "undoing" = s127
 generalize Str.ofString "undone" = s128
 generalize Str.ofString "n0" = s129
 generalize Str.ofString "n1" = s130
 generalize Str.ofString "n2" = s131
 generalize Str.ofString "n3" = s132
 generalize Str.ofString "times" = s133
 generalize Str.ofString "number" = s134
 generalize Str.ofString "moved" = s135
 generalize Str.ofString "place" = s136
 generalize Str.ofString "heading" = s137
 generalize Str.ofString "steps" = s138
 generalize Str.ofString "x" = s139
 generalize Str.ofString "y" = s140
 generalize Str.ofString "east" = s141
 generalize Str.ofString "north" = s142
 generalize Str.ofString "STEPS" = s143
 generalize Str.ofString "ROUND" = s144
 generalize Str.ofString "plus" = s145
 generalize Str.ofString "turtlehouse.hands" = s146
 generalize Str.ofString "INKS" = s147
 generalize Str.ofString "spot" = s148
 generalize Str.ofString "BEGINNING" = s149
 generalize Str.ofString "marks" = s150
 generalize Str.ofString "come_to" = s151
 generalize Str.ofString "start" = s152
 generalize Str.ofString "eighths" = s153
 generalize Str.ofString "back" = s154
 generalize Str.ofString "NoMark" = s155
 generalize Str.ofString "that mark was not made" = s156
 generalize Str.ofString "mark" = s157
 generalize Str.ofString "turtlehouse.floor" = s158
 generalize Str.ofString "one" = s159
 generalize Str.ofString "other" = s160
 generalize Str.ofString "turtlehouse.errors" = s161
 generalize Str.ofString "HouseError" = s162
 generalize Str.ofString "ValueError" = s163
 generalize Str.ofString "/claim/cut.py" = s164
 exact rfl⟩
noncomputable def GL (l : List Str) : Program := Gp.1 (nm l 0) (nm l 1) (nm l 2) (nm l 3) (nm l 4) (nm l 5) (nm l 6) (nm l 7) (nm l 8) (nm l 9) (nm l 10) (nm l 11) (nm l 12) (nm l 13) (nm l 14) (nm l 15) (nm l 16) (nm l 17) (nm l 18) (nm l 19) (nm l 20) (nm l 21) (nm l 22) (nm l 23) (nm l 24) (nm l 25) (nm l 26) (nm l 27) (nm l 28) (nm l 29) (nm l 30) (nm l 31) (nm l 32) (nm l 33) (nm l 34) (nm l 35) (nm l 36) (nm l 37) (nm l 38) (nm l 39) (nm l 40) (nm l 41) (nm l 42) (nm l 43) (nm l 44) (nm l 45) (nm l 46) (nm l 47) (nm l 48) (nm l 49) (nm l 50) (nm l 51) (nm l 52) (nm l 53) (nm l 54) (nm l 55) (nm l 56) (nm l 57) (nm l 58) (nm l 59) (nm l 60) (nm l 61) (nm l 62) (nm l 63) (nm l 64) (nm l 65) (nm l 66) (nm l 67) (nm l 68) (nm l 69) (nm l 70) (nm l 71) (nm l 72) (nm l 73) (nm l 74) (nm l 75) (nm l 76) (nm l 77) (nm l 78) (nm l 79) (nm l 80) (nm l 81) (nm l 82) (nm l 83) (nm l 84) (nm l 85) (nm l 86) (nm l 87) (nm l 88) (nm l 89) (nm l 90) (nm l 91) (nm l 92) (nm l 93) (nm l 94) (nm l 95) (nm l 96) (nm l 97) (nm l 98) (nm l 99) (nm l 100) (nm l 101) (nm l 102) (nm l 103) (nm l 104) (nm l 105) (nm l 106) (nm l 107) (nm l 108) (nm l 109) (nm l 110) (nm l 111) (nm l 112) (nm l 113) (nm l 114) (nm l 115) (nm l 116) (nm l 117) (nm l 118) (nm l 119) (nm l 120) (nm l 121) (nm l 122) (nm l 123) (nm l 124) (nm l 125) (nm l 126) (nm l 127) (nm l 128) (nm l 129) (nm l 130) (nm l 131) (nm l 132) (nm l 133) (nm l 134) (nm l 135) (nm l 136) (nm l 137) (nm l 138) (nm l 139) (nm l 140) (nm l 141) (nm l 142) (nm l 143) (nm l 144) (nm l 145) (nm l 146) (nm l 147) (nm l 148) (nm l 149) (nm l 150) (nm l 151) (nm l 152) (nm l 153) (nm l 154) (nm l 155) (nm l 156) (nm l 157) (nm l 158) (nm l 159) (nm l 160) (nm l 161) (nm l 162) (nm l 163) (nm l 164)
theorem hp : PySem.Challenge.pw_turtlehouse_k54_whole_backwards = GL lb := Gp.2.trans (congrArg GL hl)
noncomputable def _root_.PySem.W.Fast.tw11775031907189325893 : Program := GL lb
theorem _root_.PySem.W.Fast.te11775031907189325893 : PySem.Challenge.pw_turtlehouse_k54_whole_backwards = PySem.W.Fast.tw11775031907189325893 := hp
noncomputable def KL (p : Program) (l : List Str) (P : Params) : PySem.W.Frag := [
 (3, ⟨(.type "dict"), none, .dict ⟨[de P (nm l 75) 165 (.str (nm l 76) 599), de P (nm l 165) 166 .none, de P (nm l 166) 167 .none, de P (nm l 167) 168 (.builtin "__main__.__loader__#opaque"), de P (nm l 168) 169 .none, de P (nm l 169) 170 (.ref 6), de P (nm l 170) 171 (.ref 4), de P (nm l 171) 173 (.str (nm l 164) 172), de P (nm l 172) 174 .none, de P (nm l 162) 206 (.ref 24), de P (nm l 155) 222 (.ref 37), de P (nm l 90) 238 (.ref 49), de P (nm l 144) 242 (.int (8) 241), de P (nm l 149) 247 (.ref 54), de P (nm l 143) 286 (.ref 79), de P (nm l 145) 294 (.ref 86), de P (nm l 133) 302 (.ref 93), de P (nm l 135) 315 (.ref 100), de P (nm l 147) 319 (.int (8) 318), de P (nm l 113) 405 (.ref 159), de P (nm l 127) 416 (.ref 170), de P (nm l 37) 426 (.ref 177), de P (nm l 89) 428 (.int (1000000) 427), de P (nm l 124) 433 (.ref 178), de P (nm l 82) 447 (.ref 185), de P (nm l 92) 509 (.ref 230), de P (nm l 104) 519 (.ref 241), de P (nm l 66) 578 (.ref 282), de P (nm l 62) 588 (.ref 293), de P (nm l 47) 598 (.ref 300), de P (nm l 77) 609 (.ref 307), de P (nm l 56) 615 (.ref 312), de P (nm l 36) 624 (.ref 319), de P (nm l 35) 634 (.ref 326), de P (nm l 57) 641 (.ref 333), de P (nm l 59) 650 (.ref 340), de P (nm l 34) 659 (.ref 347), de P (nm l 0) 666 (.ref 354), de P (nm l 5) 673 (.ref 361), de P (nm l 15) 688 (.ref 368), de P (nm l 25) 702 (.ref 375), de P (nm l 32) 708 (.ref 380)]⟩ 42, ⟨[]⟩⟩),
 (22, ⟨(.type "tuple"), none, .seq ⟨[]⟩ 0, ⟨[]⟩⟩),
 (23, ⟨(.type "dict"), none, .dict ⟨[de P (nm l 173) 196 (.str (nm l 161) 187), de P (nm l 174) 200 (.int (2) 199), de P (nm l 175) 201 (.ref 22), de P (nm l 176) 203 (.ref 25), de P (nm l 165) 204 .none]⟩ 3, ⟨[]⟩⟩),
 (24, ⟨(.type "type"), none, .cls { name := nm l 162, bases := [(.type "ValueError")], mro := [(.ref 24), (.type "ValueError"), (.type "Exception"), (.type "BaseException"), (.type "object")], ns := 23, qualname := nm l 162, hasDict := true, slotNames := [], subclasses := [(.ref 37), (.ref 49)], abstract := false, collection := none, hasDel := false }, ⟨[(some (.ref 15)), none, (some (.str (nm l 162) 189)), (some (.str (nm l 162) 197)), (some (.builtin "ValueError.__new__")), (some (.bool true))]⟩⟩),
 (25, ⟨(.type "getset_descriptor"), none, .fields ⟨[(.str (nm l 176) 202), (.ref 24), (.builtin "ExceptionGroup.__weakref__"), .none]⟩, ⟨[]⟩⟩),
 (35, ⟨(.type "tuple"), none, .seq ⟨[]⟩ 0, ⟨[]⟩⟩),
 (36, ⟨(.type "dict"), none, .dict ⟨[de P (nm l 173) 214 (.str (nm l 161) 187), de P (nm l 174) 218 (.int (4) 217), de P (nm l 175) 219 (.ref 35), de P (nm l 165) 220 .none]⟩ 2, ⟨[]⟩⟩),
 (37, ⟨(.type "type"), none, .cls { name := nm l 155, bases := [(.ref 24)], mro := [(.ref 37), (.ref 24), (.type "ValueError"), (.type "Exception"), (.type "BaseException"), (.type "object")], ns := 36, qualname := nm l 155, hasDict := true, slotNames := [], subclasses := [], abstract := false, collection := none, hasDel := false }, ⟨[(some (.ref 28)), none, (some (.str (nm l 155) 207)), (some (.str (nm l 155) 215)), (some (.builtin "ValueError.__new__")), (some (.bool true))]⟩⟩),
 (47, ⟨(.type "tuple"), none, .seq ⟨[]⟩ 0, ⟨[]⟩⟩),
 (48, ⟨(.type "dict"), none, .dict ⟨[de P (nm l 173) 230 (.str (nm l 161) 187), de P (nm l 174) 234 (.int (6) 233), de P (nm l 175) 235 (.ref 47), de P (nm l 165) 236 .none]⟩ 2, ⟨[]⟩⟩),
 (49, ⟨(.type "type"), none, .cls { name := nm l 90, bases := [(.ref 24)], mro := [(.ref 49), (.ref 24), (.type "ValueError"), (.type "Exception"), (.type "BaseException"), (.type "object")], ns := 48, qualname := nm l 90, hasDict := true, slotNames := [], subclasses := [], abstract := false, collection := none, hasDel := false }, ⟨[(some (.ref 40)), none, (some (.str (nm l 90) 223)), (some (.str (nm l 90) 231)), (some (.builtin "ValueError.__new__")), (some (.bool true))]⟩⟩),
 (52, ⟨(.type "tuple"), none, .seq ⟨[(.int (0) 243), (.int (0) 244)]⟩ 0, ⟨[]⟩⟩),
 (53, ⟨(.type "tuple"), none, .seq ⟨[(.int (0) 245), (.int (0) 246)]⟩ 0, ⟨[]⟩⟩),
 (54, ⟨(.type "tuple"), none, .seq ⟨[(.ref 52), (.ref 53)]⟩ 0, ⟨[]⟩⟩),
 (55, ⟨(.type "tuple"), none, .seq ⟨[(.int (1) 248), (.int (0) 249)]⟩ 0, ⟨[]⟩⟩),
 (56, ⟨(.type "tuple"), none, .seq ⟨[(.int (0) 250), (.int (0) 251)]⟩ 0, ⟨[]⟩⟩),
 (57, ⟨(.type "tuple"), none, .seq ⟨[(.ref 55), (.ref 56)]⟩ 0, ⟨[]⟩⟩),
 (58, ⟨(.type "tuple"), none, .seq ⟨[(.int (0) 252), (.int (1) 253)]⟩ 0, ⟨[]⟩⟩),
 (59, ⟨(.type "tuple"), none, .seq ⟨[(.int (0) 254), (.int (1) 255)]⟩ 0, ⟨[]⟩⟩),
 (60, ⟨(.type "tuple"), none, .seq ⟨[(.ref 58), (.ref 59)]⟩ 0, ⟨[]⟩⟩),
 (61, ⟨(.type "tuple"), none, .seq ⟨[(.int (0) 256), (.int (0) 257)]⟩ 0, ⟨[]⟩⟩),
 (62, ⟨(.type "tuple"), none, .seq ⟨[(.int (1) 258), (.int (0) 259)]⟩ 0, ⟨[]⟩⟩),
 (63, ⟨(.type "tuple"), none, .seq ⟨[(.ref 61), (.ref 62)]⟩ 0, ⟨[]⟩⟩),
 (64, ⟨(.type "tuple"), none, .seq ⟨[(.int (0) 260), (.int (-1) 262)]⟩ 0, ⟨[]⟩⟩),
 (65, ⟨(.type "tuple"), none, .seq ⟨[(.int (0) 263), (.int (1) 264)]⟩ 0, ⟨[]⟩⟩),
 (66, ⟨(.type "tuple"), none, .seq ⟨[(.ref 64), (.ref 65)]⟩ 0, ⟨[]⟩⟩),
 (67, ⟨(.type "tuple"), none, .seq ⟨[(.int (-1) 266), (.int (0) 267)]⟩ 0, ⟨[]⟩⟩),
 (68, ⟨(.type "tuple"), none, .seq ⟨[(.int (0) 268), (.int (0) 269)]⟩ 0, ⟨[]⟩⟩),
 (69, ⟨(.type "tuple"), none, .seq ⟨[(.ref 67), (.ref 68)]⟩ 0, ⟨[]⟩⟩),
 (70, ⟨(.type "tuple"), none, .seq ⟨[(.int (0) 270), (.int (-1) 272)]⟩ 0, ⟨[]⟩⟩),
 (71, ⟨(.type "tuple"), none, .seq ⟨[(.int (0) 273), (.int (-1) 275)]⟩ 0, ⟨[]⟩⟩),
 (72, ⟨(.type "tuple"), none, .seq ⟨[(.ref 70), (.ref 71)]⟩ 0, ⟨[]⟩⟩),
 (73, ⟨(.type "tuple"), none, .seq ⟨[(.int (0) 276), (.int (0) 277)]⟩ 0, ⟨[]⟩⟩),
 (74, ⟨(.type "tuple"), none, .seq ⟨[(.int (-1) 279), (.int (0) 280)]⟩ 0, ⟨[]⟩⟩),
 (75, ⟨(.type "tuple"), none, .seq ⟨[(.ref 73), (.ref 74)]⟩ 0, ⟨[]⟩⟩),
 (76, ⟨(.type "tuple"), none, .seq ⟨[(.int (0) 281), (.int (1) 282)]⟩ 0, ⟨[]⟩⟩),
 (77, ⟨(.type "tuple"), none, .seq ⟨[(.int (0) 283), (.int (-1) 285)]⟩ 0, ⟨[]⟩⟩),
 (78, ⟨(.type "tuple"), none, .seq ⟨[(.ref 76), (.ref 77)]⟩ 0, ⟨[]⟩⟩),
 (79, ⟨(.type "tuple"), none, .seq ⟨[(.ref 57), (.ref 60), (.ref 63), (.ref 66), (.ref 69), (.ref 72), (.ref 75), (.ref 78)]⟩ 0, ⟨[]⟩⟩),
 (85, ⟨(.type "code"), none, .fields ⟨[(.str (nm l 145) 287), (.str (nm l 145) 288), (.str (nm l 164) 289), (.int (12) 0), (.int (2) 0), (.int (0) 0), (.int (0) 0), (.int (3) 0), (.ref 80), (.bool true), (.int (181) 0), (.ref 81), .none, (.ref 82), (.ref 83), (.ref 84), (.int (292) 0), (.int (12) 0), (.str (nm l 164) 293)]⟩, ⟨[]⟩⟩),
 (86, fnO p (nm l 145) 8 .none .none (.str (nm l 158) 239) none (.ref 85) .none),
 (92, ⟨(.type "code"), none, .fields ⟨[(.str (nm l 133) 295), (.str (nm l 133) 296), (.str (nm l 164) 297), (.int (14) 0), (.int (2) 0), (.int (0) 0), (.int (0) 0), (.int (3) 0), (.ref 87), (.bool true), (.int (181) 0), (.ref 88), .none, (.ref 89), (.ref 90), (.ref 91), (.int (300) 0), (.int (14) 0), (.str (nm l 164) 301)]⟩, ⟨[]⟩⟩),
 (93, fnO p (nm l 133) 9 .none .none (.str (nm l 158) 239) none (.ref 92) .none),
 (99, ⟨(.type "code"), none, .fields ⟨[(.str (nm l 135) 303), (.str (nm l 135) 304), (.str (nm l 164) 305), (.int (16) 0), (.int (3) 0), (.int (0) 0), (.int (0) 0), (.int (3) 0), (.ref 94), (.bool true), (.int (181) 0), (.ref 95), .none, (.ref 96), (.ref 97), (.ref 98), (.int (313) 0), (.int (16) 0), (.str (nm l 164) 314)]⟩, ⟨[]⟩⟩),
 (100, fnO p (nm l 135) 10 .none .none (.str (nm l 158) 239) none (.ref 99) .none),
 (113, ⟨(.type "code"), none, .fields ⟨[(.str (nm l 93) 332), (.str (nm l 177) 333), (.str (nm l 164) 334), (.int (24) 0), (.int (1) 0), (.int (0) 0), (.int (0) 0), (.int (3) 0), (.ref 108), (.bool true), (.int (181) 0), (.ref 109), .none, (.ref 110), (.ref 111), (.ref 112), (.int (336) 0), (.int (24) 0), (.str (nm l 164) 337)]⟩, ⟨[]⟩⟩),
 (114, fnM p (nm l 93) (nm l 177) 13 0 .none .none (.str (nm l 146) 316) none (.ref 113) .none),
 (120, ⟨(.type "code"), none, .fields ⟨[(.str (nm l 151) 339), (.str (nm l 178) 340), (.str (nm l 164) 341), (.int (34) 0), (.int (2) 0), (.int (0) 0), (.int (0) 0), (.int (3) 0), (.ref 115), (.bool true), (.int (181) 0), (.ref 116), .none, (.ref 117), (.ref 118), (.ref 119), (.int (344) 0), (.int (34) 0), (.str (nm l 164) 345)]⟩, ⟨[]⟩⟩),
 (121, fnM p (nm l 151) (nm l 178) 13 1 .none .none (.str (nm l 146) 316) none (.ref 120) .none),
 (127, ⟨(.type "code"), none, .fields ⟨[(.str (nm l 12) 347), (.str (nm l 179) 348), (.str (nm l 164) 349), (.int (38) 0), (.int (2) 0), (.int (0) 0), (.int (0) 0), (.int (3) 0), (.ref 122), (.bool true), (.int (181) 0), (.ref 123), .none, (.ref 124), (.ref 125), (.ref 126), (.int (353) 0), (.int (38) 0), (.str (nm l 164) 354)]⟩, ⟨[]⟩⟩),
 (128, fnM p (nm l 12) (nm l 179) 13 2 .none .none (.str (nm l 146) 316) none (.ref 127) .none),
 (134, ⟨(.type "code"), none, .fields ⟨[(.str (nm l 13) 356), (.str (nm l 180) 357), (.str (nm l 164) 358), (.int (44) 0), (.int (2) 0), (.int (0) 0), (.int (0) 0), (.int (3) 0), (.ref 129), (.bool true), (.int (181) 0), (.ref 130), .none, (.ref 131), (.ref 132), (.ref 133), (.int (361) 0), (.int (44) 0), (.str (nm l 164) 362)]⟩, ⟨[]⟩⟩),
 (135, fnM p (nm l 13) (nm l 180) 13 3 .none .none (.str (nm l 146) 316) none (.ref 134) .none),
 (141, ⟨(.type "code"), none, .fields ⟨[(.str (nm l 154) 364), (.str (nm l 181) 365), (.str (nm l 164) 366), (.int (48) 0), (.int (2) 0), (.int (0) 0), (.int (0) 0), (.int (3) 0), (.ref 136), (.bool true), (.int (181) 0), (.ref 137), .none, (.ref 138), (.ref 139), (.ref 140), (.int (371) 0), (.int (48) 0), (.str (nm l 164) 372)]⟩, ⟨[]⟩⟩),
 (142, fnM p (nm l 154) (nm l 181) 13 4 .none .none (.str (nm l 146) 316) none (.ref 141) .none),
 (148, ⟨(.type "code"), none, .fields ⟨[(.str (nm l 125) 374), (.str (nm l 182) 375), (.str (nm l 164) 376), (.int (55) 0), (.int (2) 0), (.int (0) 0), (.int (0) 0), (.int (3) 0), (.ref 143), (.bool true), (.int (181) 0), (.ref 144), .none, (.ref 145), (.ref 146), (.ref 147), (.int (380) 0), (.int (55) 0), (.str (nm l 164) 381)]⟩, ⟨[]⟩⟩),
 (149, fnM p (nm l 125) (nm l 182) 13 5 .none .none (.str (nm l 146) 316) none (.ref 148) .none),
 (155, ⟨(.type "code"), none, .fields ⟨[(.str (nm l 73) 383), (.str (nm l 183) 384), (.str (nm l 164) 385), (.int (70) 0), (.int (1) 0), (.int (0) 0), (.int (0) 0), (.int (3) 0), (.ref 150), (.bool true), (.int (181) 0), (.ref 151), .none, (.ref 152), (.ref 153), (.ref 154), (.int (387) 0), (.int (70) 0), (.str (nm l 164) 388)]⟩, ⟨[]⟩⟩),
 (156, fnM p (nm l 73) (nm l 183) 13 6 .none .none (.str (nm l 146) 316) none (.ref 155) .none),
 (157, ⟨(.type "tuple"), none, .seq ⟨[(.str (nm l 72) 390), (.str (nm l 11) 391), (.str (nm l 137) 392), (.str (nm l 14) 393), (.str (nm l 150) 394), (.str (nm l 148) 395), (.str (nm l 71) 396), (.str (nm l 74) 397)]⟩ 0, ⟨[]⟩⟩),
 (158, ⟨(.type "dict"), none, .dict ⟨[de P (nm l 173) 327 (.str (nm l 146) 316), de P (nm l 174) 331 (.int (22) 330), de P (nm l 93) 338 (.ref 114), de P (nm l 151) 346 (.ref 121), de P (nm l 12) 355 (.ref 128), de P (nm l 13) 363 (.ref 135), de P (nm l 154) 373 (.ref 142), de P (nm l 125) 382 (.ref 149), de P (nm l 73) 389 (.ref 156), de P (nm l 175) 398 (.ref 157), de P (nm l 184) 400 (.ref 160), de P (nm l 176) 402 (.ref 161), de P (nm l 165) 403 .none]⟩ 4, ⟨[]⟩⟩),
 (159, ⟨(.type "type"), none, .cls { name := nm l 113, bases := [(.type "object")], mro := [(.ref 159), (.type "object")], ns := 158, qualname := nm l 113, hasDict := true, slotNames := [], subclasses := [], abstract := false, collection := none, hasDel := false }, ⟨[none, none, (some (.str (nm l 113) 320)), (some (.str (nm l 113) 328)), (some (.builtin "object.__new__")), (some (.bool true))]⟩⟩),
 (160, ⟨(.type "getset_descriptor"), none, .fields ⟨[(.str (nm l 184) 399), (.ref 159), (.builtin "function.__dict__"), (.builtin "function.__dict__#set")]⟩, ⟨[]⟩⟩),
 (161, ⟨(.type "getset_descriptor"), none, .fields ⟨[(.str (nm l 176) 401), (.ref 159), (.builtin "ExceptionGroup.__weakref__"), .none]⟩, ⟨[]⟩⟩),
 (169, ⟨(.type "code"), none, .fields ⟨[(.str (nm l 127) 408), (.str (nm l 127) 409), (.str (nm l 164) 410), (.int (73) 0), (.int (2) 0), (.int (0) 0), (.int (0) 0), (.int (3) 0), (.ref 164), (.bool true), (.int (181) 0), (.ref 165), .none, (.ref 166), (.ref 167), (.ref 168), (.int (414) 0), (.int (73) 0), (.str (nm l 164) 415)]⟩, ⟨[]⟩⟩),
 (170, fnO p (nm l 127) 15 .none .none (.str (nm l 126) 406) none (.ref 169) .none),
 (176, ⟨(.type "code"), none, .fields ⟨[(.str (nm l 37) 417), (.str (nm l 37) 418), (.str (nm l 164) 419), (.int (80) 0), (.int (1) 0), (.int (0) 0), (.int (0) 0), (.int (3) 0), (.ref 171), (.bool true), (.int (181) 0), (.ref 172), .none, (.ref 173), (.ref 174), (.ref 175), (.int (424) 0), (.int (80) 0), (.str (nm l 164) 425)]⟩, ⟨[]⟩⟩),
 (177, fnO p (nm l 37) 16 .none .none (.str (nm l 126) 406) none (.ref 176) .none),
 (178, ⟨(.type "tuple"), none, .seq ⟨[(.str (nm l 129) 429), (.str (nm l 130) 430), (.str (nm l 131) 431), (.str (nm l 132) 432)]⟩ 0, ⟨[]⟩⟩),
 (184, ⟨(.type "code"), none, .fields ⟨[(.str (nm l 82) 436), (.str (nm l 82) 437), (.str (nm l 164) 438), (.int (90) 0), (.int (2) 0), (.int (0) 0), (.int (0) 0), (.int (3) 0), (.ref 179), (.bool true), (.int (181) 0), (.ref 180), .none, (.ref 181), (.ref 182), (.ref 183), (.int (445) 0), (.int (90) 0), (.str (nm l 164) 446)]⟩, ⟨[]⟩⟩),
 (185, fnO p (nm l 82) 20 .none .none (.str (nm l 81) 434) none (.ref 184) .none),
 (198, ⟨(.type "code"), none, .fields ⟨[(.str (nm l 93) 460), (.str (nm l 185) 461), (.str (nm l 164) 462), (.int (100) 0), (.int (3) 0), (.int (0) 0), (.int (0) 0), (.int (3) 0), (.ref 193), (.bool true), (.int (181) 0), (.ref 194), .none, (.ref 195), (.ref 196), (.ref 197), (.int (466) 0), (.int (100) 0), (.str (nm l 164) 467)]⟩, ⟨[]⟩⟩),
 (199, fnM p (nm l 93) (nm l 185) 21 0 .none .none (.str (nm l 81) 434) none (.ref 198) .none),
 (205, ⟨(.type "code"), none, .fields ⟨[(.str (nm l 99) 469), (.str (nm l 186) 470), (.str (nm l 164) 471), (.int (107) 0), (.int (1) 0), (.int (0) 0), (.int (0) 0), (.int (3) 0), (.ref 200), (.bool true), (.int (181) 0), (.ref 201), .none, (.ref 202), (.ref 203), (.ref 204), (.int (473) 0), (.int (107) 0), (.str (nm l 164) 474)]⟩, ⟨[]⟩⟩),
 (206, fnM p (nm l 99) (nm l 186) 21 1 .none .none (.str (nm l 81) 434) none (.ref 205) .none),
 (212, ⟨(.type "code"), none, .fields ⟨[(.str (nm l 100) 476), (.str (nm l 187) 477), (.str (nm l 164) 478), (.int (110) 0), (.int (1) 0), (.int (0) 0), (.int (0) 0), (.int (3) 0), (.ref 207), (.bool true), (.int (181) 0), (.ref 208), .none, (.ref 209), (.ref 210), (.ref 211), (.int (480) 0), (.int (110) 0), (.str (nm l 164) 481)]⟩, ⟨[]⟩⟩),
 (213, fnM p (nm l 100) (nm l 187) 21 2 .none .none (.str (nm l 81) 434) none (.ref 212) .none),
 (219, ⟨(.type "code"), none, .fields ⟨[(.str (nm l 101) 483), (.str (nm l 188) 484), (.str (nm l 164) 485), (.int (113) 0), (.int (1) 0), (.int (0) 0), (.int (0) 0), (.int (3) 0), (.ref 214), (.bool true), (.int (181) 0), (.ref 215), .none, (.ref 216), (.ref 217), (.ref 218), (.int (487) 0), (.int (113) 0), (.str (nm l 164) 488)]⟩, ⟨[]⟩⟩),
 (220, fnM p (nm l 101) (nm l 188) 21 3 .none .none (.str (nm l 81) 434) none (.ref 219) .none),
 (226, ⟨(.type "code"), none, .fields ⟨[(.str (nm l 103) 490), (.str (nm l 189) 491), (.str (nm l 164) 492), (.int (118) 0), (.int (1) 0), (.int (0) 0), (.int (0) 0), (.int (3) 0), (.ref 221), (.bool true), (.int (181) 0), (.ref 222), .none, (.ref 223), (.ref 224), (.ref 225), (.int (494) 0), (.int (118) 0), (.str (nm l 164) 495)]⟩, ⟨[]⟩⟩),
 (227, fnM p (nm l 103) (nm l 189) 21 4 .none .none (.str (nm l 81) 434) none (.ref 226) .none),
 (228, ⟨(.type "tuple"), none, .seq ⟨[(.str (nm l 96) 497), (.str (nm l 97) 498), (.str (nm l 95) 499), (.str (nm l 98) 500), (.str (nm l 84) 501)]⟩ 0, ⟨[]⟩⟩),
 (229, ⟨(.type "dict"), none, .dict ⟨[de P (nm l 173) 455 (.str (nm l 81) 434), de P (nm l 174) 459 (.int (98) 458), de P (nm l 93) 468 (.ref 199), de P (nm l 99) 475 (.ref 206), de P (nm l 100) 482 (.ref 213), de P (nm l 101) 489 (.ref 220), de P (nm l 103) 496 (.ref 227), de P (nm l 175) 502 (.ref 228), de P (nm l 184) 504 (.ref 231), de P (nm l 176) 506 (.ref 232), de P (nm l 165) 507 .none]⟩ 4, ⟨[]⟩⟩),
 (230, ⟨(.type "type"), none, .cls { name := nm l 92, bases := [(.type "object")], mro := [(.ref 230), (.type "object")], ns := 229, qualname := nm l 92, hasDict := true, slotNames := [], subclasses := [], abstract := false, collection := none, hasDel := false }, ⟨[none, none, (some (.str (nm l 92) 448)), (some (.str (nm l 92) 456)), (some (.builtin "object.__new__")), (some (.bool true))]⟩⟩),
 (231, ⟨(.type "getset_descriptor"), none, .fields ⟨[(.str (nm l 184) 503), (.ref 230), (.builtin "function.__dict__"), (.builtin "function.__dict__#set")]⟩, ⟨[]⟩⟩),
 (232, ⟨(.type "getset_descriptor"), none, .fields ⟨[(.str (nm l 176) 505), (.ref 230), (.builtin "ExceptionGroup.__weakref__"), .none]⟩, ⟨[]⟩⟩),
 (240, ⟨(.type "code"), none, .fields ⟨[(.str (nm l 104) 510), (.str (nm l 104) 511), (.str (nm l 164) 512), (.int (121) 0), (.int (3) 0), (.int (0) 0), (.int (0) 0), (.int (3) 0), (.ref 235), (.bool true), (.int (181) 0), (.ref 236), .none, (.ref 237), (.ref 238), (.ref 239), (.int (517) 0), (.int (121) 0), (.str (nm l 164) 518)]⟩, ⟨[]⟩⟩),
 (241, fnO p (nm l 104) 22 .none .none (.str (nm l 81) 434) none (.ref 240) .none),
 (252, ⟨(.type "code"), none, .fields ⟨[(.str (nm l 93) 532), (.str (nm l 190) 533), (.str (nm l 164) 534), (.int (128) 0), (.int (2) 0), (.int (0) 0), (.int (0) 0), (.int (3) 0), (.ref 249), (.bool true), (.int (181) 0), (.ref 250), .none, .none, .none, (.ref 251), (.int (535) 0), (.int (128) 0), (.str (nm l 164) 536)]⟩, ⟨[]⟩⟩),
 (253, fnM p (nm l 93) (nm l 190) 23 0 .none .none (.str (nm l 81) 434) none (.ref 252) .none),
 (259, ⟨(.type "code"), none, .fields ⟨[(.str (nm l 68) 538), (.str (nm l 191) 539), (.str (nm l 164) 540), (.int (135) 0), (.int (1) 0), (.int (0) 0), (.int (0) 0), (.int (3) 0), (.ref 254), (.bool true), (.int (181) 0), (.ref 255), .none, (.ref 256), (.ref 257), (.ref 258), (.int (542) 0), (.int (135) 0), (.str (nm l 164) 543)]⟩, ⟨[]⟩⟩),
 (260, fnM p (nm l 68) (nm l 191) 23 1 .none .none (.str (nm l 81) 434) none (.ref 259) .none),
 (266, ⟨(.type "code"), none, .fields ⟨[(.str (nm l 69) 545), (.str (nm l 192) 546), (.str (nm l 164) 547), (.int (140) 0), (.int (1) 0), (.int (0) 0), (.int (0) 0), (.int (3) 0), (.ref 261), (.bool true), (.int (181) 0), (.ref 262), .none, (.ref 263), (.ref 264), (.ref 265), (.int (550) 0), (.int (140) 0), (.str (nm l 164) 551)]⟩, ⟨[]⟩⟩),
 (267, fnM p (nm l 69) (nm l 192) 23 2 .none .none (.str (nm l 81) 434) none (.ref 266) .none),
 (271, ⟨(.type "code"), none, .fields ⟨[(.str (nm l 115) 553), (.str (nm l 193) 554), (.str (nm l 164) 555), (.int (147) 0), (.int (3) 0), (.int (0) 0), (.int (0) 0), (.int (3) 0), (.ref 268), (.bool true), (.int (181) 0), (.ref 269), .none, .none, .none, (.ref 270), (.int (556) 0), (.int (147) 0), (.str (nm l 164) 557)]⟩, ⟨[]⟩⟩),
 (272, fnM p (nm l 115) (nm l 193) 23 3 .none .none (.str (nm l 81) 434) none (.ref 271) .none),
 (278, ⟨(.type "code"), none, .fields ⟨[(.str (nm l 125) 559), (.str (nm l 194) 560), (.str (nm l 164) 561), (.int (162) 0), (.int (2) 0), (.int (0) 0), (.int (0) 0), (.int (3) 0), (.ref 273), (.bool true), (.int (181) 0), (.ref 274), .none, (.ref 275), (.ref 276), (.ref 277), (.int (564) 0), (.int (162) 0), (.str (nm l 164) 565)]⟩, ⟨[]⟩⟩),
 (279, fnM p (nm l 125) (nm l 194) 23 4 .none .none (.str (nm l 81) 434) none (.ref 278) .none),
 (280, ⟨(.type "tuple"), none, .seq ⟨[(.str (nm l 114) 567), (.str (nm l 108) 568), (.str (nm l 70) 569), (.str (nm l 112) 570)]⟩ 0, ⟨[]⟩⟩),
 (281, ⟨(.type "dict"), none, .dict ⟨[de P (nm l 173) 527 (.str (nm l 81) 434), de P (nm l 174) 531 (.int (126) 530), de P (nm l 93) 537 (.ref 253), de P (nm l 68) 544 (.ref 260), de P (nm l 69) 552 (.ref 267), de P (nm l 115) 558 (.ref 272), de P (nm l 125) 566 (.ref 279), de P (nm l 175) 571 (.ref 280), de P (nm l 184) 573 (.ref 283), de P (nm l 176) 575 (.ref 284), de P (nm l 165) 576 .none]⟩ 4, ⟨[]⟩⟩),
 (282, ⟨(.type "type"), none, .cls { name := nm l 66, bases := [(.type "object")], mro := [(.ref 282), (.type "object")], ns := 281, qualname := nm l 66, hasDict := true, slotNames := [], subclasses := [], abstract := false, collection := none, hasDel := false }, ⟨[none, none, (some (.str (nm l 66) 520)), (some (.str (nm l 66) 528)), (some (.builtin "object.__new__")), (some (.bool true))]⟩⟩),
 (283, ⟨(.type "getset_descriptor"), none, .fields ⟨[(.str (nm l 184) 572), (.ref 282), (.builtin "function.__dict__"), (.builtin "function.__dict__#set")]⟩, ⟨[]⟩⟩),
 (284, ⟨(.type "getset_descriptor"), none, .fields ⟨[(.str (nm l 176) 574), (.ref 282), (.builtin "ExceptionGroup.__weakref__"), .none]⟩, ⟨[]⟩⟩),
 (292, ⟨(.type "code"), none, .fields ⟨[(.str (nm l 62) 579), (.str (nm l 62) 580), (.str (nm l 164) 581), (.int (165) 0), (.int (2) 0), (.int (0) 0), (.int (0) 0), (.int (3) 0), (.ref 287), (.bool true), (.int (181) 0), (.ref 288), .none, (.ref 289), (.ref 290), (.ref 291), (.int (586) 0), (.int (165) 0), (.str (nm l 164) 587)]⟩, ⟨[]⟩⟩),
 (293, fnO p (nm l 62) 24 .none .none (.str (nm l 81) 434) none (.ref 292) .none),
 (299, ⟨(.type "code"), none, .fields ⟨[(.str (nm l 47) 589), (.str (nm l 47) 590), (.str (nm l 164) 591), (.int (172) 0), (.int (2) 0), (.int (0) 0), (.int (0) 0), (.int (3) 0), (.ref 294), (.bool true), (.int (181) 0), (.ref 295), .none, (.ref 296), (.ref 297), (.ref 298), (.int (596) 0), (.int (172) 0), (.str (nm l 164) 597)]⟩, ⟨[]⟩⟩),
 (300, fnO p (nm l 47) 25 .none .none (.str (nm l 81) 434) none (.ref 299) .none),
 (306, ⟨(.type "code"), none, .fields ⟨[(.str (nm l 77) 601), (.str (nm l 77) 602), (.str (nm l 164) 603), (.int (177) 0), (.int (2) 0), (.int (0) 0), (.int (0) 0), (.int (3) 0), (.ref 301), (.bool true), (.int (181) 0), (.ref 302), .none, (.ref 303), (.ref 304), (.ref 305), (.int (607) 0), (.int (177) 0), (.str (nm l 164) 608)]⟩, ⟨[]⟩⟩),
 (307, fnO p (nm l 77) 27 .none .none (.str (nm l 76) 599) none (.ref 306) .none),
 (311, ⟨(.type "code"), none, .fields ⟨[(.str (nm l 56) 610), (.str (nm l 56) 611), (.str (nm l 164) 612), (.int (182) 0), (.int (3) 0), (.int (0) 0), (.int (0) 0), (.int (3) 0), (.ref 308), (.bool true), (.int (181) 0), (.ref 309), .none, .none, .none, (.ref 310), (.int (613) 0), (.int (182) 0), (.str (nm l 164) 614)]⟩, ⟨[]⟩⟩),
 (312, fnO p (nm l 56) 28 .none .none (.str (nm l 76) 599) none (.ref 311) .none),
 (318, ⟨(.type "code"), none, .fields ⟨[(.str (nm l 36) 616), (.str (nm l 36) 617), (.str (nm l 164) 618), (.int (191) 0), (.int (2) 0), (.int (0) 0), (.int (0) 0), (.int (3) 0), (.ref 313), (.bool true), (.int (181) 0), (.ref 314), .none, (.ref 315), (.ref 316), (.ref 317), (.int (622) 0), (.int (191) 0), (.str (nm l 164) 623)]⟩, ⟨[]⟩⟩),
 (319, fnO p (nm l 36) 29 .none .none (.str (nm l 76) 599) none (.ref 318) .none),
 (325, ⟨(.type "code"), none, .fields ⟨[(.str (nm l 35) 625), (.str (nm l 35) 626), (.str (nm l 164) 627), (.int (198) 0), (.int (2) 0), (.int (0) 0), (.int (0) 0), (.int (3) 0), (.ref 320), (.bool true), (.int (181) 0), (.ref 321), .none, (.ref 322), (.ref 323), (.ref 324), (.int (632) 0), (.int (198) 0), (.str (nm l 164) 633)]⟩, ⟨[]⟩⟩),
 (326, fnO p (nm l 35) 30 .none .none (.str (nm l 76) 599) none (.ref 325) .none),
 (332, ⟨(.type "code"), none, .fields ⟨[(.str (nm l 57) 635), (.str (nm l 57) 636), (.str (nm l 164) 637), (.int (203) 0), (.int (1) 0), (.int (0) 0), (.int (0) 0), (.int (3) 0), (.ref 327), (.bool true), (.int (181) 0), (.ref 328), .none, (.ref 329), (.ref 330), (.ref 331), (.int (639) 0), (.int (203) 0), (.str (nm l 164) 640)]⟩, ⟨[]⟩⟩),
 (333, fnO p (nm l 57) 31 .none .none (.str (nm l 76) 599) none (.ref 332) .none),
 (339, ⟨(.type "code"), none, .fields ⟨[(.str (nm l 59) 642), (.str (nm l 59) 643), (.str (nm l 164) 644), (.int (207) 0), (.int (1) 0), (.int (0) 0), (.int (0) 0), (.int (3) 0), (.ref 334), (.bool true), (.int (181) 0), (.ref 335), .none, (.ref 336), (.ref 337), (.ref 338), (.int (648) 0), (.int (207) 0), (.str (nm l 164) 649)]⟩, ⟨[]⟩⟩),
 (340, fnO p (nm l 59) 32 .none .none (.str (nm l 76) 599) none (.ref 339) .none),
 (346, ⟨(.type "code"), none, .fields ⟨[(.str (nm l 34) 651), (.str (nm l 34) 652), (.str (nm l 164) 653), (.int (217) 0), (.int (2) 0), (.int (0) 0), (.int (0) 0), (.int (3) 0), (.ref 341), (.bool true), (.int (181) 0), (.ref 342), .none, (.ref 343), (.ref 344), (.ref 345), (.int (657) 0), (.int (217) 0), (.str (nm l 164) 658)]⟩, ⟨[]⟩⟩),
 (347, fnO p (nm l 34) 33 .none .none (.str (nm l 76) 599) none (.ref 346) .none),
 (353, ⟨(.type "code"), none, .fields ⟨[(.str (nm l 0) 660), (.str (nm l 0) 661), (.str (nm l 164) 662), (.int (222) 0), (.int (1) 0), (.int (0) 0), (.int (0) 0), (.int (3) 0), (.ref 348), (.bool true), (.int (181) 0), (.ref 349), .none, (.ref 350), (.ref 351), (.ref 352), (.int (664) 0), (.int (222) 0), (.str (nm l 164) 665)]⟩, ⟨[]⟩⟩),
 (354, fnO p (nm l 0) 34 .none .none (.str (nm l 76) 599) none (.ref 353) .none),
 (360, ⟨(.type "code"), none, .fields ⟨[(.str (nm l 5) 667), (.str (nm l 5) 668), (.str (nm l 164) 669), (.int (224) 0), (.int (1) 0), (.int (0) 0), (.int (0) 0), (.int (3) 0), (.ref 355), (.bool true), (.int (181) 0), (.ref 356), .none, (.ref 357), (.ref 358), (.ref 359), (.int (671) 0), (.int (224) 0), (.str (nm l 164) 672)]⟩, ⟨[]⟩⟩),
 (361, fnO p (nm l 5) 35 .none .none (.str (nm l 76) 599) none (.ref 360) .none),
 (367, ⟨(.type "code"), none, .fields ⟨[(.str (nm l 15) 674), (.str (nm l 15) 675), (.str (nm l 164) 676), (.int (232) 0), (.int (3) 0), (.int (0) 0), (.int (0) 0), (.int (3) 0), (.ref 362), (.bool true), (.int (181) 0), (.ref 363), .none, (.ref 364), (.ref 365), (.ref 366), (.int (686) 0), (.int (232) 0), (.str (nm l 164) 687)]⟩, ⟨[]⟩⟩),
 (368, fnO p (nm l 15) 36 .none .none (.str (nm l 76) 599) none (.ref 367) .none),
 (374, ⟨(.type "code"), none, .fields ⟨[(.str (nm l 25) 689), (.str (nm l 25) 690), (.str (nm l 164) 691), (.int (240) 0), (.int (1) 0), (.int (0) 0), (.int (0) 0), (.int (3) 0), (.ref 369), (.bool true), (.int (181) 0), (.ref 370), .none, (.ref 371), (.ref 372), (.ref 373), (.int (700) 0), (.int (240) 0), (.str (nm l 164) 701)]⟩, ⟨[]⟩⟩),
 (375, fnO p (nm l 25) 37 .none .none (.str (nm l 76) 599) none (.ref 374) .none),
 (379, ⟨(.type "code"), none, .fields ⟨[(.str (nm l 32) 703), (.str (nm l 32) 704), (.str (nm l 164) 705), (.int (259) 0), (.int (1) 0), (.int (0) 0), (.int (0) 0), (.int (3) 0), (.ref 376), (.bool true), (.int (181) 0), (.ref 377), .none, .none, .none, (.ref 378), (.int (706) 0), (.int (259) 0), (.str (nm l 164) 707)]⟩, ⟨[]⟩⟩),
 (380, fnO p (nm l 32) 38 .none .none (.str (nm l 76) 599) none (.ref 379) .none)]
noncomputable def loose (l : List Str) : List Str := [nm l 162, nm l 155, nm l 90, nm l 144, nm l 149, nm l 143, nm l 145, nm l 133, nm l 135, nm l 147, nm l 113, nm l 127, nm l 37, nm l 89, nm l 124, nm l 82, nm l 92, nm l 104, nm l 66, nm l 62, nm l 47, nm l 77, nm l 56, nm l 36, nm l 35, nm l 57, nm l 59, nm l 34, nm l 0, nm l 5, nm l 15, nm l 25]
noncomputable def vw (p : Program) : Program := PySem.W.view p [38]
noncomputable def ad : List Addr := [3, 22, 23, 24, 25, 35, 36, 37, 47, 48, 49, 52, 53, 54, 55, 56, 57, 58, 59, 60, 61, 62, 63, 64, 65, 66, 67, 68, 69, 70, 71, 72, 73, 74, 75, 76, 77, 78, 79, 85, 86, 92, 93, 99, 100, 113, 114, 120, 121, 127, 128, 134, 135, 141, 142, 148, 149, 155, 156, 157, 158, 159, 160, 161, 169, 170, 176, 177, 178, 184, 185, 198, 199, 205, 206, 212, 213, 219, 220, 226, 227, 228, 229, 230, 231, 232, 240, 241, 252, 253, 259, 260, 266, 267, 271, 272, 278, 279, 280, 281, 282, 283, 284, 292, 293, 299, 300, 306, 307, 311, 312, 318, 319, 325, 326, 332, 333, 339, 340, 346, 347, 353, 354, 360, 361, 367, 368, 374, 375, 379, 380]
noncomputable abbrev yf (s : Shared) : List (Option Obj) := ad.map s.heap.get?
noncomputable abbrev ya (p : Program) (l : List Str) (w : World) : List (Option Obj) := (KL p l w.params).map fun x => some x.2
abbrev dG (p : Program) (l : List Str) (w : World) : Prop := VQ p (vw p) (loose l) (fun s => PySem.W.recOk [] s) yf (ya p l) 5364 w
theorem run0 (w : World) : dG (GL lb) lb w := by unfold dG VQ; kernel_rfl
theorem left : PySem.W.LeftO PySem.Challenge.pw_turtlehouse_k54_whole_backwards (vw PySem.Challenge.pw_turtlehouse_k54_whole_backwards) (loose la) (fun s => PySem.W.recOk [] s) yf (ya PySem.Challenge.pw_turtlehouse_k54_whole_backwards la) 5364 :=
 tr2 (C := fun p l => PySem.W.LeftO p (vw p) (loose l) (fun s => PySem.W.recOk [] s) yf (ya p l) 5364) hp hl
  (TW (by kernel_rfl) (by kernel_rfl) (fun s => by kernel_rfl) run0)
def EG (p : Program) (l : List Str) (P : Params) (x i f c m t : Nat) : Prop := PySem.W.nsIn (KL p l P) mainGlobals (nm l x) = some (some (.ref f)) ∧ (KL p l P).lookup f = some (fnO p (nm l x) i .none .none (.str (nm l m) t) none (.ref c) .none) ∧ PySem.W.codeIn (KL p l P) (.ref c) (nm l x) = true ∧ PySem.W.keepIn (KL p l P) (.ref f) = true
theorem DI {P : Params} (x i f c m t : Nat) (h : EG (GL lb) lb P x i f c m t) : EG PySem.Challenge.pw_turtlehouse_k54_whole_backwards la P x i f c m t := tr2 (C := fun p l => EG p l P x i f c m t) hp hl h
theorem ns_in {P : Params} (x : Nat) (v : Option Value) (h : PySem.W.nsIn (KL (GL lb) lb P) mainGlobals (nm lb x) = some v) : PySem.W.nsIn (KL PySem.Challenge.pw_turtlehouse_k54_whole_backwards la P) mainGlobals (nm la x) = some v := tr2 (C := fun p l => PySem.W.nsIn (KL p l P) mainGlobals (nm l x) = some v) hp hl h
def FN (p : Program) (l : List Str) (P : Params) (a x q i j f c m t : Nat) : Prop := PySem.W.findIn (KL p l P) (.ref a) (nm l x) = some (some (.ref f)) ∧ PySem.W.isFn (KL p l P) (.ref f) = true ∧ (KL p l P).lookup f = some (fnM p (nm l x) (nm l q) i j .none .none (.str (nm l m) t) none (.ref c) .none) ∧ PySem.W.codeIn (KL p l P) (.ref c) (nm l q) = true ∧ PySem.W.keepIn (KL p l P) (.ref f) = true
theorem EF {P : Params} (a x q i j f c m t : Nat) (h : FN (GL lb) lb P a x q i j f c m t) : FN PySem.Challenge.pw_turtlehouse_k54_whole_backwards la P a x q i j f c m t := tr2 (C := fun p l => FN p l P a x q i j f c m t) hp hl h
theorem ff0 (P : Params) : EG PySem.Challenge.pw_turtlehouse_k54_whole_backwards la P 145 8 86 85 158 239 := DI 145 8 86 85 158 239 ⟨by kernel_rfl, by kernel_rfl, by kernel_rfl, by kernel_rfl⟩
theorem ff1 (P : Params) : EG PySem.Challenge.pw_turtlehouse_k54_whole_backwards la P 133 9 93 92 158 239 := DI 133 9 93 92 158 239 ⟨by kernel_rfl, by kernel_rfl, by kernel_rfl, by kernel_rfl⟩
theorem ff2 (P : Params) : EG PySem.Challenge.pw_turtlehouse_k54_whole_backwards la P 135 10 100 99 158 239 := DI 135 10 100 99 158 239 ⟨by kernel_rfl, by kernel_rfl, by kernel_rfl, by kernel_rfl⟩
theorem mm3 (P : Params) : FN PySem.Challenge.pw_turtlehouse_k54_whole_backwards la P 159 93 177 13 0 114 113 146 316 := EF 159 93 177 13 0 114 113 146 316 ⟨by kernel_rfl, by kernel_rfl, by kernel_rfl, by kernel_rfl, by kernel_rfl⟩
theorem mm4 (P : Params) : FN PySem.Challenge.pw_turtlehouse_k54_whole_backwards la P 159 151 178 13 1 121 120 146 316 := EF 159 151 178 13 1 121 120 146 316 ⟨by kernel_rfl, by kernel_rfl, by kernel_rfl, by kernel_rfl, by kernel_rfl⟩
theorem mm5 (P : Params) : FN PySem.Challenge.pw_turtlehouse_k54_whole_backwards la P 159 12 179 13 2 128 127 146 316 := EF 159 12 179 13 2 128 127 146 316 ⟨by kernel_rfl, by kernel_rfl, by kernel_rfl, by kernel_rfl, by kernel_rfl⟩
theorem mm6 (P : Params) : FN PySem.Challenge.pw_turtlehouse_k54_whole_backwards la P 159 13 180 13 3 135 134 146 316 := EF 159 13 180 13 3 135 134 146 316 ⟨by kernel_rfl, by kernel_rfl, by kernel_rfl, by kernel_rfl, by kernel_rfl⟩
theorem mm7 (P : Params) : FN PySem.Challenge.pw_turtlehouse_k54_whole_backwards la P 159 125 182 13 5 149 148 146 316 := EF 159 125 182 13 5 149 148 146 316 ⟨by kernel_rfl, by kernel_rfl, by kernel_rfl, by kernel_rfl, by kernel_rfl⟩
theorem mm8 (P : Params) : FN PySem.Challenge.pw_turtlehouse_k54_whole_backwards la P 159 73 183 13 6 156 155 146 316 := EF 159 73 183 13 6 156 155 146 316 ⟨by kernel_rfl, by kernel_rfl, by kernel_rfl, by kernel_rfl, by kernel_rfl⟩
theorem ff9 (P : Params) : EG PySem.Challenge.pw_turtlehouse_k54_whole_backwards la P 127 15 170 169 126 406 := DI 127 15 170 169 126 406 ⟨by kernel_rfl, by kernel_rfl, by kernel_rfl, by kernel_rfl⟩
theorem ff10 (P : Params) : EG PySem.Challenge.pw_turtlehouse_k54_whole_backwards la P 37 16 177 176 126 406 := DI 37 16 177 176 126 406 ⟨by kernel_rfl, by kernel_rfl, by kernel_rfl, by kernel_rfl⟩
theorem ff11 (P : Params) : EG PySem.Challenge.pw_turtlehouse_k54_whole_backwards la P 82 20 185 184 81 434 := DI 82 20 185 184 81 434 ⟨by kernel_rfl, by kernel_rfl, by kernel_rfl, by kernel_rfl⟩
theorem mm12 (P : Params) : FN PySem.Challenge.pw_turtlehouse_k54_whole_backwards la P 230 93 185 21 0 199 198 81 434 := EF 230 93 185 21 0 199 198 81 434 ⟨by kernel_rfl, by kernel_rfl, by kernel_rfl, by kernel_rfl, by kernel_rfl⟩
theorem mm13 (P : Params) : FN PySem.Challenge.pw_turtlehouse_k54_whole_backwards la P 230 99 186 21 1 206 205 81 434 := EF 230 99 186 21 1 206 205 81 434 ⟨by kernel_rfl, by kernel_rfl, by kernel_rfl, by kernel_rfl, by kernel_rfl⟩
theorem mm14 (P : Params) : FN PySem.Challenge.pw_turtlehouse_k54_whole_backwards la P 230 100 187 21 2 213 212 81 434 := EF 230 100 187 21 2 213 212 81 434 ⟨by kernel_rfl, by kernel_rfl, by kernel_rfl, by kernel_rfl, by kernel_rfl⟩
theorem mm15 (P : Params) : FN PySem.Challenge.pw_turtlehouse_k54_whole_backwards la P 230 103 189 21 4 227 226 81 434 := EF 230 103 189 21 4 227 226 81 434 ⟨by kernel_rfl, by kernel_rfl, by kernel_rfl, by kernel_rfl, by kernel_rfl⟩
theorem mm16 (P : Params) : FN PySem.Challenge.pw_turtlehouse_k54_whole_backwards la P 282 93 190 23 0 253 252 81 434 := EF 282 93 190 23 0 253 252 81 434 ⟨by kernel_rfl, by kernel_rfl, by kernel_rfl, by kernel_rfl, by kernel_rfl⟩
theorem mm17 (P : Params) : FN PySem.Challenge.pw_turtlehouse_k54_whole_backwards la P 282 68 191 23 1 260 259 81 434 := EF 282 68 191 23 1 260 259 81 434 ⟨by kernel_rfl, by kernel_rfl, by kernel_rfl, by kernel_rfl, by kernel_rfl⟩
theorem mm18 (P : Params) : FN PySem.Challenge.pw_turtlehouse_k54_whole_backwards la P 282 69 192 23 2 267 266 81 434 := EF 282 69 192 23 2 267 266 81 434 ⟨by kernel_rfl, by kernel_rfl, by kernel_rfl, by kernel_rfl, by kernel_rfl⟩
theorem mm19 (P : Params) : FN PySem.Challenge.pw_turtlehouse_k54_whole_backwards la P 282 115 193 23 3 272 271 81 434 := EF 282 115 193 23 3 272 271 81 434 ⟨by kernel_rfl, by kernel_rfl, by kernel_rfl, by kernel_rfl, by kernel_rfl⟩
theorem mm20 (P : Params) : FN PySem.Challenge.pw_turtlehouse_k54_whole_backwards la P 282 125 194 23 4 279 278 81 434 := EF 282 125 194 23 4 279 278 81 434 ⟨by kernel_rfl, by kernel_rfl, by kernel_rfl, by kernel_rfl, by kernel_rfl⟩
theorem ff21 (P : Params) : EG PySem.Challenge.pw_turtlehouse_k54_whole_backwards la P 62 24 293 292 81 434 := DI 62 24 293 292 81 434 ⟨by kernel_rfl, by kernel_rfl, by kernel_rfl, by kernel_rfl⟩
theorem ff22 (P : Params) : EG PySem.Challenge.pw_turtlehouse_k54_whole_backwards la P 47 25 300 299 81 434 := DI 47 25 300 299 81 434 ⟨by kernel_rfl, by kernel_rfl, by kernel_rfl, by kernel_rfl⟩
theorem ff23 (P : Params) : EG PySem.Challenge.pw_turtlehouse_k54_whole_backwards la P 77 27 307 306 76 599 := DI 77 27 307 306 76 599 ⟨by kernel_rfl, by kernel_rfl, by kernel_rfl, by kernel_rfl⟩
theorem ff24 (P : Params) : EG PySem.Challenge.pw_turtlehouse_k54_whole_backwards la P 56 28 312 311 76 599 := DI 56 28 312 311 76 599 ⟨by kernel_rfl, by kernel_rfl, by kernel_rfl, by kernel_rfl⟩
theorem ff25 (P : Params) : EG PySem.Challenge.pw_turtlehouse_k54_whole_backwards la P 36 29 319 318 76 599 := DI 36 29 319 318 76 599 ⟨by kernel_rfl, by kernel_rfl, by kernel_rfl, by kernel_rfl⟩
theorem ff26 (P : Params) : EG PySem.Challenge.pw_turtlehouse_k54_whole_backwards la P 35 30 326 325 76 599 := DI 35 30 326 325 76 599 ⟨by kernel_rfl, by kernel_rfl, by kernel_rfl, by kernel_rfl⟩
theorem ff27 (P : Params) : EG PySem.Challenge.pw_turtlehouse_k54_whole_backwards la P 57 31 333 332 76 599 := DI 57 31 333 332 76 599 ⟨by kernel_rfl, by kernel_rfl, by kernel_rfl, by kernel_rfl⟩
theorem ff28 (P : Params) : EG PySem.Challenge.pw_turtlehouse_k54_whole_backwards la P 59 32 340 339 76 599 := DI 59 32 340 339 76 599 ⟨by kernel_rfl, by kernel_rfl, by kernel_rfl, by kernel_rfl⟩
theorem ff29 (P : Params) : EG PySem.Challenge.pw_turtlehouse_k54_whole_backwards la P 34 33 347 346 76 599 := DI 34 33 347 346 76 599 ⟨by kernel_rfl, by kernel_rfl, by kernel_rfl, by kernel_rfl⟩
theorem ff30 (P : Params) : EG PySem.Challenge.pw_turtlehouse_k54_whole_backwards la P 0 34 354 353 76 599 := DI 0 34 354 353 76 599 ⟨by kernel_rfl, by kernel_rfl, by kernel_rfl, by kernel_rfl⟩
theorem ff31 (P : Params) : EG PySem.Challenge.pw_turtlehouse_k54_whole_backwards la P 5 35 361 360 76 599 := DI 5 35 361 360 76 599 ⟨by kernel_rfl, by kernel_rfl, by kernel_rfl, by kernel_rfl⟩
theorem ff32 (P : Params) : EG PySem.Challenge.pw_turtlehouse_k54_whole_backwards la P 15 36 368 367 76 599 := DI 15 36 368 367 76 599 ⟨by kernel_rfl, by kernel_rfl, by kernel_rfl, by kernel_rfl⟩
theorem ff33 (P : Params) : EG PySem.Challenge.pw_turtlehouse_k54_whole_backwards la P 25 37 375 374 76 599 := DI 25 37 375 374 76 599 ⟨by kernel_rfl, by kernel_rfl, by kernel_rfl, by kernel_rfl⟩
theorem ff34 (P : Params) : EG PySem.Challenge.pw_turtlehouse_k54_whole_backwards la P 32 38 380 379 76 599 := DI 32 38 380 379 76 599 ⟨by kernel_rfl, by kernel_rfl, by kernel_rfl, by kernel_rfl⟩
end Hd
open PySem PySem.W PyProof.Rows
set_option maxRecDepth 100000 in
set_option maxHeartbeats 0 in
theorem PySem.Challenge.cw_turtlehouse_k54_whole_backwards_holds : PySem.Challenge.rw_turtlehouse_k54_whole_backwards.Holds := by
 w_on; o_law
 refine PySem.W.holds_open (r := PySem.Challenge.rw_turtlehouse_k54_whole_backwards.row) (q := Hd.vw PySem.Challenge.pw_turtlehouse_k54_whole_backwards) (loose := Hd.loose Hd.la) (Xt := fun s => recOk [] s) (XP := fun _ _ => True) (Yf := Hd.yf) (Ya := Hd.ya PySem.Challenge.pw_turtlehouse_k54_whole_backwards Hd.la) (YP := InK (Hd.KL PySem.Challenge.pw_turtlehouse_k54_whole_backwards Hd.la)) (N := 5364) Hd.left (InK.of fun P => by kernel_rfl) InK.keeps (fun _ _ => trivial) (fun _ _ _ _ _ => trivial) (by rfl) (by rfl) (by rfl) (fun _ e => recFacts_of e) (by rfl) (by assumption) (by decide +kernel) ⟨rfl, rfl, rfl, rfl, rfl, by decide +kernel⟩ ?hw ?hc
 case hw => w_witness2
 case hc =>
  refine My.walk (l := PySem.Challenge.rw_turtlehouse_k54_whole_backwards) rfl rfl (fun w h Y => Y) ?F
  intro w mg fa h KX G hmg
  exact My.all_mk KX G hmg (Hd.ns_in 113 (some (.ref 159)) (by kernel_rfl)) (by kernel_rfl) (by kernel_rfl) (by kernel_rfl) (by kernel_rfl) (by kernel_rfl) (by kernel_rfl) (by kernel_rfl) (by kernel_rfl) (by kernel_rfl) (by kernel_rfl) (by kernel_rfl) (by kernel_rfl) (by kernel_rfl) (by kernel_rfl) (Hd.ns_in 92 (some (.ref 230)) (by kernel_rfl)) (by kernel_rfl) (by kernel_rfl) (by kernel_rfl) (by kernel_rfl) (by kernel_rfl) (by kernel_rfl) (by kernel_rfl) (by kernel_rfl) (by kernel_rfl) (by kernel_rfl) (by kernel_rfl) (Hd.ns_in 66 (some (.ref 282)) (by kernel_rfl)) (by kernel_rfl) (by kernel_rfl) (by kernel_rfl) (by kernel_rfl) (by kernel_rfl) (by kernel_rfl) (by kernel_rfl) (by kernel_rfl) (by kernel_rfl) (by kernel_rfl) (Hd.ff0 _).1 (Hd.ff0 _).2.1 (Hd.ff0 _).2.2.1 (Hd.ff0 _).2.2.2 (Hd.ff1 _).1 (Hd.ff1 _).2.1 (Hd.ff1 _).2.2.1 (Hd.ff1 _).2.2.2 (Hd.ff2 _).1 (Hd.ff2 _).2.1 (Hd.ff2 _).2.2.1 (Hd.ff2 _).2.2.2 (Hd.mm3 _).1 (Hd.mm3 _).2.1 (Hd.mm3 _).2.2.1 (Hd.mm3 _).2.2.2.1 (Hd.mm3 _).2.2.2.2 (Hd.mm4 _).1 (Hd.mm4 _).2.1 (Hd.mm4 _).2.2.1 (Hd.mm4 _).2.2.2.1 (Hd.mm4 _).2.2.2.2 (Hd.mm5 _).1 (Hd.mm5 _).2.1 (Hd.mm5 _).2.2.1 (Hd.mm5 _).2.2.2.1 (Hd.mm5 _).2.2.2.2 (Hd.mm6 _).1 (Hd.mm6 _).2.1 (Hd.mm6 _).2.2.1 (Hd.mm6 _).2.2.2.1 (Hd.mm6 _).2.2.2.2 (Hd.mm7 _).1 (Hd.mm7 _).2.1 (Hd.mm7 _).2.2.1 (Hd.mm7 _).2.2.2.1 (Hd.mm7 _).2.2.2.2 (Hd.mm8 _).1 (Hd.mm8 _).2.1 (Hd.mm8 _).2.2.1 (Hd.mm8 _).2.2.2.1 (Hd.mm8 _).2.2.2.2 (Hd.ff9 _).1 (Hd.ff9 _).2.1 (Hd.ff9 _).2.2.1 (Hd.ff9 _).2.2.2 (Hd.ff10 _).1 (Hd.ff10 _).2.1 (Hd.ff10 _).2.2.1 (Hd.ff10 _).2.2.2 (Hd.ff11 _).1 (Hd.ff11 _).2.1 (Hd.ff11 _).2.2.1 (Hd.ff11 _).2.2.2 (Hd.mm12 _).1 (Hd.mm12 _).2.1 (Hd.mm12 _).2.2.1 (Hd.mm12 _).2.2.2.1 (Hd.mm12 _).2.2.2.2 (Hd.mm13 _).1 (Hd.mm13 _).2.1 (Hd.mm13 _).2.2.1 (Hd.mm13 _).2.2.2.1 (Hd.mm13 _).2.2.2.2 (Hd.mm14 _).1 (Hd.mm14 _).2.1 (Hd.mm14 _).2.2.1 (Hd.mm14 _).2.2.2.1 (Hd.mm14 _).2.2.2.2 (Hd.mm15 _).1 (Hd.mm15 _).2.1 (Hd.mm15 _).2.2.1 (Hd.mm15 _).2.2.2.1 (Hd.mm15 _).2.2.2.2 (Hd.mm16 _).1 (Hd.mm16 _).2.1 (Hd.mm16 _).2.2.1 (Hd.mm16 _).2.2.2.1 (Hd.mm16 _).2.2.2.2 (Hd.mm17 _).1 (Hd.mm17 _).2.1 (Hd.mm17 _).2.2.1 (Hd.mm17 _).2.2.2.1 (Hd.mm17 _).2.2.2.2 (Hd.mm18 _).1 (Hd.mm18 _).2.1 (Hd.mm18 _).2.2.1 (Hd.mm18 _).2.2.2.1 (Hd.mm18 _).2.2.2.2 (Hd.mm19 _).1 (Hd.mm19 _).2.1 (Hd.mm19 _).2.2.1 (Hd.mm19 _).2.2.2.1 (Hd.mm19 _).2.2.2.2 (Hd.mm20 _).1 (Hd.mm20 _).2.1 (Hd.mm20 _).2.2.1 (Hd.mm20 _).2.2.2.1 (Hd.mm20 _).2.2.2.2 (Hd.ff21 _).1 (Hd.ff21 _).2.1 (Hd.ff21 _).2.2.1 (Hd.ff21 _).2.2.2 (Hd.ff22 _).1 (Hd.ff22 _).2.1 (Hd.ff22 _).2.2.1 (Hd.ff22 _).2.2.2 (Hd.ff23 _).1 (Hd.ff23 _).2.1 (Hd.ff23 _).2.2.1 (Hd.ff23 _).2.2.2 (Hd.ff24 _).1 (Hd.ff24 _).2.1 (Hd.ff24 _).2.2.1 (Hd.ff24 _).2.2.2 (Hd.ff25 _).1 (Hd.ff25 _).2.1 (Hd.ff25 _).2.2.1 (Hd.ff25 _).2.2.2 (Hd.ff26 _).1 (Hd.ff26 _).2.1 (Hd.ff26 _).2.2.1 (Hd.ff26 _).2.2.2 (Hd.ff27 _).1 (Hd.ff27 _).2.1 (Hd.ff27 _).2.2.1 (Hd.ff27 _).2.2.2 (Hd.ff28 _).1 (Hd.ff28 _).2.1 (Hd.ff28 _).2.2.1 (Hd.ff28 _).2.2.2 (Hd.ff29 _).1 (Hd.ff29 _).2.1 (Hd.ff29 _).2.2.1 (Hd.ff29 _).2.2.2 (Hd.ff30 _).1 (Hd.ff30 _).2.1 (Hd.ff30 _).2.2.1 (Hd.ff30 _).2.2.2 (Hd.ff31 _).1 (Hd.ff31 _).2.1 (Hd.ff31 _).2.2.1 (Hd.ff31 _).2.2.2 (Hd.ff32 _).1 (Hd.ff32 _).2.1 (Hd.ff32 _).2.2.1 (Hd.ff32 _).2.2.2 (Hd.ff33 _).1 (Hd.ff33 _).2.1 (Hd.ff33 _).2.2.1 (Hd.ff33 _).2.2.2 (Hd.ff34 _).1 (Hd.ff34 _).2.1 (Hd.ff34 _).2.2.1 (Hd.ff34 _).2.2.2 (Hd.ns_in 4 none (by kernel_rfl)) (Hd.ns_in 3 none (by kernel_rfl)) (Hd.ns_in 2 none (by kernel_rfl)) (Hd.ns_in 8 none (by kernel_rfl)) (Hd.ns_in 48 none (by kernel_rfl)) (Hd.ns_in 54 none (by kernel_rfl)) (Hd.ns_in 55 none (by kernel_rfl)) (Hd.ns_in 53 none (by kernel_rfl)) (Hd.ns_in 44 none (by kernel_rfl)) (Hd.ns_in 9 none (by kernel_rfl)) (Hd.ns_in 7 none (by kernel_rfl)) (Hd.ns_in 144 (some (.int (8) 241)) (by kernel_rfl)) (by kernel_rfl) (Hd.ns_in 149 (some (.ref 54)) (by kernel_rfl)) (by kernel_rfl) (Hd.ns_in 143 (some (.ref 79)) (by kernel_rfl)) (by kernel_rfl) (Hd.ns_in 147 (some (.int (8) 318)) (by kernel_rfl)) (by kernel_rfl) (Hd.ns_in 89 (some (.int (1000000) 427)) (by kernel_rfl)) (by kernel_rfl)
