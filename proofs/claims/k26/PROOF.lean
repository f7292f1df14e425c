import PyProof.Rows.All
import Wide.All
import OpenK.AllK
import Wide.FinOn
import Lean
import PyProof.EqAt
import PyProof.EqKinds
import PyProof.TupleCall
import PyProof.NeKinds
import PyProof.StrBlock
import PyProof.CallStr
import PyProof.FactsAll.zip_1
import PyProof.AttrMissSeq
import KE.KDictOf
import PyProof.Rows.TupIter
import PyProof.Rows.TopTwo
import KE.KTryDeep
import PyProof.MeetsDict
import PyProof.TupleOfGen
import PyProof.CollectIter
import KE.KRevIter
import PyProof.ZipIter
import PyProof.DictItems
import PyProof.DictWalks
import KE.KPairComp
import KE.KSortTup
import PyProof.Rows.SetFrom
import PyProof.WalksMore
import PySem.Challenge.RW_turtlehouse_k26_too_long
set_option Elab.async false
set_option linter.all false
set_option maxRecDepth 100000
set_option maxHeartbeats 4000000
namespace L2
open PySem PySem.Spec PyProof.Rows
abbrev Key := Sum Int Str
def QI : Key → Value → Bool
 | .inl k, v => Value.isInt k v
 | .inr x, v => Value.isStrOf x v
def keyH (w : World) : Key → Int
 | .inl k => hashInt k
 | .inr x => hashStr w x
theorem CV : ∀ {k : Key} {v : Value}, QI k v = true → (∃ i t, k = Sum.inl i ∧ v = Value.int i t) ∨ (∃ x t, k = Sum.inr x ∧ v = Value.str x t)
 | .inl i, v, h => by
  obtain ⟨t, e⟩ := Value.isInt_shape (k := i) (v := v) h
  exact .inl ⟨i, t, rfl, e⟩
 | .inr x, v, h => by
  obtain ⟨t, e⟩ := Value.isStrOf_shape (x := x) (v := v) h
  exact .inr ⟨x, t, rfl, e⟩
theorem YU (i : Int) (t : Tok) : QI (.inl i) (.int i t) = true := by simp [QI, Value.isInt]
theorem YT (x : Str) (t : Tok) : QI (.inr x) (.str x t) = true := by simp [QI, Value.isStrOf]
theorem mU (a b : Int) : decide ((Sum.inl a : Key) = Sum.inl b) = (a == b) := by
 by_cases e : a = b
 ·subst e; simp
 ·have h : ¬ (Sum.inl a : Key) = Sum.inl b := fun q => e (Sum.inl.inj q)
  rw [decide_eq_false h]
  exact (beq_eq_false_iff_ne.mpr e).symm
theorem nN (a b : Str) : decide ((Sum.inr a : Key) = Sum.inr b) = decide (a = b) := by
 by_cases e : a = b
 ·subst e; simp
 ·have h : ¬ (Sum.inr a : Key) = Sum.inr b := fun q => e (Sum.inr.inj q)
  rw [decide_eq_false h, decide_eq_false e]
theorem lJ (a : Int) (b : Str) : decide ((Sum.inl a : Key) = Sum.inr b) = false := decide_eq_false (fun q => nomatch q)
theorem mQ (a : Str) (b : Int) : decide ((Sum.inr a : Key) = Sum.inl b) = false := decide_eq_false (fun q => nomatch q)
def BT (prog : Program) (w : World) : PySem.KeyKind prog w Key where
 is := QI
 hash := keyH w
 inj := fun v a b ha hb => by
  rcases CV ha with ⟨i, t, rfl, rfl⟩ | ⟨x, t, rfl, rfl⟩
  ·rcases CV hb with ⟨j, u, rfl, e⟩ | ⟨y, u, rfl, e⟩
   ·injection e with e1 _; rw [e1]
   ·exact nomatch e
  ·rcases CV hb with ⟨j, u, rfl, e⟩ | ⟨y, u, rfl, e⟩
   ·exact nomatch e
   ·injection e with e1 _; rw [e1]
 byValue := fun k v h => by
  rcases CV h with ⟨i, t, rfl, rfl⟩ | ⟨x, t, rfl, rfl⟩ <;> rfl
 pyHash := fun hv h => by
  rcases CV hv with ⟨i, t, rfl, rfl⟩ | ⟨x, t, rfl, rfl⟩
  ·exact wpAny_pyHash_int h
  ·exact wpAny_pyHash_str h
 eqBool := fun hu hv h => by
  rcases CV hu with ⟨i, t, rfl, rfl⟩ | ⟨x, t, rfl, rfl⟩
  ·rcases CV hv with ⟨j, u, rfl, rfl⟩ | ⟨y, u, rfl, rfl⟩
   ·rw [mU] at h; exact wpAny_eqBool_int h
   ·rw [lJ] at h; exact SeqAt.EqAt.int_str i t y u _ _ _ _ h
  ·rcases CV hv with ⟨j, u, rfl, rfl⟩ | ⟨y, u, rfl, rfl⟩
   ·rw [mQ] at h; exact SeqAt.EqAt.str_int x t j u _ _ _ _ h
   ·rw [nN] at h; exact wpAny_eqBool_str h
 «strs» := fun k x t v h => by
  rcases CV h with ⟨i, u, rfl, e⟩ | ⟨y, u, rfl, e⟩
  ·exact nomatch e
  ·injection e with e1 _
   subst e1
   cases v <;> rfl
theorem LX (prog : Program) (w : World) (i : Int) (t : Tok) : (BT prog w).is (.inl i) (.int i t) = true := YU i t
theorem MC (prog : Program) (w : World) (x : Str) (t : Tok) : (BT prog w).is (.inr x) (.str x t) = true := YT x t
inductive V where
 | non | bl (b : Bool) | int (i : Int) | str (x : Str) | byt (b : Array UInt8) | flt (b : UInt64) | ref (a : Addr) | ty (n : String)
 deriving DecidableEq
def AY : V → Value → Prop
 | .non, u => u = Value.none
 | .bl b, u => u = Value.bool b
 | .int i, u => ∃ t, u = Value.int i t
 | .str x, u => ∃ t, u = Value.str x t
 | .byt b, u => ∃ t, u = Value.bytes b t
 | .flt b, u => ∃ t, u = Value.float b t
 | .ref a, u => u = Value.ref a
 | .ty n, u => u = Value.type n
abbrev AO : List V → List Value → Prop := Paired AY
theorem AO.length {xs : List V} {us : List Value} (r : AO xs us) : xs.length = us.length := Paired.length r
theorem AO.get : ∀ {xs : List V} {us : List Value} {i : Nat} {x : V}, AO xs us → xs[i]? = some x → ∃ u, us[i]? = some u ∧ AY x u
 | _, _, _, _, .nil, e => by simp at e
 | _, _, 0, _, .cons r _, e => by simp at e; subst e; exact ⟨_, rfl, r⟩
 | _, _, i + 1, x, .cons _ t, e => by
  obtain ⟨u, h1, h2⟩ := AO.get (i := i) (x := x) t (by simpa using e)
  exact ⟨u, by simpa using h1, h2⟩
theorem AO.set {x : V} {u : Value} (r : AY x u) : ∀ {xs : List V} {us : List Value} (i : Nat), AO xs us → AO (xs.set i x) (us.set i u)
 | _, _, _, .nil => .nil
 | _, _, 0, .cons _ t => .cons r t
 | _, _, i + 1, .cons q t => .cons q (AO.set r i t)
theorem AO.append : ∀ {xs ys : List V} {us ws : List Value}, AO xs us → AO ys ws → AO (xs ++ ys) (us ++ ws)
 | _, _, _, _, .nil, s => s
 | _, _, _, _, .cons r t, s => .cons r (AO.append t s)
theorem AO.take : ∀ {xs : List V} {us : List Value} (n : Nat), AO xs us → AO (xs.take n) (us.take n)
 | _, _, 0, _ => .nil
 | _, _, _ + 1, .nil => .nil
 | _, _, n + 1, .cons r t => .cons r (AO.take n t)
theorem AO.drop : ∀ {xs : List V} {us : List Value} (n : Nat), AO xs us → AO (xs.drop n) (us.drop n)
 | _, _, 0, r => r
 | _, _, _ + 1, .nil => .nil
 | _, _, n + 1, .cons _ t => AO.drop n t
theorem AO.none_of : ∀ {xs : List V} {us : List Value} {i : Nat}, AO xs us → xs[i]? = none → us[i]? = none := fun {xs us i} r e => by
 have h1 := r.length
 have h2 : xs.length ≤ i := List.getElem?_eq_none_iff.mp e
 exact List.getElem?_eq_none_iff.mpr (by omega)
def JK : Option V → Option Value → Prop
 | some v, some u => AY v u
 | none, none => True
 | _, _ => False
def KV {κ : Type} : List (κ × V) → List (κ × Value) → Prop := Paired fun (p : κ × V) (q : κ × Value) => p.1 = q.1 ∧ AY p.2 q.2
def kV : Key → V
 | .inl i => .int i
 | .inr x => .str x
inductive HO where
 | lst (xs : List V)
 | tup (xs : List V)
 | dK (kvs : List (Key × V)) | dT (kvs : List (List Key × V))
 | set (S : Int → Bool) (n : Nat)
 | ins (C dx : Addr) (fs : List (Str × V))
 | own (x : Addr)
 | xd (fs : List (Str × V))
 | met (f x : Addr)
 | rng (lo hi : Int)
 | frz (o : Obj) (u : HO)
 | tbl (ps : Array Value)
 | ext (φ : Heap → Prop)
abbrev Hp := Addr → Option HO
def upd (H : Hp) (a : Addr) (o : HO) : Hp := fun b => if b = a then some o else H b
theorem AB {H : Hp} {a : Addr} {o : HO} : upd H a o a = some o := by unfold upd; rw [if_pos rfl]
theorem AH {H : Hp} {a b : Addr} {o : HO} (h : b ≠ a) : upd H a o b = H b := by unfold upd; rw [if_neg h]
theorem YE {H : Hp} {a : Addr} {o u : HO} : upd (upd H a o) a u = upd H a u := by
 funext b; unfold upd; split <;> rfl
theorem BJ {H : Hp} {a b : Addr} {o u : HO} (h : H a = some o) (h' : H b = some u) (d : o ≠ u) : a ≠ b := by
 intro e; subst e; rw [h] at h'; exact d (Option.some.inj h')
theorem EC {H : Hp} {a b : Addr} {o : HO} (h : H a = some o) (h' : H b = none) : a ≠ b := by
 intro e; subst e; rw [h] at h'; cases h'
section
variable (P : Program) (w : World)
def DA (H : Hp) (h : Heap) (a : Addr) : HO → Prop
 | .lst xs => xs.length ≤ sizeLine ∧ ∃ (its : List Value) (n : Nat), AO xs its ∧ h.get? a = some { cls := .type "list", data := .seq its.toArray n }
 | .tup xs => xs.length ≤ sizeLine ∧ ∃ its : List Value, AO xs its ∧ IsTup h a its.toArray
 | .dK kvs => kvs.length ≤ sizeLine ∧ (a == sysModules) = false ∧ ∃ vs, KV kvs vs ∧ h.DictOf (BT P w) a vs
 | .dT kvs => kvs.length ≤ sizeLine ∧ (a == sysModules) = false ∧ ∃ xs : List (List Key × Addr × Value),
   Paired (fun (p : List Key × V) (q : List Key × Addr × Value) => p.1 = q.1 ∧ H q.2.1 = some (.tup (p.1.map kV)) ∧ AY p.2 q.2.2) kvs xs ∧
   ∃ o es ep, h.get? a = some o ∧ o.ExactDict ∧ o.data = .dict es ep ∧ es.toList = xs.map (entryOfKey (tupleKind (BT P w))) ∧ (xs.map (·.1)).Nodup
 | .set S n => h.SetOf (intKind P w) a S n
 | .ins C dx fs => H dx = some (.own a) ∧ fs.length ≤ 1000 ∧ dx ≠ a ∧ h.get? a = some (PySem.W.instObj C dx) ∧
   ∃ mA, h.Ns1 dx mA ∧ (∀ f, JK (fs.lookup f) (mA f)) ∧ PySem.Within mA (fs.map (·.1))
 | .own _ => ∃ o, h.get? a = some o
 | .xd fs => ∃ mA, h.Ns1 a mA ∧ ∀ f, JK (fs.lookup f) (mA f)
 | .rng lo hi => ∃ t u v, h.get? a = some { cls := .type "range", data := .fields #[.int lo t, .int hi u, .int 1 v] }
 | .frz o u => h.get? a = some o ∧ DA H h a u
 | .tbl ps => h.get? a = some { cls := .none, data := .fields ps }
 | .met f x => h.get? a = some (PySem.W.methodObj (.ref f) (.ref x))
 | .ext φ => φ h ∧ (∃ o, h.get? a = some o) ∧ ∀ h1 h2 : Heap, φ h1 → (∀ o, h1.get? a = some o → h2.get? a = some o) → φ h2
def HOk (H : Hp) (h : Heap) : Prop := ∀ a o, H a = some o → DA P w H h a o
end
section
variable {P : Program} {w : World} {H H' : Hp} {h h' : Heap} {a : Addr} {o : HO}
theorem DA.lt (x : DA P w H h a o) : a < h.objs.size := by
 cases o with
 | lst xs => obtain ⟨_, _, _, _, e⟩ := x; exact Heap.lt_size e
 | tup xs => obtain ⟨_, _, _, p⟩ := x; exact p.lt
 | dK kvs => obtain ⟨_, _, _, _, o, _, _, e, _⟩ := x; exact Heap.lt_size e
 | dT kvs => obtain ⟨_, _, _, _, o, _, _, e, _⟩ := x; exact Heap.lt_size e
 | set S n => obtain ⟨o, _, _, _, e, _⟩ := x; exact Heap.lt_size e
 | ins C dx fs => obtain ⟨_, _, _, e, _⟩ := x; exact Heap.lt_size e
 | own y => obtain ⟨_, e⟩ := x; exact Heap.lt_size e
 | xd fs => obtain ⟨_, ⟨_, _, _, e, _⟩, _⟩ := x; exact Heap.lt_size e
 | rng lo hi => obtain ⟨_, _, _, e⟩ := x; exact Heap.lt_size e
 | frz ob u => obtain ⟨e, _⟩ := x; exact Heap.lt_size e
 | tbl ps => exact Heap.lt_size (show h.get? a = some _ from x)
 | met f y => exact Heap.lt_size (show h.get? a = some _ from x)
 | ext φ => obtain ⟨_, ⟨_, e⟩, _⟩ := x; exact Heap.lt_size e
theorem Paired.mapP {α β : Type} {F G : α → β → Prop} : ∀ {l₁ : List α} {l₂ : List β}, Paired F l₁ l₂ → (∀ a b, F a b → G a b) → Paired G l₁ l₂
 | _, _, .nil, _ => .nil
 | _, _, .cons r t, f => .cons (f _ _ r) (Paired.mapP t f)
theorem DA.stay (x : DA P w H h a o) (k : ∀ b u, (b = a ∨ H b = some (.own a)) → h.get? b = some u → h'.get? b = some u)
  (ho : ∀ b, H b = some (.own a) → H' b = some (.own a)) (ht : ∀ b xs, H b = some (.tup xs) → H' b = some (.tup xs)) : DA P w H' h' a o := by
 induction o with
 | lst xs => obtain ⟨z, its, n, r, e⟩ := x; exact ⟨z, its, n, r, k _ _ (.inl rfl) e⟩
 | tup xs => obtain ⟨z, its, r, ob, e, c⟩ := x; exact ⟨z, its, r, ob, k _ _ (.inl rfl) e, c⟩
 | dK kvs => obtain ⟨z, y, vs, r, ob, es, ep, e, c⟩ := x; exact ⟨z, y, vs, r, ob, es, ep, k _ _ (.inl rfl) e, c⟩
 | dT kvs =>
  obtain ⟨z, y, xs, r, ob, es, ep, e, c⟩ := x
  exact ⟨z, y, xs, Paired.mapP r fun p q z => ⟨z.1, ht _ _ z.2.1, z.2.2⟩, ob, es, ep, k _ _ (.inl rfl) e, c⟩
 | set S n => obtain ⟨ob, es, ep, t, e, c⟩ := x; exact ⟨ob, es, ep, t, k _ _ (.inl rfl) e, c⟩
 | ins C dx fs =>
  obtain ⟨d, z, ne, e, mA, ⟨od, es, ep, e2, c⟩, r⟩ := x
  exact ⟨ho _ d, z, ne, k _ _ (.inl rfl) e, mA, ⟨od, es, ep, k _ _ (.inr d) e2, c⟩, r⟩
 | own y => obtain ⟨ob, e⟩ := x; exact ⟨ob, k _ _ (.inl rfl) e⟩
 | xd fs => obtain ⟨mA, ⟨od, es, ep, e, c⟩, r⟩ := x; exact ⟨mA, ⟨od, es, ep, k _ _ (.inl rfl) e, c⟩, r⟩
 | rng lo hi => obtain ⟨t, u, v, e⟩ := x; exact ⟨t, u, v, k _ _ (.inl rfl) e⟩
 | frz ob u ih => obtain ⟨e, q⟩ := x; exact ⟨k _ _ (.inl rfl) e, ih q⟩
 | tbl ps =>
  have e : h.get? a = some { cls := .none, data := .fields ps } := x
  show h'.get? a = some { cls := .none, data := .fields ps }
  exact k a _ (.inl rfl) e
 | met f y =>
  have e : h.get? a = some (PySem.W.methodObj (.ref f) (.ref y)) := x
  show h'.get? a = some (PySem.W.methodObj (.ref f) (.ref y))
  exact k a _ (.inl rfl) e
 | ext φ => obtain ⟨p, ⟨o, e⟩, st⟩ := x; exact ⟨st _ _ p fun o q => k _ _ (.inl rfl) q, ⟨o, k _ _ (.inl rfl) e⟩, st⟩
theorem HOk.lt (x : HOk P w H h) (e : H a = some o) : a < h.objs.size := (x a o e).lt
theorem HOk.fresh (x : HOk P w H h) (e : h.objs.size ≤ a) : H a = none := by
 cases q : H a with
 | none => rfl
 | some u => exact absurd (Nat.lt_of_lt_of_le (x.lt q) e) (Nat.lt_irrefl _)
theorem HOk.kept (x : HOk P w H h) (k : ∀ b u, h.get? b = some u → h'.get? b = some u) : HOk P w H h' := fun a o e =>
 (x a o e).stay (fun b u _ q => k b u q) (fun _ q => q) fun _ _ q => q
theorem HOk.laid (x : HOk P w H h) (k : ∀ b u, h.get? b = some u → h'.get? b = some u) (hp : h.objs.size ≤ a) (new : DA P w (upd H a o) h' a o) : HOk P w (upd H a o) h' := fun b u e => by
 have hn := x.fresh hp
 by_cases hb : b = a
 ·subst hb; rw [AB] at e; cases e; exact new
 ·rw [AH hb] at e
  exact (x b u e).stay (fun c v _ q => k c v q) (fun c q => by rw [AH (EC q hn)]; exact q) fun c xs q => by rw [AH (EC q hn)]; exact q
end
def Rd (H : Hp) (a : Addr) (u : HO) : Prop := H a = some u ∨ ∃ o, H a = some (.frz o u)
theorem Rd.ok {P : Program} {w : World} {H : Hp} {h : Heap} {a : Addr} {u : HO} (r : Rd H a u) (x : HOk P w H h) : DA P w H h a u := by
 rcases r with r | ⟨o, r⟩
 ·exact x a u r
 ·obtain ⟨_, q⟩ := x a _ r
  exact q
def Mut : Option HO → Prop
 | some (.lst _) => True
 | some (.dK _) => True
 | some (.dT _) => True
 | some (.set _ _) => True
 | some (.ins _ _ _) => True
 | some (.ext _) => True
 | _ => False
section
variable {P : Program} {w : World} {H : Hp} {h h' : Heap} {x e : Addr} {o' : HO}
theorem HOk.write (ok : HOk P w H h) (mu : Mut (H x)) (he : e = x ∨ H e = some (.own x)) (k : ∀ b u, b ≠ e → h.get? b = some u → h'.get? b = some u) (heo : ∃ u, h'.get? e = some u)
  (new : DA P w (upd H x o') h' x o') : HOk P w (upd H x o') h' := fun b u q => by
 have nown : ∀ c y, H c = some (.own y) → c ≠ x := fun c y r z => by subst z; rw [r] at mu; exact mu
 have ntup : ∀ c xs, H c = some (.tup xs) → c ≠ x := fun c xs r z => by subst z; rw [r] at mu; exact mu
 by_cases hb : b = x
 ·subst hb; rw [AB] at q; cases q; exact new
 ·rw [AH hb] at q
  by_cases hbe : b = e
  ·have q' : H b = some (.own x) := by
    rcases he with z | z
    ·exact absurd (hbe.trans z) hb
    ·rw [hbe]; exact z
   rw [q] at q'; cases q'
   obtain ⟨v, hv⟩ := heo
   exact ⟨v, by rw [hbe]; exact hv⟩
  ·refine (ok b u q).stay (fun c v hc r => k c v ?_ r) (fun c r => by rw [AH (nown c b r)]; exact r) fun c xs r => by rw [AH (ntup c xs r)]; exact r
   rcases hc with rfl | hc
   ·exact hbe
   ·rintro rfl
    rcases he with z | z
    ·exact nown c b hc z
    ·rw [hc] at z; cases z; exact hb rfl
end
structure Un (fs ex : List Addr) (H H' : Hp) (h h' : Heap) : Prop where
 keep : ∀ b o, h.get? b = some o → H b = none → b ∉ fs → b ∉ ex → h'.get? b = some o
 slot : ∀ b o, h.get? b = some o → H b = none → b ∈ fs → b ∉ ex → ∃ sl, h'.get? b = some { o with slots := sl }
 free : ∀ b o, h.get? b = some o → H b = none → b ∉ ex → H' b = none
 there : ∀ b o, h.get? b = some o → b ∉ ex → ∃ o', h'.get? b = some o'
 tups : ∀ b xs, H b = some (.tup xs) → H' b = some (.tup xs)
 frzs : ∀ b o u, H b = some (.frz o u) → H' b = some (.frz o u)
 tbls : ∀ b ps, H b = some (.tbl ps) → ∃ more, H' b = some (.tbl (ps ++ more))
section
variable {fs fs' ex ex' : List Addr} {H H1 H2 : Hp} {h h1 h2 h' : Heap} {a x e : Addr} {o : HO}
theorem Un.any (u : Un fs ex H H1 h h1) {b : Addr} {ob : Obj} (q : h.get? b = some ob) (n : H b = none) (hx : b ∉ ex) : ∃ sl, h1.get? b = some { ob with slots := sl } := by
 by_cases hb : b ∈ fs
 ·exact u.slot b ob q n hb hx
 ·exact ⟨ob.slots, u.keep b ob q n hb hx⟩
theorem Un.trans (a : Un fs ex H H1 h h1) (b : Un fs ex H1 H2 h1 h2) : Un fs ex H H2 h h2 where
 keep := fun c ob q n hc hx => b.keep c ob (a.keep c ob q n hc hx) (a.free c ob q n hx) hc hx
 slot := fun c ob q n hc hx => by
  obtain ⟨sl, e1⟩ := a.slot c ob q n hc hx
  obtain ⟨sl', e2⟩ := b.slot c _ e1 (a.free c ob q n hx) hc hx
  exact ⟨sl', e2⟩
 free := fun c ob q n hx => by
  obtain ⟨o', e1⟩ := a.there c ob q hx
  exact b.free c o' e1 (a.free c ob q n hx) hx
 there := fun c ob q hx => by
  obtain ⟨o', e1⟩ := a.there c ob q hx
  exact b.there c o' e1 hx
 tups := fun c xs q => b.tups c xs (a.tups c xs q)
 frzs := fun c ob xs q => b.frzs c ob xs (a.frzs c ob xs q)
 tbls := fun c ps q => by
  obtain ⟨m1, e1⟩ := a.tbls c ps q
  obtain ⟨m2, e2⟩ := b.tbls c _ e1
  exact ⟨m1 ++ m2, by rw [e2, Array.append_assoc]⟩
theorem Un.kept (k : ∀ b u, h.get? b = some u → h'.get? b = some u) : Un fs ex H H h h' :=
 ⟨fun b ob q _ _ _ => k b ob q, fun b ob q _ _ _ => ⟨ob.slots, k b ob q⟩, fun _ _ _ n _ => n, fun b ob q _ => ⟨ob, k b ob q⟩, fun _ _ q => q, fun _ _ _ q => q, fun _ ps q => ⟨#[], by rw [q]; simp⟩⟩
theorem Un.refl : Un fs ex H H h h := Un.kept fun _ _ q => q
theorem Un.laid (k : ∀ b u, h.get? b = some u → h'.get? b = some u) (hp : h.objs.size ≤ a) (hn : H a = none) : Un fs ex H (upd H a o) h h' where
 keep := fun b u q _ _ _ => k b u q
 slot := fun b u q _ _ _ => ⟨u.slots, k b u q⟩
 free := fun b u q n _ => by rw [AH (Nat.ne_of_lt (Nat.lt_of_lt_of_le (Heap.lt_size q) hp))]; exact n
 there := fun b u q _ => ⟨u, k b u q⟩
 tups := fun b xs q => by rw [AH (EC q hn)]; exact q
 frzs := fun b u xs q => by rw [AH (EC q hn)]; exact q
 tbls := fun b ps q => ⟨#[], by rw [AH (EC q hn), q]; simp⟩
theorem Un.write (mu : Mut (H x)) (he : e = x ∨ H e = some (.own x)) (k : ∀ b u, b ≠ e → h.get? b = some u → h'.get? b = some u) (heo : ∃ u, h'.get? e = some u) : Un fs ex H (upd H x o) h h' := by
 have hx : ∀ b, H b = none → b ≠ x := fun b n z => by subst z; rw [n] at mu; exact mu
 have hb : ∀ b, H b = none → b ≠ e := fun b n z => by
  subst z
  rcases he with r | r
  ·exact hx b n r
  ·rw [n] at r; cases r
 have hm : ∀ b u, H b = some u → ¬ Mut (some u) → b ≠ x := fun b u q nm z => by subst z; rw [q] at mu; exact nm mu
 refine ⟨fun b u q n _ _ => k b u (hb b n) q, fun b u q n _ _ => ⟨u.slots, k b u (hb b n) q⟩, fun b u q n _ => by rw [AH (hx b n)]; exact n, fun b u q _ => ?_,
  fun b xs q => by rw [AH (hm b _ q fun z => z)]; exact q, fun b u xs q => by rw [AH (hm b _ q fun z => z)]; exact q, fun b ps q => ⟨#[], by rw [AH (hm b _ q fun z => z), q]; simp⟩⟩
 by_cases hbe : b = e
 ·subst hbe; exact heo
 ·exact ⟨u, k b u hbe q⟩
theorem Un.mono (u : Un fs ex H H1 h h1) (hs : ∀ b ∈ fs, b ∈ fs') (hx : ∀ b ∈ ex, b ∈ ex') : Un fs' ex' H H1 h h1 :=
 ⟨fun b ob q n hb he => u.keep b ob q n (fun z => hb (hs b z)) fun z => he (hx b z), fun _ _ q n _ he => u.any q n fun z => he (hx _ z), fun b ob q n he => u.free b ob q n fun z => he (hx b z), fun b ob q he => u.there b ob q fun z => he (hx b z), u.tups, u.frzs, u.tbls⟩
end
def trk (h : Heap) (H : Hp) : List Addr := (List.range h.objs.size).filter fun a => (H a).isSome
def RN (h : Heap) (H : Hp) : Heap := PySem.W.hideAll h (trk h H)
theorem aH (h : Heap) (H : Hp) : (RN h H).objs.size = h.objs.size := PySem.W.hideAll_size _ _
theorem dS {h : Heap} {H : Hp} {b : Addr} {o : Obj} (e : h.get? b = some o) (n : H b = none) : (RN h H).get? b = some o :=
 PySem.W.hideAll_get _ e fun hm => by
  have q : (H b).isSome = true := (List.mem_filter.mp hm).2
  rw [n] at q; simp at q
theorem jR {h : Heap} {H : Hp} {b : Addr} {o : Obj} (e : (RN h H).get? b = some o) : h.get? b = some o ∧ H b = none := by
 have e' : h.get? b = some o := PySem.W.of_hideAll (trk h H) e
 refine ⟨e', ?_⟩
 cases q : H b with
 | none => rfl
 | some x =>
  have hm : b ∈ trk h H := List.mem_filter.mpr ⟨List.mem_range.mpr (Heap.lt_size e'), by simp [q]⟩
  have z : (RN h H).get? b = none := PySem.W.hideAll_none (trk h H) hm
  rw [z] at e; cases e
def iL (g h : Heap) (L : Addr) : List (Addr × Obj) := (List.range h.objs.size).filterMap fun a => if a = L ∨ (g.get? a).isSome = true then none else (h.get? a).map fun o => (a, o)
def DQ (g h : Heap) (L d : Addr) : List (Addr × Obj) := (iL g h L).filter fun p => decide (p.1 ≠ d)
structure Mod (K : PySem.W.Frag) (mg : Str → Option Value) (base : Heap) : Prop where
 kin : K.In base
 glob : base.Ns mainGlobals mg
 blt : ∃ mb, base.Ns builtinsNs mb ∧ ∀ x : Str, x ≠ "__name__" → mb x = bootBuiltins x
 nolimit : base.NoLimit
structure Cx where
 prog : Program
 w : World
 K : PySem.W.Frag
 mg : Str → Option Value
 base : Heap
 A : Around
 N : List Str
 s₀ : Shared
 H₀ : Hp
 env : Env
 outer : List Env
 stack : List Env
 ex : List Addr
 fn : Str → Bool
 calm : Bool
 pn : List (Addr × Obj)
 xe : Value → Shared → Prop
def frs (l : List Env) : List Addr := l.filterMap (·.frame)
abbrev Cx.fs (X : Cx) : List Addr := frs X.outer
def Vis (sc : Scope) (x : Str) : Prop := sc.names.lookup x = some .local ∨ sc.names.lookup x = some .cell ∨ sc.names.lookup x = some .free
def Loc (sc : Scope) (x : Str) : Prop := sc.names.lookup x = some .local ∨ sc.names.lookup x = some .cell
def Look (env : Env) (h : Heap) (m : Str → Option Value) (x : Str) (u : Value) : Prop :=
 (env.kindOf x = some .local ∧ m x = some u) ∨ ((env.kindOf x = some .cell ∨ env.kindOf x = some .free) ∧ ∃ c, env.cells.lookup x = some c ∧ h.IsCell c (some u))
structure Cx.Ok (X : Cx) : Prop where
 mod : Mod X.K X.mg X.base
 kind : X.env.scope.kind = .function
 glob : X.env.globals = mainGlobals
 blt : X.env.builtins = builtinsNs
 above : X.s₀.heap.objs.size ≤ X.env.locals
 inj : ∀ x y c, X.env.cells.lookup x = some c → X.env.cells.lookup y = some c → x = y
 has : ∀ x, (X.env.kindOf x = some .cell ∨ X.env.kindOf x = some .free) → ∃ c, X.env.cells.lookup x = some c
 cab : ∀ x c, X.fn x = true → X.env.cells.lookup x = some c → X.s₀.heap.objs.size ≤ c
 hd : X.calm = true → X.A.handled = none
 frames : X.A.frames = some X.stack
 stk : X.stack = X.outer ∨ (X.stack = X.env :: X.outer ∧ X.env.frame = some X.env.locals)
 exf : ∀ b ∈ X.ex, b ≠ X.env.locals ∧ ∀ x c, X.env.cells.lookup x = some c → c ≠ b
 bs : ∀ b o, X.base.get? b = some o → X.s₀.heap.get? b = some o ∧ X.H₀ b = none
 bsz : X.base.objs.size ≤ X.s₀.heap.objs.size
 noex : ∀ b o, X.base.get? b = some o → b ∉ X.ex
 exfs : ∀ b ∈ X.ex, b ∉ X.fs
 funs : X.s₀.heap.FunFrames X.base X.outer
 frf : ∀ b ∈ X.fs, X.H₀ b = none
structure Inv (X : Cx) (pins : List (Addr × Obj)) (σ : List (Option V)) (H : Hp) (s : Shared) : Prop where
 ok : X.Ok
 os : s.os = X.s₀.os
 bare : AllBare s.gens
 base : Un X.fs X.ex X.H₀ H X.s₀.heap s.heap
 loc : ∃ m, s.heap.Ns X.env.locals m ∧ ∀ (i : Nat) (x : Str) (v : V), X.N[i]? = some x → σ[i]? = some (some v) → Vis X.env.scope x → ∃ u, AY v u ∧ Look X.env s.heap m x u
 cell : ∀ x c, X.env.cells.lookup x = some c → ∃ v, s.heap.IsCell c v
 free : H X.env.locals = none
 freeC : ∀ x c, X.env.cells.lookup x = some c → H c = none
 pin : ∀ p ∈ X.pn ++ pins, s.heap.get? p.1 = some p.2 ∧ H p.1 = none ∧ p.1 ≠ X.env.locals ∧ p.1 ∉ X.fs ∧ ∀ v, p.2.data ≠ .cell v
 hok : HOk X.prog X.w H s.heap
 len : σ.length = X.N.length
section
variable {X : Cx} {pins : List (Addr × Obj)} {σ : List (Option V)} {H H' : Hp} {s : Shared} {h' : Heap}
theorem Cx.Ok.nofr (ok : X.Ok) {b : Addr} {o : Obj} (e : X.base.get? b = some o) : b ∉ X.fs := fun hb => by
 have := (ok.funs.mem hb).1
 rw [e] at this; cases this
theorem Inv.bs (I : Inv X pins σ H s) : ∀ b o, X.base.get? b = some o → s.heap.get? b = some o ∧ H b = none := fun b o e =>
 ⟨I.base.keep b o (I.ok.bs b o e).1 (I.ok.bs b o e).2 (I.ok.nofr e) (I.ok.noex b o e), I.base.free b o (I.ok.bs b o e).1 (I.ok.bs b o e).2 (I.ok.noex b o e)⟩
theorem Inv.bk (I : Inv X pins σ H s) : ∀ b o, X.base.get? b = some o → s.heap.get? b = some o := fun b o e => (I.bs b o e).1
theorem Inv.mod (I : Inv X pins σ H s) : Mod X.K X.mg X.base := I.ok.mod
theorem Inv.kIn (I : Inv X pins σ H s) : X.K.In s.heap := I.ok.mod.kin.keeps I.bk
theorem Inv.fr (I : Inv X pins σ H s) : ∃ m, Fr X.base X.env.locals s.heap m :=
 let ⟨m, hn, _⟩ := I.loc
 ⟨m, hn, I.bk, Nat.le_trans I.ok.bsz I.ok.above⟩
theorem Inv.lt (I : Inv X pins σ H s) : X.env.locals < s.heap.objs.size := let ⟨_, hn, _⟩ := I.loc; hn.lt
theorem Inv.sz (I : Inv X pins σ H s) : X.s₀.heap.objs.size ≤ s.heap.objs.size := Nat.le_trans I.ok.above (Nat.le_of_lt I.lt)
theorem Inv.nofs (I : Inv X pins σ H s) {a : Addr} (h : s.heap.objs.size ≤ a) : a ∉ X.fs := fun hb => by
 obtain ⟨_, o, ho, _⟩ := I.ok.funs.mem hb
 exact absurd (Nat.lt_of_lt_of_le (Heap.lt_size ho) (Nat.le_trans I.sz h)) (Nat.lt_irrefl _)
theorem Inv.cne (I : Inv X pins σ H s) : ∀ x c, X.env.cells.lookup x = some c → c ≠ X.env.locals := fun x c e z => by
 obtain ⟨v, o, ho, hd⟩ := I.cell x c e
 obtain ⟨m, ⟨o', es, ep, ho', hd', _⟩, _⟩ := I.loc
 rw [z, ho'] at ho; cases ho; rw [hd'] at hd; cases hd
theorem Inv.funs (I : Inv X pins σ H s) : s.heap.FunFrames X.base X.outer := by
 have all : ∀ (l : List Env), (∀ b ∈ frs l, b ∈ X.fs) → X.s₀.heap.FunFrames X.base l → s.heap.FunFrames X.base l := by
  intro l
  induction l with
  | nil => intro _ _; trivial
  | cons env r ih =>
   intro hs hl
   obtain ⟨hk, ⟨L, o, hf, hn, ho, hd⟩, hr⟩ := hl
   have hL : L ∈ X.fs := hs L (by unfold frs; rw [List.filterMap_cons, hf]; exact List.mem_cons_self)
   obtain ⟨sl, e⟩ := I.base.slot L o ho (I.ok.frf L hL) hL fun z => I.ok.exfs L z hL
   exact ⟨hk, ⟨L, _, hf, hn, e, hd⟩, ih (fun b hb => hs b (by unfold frs; rw [List.filterMap_cons, hf]; exact List.mem_cons_of_mem _ hb)) hr⟩
 exact all X.outer (fun _ hb => hb) I.ok.funs
theorem Inv.stack (I : Inv X pins σ H s) : s.heap.FunFrames X.base X.stack := by
 rcases I.ok.stk with e | ⟨e, hf⟩
 ·rw [e]; exact I.funs
 ·rw [e]
  obtain ⟨m, hn, _⟩ := I.loc
  refine .cons (by rw [I.ok.kind]; decide) hf hn ?_ I.funs
  exact Heap.get?_none_of_le (Nat.le_trans I.ok.bsz I.ok.above)
theorem Inv.stkSub (I : Inv X pins σ H s) : ∀ b ∈ frs X.stack, b ∈ X.env.locals :: X.fs := fun b hb => by
 rcases I.ok.stk with e | ⟨e, hf⟩
 ·rw [e] at hb; exact List.mem_cons_of_mem _ hb
 ·rw [e] at hb
  unfold frs at hb
  rw [List.filterMap_cons, hf] at hb
  exact hb
theorem Inv.stkFree (I : Inv X pins σ H s) : ∀ b ∈ frs X.stack, H b = none := fun b hb => by
 rcases List.mem_cons.mp (I.stkSub b hb) with e | hb
 ·rw [e]; exact I.free
 ·obtain ⟨_, o, ho, _⟩ := I.ok.funs.mem hb
  exact I.base.free b o ho (I.ok.frf b hb) fun z => I.ok.exfs b z hb
theorem Inv.step {g' : Array GenState} {t' : Nat} {d' : Drawn} {ch : List Addr} (I : Inv X pins σ H s)
  (hch : ∀ b ∈ ch, (b ∈ X.ex ∨ X.s₀.heap.objs.size ≤ b) ∧ b ≠ X.env.locals ∧ (∀ x c, X.env.cells.lookup x = some c → c ≠ b) ∧ ∀ p ∈ X.pn ++ pins, p.1 ≠ b)
  (keep : ∀ b o, b ≠ X.env.locals → b ∉ X.fs → b ∉ ch → s.heap.get? b = some o → H b = none → h'.get? b = some o)
  (slot : ∀ b o, b ≠ X.env.locals → b ∈ X.fs → b ∉ ch → s.heap.get? b = some o → H b = none → ∃ sl, h'.get? b = some { o with slots := sl }) (free : ∀ b o, b ∉ ch → s.heap.get? b = some o → H b = none → H' b = none)
  (there : ∀ b o, b ∉ ch → s.heap.get? b = some o → ∃ o', h'.get? b = some o')
  (tups : ∀ b xs, H b = some (.tup xs) → H' b = some (.tup xs)) (frzs : ∀ b o u, H b = some (.frz o u) → H' b = some (.frz o u)) (tbls : ∀ b ps, H b = some (.tbl ps) → ∃ more, H' b = some (.tbl (ps ++ more)))
  (ns : ∀ m, s.heap.Ns X.env.locals m → h'.Ns X.env.locals m) (hok : HOk X.prog X.w H' h') (hg : AllBare g') :
  Inv X pins σ H' { s with heap := h', gens := g', drawn := d', toks := t' } := by
 have neL : ∀ b o, X.s₀.heap.get? b = some o → b ≠ X.env.locals := fun b o e => Nat.ne_of_lt (Nat.lt_of_lt_of_le (Heap.lt_size e) I.ok.above)
 have neC : ∀ b o, X.s₀.heap.get? b = some o → b ∉ X.ex → b ∉ ch := fun b o e hx hb => by
  rcases (hch b hb).1 with z | z
  ·exact hx z
  ·exact absurd (Nat.lt_of_lt_of_le (Heap.lt_size e) z) (Nat.lt_irrefl _)
 have cellK : ∀ x c, X.env.cells.lookup x = some c → ∀ v, s.heap.IsCell c v → h'.IsCell c v := fun x c e v ⟨o, ho, hd⟩ => by
  have nch : c ∉ ch := fun z => (hch c z).2.2.1 x c e rfl
  by_cases hc : c ∈ X.fs
  ·obtain ⟨sl, q⟩ := slot c o (I.cne x c e) hc nch ho (I.freeC x c e)
   exact ⟨_, q, hd⟩
  ·exact ⟨o, keep c o (I.cne x c e) hc nch ho (I.freeC x c e), hd⟩
 refine ⟨I.ok, I.os, hg, ⟨fun b o e n hb hx => ?_, fun b o e n hb hx => ?_, fun b o e n hx => ?_, fun b o e hx => ?_, fun b xs e => tups b xs (I.base.tups b xs e), fun b o xs e => frzs b o xs (I.base.frzs b o xs e), fun b ps e => ?_⟩, ?_, fun x c e => ?_, ?_, fun x c e => ?_, fun p hp => ?_, hok, I.len⟩
 ·exact keep b o (neL b o e) hb (neC b o e hx) (I.base.keep b o e n hb hx) (I.base.free b o e n hx)
 ·obtain ⟨sl, e1⟩ := I.base.slot b o e n hb hx
  obtain ⟨sl', e2⟩ := slot b _ (neL b o e) hb (neC b o e hx) e1 (I.base.free b o e n hx)
  exact ⟨sl', e2⟩
 ·obtain ⟨o', e1⟩ := I.base.there b o e hx
  exact free b o' (neC b o e hx) e1 (I.base.free b o e n hx)
 ·obtain ⟨o', e1⟩ := I.base.there b o e hx
  exact there b o' (neC b o e hx) e1
 ·obtain ⟨m1, e1⟩ := I.base.tbls b ps e
  obtain ⟨m2, e2⟩ := tbls b _ e1
  exact ⟨m1 ++ m2, by rw [e2, Array.append_assoc]⟩
 ·obtain ⟨m, hn, hl⟩ := I.loc
  refine ⟨m, ns m hn, fun i x v e1 e2 e3 => ?_⟩
  obtain ⟨u, r, l⟩ := hl i x v e1 e2 e3
  refine ⟨u, r, ?_⟩
  rcases l with l | ⟨k, c, e, z⟩
  ·exact .inl l
  ·exact .inr ⟨k, c, e, cellK x c e _ z⟩
 ·obtain ⟨v, z⟩ := I.cell x c e
  exact ⟨v, cellK x c e v z⟩
 ·obtain ⟨m, ⟨o, _, _, ho, _⟩, _⟩ := I.loc
  exact free _ o (fun z => (hch _ z).2.1 rfl) ho I.free
 ·obtain ⟨v, o, ho, hd⟩ := I.cell x c e
  exact free c o (fun z => (hch c z).2.2.1 x c e rfl) ho (I.freeC x c e)
 ·obtain ⟨e, n, ne, nf, d⟩ := I.pin p hp
  have nch : p.1 ∉ ch := fun z => (hch p.1 z).2.2.2 p hp rfl
  exact ⟨keep p.1 p.2 ne nf nch e n, free p.1 p.2 nch e n, ne, nf, d⟩
theorem Inv.un {t' : Nat} (I : Inv X pins σ H s) (u : Un X.fs [] H H' s.heap h') (hok : HOk X.prog X.w H' h') : Inv X pins σ H' { s with heap := h', toks := t' } := by
 obtain ⟨m, ⟨o, es, ep, ho, r⟩, _⟩ := id I.loc
 obtain ⟨sl, hL⟩ := u.any ho I.free (by simp)
 exact I.step (g' := s.gens) (d' := s.drawn) (ch := []) (fun _ z => nomatch z) (fun b o _ hb _ e n => u.keep b o e n hb (by simp)) (fun b o _ hb _ e n => u.slot b o e n hb (by simp)) (fun b o _ e n => u.free b o e n (by simp)) (fun b o _ e => u.there b o e (by simp)) u.tups u.frzs u.tbls (fun m' hm => by
  obtain ⟨o', es', ep', ho', r'⟩ := hm
  rw [ho] at ho'; cases ho'
  exact ⟨_, es', ep', hL, r'⟩) hok I.bare
theorem Inv.call {g' : Array GenState} {t' : Nat} {d' : Drawn} {ch : List Addr} (I : Inv X pins σ H s) (u : Un (frs X.stack) ch H H' s.heap h') (hok : HOk X.prog X.w H' h') (hg : AllBare g')
  (hch : ∀ b ∈ ch, (b ∈ X.ex ∨ X.s₀.heap.objs.size ≤ b) ∧ b ≠ X.env.locals ∧ (∀ x c, X.env.cells.lookup x = some c → c ≠ b) ∧ ∀ p ∈ X.pn ++ pins, p.1 ≠ b) :
  Inv X pins σ H' { s with heap := h', gens := g', drawn := d', toks := t' } := by
 obtain ⟨m, ⟨o, es, ep, ho, r⟩, _⟩ := id I.loc
 obtain ⟨sl, hL⟩ := u.any ho I.free fun z => (hch _ z).2.1 rfl
 exact I.step (ch := ch) hch (fun b o hL hb hc e n => u.keep b o e n (fun z => (List.mem_cons.mp (I.stkSub b z)).elim hL hb) hc) (fun b o _ _ hc e n => u.any e n hc) (fun b o hc e n => u.free b o e n hc) (fun b o hc e => u.there b o e hc) u.tups u.frzs u.tbls (fun m' hm => by
  obtain ⟨o', es', ep', ho', r'⟩ := hm
  rw [ho] at ho'; cases ho'
  exact ⟨_, es', ep', hL, r'⟩) hok hg
theorem Inv.turned {t' : Nat} {it : Addr} (I : Inv X pins σ H s) (k : ∀ b o, b ≠ it → s.heap.get? b = some o → h'.get? b = some o) (hn : H it = none) (hL : it ≠ X.env.locals)
  (h1 : it ∈ X.ex ∨ X.s₀.heap.objs.size ≤ it) (h2 : ∀ x c, X.env.cells.lookup x = some c → c ≠ it) (h3 : ∀ p ∈ X.pn ++ pins, p.1 ≠ it) : Inv X pins σ H { s with heap := h', toks := t' } := by
 have nit : ∀ b u, H b = some u → b ≠ it := fun b u e z => by rw [z, hn] at e; cases e
 refine I.step (g' := s.gens) (d' := s.drawn) (ch := [it]) (fun b hb => ?_) (fun b o _ _ hc e _ => k b o (fun z => hc (by simp [z])) e) (fun b o _ _ hc e _ => ⟨o.slots, k b o (fun z => hc (by simp [z])) e⟩) (fun _ _ _ _ n => n)
  (fun b o hc e => ⟨o, k b o (fun z => hc (by simp [z])) e⟩) (fun _ _ e => e) (fun _ _ _ e => e) (fun b ps e => ⟨#[], by rw [e]; simp⟩) (fun m hm => ?_) (fun b u e => ?_) I.bare
 ·have e : b = it := by simpa using hb
  subst e
  exact ⟨h1, hL, h2, h3⟩
 ·obtain ⟨o, es, ep, ho, r⟩ := hm
  exact ⟨o, es, ep, k _ o (Ne.symm hL) ho, r⟩
 ·refine (I.hok b u e).stay (fun c v hc q => k c v ?_ q) (fun _ q => q) fun _ _ q => q
  rcases hc with z | z
  ·rw [z]; exact nit b u e
  ·exact nit c _ z
theorem Inv.tok (I : Inv X pins σ H s) (t : Nat) : Inv X pins σ H { s with toks := t } := I.un (h' := s.heap) (t' := t) Un.refl I.hok
theorem Inv.kept {t' : Nat} (I : Inv X pins σ H s) (k : ∀ b u, s.heap.get? b = some u → h'.get? b = some u) : Inv X pins σ H { s with heap := h', toks := t' } := I.un (Un.kept k) (I.hok.kept k)
theorem Inv.laid {a : Addr} {o : HO} {t' : Nat} (I : Inv X pins σ H s) (k : ∀ b u, s.heap.get? b = some u → h'.get? b = some u) (hp : s.heap.objs.size ≤ a) (new : DA X.prog X.w (upd H a o) h' a o) :
  Inv X pins σ (upd H a o) { s with heap := h', toks := t' } := I.un (Un.laid k hp (I.hok.fresh hp)) (I.hok.laid k hp new)
theorem Inv.write {x e : Addr} {o : HO} {t' : Nat} (I : Inv X pins σ H s) (mu : Mut (H x)) (he : e = x ∨ H e = some (.own x)) (k : ∀ b u, b ≠ e → s.heap.get? b = some u → h'.get? b = some u) (heo : ∃ u, h'.get? e = some u)
  (new : DA X.prog X.w (upd H x o) h' x o) : Inv X pins σ (upd H x o) { s with heap := h', toks := t' } := I.un (Un.write mu he k heo) (I.hok.write mu he k heo new)
theorem Inv.pins_of {pins' : List (Addr × Obj)} (I : Inv X pins σ H s) (h : ∀ p ∈ pins', s.heap.get? p.1 = some p.2 ∧ H p.1 = none ∧ p.1 ≠ X.env.locals ∧ p.1 ∉ X.fs ∧ ∀ v, p.2.data ≠ .cell v) : Inv X pins' σ H s :=
 ⟨I.ok, I.os, I.bare, I.base, I.loc, I.cell, I.free, I.freeC, fun p hp => (List.mem_append.mp hp).elim (fun z => I.pin p (List.mem_append_left _ z)) (h p), I.hok, I.len⟩
theorem NL {N : List Str} (hN : N.Nodup) {i j : Nat} {x : Str} (a : N[i]? = some x) (b : N[j]? = some x) : i = j := by
 obtain ⟨h1, e1⟩ := List.getElem?_eq_some_iff.mp a
 obtain ⟨h2, e2⟩ := List.getElem?_eq_some_iff.mp b
 exact (List.getElem_inj hN).mp (e1.trans e2.symm)
theorem QL {M : Model} {A : Around} {E : Value → Shared → Prop} {i : Nat} {x : Str} {v : V} {u : Value} {Q : Unit → Shared → Prop} (I : Inv X pins σ H s) (hN : X.N.Nodup) (hi : X.N[i]? = some x) (hx : Loc X.env.scope x) (r : AY v u)
  (h : ∀ s', Inv X pins (σ.set i (some v)) H s' → (∃ a, Heap.SameBut a s.heap s'.heap ∧ (a = X.env.locals ∨ X.env.cells.lookup x = some a)) → Q () s') (hf : X.fn x = true ∨ X.env.scope.names.lookup x = some .local := by first | exact .inl rfl | exact .inr rfl | assumption) : wpAny M A (storeName X.env x u) Q E s := by
 obtain ⟨m, hn, hl⟩ := id I.loc
 have hcls : (X.env.scope.kind == .class || (X.env.scope.kind == .module && X.env.locals != X.env.globals)) = false := by rw [I.ok.kind]; rfl
 have hiσ : i < σ.length := by rw [I.len]; exact (List.getElem?_eq_some_iff.mp hi).1
 have cne := I.cne
 have tracked : ∀ {a : Addr} {h' : Heap}, (∃ o, s.heap.get? a = some o ∧ H a = none) → Heap.SameBut a s.heap h' → HOk X.prog X.w H h' := fun {a h'} ha hs b ob e => by
  obtain ⟨_, _, hfree⟩ := ha
  refine (I.hok b ob e).stay (fun c w' hc q => (hs.2 c ?_).trans q) (fun _ q => q) fun _ _ q => q
  rintro rfl
  rcases hc with rfl | hc
  ·rw [hfree] at e; cases e
  ·rw [hfree] at hc; cases hc
 rcases hx with hk | hk
 ·refine wpAny_storeName_local hk hn (fun h' hn' hs => ?_) hcls
  obtain ⟨oL, _, _, hoL, _⟩ := id hn
  refine h _ ⟨I.ok, I.os, I.bare, ⟨fun b o e n hb hx => ?_, fun b o e n hb hx => ?_, I.base.free, fun b o e hx => ?_, I.base.tups, I.base.frzs, I.base.tbls⟩, ⟨_, hn', fun j y v' e1 e2 e3 => ?_⟩, fun y c e => ?_, I.free, I.freeC, fun p hp => ?_, tracked ⟨oL, hoL, I.free⟩ hs, by simpa using I.len⟩ ⟨_, hs, .inl rfl⟩
  ·exact (hs.2 b (Nat.ne_of_lt (Nat.lt_of_lt_of_le (Heap.lt_size e) I.ok.above))).trans (I.base.keep b o e n hb hx)
  ·obtain ⟨sl, e1⟩ := I.base.slot b o e n hb hx
   exact ⟨sl, (hs.2 b (Nat.ne_of_lt (Nat.lt_of_lt_of_le (Heap.lt_size e) I.ok.above))).trans e1⟩
  ·obtain ⟨o', e1⟩ := I.base.there b o e hx
   exact ⟨o', (hs.2 b (Nat.ne_of_lt (Nat.lt_of_lt_of_le (Heap.lt_size e) I.ok.above))).trans e1⟩
  ·by_cases hj : j = i
   ·subst hj
    rw [hi] at e1; cases e1
    rw [List.getElem?_set_self hiσ] at e2
    cases e2
    exact ⟨u, r, .inl ⟨hk, by simp⟩⟩
   ·rw [List.getElem?_set_ne (Ne.symm hj)] at e2
    obtain ⟨u', r', q⟩ := hl j y v' e1 e2 e3
    refine ⟨u', r', ?_⟩
    rcases q with ⟨k, e⟩ | ⟨k, c, e, z⟩
    ·refine .inl ⟨k, ?_⟩
     have : y ≠ x := fun e => hj (NL hN e1 (e ▸ hi))
     simp [this, e]
    ·exact .inr ⟨k, c, e, z.sameBut hs (cne y c e)⟩
  ·obtain ⟨w', z⟩ := I.cell y c e
   exact ⟨w', z.sameBut hs (cne y c e)⟩
  ·obtain ⟨e, n, ne, nf, d⟩ := I.pin p hp
   exact ⟨(hs.2 p.1 ne).trans e, n, ne, nf, d⟩
 ·have hfn : X.fn x = true := by
   rcases hf with z | z
   ·exact z
   ·rw [z] at hk; cases hk
  obtain ⟨c, hc⟩ := I.ok.has x (.inl hk)
  obtain ⟨w', z⟩ := I.cell x c hc
  refine wpAny_storeName_cell I.ok.kind hk hc z (fun h' hc' hs => ?_)
  obtain ⟨oc, hoc, hocd⟩ := id z
  refine h { s with heap := h' } ⟨I.ok, I.os, I.bare, ⟨fun b o e n hb hx => ?_, fun b o e n hb hx => ?_, I.base.free, fun b o e hx => ?_, I.base.tups, I.base.frzs, I.base.tbls⟩, ⟨m, hn.sameBut hs (Ne.symm (cne x c hc)), fun j y v' e1 e2 e3 => ?_⟩, fun y c' e => ?_, I.free, I.freeC, fun p hp => ?_, tracked ⟨oc, hoc, I.freeC x c hc⟩ hs, by simpa using I.len⟩ ⟨c, hs, .inr hc⟩
  ·exact (hs.2 b (Nat.ne_of_lt (Nat.lt_of_lt_of_le (Heap.lt_size e) (I.ok.cab x c hfn hc)))).trans (I.base.keep b o e n hb hx)
  ·obtain ⟨sl, e1⟩ := I.base.slot b o e n hb hx
   exact ⟨sl, (hs.2 b (Nat.ne_of_lt (Nat.lt_of_lt_of_le (Heap.lt_size e) (I.ok.cab x c hfn hc)))).trans e1⟩
  ·obtain ⟨o', e1⟩ := I.base.there b o e hx
   exact ⟨o', (hs.2 b (Nat.ne_of_lt (Nat.lt_of_lt_of_le (Heap.lt_size e) (I.ok.cab x c hfn hc)))).trans e1⟩
  ·by_cases hj : j = i
   ·subst hj
    rw [hi] at e1; cases e1
    rw [List.getElem?_set_self hiσ] at e2
    cases e2
    exact ⟨u, r, .inr ⟨.inl hk, c, hc, hc'⟩⟩
   ·rw [List.getElem?_set_ne (Ne.symm hj)] at e2
    obtain ⟨u', r', q⟩ := hl j y v' e1 e2 e3
    refine ⟨u', r', ?_⟩
    rcases q with q | ⟨k, c', e, z'⟩
    ·exact .inl q
    ·refine .inr ⟨k, c', e, z'.sameBut hs ?_⟩
     rintro rfl
     exact hj (NL hN e1 (I.ok.inj _ _ _ e hc ▸ hi))
  ·by_cases hcc : c' = c
   ·subst hcc; exact ⟨_, hc'⟩
   ·obtain ⟨w2, z2⟩ := I.cell y c' e
    exact ⟨w2, z2.sameBut hs hcc⟩
  ·obtain ⟨e, n, ne, nf, d⟩ := I.pin p hp
   refine ⟨(hs.2 p.1 ?_).trans e, n, ne, nf, d⟩
   intro q
   rw [q, hoc] at e
   have q' : oc = p.2 := Option.some.inj e
   exact d w' (by rw [← q']; exact hocd)
theorem KD {M : Model} {A : Around} {E : Value → Shared → Prop} {i : Nat} {x : Str} {v : V} {u : Value} {Q : Unit → Shared → Prop} (I : Inv X pins σ H s) (hN : X.N.Nodup) (hi : X.N[i]? = some x) (hx : Loc X.env.scope x) (r : AY v u)
  (h : ∀ s', Inv X pins (σ.set i (some v)) H s' → Q () s') (hf : X.fn x = true ∨ X.env.scope.names.lookup x = some .local := by first | exact .inl rfl | exact .inr rfl | assumption) : wpAny M A (storeName X.env x u) Q E s :=
 QL I hN hi hx r (fun s' I' _ => h s' I') hf
theorem Inv.call' {s' : Shared} {ch : List Addr} (I : Inv X pins σ H s) (ho : s'.os = s.os) (u : Un (frs X.stack) ch H H' s.heap s'.heap) (hok : HOk X.prog X.w H' s'.heap) (hg : AllBare s'.gens)
  (hch : ∀ b ∈ ch, (b ∈ X.ex ∨ X.s₀.heap.objs.size ≤ b) ∧ b ≠ X.env.locals ∧ (∀ x c, X.env.cells.lookup x = some c → c ≠ b) ∧ ∀ p ∈ X.pn ++ pins, p.1 ≠ b) : Inv X pins σ H' s' := by
 obtain ⟨h', g', d', t', o'⟩ := s'
 have e : o' = s.os := ho
 subst e
 exact I.call (g' := g') (t' := t') (d' := d') u hok hg hch
end
abbrev XK := Value → Option Addr → Hp → Prop
abbrev St := List (Option V)
abbrev VK := V → Hp → Prop
abbrev TE := St → Hp → VK → Prop
abbrev TT := St → Hp → (Bool → Hp → Prop) → Prop
abbrev TA := St → Hp → (List V → Hp → Prop) → Prop
structure GG where
 nx : St → Hp → Prop
 rt : VK
 bk : St → Hp → Prop := fun _ _ => False
 ct : St → Hp → Prop := fun _ _ => False
abbrev TS := GG → St → Hp → Prop
def EP (X : Cx) (pins : List (Addr × Obj)) (σ : St) (Q : VK) (u : Value) (s' : Shared) : Prop := ∃ v H', Inv X pins σ H' s' ∧ AY v u ∧ Q v H'
def TP (X : Cx) (pins : List (Addr × Obj)) (σ : St) (Q : Bool → Hp → Prop) (b : Bool) (s' : Shared) : Prop := ∃ H', Inv X pins σ H' s' ∧ Q b H'
def AP (X : Cx) (pins : List (Addr × Obj)) (σ : St) (Q : List V → Hp → Prop) (us : List Value) (s' : Shared) : Prop := ∃ vs H', Inv X pins σ H' s' ∧ AO vs us ∧ Q vs H'
def SP (X : Cx) (pins : List (Addr × Obj)) (D : GG) (f : Flow) (s' : Shared) : Prop :=
 match f with
 | .next => ∃ σ' H', Inv X pins σ' H' s' ∧ D.nx σ' H'
 | .brk => ∃ σ' H', Inv X pins σ' H' s' ∧ D.bk σ' H'
 | .cont => ∃ σ' H', Inv X pins σ' H' s' ∧ D.ct σ' H'
 | .ret u => ∃ v σ' H', Inv X pins σ' H' s' ∧ AY v u ∧ D.rt v H'
def PE (X : Cx) (e : Expr) (t : TE) : Prop :=
 ∀ (pins : List (Addr × Obj)) (s : Shared) (σ : St) (H : Hp) (Q : VK), Inv X pins σ H s → t σ H Q → wpAny (model X.prog X.w) X.A (eval e X.env) (EP X pins σ Q) X.xe s
def PT (X : Cx) (e : Expr) (t : TT) : Prop :=
 ∀ (pins : List (Addr × Obj)) (s : Shared) (σ : St) (H : Hp) (Q : Bool → Hp → Prop), Inv X pins σ H s → t σ H Q → wpAny (model X.prog X.w) X.A (isTrue e X.env (eval e X.env)) (TP X pins σ Q) X.xe s
def PW (X : Cx) (e : Expr) (t : TT) : Prop :=
 ∀ (whole : Sem Value) (pins : List (Addr × Obj)) (s : Shared) (σ : St) (H : Hp) (Q : Bool → Hp → Prop), Inv X pins σ H s → t σ H Q → wpAny (model X.prog X.w) X.A (isTrue e X.env whole) (TP X pins σ Q) X.xe s
theorem PW.pt {X : Cx} {e : Expr} {t : TT} (h : PW X e t) : PT X e t := h _
def PA (X : Cx) (es : List Expr) (t : TA) : Prop :=
 ∀ (pos : Pos) (pins : List (Addr × Obj)) (s : Shared) (σ : St) (H : Hp) (Q : List V → Hp → Prop), Inv X pins σ H s → t σ H Q → wpAny (model X.prog X.w) X.A (spliced (backTo pos (starEach es X.env))) (AP X pins σ Q) X.xe s
def PS (X : Cx) (st : Stmt) (t : TS) : Prop :=
 ∀ (pins : List (Addr × Obj)) (s : Shared) (σ : St) (H : Hp) (D : GG), Inv X pins σ H s → t D σ H → wpAny (model X.prog X.w) X.A (exec st X.env) (SP X pins D) X.xe s
def PSs (X : Cx) (st : List Stmt) (t : TS) : Prop :=
 ∀ (pins : List (Addr × Obj)) (s : Shared) (σ : St) (H : Hp) (D : GG), Inv X pins σ H s → t D σ H → wpAny (model X.prog X.w) X.A (execs st X.env) (SP X pins D) X.xe s
theorem thn {α : Type} {t : Sem α} {Q Q' : α → Shared → Prop} {M : Model} {A : Around} {E : Value → Shared → Prop} {s : Shared} (h : wpAny M A t Q E s) (hQ : ∀ a s, Q a s → Q' a s) : wpAny M A t Q' E s := wpAny_mono h hQ fun _ _ x => x
section
variable {X : Cx}
def aQ (i : Nat) : TE := fun σ H Q => ∃ v, σ[i]? = some (some v) ∧ Q v H
def tC (v : V) : TE := fun _ H Q => Q v H
theorem lM {i : Nat} {x : Str} {pos : Pos} (hN : X.N[i]? = some x) (hv : Vis X.env.scope x) (hd : (x == ("__debug__" : Str)) = false := by decide) (hcd : (x == ("__classdict__" : Str)) = false := by decide) : PE X (.Name x pos) (aQ i) := by
 intro pins s σ H Q I h
 obtain ⟨v, e, h⟩ := h
 obtain ⟨m, hn, hl⟩ := I.loc
 obtain ⟨u, r, l⟩ := hl i x v hN e hv
 have fin : EP X pins σ Q u s := ⟨v, H, I, r, h⟩
 rcases l with ⟨hk, hm⟩ | ⟨hk, c, hc, hcell⟩
 ·exact wpAny_Name (wpAny_loadName_local I.ok.kind hk hn hm fin) hd
 ·rcases hk with hk | hk
  ·exact wpAny_Name (wpAny_loadName_cell I.ok.kind hk hc hcell fin) hd
  ·exact wpAny_Name (wpAny_loadName_free I.ok.kind hk hc hcell fin hcd) hd
theorem AF {i j pos} : PE X (.Constant (.int i) j pos) (tC (.int i)) := fun _ _ _ H _ I h => wpAny_Constant_int ⟨.int i, H, I.tok _, ⟨_, rfl⟩, h⟩
theorem NH {b j pos} : PE X (.Constant (.bool b) j pos) (tC (.bl b)) := fun _ _ _ H _ I h => Constant_bool ⟨.bl b, H, I, rfl, h⟩
theorem AT {x j pos} : PE X (.Constant (.str x) j pos) (tC (.str x)) := fun _ _ _ H _ I h => Calls.Constant_str ⟨.str x, H, I.tok _, ⟨_, rfl⟩, h⟩
def Gl (X : Cx) (x : Str) : Prop := X.env.kindOf x = some .globalImplicit
theorem GA {E : Value → Shared → Prop} {pins : List (Addr × Obj)} {s : Shared} {σ : St} {H : Hp} {x : Str} {u : Value} {pos : Pos} {Q : Value → Shared → Prop} (I : Inv X pins σ H s) (hg : Gl X x) (hm : X.mg x = some u) (h : Q u s)
  (hd : (x == ("__debug__" : Str)) = false := by decide) : wpAny (model X.prog X.w) X.A (eval (.Name x pos) X.env) Q E s :=
 Calls.Name_function_global I.ok.kind hg (Calls.loadGlobal_global (by rw [I.ok.glob]; exact I.mod.glob.keeps I.bk) hm h) hd
theorem IM {E : Value → Shared → Prop} {pins : List (Addr × Obj)} {s : Shared} {σ : St} {H : Hp} {x : Str} {u : Value} {pos : Pos} {Q : Value → Shared → Prop} (I : Inv X pins σ H s) (hg : Gl X x) (hm : X.mg x = none) (hv : bootBuiltins x = some u) (h : Q u s)
  (hn : x ≠ "__name__" := by decide) (hd : (x == ("__debug__" : Str)) = false := by decide) : wpAny (model X.prog X.w) X.A (eval (.Name x pos) X.env) Q E s := by
 obtain ⟨mb, h1, h2⟩ := I.mod.blt
 exact Calls.Name_function_global I.ok.kind hg (Calls.loadGlobal_builtin (by rw [I.ok.glob]; exact I.mod.glob.keeps I.bk) hm (by rw [I.ok.blt]; exact h1.keeps I.bk) ((h2 x hn).trans hv) h) hd
theorem BU {x : Str} {v : V} {u : Value} {pos : Pos} (hg : Gl X x) (hm : X.mg x = some u) (r : AY v u) (hd : (x == ("__debug__" : Str)) = false := by decide) : PE X (.Name x pos) (tC v) :=
 fun _ _ _ H _ I h => GA I hg hm ⟨v, H, I, r, h⟩ hd
theorem XO {x : Str} {v : V} {u : Value} {pos : Pos} (hg : Gl X x) (hm : X.mg x = none) (hv : bootBuiltins x = some u) (r : AY v u) (hn : x ≠ "__name__" := by decide) (hd : (x == ("__debug__" : Str)) = false := by decide) : PE X (.Name x pos) (tC v) :=
 fun _ _ _ H _ I h => IM I hg hm hv ⟨v, H, I, r, h⟩ hn hd
variable {a b : Expr} {ta tb : TE} {pos : Pos}
def tB (t : TE) : TT := fun σ H Q => t σ H fun x H1 => ∃ c, x = .bl c ∧ Q c H1
theorem lS {e : Expr} {t : TE} (h : PE X e t) (he : ∀ whole, isTrue e X.env whole = (do let v ← whole; standAt e.pos; holding [v] (truthy v)) := by intro _; rfl) : PT X e (tB t) := by
 intro pins s σ H Q I hw
 refine isTrue_plain (thn (h pins s σ H _ I hw) fun v s1 ⟨x, H1, I1, r1, q1⟩ => ?_) (he _)
 obtain ⟨d, rfl, q⟩ := q1
 cases r1
 exact wpAny_truthy_bool ⟨H1, I1, q⟩
variable {tA tB' : TT} {DQ : List Expr}
def gI (t u : TT) : TT := fun σ H Q => t σ H fun c H1 => if c = true then u σ H1 Q else Q false H1
def tOr (t u : TT) : TT := fun σ H Q => t σ H fun c H1 => if c = true then Q true H1 else u σ H1 Q
def dP (t : TT) : TT := fun σ H Q => t σ H fun c H1 => Q (!c) H1
theorem QZ (ha : PT X a tA) : PW X (.BoolOp .And [a] pos) tA := by
 intro wh pins s σ H Q I h
 refine isTrue_and (thn (ha pins s σ H Q I h) fun c s1 e => ?_)
 cases c with
 | true => exact isTrue_and_nil e
 | false => exact e
theorem VX (ha : PT X a tA) : PW X (.BoolOp .Or [a] pos) tA := by
 intro wh pins s σ H Q I h
 refine isTrue_or (thn (ha pins s σ H Q I h) fun c s1 e => ?_)
 cases c with
 | false => exact isTrue_or_nil e
 | true => exact e
theorem WY (ha : PT X a tA) (hb : PW X (.BoolOp .And (b :: DQ) pos) tB') : PW X (.BoolOp .And (a :: b :: DQ) pos) (gI tA tB') := by
 intro wh pins s σ H Q I h
 refine isTrue_and (thn (ha pins s σ H _ I h) fun c s1 ⟨H1, I1, q1⟩ => ?_)
 cases c with
 | true => exact hb wh pins s1 σ H1 Q I1 q1
 | false => exact ⟨H1, I1, q1⟩
theorem dA (ha : PT X a tA) (hb : PW X (.BoolOp .Or (b :: DQ) pos) tB') : PW X (.BoolOp .Or (a :: b :: DQ) pos) (tOr tA tB') := by
 intro wh pins s σ H Q I h
 refine isTrue_or (thn (ha pins s σ H _ I h) fun c s1 ⟨H1, I1, q1⟩ => ?_)
 cases c with
 | true => exact ⟨H1, I1, q1⟩
 | false => exact hb wh pins s1 σ H1 Q I1 q1
theorem IG (ha : PT X a tA) : PT X (.UnaryOp .Not a pos) (dP tA) := by
 intro pins s σ H Q I h
 exact isTrue_not (ha pins s σ H (fun c H1 => Q (!c) H1) I h)
def UU (ta tb : TE) : TE := fun σ H Q => ta σ H fun x H1 => ∃ c, x = .bl c ∧ if c = true then tb σ H1 Q else Q (.bl false) H1
theorem VF {op} {t : TE} (h : PE X a t) : PE X (.BoolOp op [a] pos) t := fun pins s σ H Q I hw => BoolOp_one (h pins s σ H Q I hw)
theorem mP (ha : PE X a ta) (hb : PE X (.BoolOp .And (b :: DQ) pos) tb) : PE X (.BoolOp .And (a :: b :: DQ) pos) (UU ta tb) := by
 intro pins s σ H Q I h
 refine BoolOp_and (thn (ha pins s σ H _ I h) fun v s1 ⟨x, H1, I1, r1, q1⟩ => ?_)
 obtain ⟨c, rfl, q1⟩ := q1
 cases r1
 refine wpAny_truthy_bool ?_
 cases c with
 | true => exact hb pins s1 σ H1 Q I1 q1
 | false => exact ⟨.bl false, H1, I1, rfl, q1⟩
def tIf (t : TT) (ta tb : TE) : TE := fun σ H Q => t σ H fun c H1 => if c = true then ta σ H1 Q else tb σ H1 Q
theorem MR {c : Expr} (hc : PT X c tA) (ha : PE X a ta) (hb : PE X b tb) : PE X (.IfExp c a b pos) (tIf tA ta tb) := by
 intro pins s σ H Q I h
 refine wpAny_IfExp (thn (hc pins s σ H _ I h) fun d s1 ⟨H1, I1, q1⟩ => ?_)
 cases d with
 | true => exact ha pins s1 σ H1 Q I1 q1
 | false => exact hb pins s1 σ H1 Q I1 q1
end
def SqL (K : PySem.W.Frag) (H : Hp) (a : Addr) (xs : List V) : Prop :=
 Rd H a (.lst xs) ∨
  ∃ (o : Obj) (its : Array Value) (n : Nat), K.lookup a = some o ∧ o.cls = .type "list" ∧ o.dict = none ∧ o.data = .seq its n ∧ its.size ≤ sizeLine ∧ AO xs its.toList
def SqT (K : PySem.W.Frag) (H : Hp) (a : Addr) (xs : List V) : Prop :=
 Rd H a (.tup xs) ∨
  ∃ (o : Obj) (its : Array Value) (n : Nat), K.lookup a = some o ∧ o.cls = .type "tuple" ∧ o.data = .seq its n ∧ its.size ≤ sizeLine ∧ AO xs its.toList
def absV : Value → Option V
 | .none => some .non
 | .bool b => some (.bl b)
 | .int i _ => some (.int i)
 | .str x _ => some (.str x)
 | .bytes b _ => some (.byt b)
 | .float b _ => some (.flt b)
 | .ref a => some (.ref a)
 | .type n => some (.ty n)
 | _ => none
theorem AY.abs {x : V} {u : Value} (r : AY x u) : absV u = some x := by
 cases x with
 | non => cases r; rfl
 | bl _ => cases r; rfl
 | int _ => obtain ⟨t, rfl⟩ := r; rfl
 | str _ => obtain ⟨t, rfl⟩ := r; rfl
 | byt _ => obtain ⟨t, rfl⟩ := r; rfl
 | flt _ => obtain ⟨t, rfl⟩ := r; rfl
 | ref _ => cases r; rfl
 | ty _ => cases r; rfl
theorem AY.inj {x y : V} {u : Value} (r : AY x u) (q : AY y u) : x = y := Option.some.inj (r.abs.symm.trans q.abs)
theorem AO.inj : ∀ {xs ys : List V} {us : List Value}, AO xs us → AO ys us → xs = ys
 | _, _, _, .nil, .nil => rfl
 | _, _, _, .cons r t, .cons r' t' => by rw [r.inj r', AO.inj t t']
section
variable {X : Cx} {pins : List (Addr × Obj)} {σ : St} {H : Hp} {s : Shared} {a : Addr} {xs ys : List V}
theorem SqL.of {K : PySem.W.Frag} (h : H a = some (.lst xs)) : SqL K H a xs := .inl (.inl h)
theorem SqT.of {K : PySem.W.Frag} (h : H a = some (.tup xs)) : SqT K H a xs := .inl (.inl h)
theorem Inv.list (I : Inv X pins σ H s) (h : SqL X.K H a xs) : ∃ its : List Value, AO xs its ∧ PlainL s.heap a its.toArray ∧ xs.length ≤ sizeLine := by
 rcases h with h | ⟨o, its, n, hk, hc, hd, hs, hz, r⟩
 ·obtain ⟨z, its, n, r, e⟩ := h.ok I.hok
  exact ⟨its, r, ⟨_, n, e, rfl, rfl, rfl⟩, z⟩
 ·refine ⟨its.toList, r, ⟨o, n, I.kIn a o hk, hc, hd, by simpa using hs⟩, ?_⟩
  have e := r.length
  simp only [Array.length_toList] at e
  omega
theorem Inv.tuple (I : Inv X pins σ H s) (h : SqT X.K H a xs) : ∃ its : List Value, AO xs its ∧ IsTup s.heap a its.toArray ∧ xs.length ≤ sizeLine := by
 rcases h with h | ⟨o, its, n, hk, hc, hs, hz, r⟩
 ·obtain ⟨z, its, r, p⟩ := h.ok I.hok
  exact ⟨its, r, p, z⟩
 ·refine ⟨its.toList, r, ⟨o, I.kIn a o hk, hc, n, by simpa using hs⟩, ?_⟩
  have e := r.length
  simp only [Array.length_toList] at e
  omega
theorem Inv.list_inj (I : Inv X pins σ H s) (h : SqL X.K H a xs) (h' : SqL X.K H a ys) : xs = ys := by
 obtain ⟨its, r, ⟨o, n, e, _, _, d⟩, _⟩ := I.list h
 obtain ⟨its', r', ⟨o', n', e', _, _, d'⟩, _⟩ := I.list h'
 rw [e] at e'; cases e'
 rw [d] at d'
 injection d' with d1 _
 have : its = its' := by simpa using congrArg Array.toList d1
 subst this
 exact r.inj r'
theorem Inv.tuple_inj (I : Inv X pins σ H s) (h : SqT X.K H a xs) (h' : SqT X.K H a ys) : xs = ys := by
 obtain ⟨its, r, ⟨o, e, _, n, d⟩, _⟩ := I.tuple h
 obtain ⟨its', r', ⟨o', e', _, n', d'⟩, _⟩ := I.tuple h'
 rw [e] at e'; cases e'
 rw [d] at d'
 injection d' with d1 _
 have : its = its' := by simpa using congrArg Array.toList d1
 subst this
 exact r.inj r'
end
abbrev Cx.wish (X : Cx) (E : Value → Shared → Prop) : Cx := { X with xe := E }
abbrev Cx.nox (X : Cx) : Cx := X.wish fun _ _ => False
theorem Cx.Ok.wish {X : Cx} (ok : X.Ok) (E : Value → Shared → Prop) : (X.wish E).Ok :=
 ⟨ok.mod, ok.kind, ok.glob, ok.blt, ok.above, ok.inj, ok.has, ok.cab, ok.hd, ok.frames, ok.stk, ok.exf, ok.bs, ok.bsz, ok.noex, ok.exfs, ok.funs, ok.frf⟩
theorem Cx.Ok.unwish {X : Cx} {E : Value → Shared → Prop} (ok : (X.wish E).Ok) : X.Ok :=
 ⟨ok.mod, ok.kind, ok.glob, ok.blt, ok.above, ok.inj, ok.has, ok.cab, ok.hd, ok.frames, ok.stk, ok.exf, ok.bs, ok.bsz, ok.noex, ok.exfs, ok.funs, ok.frf⟩
section
variable {X : Cx} {pins : List (Addr × Obj)} {σ : St} {H : Hp} {s : Shared} {E : Value → Shared → Prop}
theorem Inv.wish (I : Inv X pins σ H s) (E : Value → Shared → Prop) : Inv (X.wish E) pins σ H s := ⟨I.ok.wish E, I.os, I.bare, I.base, I.loc, I.cell, I.free, I.freeC, I.pin, I.hok, I.len⟩
theorem Inv.unwish (I : Inv (X.wish E) pins σ H s) : Inv X pins σ H s := ⟨I.ok.unwish, I.os, I.bare, I.base, I.loc, I.cell, I.free, I.freeC, I.pin, I.hok, I.len⟩
theorem SP.unwish {D : GG} {f : Flow} {s' : Shared} (h : SP (X.wish E) pins D f s') : SP X pins D f s' := by
 cases f with
 | next => obtain ⟨σ', H', I, q⟩ := h; exact ⟨σ', H', I.unwish, q⟩
 | brk => obtain ⟨σ', H', I, q⟩ := h; exact ⟨σ', H', I.unwish, q⟩
 | cont => obtain ⟨σ', H', I, q⟩ := h; exact ⟨σ', H', I.unwish, q⟩
 | ret u => obtain ⟨v, σ', H', I, r, q⟩ := h; exact ⟨v, σ', H', I.unwish, r, q⟩
theorem PSs.nox {st : List Stmt} {t : TS} (h : PSs X.nox st t) : PSs X st t := fun pins s σ H D I hw =>
 wpAny_mono (h pins s σ H D (I.wish _) hw) (fun _ _ q => q.unwish) fun _ _ z => False.elim z
end
section
variable {X : Cx} {st : Stmt} {DQ : List Stmt} {t u : TS} {e : Expr} {te : TE} {pos : Pos}
def TQ : TS := fun D σ H => D.nx σ H
def gA (t u : TS) : TS := fun D σ H => t { D with nx := u D } σ H
theorem CA : PSs X [] TQ := fun _ _ σ H _ I h => wpAny_execs_nil ⟨σ, H, I, h⟩
theorem AD (h1 : PS X st t) (h2 : PSs X DQ u) : PSs X (st :: DQ) (gA t u) := by
 intro pins s σ H D I h
 refine wpAny_execs_cons (thn (h1 pins s σ H { D with nx := u D } I h) fun f s1 q => ?_)
 cases f with
 | next =>
  obtain ⟨σ', H', I', q⟩ := q
  exact h2 pins s1 σ' H' D I' q
 | ret v => exact q
 | brk => exact q
 | cont => exact q
theorem AG (h1 : PS X st t) : PSs X [st] t := by
 intro pins s σ H D I h
 refine wpAny_execs_cons (thn (h1 pins s σ H D I h) fun f s1 q => ?_)
 cases f with
 | next => exact wpAny_execs_nil q
 | ret v => exact q
 | brk => exact q
 | cont => exact q
theorem Inv.quiet {pins : List (Addr × Obj)} {σ : St} {H : Hp} {s : Shared} (I : Inv X pins σ H s) : interactive X.env = false := by simp [interactive, I.ok.kind]
def UZ (te : TE) : TS := fun D σ H => te σ H fun _ H1 => D.nx σ H1
theorem BS (he : PE X e te) (hs : swapsWith e none pos.line X.env = pure false := by rfl) : PS X (.Expr e pos) (UZ te) := by
 intro pins s σ H D I h
 exact wpAny_Expr_any (thn (he pins s σ H _ I h) fun v s1 ⟨x, H1, I1, r1, q1⟩ => ⟨σ, H1, I1, q1⟩) I.quiet hs
def eO (te : TE) : TS := fun D σ H => te σ H D.rt
theorem BI (he : PE X e te) : PS X (.Return (some e) pos) (eO te) := by
 intro pins s σ H D I h
 exact wpAny_Return_some (thn (he pins s σ H _ I h) fun v s1 ⟨x, H1, I1, r1, q1⟩ => ⟨x, σ, H1, I1, r1, q1⟩)
def cK (c : TT) (t u : TS) : TS := fun D σ H => c σ H fun b H1 => if b = true then t D σ H1 else u D σ H1
theorem CL {c : Expr} {a b : List Stmt} {tc : TT} (hc : PT X c tc) (ha : PSs X a t) (hb : PSs X b u) : PS X (.If c a b pos) (cK tc t u) := by
 intro pins s σ H D I h
 refine wpAny_If (thn (hc pins s σ H _ I h) fun d s1 ⟨H1, I1, q1⟩ => ?_)
 cases d with
 | true => exact ha pins s1 σ H1 D I1 q1
 | false => exact hb pins s1 σ H1 D I1 q1
end
abbrev TG := V → St → Hp → (St → Hp → Prop) → Prop
abbrev TGs := List V → St → Hp → (St → Hp → Prop) → Prop
def PG (X : Cx) (target : Expr) (t : TG) : Prop :=
 ∀ (pins : List (Addr × Obj)) (s : Shared) (σ : St) (H : Hp) (v : V) (u : Value) (Q : St → Hp → Prop), Inv X pins σ H s → AY v u → t v σ H Q →
  wpAny (model X.prog X.w) X.A (assign target X.env u) (fun _ s' => ∃ σ' H', Inv X pins σ' H' s' ∧ Q σ' H') X.xe s
def PGs (X : Cx) (ts : List Expr) (t : TGs) : Prop :=
 ∀ (pins : List (Addr × Obj)) (s : Shared) (σ : St) (H : Hp) (vs : List V) (us : List Value) (Q : St → Hp → Prop), Inv X pins σ H s → AO vs us → t vs σ H Q →
  wpAny (model X.prog X.w) X.A (assignInOrder ((assignEach ts X.env).map (·.2)) us) (fun _ s' => ∃ σ' H', Inv X pins σ' H' s' ∧ Q σ' H') X.xe s
abbrev pC := V → V → V → Hp → (Hp → Prop) → Prop
def nJ (X : Cx) (t : pC) : Prop :=
 ∀ (pins : List (Addr × Obj)) (s : Shared) (σ : St) (H : Hp) (o i v : V) (ov iv u : Value) (Q : Hp → Prop), Inv X pins σ H s → AY o ov → AY i iv → AY v u → t o i v H Q →
  wpAny (model X.prog X.w) X.A (setItem ov iv u) (fun _ s' => ∃ H', Inv X pins σ H' s' ∧ Q H') X.xe s
abbrev TIp := V → V → Hp → VK → Prop
def PIp (X : Cx) (op : Operator) (t : TIp) : Prop :=
 ∀ (pins : List (Addr × Obj)) (s : Shared) (σ : St) (H : Hp) (x y : V) (v u : Value) (Q : VK), Inv X pins σ H s → AY x v → AY y u → t x y H Q →
  wpAny (model X.prog X.w) X.A (inplaceOp op v u) (EP X pins σ Q) X.xe s
section
variable {X : Cx} {pos : Pos}
def NP (i : Nat) : TG := fun v σ H Q => Q (σ.set i (some v)) H
theorem AX {i : Nat} {x : Str} (hN : X.N.Nodup) (hi : X.N[i]? = some x) (hx : Loc X.env.scope x) (hf : X.fn x = true ∨ X.env.scope.names.lookup x = some .local := by first | exact .inl rfl | exact .inr rfl | assumption) : PG X (.Name x pos) (NP i) := by
 intro pins s σ H v u Q I r h
 exact wpAny_assign_Name (KD I hN hi hx r (fun s' I' => ⟨_, H, I', h⟩) hf)
def gR : TGs := fun vs σ H Q => vs = [] ∧ Q σ H
def UD (t : TG) (u : TGs) : TGs := fun vs σ H Q => ∃ v r, vs = v :: r ∧ t v σ H fun σ' H' => u r σ' H' Q
theorem kD : PGs X [] gR := by
 intro pins s σ H vs us Q I r h
 obtain ⟨e, h⟩ := h
 subst e
 cases r
 exact assignInOrder_nil ⟨σ, H, I, h⟩
theorem dU {e : Expr} {es : List Expr} {t : TG} {u : TGs} (h1 : PG X e t) (h2 : PGs X es u)
  (hs : (assignEach (e :: es) X.env).map (·.2) = assign e X.env :: (assignEach es X.env).map (·.2) := by rfl) : PGs X (e :: es) (UD t u) := by
 intro pins s σ H vs us Q I r h
 obtain ⟨v, vr, e1, h⟩ := h
 subst e1
 cases r with
 | cons r rr =>
  rw [hs]
  refine assignInOrder_cons (thn (h1 pins s σ H _ _ _ I r h) fun _ s1 ⟨σ1, H1, I1, q1⟩ => ?_)
  exact h2 pins s1 σ1 H1 _ _ Q I1 rr q1
def eZ (K : PySem.W.Frag) (n : Nat) (t : TGs) : TG := fun v σ H Q => ∃ a xs, v = .ref a ∧ SqT K H a xs ∧ xs.length = n ∧ t xs σ H Q
theorem lZ {es : List Expr} {k : Nat} {t : TGs} {n : Nat} (hc : X.calm = true) (h : PGs X es t)
  (hn : (assignEach es X.env).length = n := by rfl) (hst : (assignEach es X.env).findIdx? (·.1) = none := by rfl) : PG X (.Tuple es k pos) (eZ X.K n t) := by
 intro pins s σ H v u Q I r hw
 obtain ⟨a, xs, e1, hq, hl, hw⟩ := hw
 subst e1
 cases r
 obtain ⟨its, rv, ht, hz⟩ := I.tuple hq
 refine assign_Tuple_tuple (I.ok.hd hc) ht (by simp [hn, ← hl, rv.length]) hst fun h' hx => ?_
 have I1 : Inv X pins σ H { s with heap := h' } := I.kept (t' := s.toks) fun b o e => hx b o (Nat.ne_of_lt (Heap.lt_size e)) e
 exact h pins _ σ H xs _ Q I1 (by simpa using rv) hw
def WH (te : TE) (g : TG) : TS := fun D σ H => te σ H fun x H1 => g x σ H1 D.nx
theorem HL {tg e : Expr} {te : TE} {g : TG} (he : PE X e te) (hg : PG X tg g) (hs : swapsWithSole [tg] e pos.line X.env = pure false := by rfl) (hw : swappedStores [tg] e X.env = pure none := by rfl)
  (h1 : (assignEach [tg] X.env).map (·.2) = [assign tg X.env] := by rfl) : PS X (.Assign [tg] e pos) (WH te g) := by
 intro pins s σ H D I h
 refine wpAny_Assign_stores (thn (he pins s σ H _ I h) fun v s1 ⟨x, H1, I1, r1, q1⟩ => ?_) hs hw
 rw [h1]
 exact thn (hg pins s1 σ H1 x v _ I1 r1 q1) fun _ s2 q => q
theorem AR {i : Nat} {x : Str} {e : Expr} {te : TE} {pos' : Pos} (hN : X.N.Nodup) (hi : X.N[i]? = some x) (hx : Loc X.env.scope x) (he : PE X e te) (hs : swapsWith e (some (.Name x pos')) pos.line X.env = pure false := by rfl) (hf : X.fn x = true ∨ X.env.scope.names.lookup x = some .local := by first | exact .inl rfl | exact .inr rfl | assumption) :
  PS X (.Assign [.Name x pos'] e pos) (WH te (NP i)) := by
 intro pins s σ H D I h
 refine wpAny_Assign_Name (thn (he pins s σ H _ I h) fun v s1 ⟨y, H1, I1, r1, q1⟩ => ?_) hs
 exact KD I1 hN hi hx r1 (fun s2 I2 => ⟨_, H1, I2, q1⟩) hf
def dO (i : Nat) (te : TE) (ti : TIp) : TS := fun D σ H => ∃ x, σ[i]? = some (some x) ∧ te σ H fun y H1 => ti x y H1 fun z H2 => D.nx (σ.set i (some z)) H2
theorem nF {i : Nat} {x : Str} {e : Expr} {te : TE} {op : Operator} {ti : TIp} {pos' : Pos} (hN : X.N.Nodup) (hi : X.N[i]? = some x) (hx : Loc X.env.scope x) (he : PE X e te) (ho : PIp X op ti) (hf : X.fn x = true ∨ X.env.scope.names.lookup x = some .local := by first | exact .inl rfl | exact .inr rfl | assumption) :
  PS X (.AugAssign (.Name x pos') op e pos) (dO i te ti) := by
 intro pins s σ H D I h
 obtain ⟨v, e1, h⟩ := h
 obtain ⟨m, hn, hl⟩ := I.loc
 have vis : Vis X.env.scope x := by rcases hx with k | k; exact .inl k; exact .inr (.inl k)
 obtain ⟨u, r, l⟩ := hl i x v hi e1 vis
 refine wpAny_AugAssign_Name ?_
 have go : wpAny (model X.prog X.w) X.A (eval e X.env) (fun w s₂ => wpAny (model X.prog X.w) X.A (inplaceOp op u w) (fun r s₃ => wpAny (model X.prog X.w) X.A (storeName X.env x r) (fun _ => SP X pins D .next) X.xe s₃) X.xe s₂) X.xe s := by
  refine thn (he pins s σ H _ I h) fun w s1 ⟨y, H1, I1, r1, q1⟩ => ?_
  refine thn (ho pins s1 σ H1 v y u w _ I1 r r1 q1) fun z s2 ⟨zv, H2, I2, r2, q2⟩ => ?_
  exact KD I2 hN hi hx r2 (fun s3 I3 => ⟨_, H2, I3, q2⟩) hf
 rcases l with ⟨hk, hm⟩ | ⟨hk, c, hc, hcell⟩
 ·exact wpAny_loadName_local I.ok.kind hk hn hm go
 ·rcases hk with hk | hk
  ·exact wpAny_loadName_cell I.ok.kind hk hc hcell go
  ·rcases hx with k | k
   ·have : X.env.scope.names.lookup x = some .free := hk
    rw [k] at this; cases this
   ·have : X.env.scope.names.lookup x = some .free := hk
    rw [k] at this; cases this
def ipI (f : Int → Int → Int) : TIp := fun x y H Q => ∃ i j, x = .int i ∧ y = .int j ∧ Q (.int (f i j)) H
theorem lT : PIp X .Add (ipI fun i j => i + j) := by
 intro pins s σ H x y v u Q I r1 r2 h
 obtain ⟨i, j, e1, e2, q⟩ := h
 subst e1; subst e2
 obtain ⟨t, rfl⟩ := r1
 obtain ⟨t', rfl⟩ := r2
 exact iadd_int ⟨.int _, H, I.tok _, ⟨_, rfl⟩, q⟩
end
section
variable {X : Cx} {pos : Pos}
def cT (c : TT) (tb : TS) : TS := fun D σ H => ∃ W : Nat → St → Hp → Prop, (∃ m, W m σ H) ∧ ∀ m σ H, W m σ H →
 c σ H fun b H1 => if b = true then ∃ N : St → Hp → Prop, (∀ σ' H', N σ' H' → ∃ m', m' < m ∧ W m' σ' H') ∧ tb { D with nx := N, ct := N, bk := D.nx } σ H1 else D.nx σ H1
theorem UP {c : Expr} {body : List Stmt} {tc : TT} {tb : TS} (hp : PassesOwn (model X.prog X.w) X.A X.env X.xe) (hc : PT X c tc) (hb : PSs X body tb) : PS X (.While c body [] pos) (cT tc tb) := by
 intro pins s σ H D I h
 obtain ⟨W, ⟨m0, w0⟩, turn⟩ := h
 refine wpAny_While (codeAny_whileLoop (fun n s' => ∃ σ' H', Inv X pins σ' H' s' ∧ W n σ' H') ?_ m0 ⟨σ, H, I, w0⟩)
 rintro n s1 ⟨σ1, H1, I1, w1⟩
 refine wpAny_passesOwn hp (thn (hc pins s1 σ1 H1 _ I1 (turn n σ1 H1 w1)) fun b s2 ⟨H2, I2, q2⟩ => ?_)
 cases b with
 | true =>
  obtain ⟨N, hN, q2⟩ := q2
  rw [if_pos rfl]
  refine wpAny_passesOwn hp (thn (hb pins s2 σ1 H2 _ I2 q2) fun f s3 q3 => ?_)
  cases f with
  | next =>
   obtain ⟨σ3, H3, I3, n3⟩ := q3
   obtain ⟨m', hm, w3⟩ := hN σ3 H3 n3
   exact ⟨m', hm, σ3, H3, I3, w3⟩
  | cont =>
   obtain ⟨σ3, H3, I3, n3⟩ := q3
   obtain ⟨m', hm, w3⟩ := hN σ3 H3 n3
   exact ⟨m', hm, σ3, H3, I3, w3⟩
  | brk => exact q3
  | ret v => exact q3
 | false =>
  rw [if_neg Bool.false_ne_true]
  exact wpAny_execs_nil ⟨σ1, H2, I2, q2⟩
end
structure It where
 go : Nat → Hp → Prop
 yld : Nat → Hp → V → Hp → Prop
 stop : Nat → Hp → Prop
def LL (X : Cx) (pins : List (Addr × Obj)) (H : Hp) (b : Addr) : Prop :=
 H b = none ∧ b ≠ X.env.locals ∧ b ∉ X.fs ∧ (b ∈ X.ex ∨ X.s₀.heap.objs.size ≤ b) ∧ (∀ x c, X.env.cells.lookup x = some c → c ≠ b) ∧ ∀ p ∈ X.pn ++ pins, p.1 ≠ b
theorem Inv.fpOk {X : Cx} {pins : List (Addr × Obj)} {σ : St} {H H' : Hp} {s : Shared} {b : Addr} (I : Inv X pins σ H s) (hb : s.heap.objs.size ≤ b) (hn : H' b = none) : LL X pins H' b := by
 refine ⟨hn, Nat.ne_of_gt (Nat.lt_of_lt_of_le I.lt hb), I.nofs hb, .inr (Nat.le_trans I.sz hb), fun x c e z => ?_, fun p hp z => ?_⟩
 ·obtain ⟨v, q⟩ := I.cell x c e
  exact absurd (Nat.lt_of_lt_of_le q.lt (by rw [z]; exact hb)) (Nat.lt_irrefl _)
 ·exact absurd (Nat.lt_of_lt_of_le (Heap.lt_size (I.pin p hp).1) (by rw [z]; exact hb)) (Nat.lt_irrefl _)
structure kJ (P : Program) (w : World) (K : PySem.W.Frag) (tg : Expr) (J : It) (fp : List Addr) (it : Addr) (tn : Nat → Heap → Prop) : Prop where
 mem : it ∈ fp
 obj : ∀ i h, tn i h → ∀ b ∈ fp, ∃ o, h.get? b = some o ∧ ∀ v, o.data ≠ .cell v
 keep : ∀ i h h', tn i h → (∀ b ∈ fp, ∀ o, h.get? b = some o → h'.get? b = some o) → tn i h'
 item : ∀ (X : Cx), X.prog = P → X.w = w → X.K = K → X.calm = true → ∀ (i : Nat) (pins : List (Addr × Obj)) (s : Shared) (σ : St) (H : Hp) (E : Value → Shared → Prop), Inv X pins σ H s → (∀ b ∈ fp, LL X pins H b) → tn i s.heap → J.go i H →
  wpAny (model P w) X.A (pyNext (.ref it)) (fun r s1 => ∃ u, r = some u ∧
   wpAny (model P w) X.A (letOwnedTupleGo tg (.ref it) u) (fun _ s2 => ∃ x H', Inv X pins σ H' s2 ∧ AY x u ∧ J.yld i H x H' ∧ tn (i + 1) s2.heap ∧ ∀ b ∈ fp, H' b = none) E s1) E s
 done : ∀ (X : Cx), X.prog = P → X.w = w → X.K = K → X.calm = true → ∀ (i : Nat) (pins : List (Addr × Obj)) (s : Shared) (σ : St) (H : Hp) (E : Value → Shared → Prop), Inv X pins σ H s → (∀ b ∈ fp, LL X pins H b) → tn i s.heap → J.stop i H →
  wpAny (model P w) X.A (pyNext (.ref it)) (fun r s1 => r = none ∧ Inv X pins σ H s1) E s
 self : ∀ (A : Around) (i : Nat) (s : Shared) (Q : Value → Shared → Prop) (E : Value → Shared → Prop), tn i s.heap → Q (.ref it) s → wpAny (model P w) A (pyIter (.ref it)) Q E s
abbrev TI := St → Hp → (It → Hp → Prop) → Prop
def PIE (X : Cx) (pins : List (Addr × Obj)) (σ : St) (tg : Expr) (R : It → Hp → Prop) (itv : Value) (s2 : Shared) : Prop :=
 ∃ (it : Addr) (fp : List Addr) (tn : Nat → Heap → Prop) (J : It) (H' : Hp), itv = .ref it ∧ Inv X pins σ H' s2 ∧ kJ X.prog X.w X.K tg J fp it tn ∧ tn 0 s2.heap ∧ (∀ b ∈ fp, LL X pins H' b) ∧ R J H'
def PI (X : Cx) (tg iter : Expr) (wi : TI) : Prop :=
 ∀ (pins : List (Addr × Obj)) (s : Shared) (σ : St) (H : Hp) (R : It → Hp → Prop), Inv X pins σ H s → wi σ H R →
  wpAny (model X.prog X.w) X.A (eval iter X.env) (fun v s1 => wpAny (model X.prog X.w) X.A (pyIter v) (PIE X pins σ tg R) X.xe s1) X.xe s
theorem eP {M : Model} {A : Around} {E : Value → Shared → Prop} {s : Shared} {tg : Expr} {it : Addr} {u : Value} {o : Obj} {n : String} {vs : Array Value} {Q : Unit → Shared → Prop} (ho : s.heap.get? it = some o) (hc : o.cls = .type n) (hd : o.data = .fields vs)
  (hn : ["enumerate", "zip", "dict_itemiterator", "dict_reverseitemiterator", "odict_iterator", "itertools.zip_longest", "itertools.pairwise"].contains n = false) (hQ : Q () s) : wpAny M A (letOwnedTupleGo tg (.ref it) u) Q E s := by
 unfold letOwnedTupleGo
 cases tg <;> first
  | exact wpAny_pure hQ
  | (cases u <;> first
    | exact wpAny_pure hQ
    | (refine wpAny_bind (wpAny_load ho ?_)
       rw [hc, hd]
       show wpAny M A (if (["enumerate", "zip", "dict_itemiterator", "dict_reverseitemiterator", "odict_iterator", "itertools.zip_longest", "itertools.pairwise"].contains n && vs[0]? == some (rawInt _)) = true then _ else _) Q E s
       rw [if_neg (by intro h; rw [hn, Bool.false_and] at h; cases h)]
       exact wpAny_pure hQ))
def Itl (K : PySem.W.Frag) (a : Addr) : It :=
 ⟨fun i H => ∃ xs x, SqL K H a xs ∧ xs[i]? = some x, fun i H x H' => H' = H ∧ ∀ xs, SqL K H a xs → xs[i]? = some x, fun i H => ∃ xs, SqL K H a xs ∧ xs.length ≤ i⟩
def Itt (K : PySem.W.Frag) (a : Addr) : It :=
 ⟨fun i H => ∃ xs x, SqT K H a xs ∧ xs[i]? = some x, fun i H x H' => H' = H ∧ ∀ xs, SqT K H a xs → xs[i]? = some x, fun i H => ∃ xs, SqT K H a xs ∧ xs.length ≤ i⟩
def Itr (lo : Int) (n : Nat) : It := ⟨fun i _ => i < n, fun i H x H' => H' = H ∧ x = .int (lo + i), fun i _ => n ≤ i⟩
theorem ZD {P : Program} {w : World} {K : PySem.W.Frag} {tg : Expr} (a it : Addr) : kJ P w K tg (Itl K a) [it] it (fun i h => h.IsListIter it a i) where
 mem := by simp
 obj := fun i h st b hb => by
  have e : b = it := by simpa using hb
  subst e
  obtain ⟨o, e, c, d⟩ := st
  exact ⟨o, e, fun v z => by rw [d] at z; cases z⟩
 keep := fun i h h' st k => st.at fun o e => k it (by simp) o e
 item := by
  intro X hP hw hK hc i pins s σ H E I hf st hg
  subst hP hw hK
  obtain ⟨xs, x, hq, hx⟩ := hg
  obtain ⟨its, rv, p, hz⟩ := I.list hq
  obtain ⟨u, hu, ru⟩ := rv.get hx
  obtain ⟨f0, f1, f2, f3, f4, f5⟩ := hf it (by simp)
  refine wpAny_pyNext_list_item st p.isList (x := u) (by simpa using hu) fun h' st' sb => ?_
  have I1 : Inv X pins σ H { s with heap := h' } := I.turned (t' := s.toks) (fun b o hb e => (sb.2 b hb).trans e) f0 f1 f3 f4 f5
  obtain ⟨o, e, c, d⟩ := id st'
  exact ⟨u, rfl, eP (s := { s with heap := h' }) e c d (by decide) ⟨x, H, I1, ru, ⟨rfl, fun ys hy => by rw [I.list_inj hy hq]; exact hx⟩, st', fun b hb => (hf b hb).1⟩⟩
 done := by
  intro X hP hw hK hc i pins s σ H E I hf st hg
  subst hP hw hK
  obtain ⟨xs, hq, hx⟩ := hg
  obtain ⟨its, rv, p, hz⟩ := I.list hq
  obtain ⟨f0, f1, f2, f3, f4, f5⟩ := hf it (by simp)
  have hl := rv.length
  exact wpAny_pyNext_list_end (I.ok.hd hc) st p.isList (by simp; omega) fun h' eb => ⟨rfl, I.turned (t' := s.toks) (fun b o hb e => eb b o hb e) f0 f1 f3 f4 f5⟩
 self := fun _ _ _ _ _ st h => wpAny_pyIter_listiter st h
theorem WC {P : Program} {w : World} {K : PySem.W.Frag} {tg : Expr} (a it : Addr) : kJ P w K tg (Itt K a) [it] it (fun i h => h.IsTupleIter it a i) where
 mem := by simp
 obj := fun i h st b hb => by
  have e : b = it := by simpa using hb
  subst e
  obtain ⟨o, e, c, d⟩ := st
  exact ⟨o, e, fun v z => by rw [d] at z; cases z⟩
 keep := fun i h h' st k => st.at fun o e => k it (by simp) o e
 item := by
  intro X hP hw hK hc i pins s σ H E I hf st hg
  subst hP hw hK
  obtain ⟨xs, x, hq, hx⟩ := hg
  obtain ⟨its, rv, p, hz⟩ := I.tuple hq
  obtain ⟨u, hu, ru⟩ := rv.get hx
  obtain ⟨f0, f1, f2, f3, f4, f5⟩ := hf it (by simp)
  refine wpAny_pyNext_tuple_item st (show s.heap.IsTuple a its.toArray from p) (x := u) (by simpa using hu) fun h' st' sb => ?_
  have I1 : Inv X pins σ H { s with heap := h' } := I.turned (t' := s.toks) (fun b o hb e => (sb.2 b hb).trans e) f0 f1 f3 f4 f5
  obtain ⟨o, e, c, d⟩ := id st'
  exact ⟨u, rfl, eP (s := { s with heap := h' }) e c d (by decide) ⟨x, H, I1, ru, ⟨rfl, fun ys hy => by rw [I.tuple_inj hy hq]; exact hx⟩, st', fun b hb => (hf b hb).1⟩⟩
 done := by
  intro X hP hw hK hc i pins s σ H E I hf st hg
  subst hP hw hK
  obtain ⟨xs, hq, hx⟩ := hg
  obtain ⟨its, rv, p, hz⟩ := I.tuple hq
  obtain ⟨f0, f1, f2, f3, f4, f5⟩ := hf it (by simp)
  have hl := rv.length
  exact wpAny_pyNext_tuple_end (I.ok.hd hc) st (show s.heap.IsTuple a its.toArray from p) (by simp; omega) fun h' eb => ⟨rfl, I.turned (t' := s.toks) (fun b o hb e => eb b o hb e) f0 f1 f3 f4 f5⟩
 self := fun _ _ _ _ _ st h => wpAny_pyIter_tupleiter st h
theorem WM {P : Program} {w : World} {K : PySem.W.Frag} {tg : Expr} (it : Addr) (lo : Int) (n : Nat) : kJ P w K tg (Itr lo n) [it] it (fun i h => IsRangeIter h it (lo + (i : Nat) * 1) ((n : Int) - (i : Nat)) 1) where
 mem := by simp
 obj := fun i h st b hb => by
  have e : b = it := by simpa using hb
  subst e
  exact ⟨_, st, fun v z => by
   have z' : Data.fields _ = Data.cell v := z
   cases z'⟩
 keep := fun i h h' st k => k it (by simp) _ st
 item := by
  intro X hP hw hK hc i pins s σ H E I hf st hg
  subst hP hw hK
  obtain ⟨f0, f1, f2, f3, f4, f5⟩ := hf it (by simp)
  have W := Walks.range (prog := X.prog) (w := X.w) (I.ok.hd hc) it lo 1 n
  refine W.item i s _ _ hg st fun v h' tk hv st' kk => ?_
  obtain ⟨t, rfl⟩ := hv
  have I1 : Inv X pins σ H { s with heap := h', toks := tk } := I.turned (fun b o hb e => kk b o (by simpa using hb) e) f0 f1 f3 f4 f5
  refine ⟨_, rfl, eP (s := { s with heap := h', toks := tk }) (n := "range_iterator") st' rfl rfl (by decide) ⟨.int (lo + i), H, I1, ⟨t, ?_⟩, ⟨rfl, rfl⟩, st', fun b hb => (hf b hb).1⟩⟩
  rw [Int.mul_one]
 done := by
  intro X hP hw hK hc i pins s σ H E I hf st hg
  subst hP hw hK
  obtain ⟨f0, f1, f2, f3, f4, f5⟩ := hf it (by simp)
  exact wpAny_pyNext_range_end (I.ok.hd hc) st (by have : n ≤ i := hg; omega) fun h' eb => ⟨rfl, I.turned (t' := s.toks) (fun b o hb e => eb b o hb e) f0 f1 f3 f4 f5⟩
 self := fun _ _ _ _ _ st h => wpAny_pyIter_rangeiter st h
section
variable {X : Cx} {tg : Expr}
def TU (K : PySem.W.Frag) (tl : TE) : TI := fun σ H R => tl σ H fun x H1 => ∃ a, x = .ref a ∧ (∃ xs, SqL K H1 a xs) ∧ R (Itl K a) H1
def dH (K : PySem.W.Frag) (tl : TE) : TI := fun σ H R => tl σ H fun x H1 => ∃ a, x = .ref a ∧ (∃ xs, SqT K H1 a xs) ∧ R (Itt K a) H1
theorem iW {l : Expr} {tl : TE} (hl : PE X l tl) : PI X tg l (TU X.K tl) := by
 intro pins s σ H R I h
 refine thn (hl pins s σ H _ I h) fun v s1 ⟨x, H1, I1, r1, q1⟩ => ?_
 obtain ⟨a, e, ⟨xs, hq⟩, q⟩ := q1
 subst e
 cases r1
 obtain ⟨its, rv, p, hz⟩ := I1.list hq
 refine wpAny_pyIter_list p.isList ?_
 refine ⟨s1.heap.objs.size, [s1.heap.objs.size], _, _, H1, rfl, I1.kept (t' := s1.toks) fun b o e => Heap.get?_push_of_some _ e, ZD a _, ⟨_, Heap.get?_push_size _ rfl, rfl, rfl⟩, fun b hb => ?_, q⟩
 have e : b = s1.heap.objs.size := by simpa using hb
 subst e
 exact I1.fpOk (Nat.le_refl _) (I1.hok.fresh (Nat.le_refl _))
theorem mT {l : Expr} {tl : TE} (hl : PE X l tl) : PI X tg l (dH X.K tl) := by
 intro pins s σ H R I h
 refine thn (hl pins s σ H _ I h) fun v s1 ⟨x, H1, I1, r1, q1⟩ => ?_
 obtain ⟨a, e, ⟨xs, hq⟩, q⟩ := q1
 subst e
 cases r1
 obtain ⟨its, rv, p, hz⟩ := I1.tuple hq
 refine wpAny_pyIter_tuple (show s1.heap.IsTuple a its.toArray from p) ?_
 refine ⟨s1.heap.objs.size, [s1.heap.objs.size], _, _, H1, rfl, I1.kept (t' := s1.toks) fun b o e => Heap.get?_push_of_some _ e, WC a _, ⟨_, Heap.get?_push_size _ rfl, rfl, rfl⟩, fun b hb => ?_, q⟩
 have e : b = s1.heap.objs.size := by simpa using hb
 subst e
 exact I1.fpOk (Nat.le_refl _) (I1.hok.fresh (Nat.le_refl _))
theorem SS {pins : List (Addr × Obj)} {σ : St} {H : Hp} {s : Shared} {R : It → Hp → Prop} {E : Value → Shared → Prop} {lo hi : Int} {t u v : Tok} {tk : Nat} (I : Inv X pins σ H s) (h1 : -(2 ^ 62) ≤ lo) (h2 : lo < 2 ^ 62) (h3 : -(2 ^ 62) ≤ hi) (h4 : hi < 2 ^ 62)
  (q : R (Itr lo (hi - lo).toNat) H) : wpAny (model X.prog X.w) X.A (pyIter (.ref s.heap.objs.size)) (PIE X pins σ tg R) E { s with heap := s.heap.push { cls := .type "range", data := .fields #[.int lo t, .int hi u, .int 1 v] }, toks := tk } := by
 refine wpAny_pyIter_range (IsRange.new ..) (small_one h1 h2 h3 h4) ?_
 have I1 : Inv X pins σ H { s with heap := s.heap.push { cls := .type "range", data := .fields #[.int lo t, .int hi u, .int 1 v] }, toks := tk } := I.kept fun b o e => Heap.get?_push_of_some _ e
 refine ⟨(s.heap.push { cls := .type "range", data := .fields #[.int lo t, .int hi u, .int 1 v] }).objs.size, [(s.heap.push { cls := .type "range", data := .fields #[.int lo t, .int hi u, .int 1 v] }).objs.size], _, _, H, rfl,
  I1.kept (t' := tk) fun b o e => Heap.get?_push_of_some _ e, WM _ lo (hi - lo).toNat, ?_, fun b hb => ?_, q⟩
 ·have e1 : lo + ((0 : Nat) : Int) * 1 = lo := by simp
  have e2 : (((hi - lo).toNat : Nat) : Int) - ((0 : Nat) : Int) = Builtin.Range.rangeSize lo hi 1 := by rw [rangeSize_one]; split <;> omega
  show IsRangeIter _ _ (lo + ((0 : Nat) : Int) * 1) ((((hi - lo).toNat : Nat) : Int) - ((0 : Nat) : Int)) 1
  rw [e1, e2]
  exact Heap.get?_push_size _ rfl
 ·have e : b = (s.heap.push { cls := .type "range", data := .fields #[.int lo t, .int hi u, .int 1 v] }).objs.size := by simpa using hb
  subst e
  exact I1.fpOk (Nat.le_refl _) (I1.hok.fresh (Nat.le_refl _))
def UE (ta : TA) : TI := fun σ H R => ta σ H fun vs H1 => ∃ j : Int, vs = [.int j] ∧ -(2 ^ 62) ≤ j ∧ j < 2 ^ 62 ∧ R (Itr 0 j.toNat) H1
def UI (ta : TA) : TI := fun σ H R => ta σ H fun vs H1 => ∃ i j : Int, vs = [.int i, .int j] ∧ (-(2 ^ 62) ≤ i ∧ i < 2 ^ 62 ∧ -(2 ^ 62) ≤ j ∧ j < 2 ^ 62) ∧ R (Itr i (j - i).toNat) H1
theorem JE {a : Expr} {ta : TA} {p pos : Pos} (hg : Gl X "range") (hm : X.mg "range" = none) (ha : PA X [a] ta) (hs : starEach [a] X.env = [(false, eval a X.env)] := by rfl) : PI X tg (.Call (.Name "range" p) [a] [] pos) (UE ta) := by
 intro pins s σ H R I h
 refine Call_ (IM I hg hm boot_range (PyProof.Rows.callWith_type1 (thn (ha pos pins s σ H _ I h) fun us s1 ⟨vs, H1, I1, r1, q1⟩ => ?_) hs rfl))
 obtain ⟨j, e, q1, q2, q⟩ := q1
 subst e
 cases r1 with
 | cons r rr =>
  cases rr
  obtain ⟨t, rfl⟩ := r
  exact call_range_1 (SS I1 (by omega) (by omega) q1 q2 (by simpa using q))
theorem ZC {a b : Expr} {ta : TA} {p pos : Pos} (hg : Gl X "range") (hm : X.mg "range" = none) (ha : PA X [a, b] ta) (hs : starEach [a, b] X.env = [(false, eval a X.env), (false, eval b X.env)] := by rfl) (hs2 : starEach [b] X.env = [(false, eval b X.env)] := by rfl) :
  PI X tg (.Call (.Name "range" p) [a, b] [] pos) (UI ta) := by
 intro pins s σ H R I h
 refine Call_ (IM I hg hm boot_range (PyProof.Rows.callWith_type1 (thn (ha pos pins s σ H _ I h) fun us s1 ⟨vs, H1, I1, r1, q1⟩ => ?_) (by rw [hs, hs2]) (by rw [hs2]; rfl)))
 obtain ⟨i, j, e, ⟨q1, q2, q3, q4⟩, q⟩ := q1
 subst e
 cases r1 with
 | cons r rr =>
  cases rr with
  | cons r' rr =>
   cases rr
   obtain ⟨t, rfl⟩ := r
   obtain ⟨t', rfl⟩ := r'
   exact call_range_2 (SS I1 q1 q2 q3 q4 q)
def oA (wi : TI) (g : TG) (tb : TS) : TS := fun D σ H => wi σ H fun J H1 => ∃ W : Nat → Nat → St → Hp → Prop, (∃ m, W 0 m σ H1) ∧ ∀ i m σ H, W i m σ H →
 (J.stop i H ∧ D.nx σ H) ∨ (J.go i H ∧ ∃ N : St → Hp → Prop, (∀ σ' H', N σ' H' → ∃ m', m' < m ∧ W (i + 1) m' σ' H') ∧ ∀ x H', J.yld i H x H' → g x σ H' fun σ2 H2 => tb { D with nx := N, ct := N, bk := D.nx } σ2 H2)
def JV (fp : List Addr) (h : Heap) : List (Addr × Obj) := fp.filterMap fun b => (h.get? b).map fun o => (b, o)
theorem DU {fp : List Addr} {h : Heap} {b : Addr} {o : Obj} (hb : b ∈ fp) (e : h.get? b = some o) : (b, o) ∈ JV fp h := List.mem_filterMap.mpr ⟨b, hb, by rw [e]; rfl⟩
theorem ZT {fp : List Addr} {h : Heap} {p : Addr × Obj} (hp : p ∈ JV fp h) : p.1 ∈ fp ∧ h.get? p.1 = some p.2 := by
 obtain ⟨b, hb, e⟩ := List.mem_filterMap.mp hp
 cases q : h.get? b with
 | none => rw [q] at e; cases e
 | some o =>
  rw [q] at e
  have e' : (b, o) = p := Option.some.inj e
  subst e'
  exact ⟨hb, q⟩
theorem Inv.pinned {pins : List (Addr × Obj)} {σ : St} {H : Hp} {s : Shared} {fp : List Addr} (I : Inv X pins σ H s) (hf : ∀ b ∈ fp, LL X pins H b) (ho : ∀ b ∈ fp, ∃ o, s.heap.get? b = some o ∧ ∀ v, o.data ≠ .cell v) : Inv X (pins ++ JV fp s.heap) σ H s :=
 I.pins_of fun p hp => (List.mem_append.mp hp).elim (fun z => I.pin p (List.mem_append_right _ z)) fun z => by
  obtain ⟨hb, e⟩ := ZT z
  obtain ⟨f0, f1, f2, _⟩ := hf p.1 hb
  obtain ⟨o, e', d⟩ := ho p.1 hb
  rw [e] at e'; cases e'
  exact ⟨e, f0, f1, f2, d⟩
theorem Inv.unpinned {pins pl : List (Addr × Obj)} {σ : St} {H : Hp} {s : Shared} (I : Inv X (pins ++ pl) σ H s) : Inv X pins σ H s := I.pins_of fun p hp => I.pin p (List.mem_append_right _ (List.mem_append_left _ hp))
theorem JR {iter : Expr} {body : List Stmt} {wi : TI} {g : TG} {tb : TS} {pos : Pos} (hp : PassesOwn (model X.prog X.w) X.A X.env X.xe) (hc : X.calm = true) (hi : PI X tg iter wi) (hg : PG X tg g) (hb : PSs X body tb)
  (hs : ∀ x, foldedSetIterable iter X.env x = pure x := by intro _; rfl) : PS X (.For tg iter body [] pos) (oA wi g tb) := by
 intro pins s σ H D I h
 refine wpAny_For (thn (hi pins s σ H _ I h) fun v s1 h1 => thn h1 fun itv s2 h2 => ?_) hs
 obtain ⟨it, fp, tn, J, H2, e, I2, T, st2, f2, W, ⟨m0, w0⟩, turn⟩ := h2
 subst e
 have stat : ∀ {H' : Hp}, (∀ b ∈ fp, H' b = none) → ∀ b ∈ fp, LL X pins H' b := fun hn b hb => ⟨hn b hb, (f2 b hb).2⟩
 refine codeAny_forLoop_any (fun n s' => ∃ i σ' H', Inv X pins σ' H' s' ∧ tn i s'.heap ∧ (∀ b ∈ fp, H' b = none) ∧ W i n σ' H') ?_ m0 ⟨0, σ, H2, I2, st2, fun b hb => (f2 b hb).1, w0⟩
 rintro n s3 ⟨i, σ3, H3, I3, st3, fr3, w3⟩
 rcases turn i n σ3 H3 w3 with ⟨stop, qn⟩ | ⟨go, N, hN, step⟩
 ·refine wpAny_passesOwn hp (thn (T.done X rfl rfl rfl hc i pins s3 σ3 H3 X.xe I3 (stat fr3) st3 stop) fun r s4 ⟨hr, I4⟩ => ?_)
  subst hr
  exact wpAny_execs_nil ⟨σ3, H3, I4, qn⟩
 ·refine wpAny_passesOwn hp (thn (T.item X rfl rfl rfl hc i pins s3 σ3 H3 X.xe I3 (stat fr3) st3 go) fun r s4 ⟨u, hr, h4⟩ => ?_)
  subst hr
  refine wpAny_passesOwn hp (thn h4 fun _ s5 ⟨x, H5, I5, r5, y5, st5, fr5⟩ => ?_)
  have I5' := I5.pinned (stat fr5) (T.obj _ _ st5)
  refine wpAny_passesOwn hp (thn (hg _ s5 σ3 H5 x u _ I5' r5 (step x H5 y5)) fun _ s6 ⟨σ6, H6, I6, q6⟩ => ?_)
  refine wpAny_passesOwn hp (thn (hb _ s6 σ6 H6 _ I6 q6) fun f s7 q7 => ?_)
  have again : ∀ {σ7 : St} {H7 : Hp}, Inv X (pins ++ JV fp s5.heap) σ7 H7 s7 → N σ7 H7 → ∃ m, m < n ∧ ∃ i σ' H', Inv X pins σ' H' s7 ∧ tn i s7.heap ∧ (∀ b ∈ fp, H' b = none) ∧ W i m σ' H' := fun {σ7 H7} I7 n7 => by
   obtain ⟨m', hm, w7⟩ := hN σ7 H7 n7
   refine ⟨m', hm, i + 1, σ7, H7, I7.unpinned, T.keep _ _ _ st5 fun b hb o e => (I7.pin (b, o) (List.mem_append_right _ (List.mem_append_right _ (DU hb e)))).1, fun b hb => ?_, w7⟩
   obtain ⟨o, e, d⟩ := T.obj _ _ st5 b hb
   exact (I7.pin (b, o) (List.mem_append_right _ (List.mem_append_right _ (DU hb e)))).2.1
  cases f with
  | next => obtain ⟨σ7, H7, I7, n7⟩ := q7; exact again I7 n7
  | cont => obtain ⟨σ7, H7, I7, n7⟩ := q7; exact again I7 n7
  | brk => obtain ⟨σ7, H7, I7, q7⟩ := q7; exact ⟨σ7, H7, I7.unpinned, q7⟩
  | ret v => obtain ⟨x7, σ7, H7, I7, r7, q7⟩ := q7; exact ⟨x7, σ7, H7, I7.unpinned, r7, q7⟩
end
theorem cH {K : PySem.W.Frag} {a : Addr} {xs : List V} {g : TG} {tb : TS} {D : GG} {σ : St} {H : Hp} (Pv : Nat → St → Hp → Prop) (h0 : Pv 0 σ H) (hl : ∀ i σ H, i ≤ xs.length → Pv i σ H → SqL K H a xs)
  (hs : ∀ i x σ H, xs[i]? = some x → Pv i σ H → g x σ H fun σ2 H2 => tb { D with nx := Pv (i + 1), ct := Pv (i + 1), bk := D.nx } σ2 H2) (hd : ∀ σ H, Pv xs.length σ H → D.nx σ H) :
  ∃ W : Nat → Nat → St → Hp → Prop, (∃ m, W 0 m σ H) ∧ ∀ i m σ H, W i m σ H →
   ((Itl K a).stop i H ∧ D.nx σ H) ∨ ((Itl K a).go i H ∧ ∃ N : St → Hp → Prop, (∀ σ' H', N σ' H' → ∃ m', m' < m ∧ W (i + 1) m' σ' H') ∧ ∀ x H', (Itl K a).yld i H x H' → g x σ H' fun σ2 H2 => tb { D with nx := N, ct := N, bk := D.nx } σ2 H2) := by
 refine ⟨fun i m σ H => m = xs.length - i ∧ i ≤ xs.length ∧ Pv i σ H, ⟨xs.length, by simp, Nat.zero_le _, h0⟩, ?_⟩
 rintro i m σ H ⟨rfl, hi, p⟩
 have q := hl i σ H hi p
 by_cases hlt : i < xs.length
 ·refine .inr ⟨⟨xs, xs[i], q, by simp [hlt]⟩, Pv (i + 1), fun σ' H' p' => ⟨xs.length - (i + 1), by omega, rfl, hlt, p'⟩, fun x H' y => ?_⟩
  obtain ⟨e, y⟩ := y
  subst e
  exact hs i x σ _ (y xs q) p
 ·have e : i = xs.length := by omega
  subst e
  exact .inl ⟨⟨xs, q, Nat.le_refl _⟩, hd σ H p⟩
theorem jQ {K : PySem.W.Frag} {a : Addr} {xs : List V} {g : TG} {tb : TS} {D : GG} {σ : St} {H : Hp} (Pv : Nat → St → Hp → Prop) (h0 : Pv 0 σ H) (hl : ∀ i σ H, i ≤ xs.length → Pv i σ H → SqT K H a xs)
  (hs : ∀ i x σ H, xs[i]? = some x → Pv i σ H → g x σ H fun σ2 H2 => tb { D with nx := Pv (i + 1), ct := Pv (i + 1), bk := D.nx } σ2 H2) (hd : ∀ σ H, Pv xs.length σ H → D.nx σ H) :
  ∃ W : Nat → Nat → St → Hp → Prop, (∃ m, W 0 m σ H) ∧ ∀ i m σ H, W i m σ H →
   ((Itt K a).stop i H ∧ D.nx σ H) ∨ ((Itt K a).go i H ∧ ∃ N : St → Hp → Prop, (∀ σ' H', N σ' H' → ∃ m', m' < m ∧ W (i + 1) m' σ' H') ∧ ∀ x H', (Itt K a).yld i H x H' → g x σ H' fun σ2 H2 => tb { D with nx := N, ct := N, bk := D.nx } σ2 H2) := by
 refine ⟨fun i m σ H => m = xs.length - i ∧ i ≤ xs.length ∧ Pv i σ H, ⟨xs.length, by simp, Nat.zero_le _, h0⟩, ?_⟩
 rintro i m σ H ⟨rfl, hi, p⟩
 have q := hl i σ H hi p
 by_cases hlt : i < xs.length
 ·refine .inr ⟨⟨xs, xs[i], q, by simp [hlt]⟩, Pv (i + 1), fun σ' H' p' => ⟨xs.length - (i + 1), by omega, rfl, hlt, p'⟩, fun x H' y => ?_⟩
  obtain ⟨e, y⟩ := y
  subst e
  exact hs i x σ _ (y xs q) p
 ·have e : i = xs.length := by omega
  subst e
  exact .inl ⟨⟨xs, q, Nat.le_refl _⟩, hd σ H p⟩
theorem ZH {lo : Int} {n : Nat} {g : TG} {tb : TS} {D : GG} {σ : St} {H : Hp} (Pv : Nat → St → Hp → Prop) (h0 : Pv 0 σ H)
  (hs : ∀ i σ H, i < n → Pv i σ H → g (.int (lo + i)) σ H fun σ2 H2 => tb { D with nx := Pv (i + 1), ct := Pv (i + 1), bk := D.nx } σ2 H2) (hd : ∀ σ H, Pv n σ H → D.nx σ H) :
  ∃ W : Nat → Nat → St → Hp → Prop, (∃ m, W 0 m σ H) ∧ ∀ i m σ H, W i m σ H →
   ((Itr lo n).stop i H ∧ D.nx σ H) ∨ ((Itr lo n).go i H ∧ ∃ N : St → Hp → Prop, (∀ σ' H', N σ' H' → ∃ m', m' < m ∧ W (i + 1) m' σ' H') ∧ ∀ x H', (Itr lo n).yld i H x H' → g x σ H' fun σ2 H2 => tb { D with nx := N, ct := N, bk := D.nx } σ2 H2) := by
 refine ⟨fun i m σ H => m = n - i ∧ i ≤ n ∧ Pv i σ H, ⟨n, by simp, Nat.zero_le _, h0⟩, ?_⟩
 rintro i m σ H ⟨rfl, hi, p⟩
 by_cases hlt : i < n
 ·refine .inr ⟨hlt, Pv (i + 1), fun σ' H' p' => ⟨n - (i + 1), by omega, rfl, hlt, p'⟩, fun x H' y => ?_⟩
  obtain ⟨e, y⟩ := y
  subst e y
  exact hs i σ _ hlt p
 ·have e : i = n := by omega
  subst e
  exact .inl ⟨Nat.le_refl _, hd σ H p⟩
abbrev R2 := V → V → Hp → VK → Prop
def OpR (X : Cx) (f : Value → Value → Sem Value) (r : R2) : Prop :=
 ∀ (pins : List (Addr × Obj)) (s : Shared) (σ : St) (H : Hp) (x y : V) (v u : Value) (Q : VK), Inv X pins σ H s → AY x v → AY y u → r x y H Q →
  wpAny (model X.prog X.w) X.A (f v u) (EP X pins σ Q) X.xe s
def UnR (X : Cx) (f : Value → Sem Value) (r : V → Hp → VK → Prop) : Prop :=
 ∀ (pins : List (Addr × Obj)) (s : Shared) (σ : St) (H : Hp) (x : V) (v : Value) (Q : VK), Inv X pins σ H s → AY x v → r x H Q →
  wpAny (model X.prog X.w) X.A (f v) (EP X pins σ Q) X.xe s
def EI (X : Cx) (f : Value) (r : List V → Hp → VK → Prop) : Prop :=
 ∀ (pins : List (Addr × Obj)) (s : Shared) (σ : St) (H : Hp) (xs : List V) (us : List Value) (Q : VK), Inv X pins σ H s → AO xs us → r xs H Q →
  wpAny (model X.prog X.w) X.A (call f us) (EP X pins σ Q) X.xe s
def TruR (X : Cx) (r : V → Hp → (Bool → Hp → Prop) → Prop) : Prop :=
 ∀ (pins : List (Addr × Obj)) (s : Shared) (σ : St) (H : Hp) (x : V) (v : Value) (Q : Bool → Hp → Prop), Inv X pins σ H s → AY x v → r x H Q →
  wpAny (model X.prog X.w) X.A (truthy v) (TP X pins σ Q) X.xe s
def tOp (r : R2) (ta tb : TE) : TE := fun σ H Q => ta σ H fun x H1 => tb σ H1 fun y H2 => r x y H2 Q
def tUn (r : V → Hp → VK → Prop) (ta : TE) : TE := fun σ H Q => ta σ H fun x H1 => r x H1 Q
def rI (C : Int → Int → Prop) (g : Int → Int → V) : R2 := fun x y H Q => ∃ i j, x = .int i ∧ y = .int j ∧ C i j ∧ Q (g i j) H
def rI0 (g : Int → Int → V) : R2 := fun x y H Q => ∃ i j, x = .int i ∧ y = .int j ∧ Q (g i j) H
def rU (g : Int → V) : V → Hp → VK → Prop := fun x H Q => ∃ i, x = .int i ∧ Q (g i) H
section
variable {X : Cx} {a b c : Expr} {ta tb tc : TE} {pos : Pos}
theorem lG (ha : PE X a ta) (hb : PE X b tb) {pins : List (Addr × Obj)} {s : Shared} {σ : St} {H : Hp} {R : V → V → Hp → Prop} (I : Inv X pins σ H s)
  (h : ta σ H fun x H1 => tb σ H1 fun y H2 => R x y H2) {Q : Value → Shared → Prop} {f : Value → Value → Sem Value}
  (hf : ∀ v u s2 x y H2, Inv X pins σ H2 s2 → AY x v → AY y u → R x y H2 → wpAny (model X.prog X.w) X.A (f v u) Q X.xe s2) :
  wpAny (model X.prog X.w) X.A (eval a X.env) (fun v s₁ => wpAny (model X.prog X.w) X.A (eval b X.env) (fun u s₂ => wpAny (model X.prog X.w) X.A (f v u) Q X.xe s₂) X.xe s₁) X.xe s := by
 refine thn (ha pins s σ H _ I h) fun v s1 ⟨x, H1, I1, r1, q1⟩ => ?_
 refine thn (hb pins s1 σ H1 _ I1 q1) fun u s2 ⟨y, H2, I2, r2, q2⟩ => ?_
 exact hf v u s2 x y H2 I2 r1 r2 q2
theorem AJ {op : Operator} {r : R2} (ho : OpR X (binaryOp op) r) (ha : PE X a ta) (hb : PE X b tb) : PE X (.BinOp a op b pos) (tOp r ta tb) := by
 intro pins s σ H Q I h
 exact wpAny_BinOp (lG ha hb I h fun v u s2 x y H2 I2 rx ry q => ho pins s2 σ H2 x y v u Q I2 rx ry q)
theorem XT {op : UnaryOp} {r : V → Hp → VK → Prop} (ho : UnR X (unaryOp op) r) (ha : PE X a ta) : PE X (.UnaryOp op a pos) (tUn r ta) := by
 intro pins s σ H Q I h
 exact UnaryOp_ (thn (ha pins s σ H _ I h) fun v s1 ⟨x, H1, I1, r1, q1⟩ => ho pins s1 σ H1 x v Q I1 r1 q1)
theorem opI {f : Value → Value → Sem Value} {C : Int → Int → Prop} {g : Int → Int → Int}
  (rule : ∀ (i j : Int) (t u : Tok) (s : Shared) (Q : Value → Shared → Prop) (E : Value → Shared → Prop), C i j → Q (.int (g i j) s.toks) { s with toks := s.toks + 1 } → wpAny (model X.prog X.w) X.A (f (.int i t) (.int j u)) Q E s) :
  OpR X f (rI C fun i j => .int (g i j)) := by
 intro pins s σ H x y v u Q I rx ry h
 obtain ⟨i, j, rfl, rfl, hc, q⟩ := h
 obtain ⟨t, rfl⟩ := rx
 obtain ⟨t', rfl⟩ := ry
 exact rule i j t t' s _ _ hc ⟨.int (g i j), H, I.tok _, ⟨_, rfl⟩, q⟩
theorem pG {f : Value → Value → Sem Value} {g : Int → Int → Int}
  (rule : ∀ (i j : Int) (t u : Tok) (s : Shared) (Q : Value → Shared → Prop) (E : Value → Shared → Prop), Q (.int (g i j) s.toks) { s with toks := s.toks + 1 } → wpAny (model X.prog X.w) X.A (f (.int i t) (.int j u)) Q E s) :
  OpR X f (rI0 fun i j => .int (g i j)) := by
 intro pins s σ H x y v u Q I rx ry h
 obtain ⟨i, j, rfl, rfl, q⟩ := h
 obtain ⟨t, rfl⟩ := rx
 obtain ⟨t', rfl⟩ := ry
 exact rule i j t t' s _ _ ⟨.int (g i j), H, I.tok _, ⟨_, rfl⟩, q⟩
theorem iG {f : Value → Value → Sem Value} {g : Int → Int → Bool}
  (rule : ∀ (i j : Int) (t u : Tok) (s : Shared) (Q : Value → Shared → Prop) (E : Value → Shared → Prop), Q (.bool (g i j)) s → wpAny (model X.prog X.w) X.A (f (.int i t) (.int j u)) Q E s) :
  OpR X f (rI0 fun i j => .bl (g i j)) := by
 intro pins s σ H x y v u Q I rx ry h
 obtain ⟨i, j, rfl, rfl, q⟩ := h
 obtain ⟨t, rfl⟩ := rx
 obtain ⟨t', rfl⟩ := ry
 exact rule i j t t' s _ _ ⟨.bl (g i j), H, I, rfl, q⟩
def oK (i j : Int) : Prop := 0 ≤ j ∧ j ≤ 1000000 ∧ i.natAbs < 2 ^ 64
theorem nS : OpR X (binaryOp .Add) (rI0 fun i j => .int (i + j)) := pG fun _ _ _ _ _ _ _ q => add_int q
theorem nR : OpR X (binaryOp .Sub) (rI0 fun i j => .int (i - j)) := pG fun _ _ _ _ _ _ _ q => sub_int q
theorem nB : OpR X (binaryOp .Mod) (rI (fun _ j => 0 < j) fun i j => .int (i % j)) := opI fun i j _ _ _ _ _ hc q => by
 have h1 : (0 : Int) < j := hc
 exact mod_int' (by omega) (by rw [Int.fmod_eq_emod_of_nonneg i (by omega)]; exact q)
theorem mF : OpR X (binaryOp .Pow) (rI oK fun i j => .int (i ^ j.toNat)) := opI fun _ _ _ _ _ _ _ hc q => pow_int_small hc.1 hc.2.1 hc.2.2 q
theorem unI {f : Value → Sem Value} {g : Int → Int}
  (rule : ∀ (i : Int) (t : Tok) (s : Shared) (Q : Value → Shared → Prop) (E : Value → Shared → Prop), Q (.int (g i) s.toks) { s with toks := s.toks + 1 } → wpAny (model X.prog X.w) X.A (f (.int i t)) Q E s) :
  UnR X f (rU fun i => .int (g i)) := by
 intro pins s σ H x v Q I rx h
 obtain ⟨i, rfl, q⟩ := h
 obtain ⟨t, rfl⟩ := rx
 exact rule i t s _ _ ⟨.int (g i), H, I.tok _, ⟨_, rfl⟩, q⟩
theorem lF : UnR X (unaryOp .USub) (rU fun i => .int (-i)) := unI fun _ _ _ _ _ q => neg_int q
end
def mS : V → V → Bool
 | .non, .non => true | .non, .int _ => true | .int _, .non => true | .non, .bl _ => true | .bl _, .non => true | .non, .str _ => true | .str _, .non => true
 | .int _, .int _ => true | .bl _, .bl _ => true | .str _, .str _ => true | .byt _, .byt _ => true
 | .int _, .str _ => true | .str _, .int _ => true | .bl _, .str _ => true | .str _, .bl _ => true
 | _, _ => false
def rEq : R2 := fun x y H Q => mS x y = true ∧ Q (.bl (decide (x = y))) H
def rNe : R2 := fun x y H Q => mS x y = true ∧ Q (.bl (!decide (x = y))) H
theorem YG {i j : Int} : decide (V.int i = V.int j) = (i == j) := by
 rw [Bool.eq_iff_iff]
 simp
theorem bY {i j : Bool} : decide (V.bl i = V.bl j) = (i == j) := by
 rw [Bool.eq_iff_iff]
 simp
theorem XD {i j : Str} : decide (V.str i = V.str j) = (i == j) := by
 rw [Bool.eq_iff_iff]
 simp
theorem XL {i j : Array UInt8} : decide (V.byt i = V.byt j) = (i.toList == j.toList) := by
 rw [Bool.eq_iff_iff]
 cases i
 cases j
 simp
section
variable {X : Cx} {a b c : Expr} {ta tb tc : TE} {pos : Pos}
theorem BM {pins : List (Addr × Obj)} {σ : St} {H : Hp} {s : Shared} {Q : VK} {k k' : Bool} (I : Inv X pins σ H s) (q : Q (.bl k) H) (e : k = k') : EP X pins σ Q (.bool k') s := by
 subst e
 exact ⟨.bl k, H, I, rfl, q⟩
theorem oN : OpR X (compareOp .Eq) rEq := by
 intro pins s σ H x y v u Q I rx ry h
 obtain ⟨hs, q⟩ := h
 cases x with
 | non =>
  cases rx
  cases y with
  | non => cases ry; exact PySem.EqNone.eq_none_none (BM I q (by simp))
  | bl j => cases ry; exact PySem.EqNone.eq_none_bool (BM I q (by simp))
  | int j => obtain ⟨t', rfl⟩ := ry; exact PySem.EqNone.eq_none_int (BM I q (by simp))
  | str j => obtain ⟨t', rfl⟩ := ry; exact PySem.EqNone.eq_none_str (BM I q (by simp))
  | _ => exact absurd (show false = true from hs) Bool.false_ne_true
 | bl i =>
  cases rx
  cases y with
  | non => cases ry; exact PySem.EqNone.eq_bool_none (BM I q (by simp))
  | bl j => cases ry; exact eq_bool (BM I q bY)
  | str j => obtain ⟨t', rfl⟩ := ry; exact PySem.EqMixed.eq_bool_str (BM I q (by simp))
  | _ => exact absurd (show false = true from hs) Bool.false_ne_true
 | int i =>
  obtain ⟨t, rfl⟩ := rx
  cases y with
  | non => cases ry; exact PySem.EqNone.eq_int_none (BM I q (by simp))
  | int j => obtain ⟨t', rfl⟩ := ry; exact eq_int (BM I q YG)
  | str j => obtain ⟨t', rfl⟩ := ry; exact PySem.EqMixed.eq_int_str (BM I q (by simp))
  | _ => exact absurd (show false = true from hs) Bool.false_ne_true
 | str i =>
  obtain ⟨t, rfl⟩ := rx
  cases y with
  | non => cases ry; exact PySem.EqNone.eq_str_none (BM I q (by simp))
  | bl j => cases ry; exact PySem.EqMixed.eq_str_bool (BM I q (by simp))
  | int j => obtain ⟨t', rfl⟩ := ry; exact PySem.EqMixed.eq_str_int (BM I q (by simp))
  | str j => obtain ⟨t', rfl⟩ := ry; exact eq_str (BM I q XD)
  | _ => exact absurd (show false = true from hs) Bool.false_ne_true
 | byt i =>
  obtain ⟨t, rfl⟩ := rx
  cases y with
  | byt j => obtain ⟨t', rfl⟩ := ry; exact PySem.W.eq_bytes (BM I q XL)
  | _ => exact absurd (show false = true from hs) Bool.false_ne_true
 | _ => cases y <;> exact absurd (show false = true from hs) Bool.false_ne_true
theorem pN : OpR X (compareOp .NotEq) rNe := by
 intro pins s σ H x y v u Q I rx ry h
 obtain ⟨hs, q⟩ := h
 cases x with
 | non =>
  cases rx
  cases y with
  | non => cases ry; exact PySem.EqNone.ne_none_none (BM I q (by simp))
  | bl j => cases ry; exact PySem.EqNone.ne_none_bool (BM I q (by simp))
  | int j => obtain ⟨t', rfl⟩ := ry; exact PySem.EqNone.ne_none_int (BM I q (by simp))
  | str j => obtain ⟨t', rfl⟩ := ry; exact PySem.EqNone.ne_none_str (BM I q (by simp))
  | _ => exact absurd (show false = true from hs) Bool.false_ne_true
 | bl i =>
  cases rx
  cases y with
  | non => cases ry; exact PySem.EqNone.ne_bool_none (BM I q (by simp))
  | bl j => cases ry; exact ne_bool (BM I q (congrArg not bY))
  | str j => obtain ⟨t', rfl⟩ := ry; exact PySem.EqMixed.ne_bool_str (BM I q (by simp))
  | _ => exact absurd (show false = true from hs) Bool.false_ne_true
 | int i =>
  obtain ⟨t, rfl⟩ := rx
  cases y with
  | non => cases ry; exact PySem.EqNone.ne_int_none (BM I q (by simp))
  | int j => obtain ⟨t', rfl⟩ := ry; exact ne_int (BM I q (congrArg not YG))
  | str j => obtain ⟨t', rfl⟩ := ry; exact PySem.EqMixed.ne_int_str (BM I q (by simp))
  | _ => exact absurd (show false = true from hs) Bool.false_ne_true
 | str i =>
  obtain ⟨t, rfl⟩ := rx
  cases y with
  | non => cases ry; exact PySem.EqNone.ne_str_none (BM I q (by simp))
  | bl j => cases ry; exact PySem.EqMixed.ne_str_bool (BM I q (by simp))
  | int j => obtain ⟨t', rfl⟩ := ry; exact PySem.EqMixed.ne_str_int (BM I q (by simp))
  | str j => obtain ⟨t', rfl⟩ := ry; exact ne_str (BM I q (congrArg not XD))
  | _ => exact absurd (show false = true from hs) Bool.false_ne_true
 | byt i =>
  obtain ⟨t, rfl⟩ := rx
  cases y with
  | byt j => obtain ⟨t', rfl⟩ := ry; exact PySem.W.ne_bytes (BM I q (congrArg not XL))
  | _ => exact absurd (show false = true from hs) Bool.false_ne_true
 | _ => cases y <;> exact absurd (show false = true from hs) Bool.false_ne_true
theorem nZ : OpR X (compareOp .Lt) (rI0 fun i j => .bl (decide (i < j))) := iG fun _ _ _ _ _ _ _ q => lt_int q
theorem oF : OpR X (compareOp .LtE) (rI0 fun i j => .bl (decide (i ≤ j))) := iG fun _ _ _ _ _ _ _ q => le_int q
theorem pY : OpR X (compareOp .Gt) (rI0 fun i j => .bl (decide (j < i))) := iG fun _ _ _ _ _ _ _ q => gt_int q
theorem oB : OpR X (compareOp .GtE) (rI0 fun i j => .bl (decide (j ≤ i))) := iG fun _ _ _ _ _ _ _ q => ge_int q
theorem BB (b : Expr) {op : CmpOp} (h : op ≠ .In := by decide) (h2 : op ≠ .NotIn := by decide) : behindInMarks op b = false := by
 have e1 : (op == CmpOp.In) = false := by cases op <;> first | rfl | exact absurd rfl h
 have e2 : (op == CmpOp.NotIn) = false := by cases op <;> first | rfl | exact absurd rfl h2
 cases b <;> simp [behindInMarks, e1, e2]
theorem DP {op : CmpOp} {r : R2} (ho : OpR X (compareOp op) r) (ha : PE X a ta) (hb : PE X b tb) (hm : behindInMarks op b = false) : PE X (.Compare a [op] [b] pos) (tOp r ta tb) := by
 intro pins s σ H Q I h
 exact wpAny_Compare1 (lG ha hb I h fun v u s2 x y H2 I2 rx ry q => ho pins s2 σ H2 x y v u Q I2 rx ry q) hm
def PM (t : TE) : TT := fun σ H Q => t σ H fun x H' => ∃ k, x = .bl k ∧ Q k H'
theorem iT {op : CmpOp} {r : R2} (ho : OpR X (compareOp op) r) (ha : PE X a ta) (hb : PE X b tb) (hm : behindInMarks op b = false) : PT X (.Compare a [op] [b] pos) (PM (tOp r ta tb)) := by
 intro pins s σ H Q I h
 refine wpAny_isTrue_Compare1 (thn (ha pins s σ H _ I h) fun v s1 ⟨x, H1, I1, r1, q1⟩ => thn (hb pins s1 σ H1 _ I1 q1) fun u s2 ⟨y, H2, I2, r2, q2⟩ =>
  thn (ho pins s2 σ H2 x y v u _ I2 r1 r2 q2) fun c s3 ⟨z, H3, I3, r3, k, e, q3⟩ => ?_) hm
 subst e
 cases r3
 exact wpAny_truthy_bool ⟨H3, I3, q3⟩
def NV (r r' : R2) (ta tb tc : TE) : TE := fun σ H Q => ta σ H fun x H1 => tb σ H1 fun y H2 => r x y H2 fun z H3 => ∃ k, z = .bl k ∧
 (if k = true then tc σ H3 fun w' H4 => r' y w' H4 Q else Q (.bl false) H3)
theorem SR {op op' : CmpOp} {r r' : R2} (ho : OpR X (compareOp op) r) (ho' : OpR X (compareOp op') r') (ha : PE X a ta) (hb : PE X b tb) (hc : PE X c tc)
  (hm : lastMarks [op, op'] [b, c] = false := by with_unfolding_all rfl) : PT X (.Compare a [op, op'] [b, c] pos) (PM (NV r r' ta tb tc)) := by
 intro pins s σ H Q I h
 refine isTrue_chain (thn (ha pins s σ H _ I h) fun v s1 ⟨x, H1, I1, r1, q1⟩ => test_link (thn (hb pins s1 σ H1 _ I1 q1) fun u s2 ⟨y, H2, I2, r2, q2⟩ =>
  thn (ho pins s2 σ H2 x y v u _ I2 r1 r2 q2) fun d s3 ⟨z, H3, I3, r3, k, e, q3⟩ => ?_)) hm
 subst e
 cases r3
 refine wpAny_truthy_bool ?_
 cases k with
 | false =>
  obtain ⟨k', e', q'⟩ := q3
  cases e'
  exact ite_ff ⟨H3, I3, q'⟩
 | true =>
  refine ite_tt (test_last (thn (hc pins s3 σ H3 _ I3 q3) fun w' s4 ⟨z', H4, I4, r4, q4⟩ => thn (ho' pins s4 σ H4 y z' u w' _ I4 r2 r4 q4) fun d' s5 ⟨z2, H5, I5, r5, k2, e2, q5⟩ => ?_))
  subst e2
  cases r5
  exact wpAny_truthy_bool ⟨H5, I5, q5⟩
def lR (K : PySem.W.Frag) (x : V) (H : Hp) (k : Bool) : Prop :=
 match x with
 | .non => k = false
 | .bl b => k = b
 | .int i => k = (i != 0)
 | .str y => y.length ≤ sizeLine ∧ k = ((y.length : Int) != 0)
 | .byt y => y.size ≤ sizeLine ∧ k = ((y.size : Int) != 0)
 | .ref p => (∃ xs, SqL K H p xs ∧ k = !xs.isEmpty) ∨ (∃ xs, SqT K H p xs ∧ k = !xs.isEmpty) ∨ ∃ kvs, H p = some (.dK kvs) ∧ k = !kvs.isEmpty
 | _ => False
theorem XC {κ : Type} {kvs : List (κ × V)} {vs : List (κ × Value)} (r : KV kvs vs) : (!vs.isEmpty) = !kvs.isEmpty := by
 cases r <;> rfl
theorem NA {xs : List V} {its : List Value} (r : AO xs its) : (!its.toArray.isEmpty) = !xs.isEmpty := by
 cases r <;> simp
theorem RK : (sizeLine : Nat) < 2 ^ 63 := by rw [sizeLine_eq]; decide
theorem fX : TruR X (fun x H Q => ∃ k, lR X.K x H k ∧ Q k H) := by
 intro pins s σ H x v Q I rx h
 obtain ⟨k, e, q⟩ := h
 have hl := RK
 have hs : sizeLine = 16777216 := sizeLine_eq
 cases x with
 | non =>
  cases rx
  have e' : k = false := e
  subst e'
  exact truthy_none ⟨H, I, q⟩
 | bl b =>
  cases rx
  have e' : k = b := e
  subst e'
  exact wpAny_truthy_bool ⟨H, I, q⟩
 | int i =>
  obtain ⟨t, rfl⟩ := rx
  have e' : k = (i != 0) := e
  subst e'
  exact PySem.P.truthy_int ⟨H, I, q⟩
 | str y =>
  obtain ⟨t, rfl⟩ := rx
  obtain ⟨hy, e'⟩ : y.length ≤ sizeLine ∧ k = ((y.length : Int) != 0) := e
  subst e'
  exact PySem.P.truthy_str (by omega) ⟨H, I.tok _, q⟩
 | byt y =>
  obtain ⟨t, rfl⟩ := rx
  obtain ⟨hy, e'⟩ : y.size ≤ sizeLine ∧ k = ((y.size : Int) != 0) := e
  subst e'
  exact PySem.W.truthy_bytes (by omega) ⟨H, I.tok _, q⟩
 | ref p =>
  cases rx
  have e' : (∃ xs, SqL X.K H p xs ∧ k = !xs.isEmpty) ∨ (∃ xs, SqT X.K H p xs ∧ k = !xs.isEmpty) ∨ ∃ kvs, H p = some (.dK kvs) ∧ k = !kvs.isEmpty := e
  rcases e' with ⟨xs, hx, e'⟩ | ⟨xs, hx, e'⟩ | ⟨kvs, hx, e'⟩
  ·subst e'
   obtain ⟨its, r, pl, hz⟩ := I.list hx
   have hlen := r.length
   exact wpAny_truthy_list pl.isList (by simp only [List.size_toArray]; omega) ⟨H, I.tok _, by rw [NA r]; exact q⟩
  ·subst e'
   obtain ⟨its, r, pl, hz⟩ := I.tuple hx
   have hlen := r.length
   exact truthy_tuple pl (by simp only [List.size_toArray]; omega) ⟨H, I.tok _, by rw [NA r]; exact q⟩
  ·subst e'
   obtain ⟨hz, hS, vs, r, m⟩ : kvs.length ≤ sizeLine ∧ (p == sysModules) = false ∧ ∃ vs, KV kvs vs ∧ s.heap.DictOf (BT X.prog X.w) p vs := I.hok p _ hx
   have hlen : kvs.length = vs.length := Paired.length r
   exact wpAny_truthy_dict hS m (by omega) ⟨H, I.tok _, by rw [XC r]; exact q⟩
 | _ => exact (show False from e).elim
theorem eJ (ha : PE X a ta) (he : ∀ whole, isTrue a X.env whole = (do let v ← whole; standAt a.pos; holding [v] (truthy v))) :
  PT X a (fun σ H Q => ta σ H fun x H' => ∃ k, lR X.K x H' k ∧ Q k H') := by
 intro pins s σ H Q I h
 exact isTrue_plain (thn (ha pins s σ H _ I h) fun v s1 ⟨x, H1, I1, r1, q1⟩ => fX pins s1 σ H1 x v Q I1 r1 q1) (he _)
theorem YC {x : V} {us : List Value} (r : AO [x] us) : ∃ u, us = [u] ∧ AY x u := by
 cases r with
 | cons r1 r2 => cases r2; exact ⟨_, rfl, r1⟩
theorem kY {x y : V} {us : List Value} (r : AO [x, y] us) : ∃ u w', us = [u, w'] ∧ AY x u ∧ AY y w' := by
 cases r with
 | cons r1 r2 =>
  cases r2 with
  | cons r3 r4 => cases r4; exact ⟨_, _, rfl, r1, r3⟩
theorem YS (hc : X.calm = true) : EI X (.builtin "max") (fun xs H Q => ∃ i j, xs = [.int i, .int j] ∧ Q (.int (if j > i then j else i)) H) := by
 intro pins s σ H xs us Q I r h
 obtain ⟨i, j, rfl, q⟩ := h
 obtain ⟨u, w', rfl, ⟨t, rfl⟩, ⟨t', rfl⟩⟩ := kY r
 refine max_two_ints (I.ok.hd hc) fun h' tk k => ⟨_, H, I.kept k, ?_, q⟩
 by_cases hj : j > i
 ·rw [if_pos hj, if_pos hj]; exact ⟨_, rfl⟩
 ·rw [if_neg hj, if_neg hj]; exact ⟨_, rfl⟩
theorem ZE (hc : X.calm = true) : EI X (.builtin "min") (fun xs H Q => ∃ i j, xs = [.int i, .int j] ∧ Q (.int (if j < i then j else i)) H) := by
 intro pins s σ H xs us Q I r h
 obtain ⟨i, j, rfl, q⟩ := h
 obtain ⟨u, w', rfl, ⟨t, rfl⟩, ⟨t', rfl⟩⟩ := kY r
 refine min_two_ints (I.ok.hd hc) fun h' tk k => ⟨_, H, I.kept k, ?_, q⟩
 by_cases hj : j < i
 ·rw [if_pos hj, if_pos hj]; exact ⟨_, rfl⟩
 ·rw [if_neg hj, if_neg hj]; exact ⟨_, rfl⟩
theorem PV : EI X (.type "int") (fun xs H Q => (∃ i, xs = [.int i] ∧ Q (.int i) H) ∨ ∃ k, xs = [.bl k] ∧ Q (.int (if k then 1 else 0)) H) := by
 intro pins s σ H xs us Q I r h
 rcases h with ⟨i, rfl, q⟩ | ⟨k, rfl, q⟩
 ·obtain ⟨u, rfl, t, rfl⟩ := YC r
  exact call_int_int ⟨.int i, H, I, ⟨_, rfl⟩, q⟩
 ·obtain ⟨u, rfl, r1⟩ := YC r
  cases r1
  exact call_int_bool ⟨.int (if k then 1 else 0), H, I.tok _, ⟨_, rfl⟩, q⟩
end
structure VC (h : Heap) (x dx C : Addr) (mA : Str → Option Value) : Prop where
 obj : h.get? x = some (PySem.W.instObj C dx)
 ns : h.Ns1 dx mA
 ne : dx ≠ x
theorem ZZ {h : Heap} {dx : Addr} {mA : Str → Option Value} (n : h.Ns1 dx mA) : ∃ od, h.get? dx = some od ∧ ∀ name, PySem.W.lookIn name od = some (mA name) := by
 obtain ⟨o, es, ep, ho, hd, hk, _, hm⟩ := n
 refine ⟨o, ho, fun name => ?_⟩
 have e := hm name
 unfold nsFind findBy at e
 rw [← Array.find?_toList] at e
 unfold PySem.W.lookIn
 rw [hd]
 dsimp only
 split
 ·rename_i y q
  rw [q] at e
  exact congrArg some e
 ·rename_i q
  rw [q] at e
  have a : es.toList.any (·.refKey) = false := by
   rw [List.any_eq_false]
   intro y hy
   obtain ⟨z, t, hkey⟩ := hk y (Array.mem_toList_iff.mp hy)
   simp [DictEntry.refKey, hkey]
  have a' : ¬ es.toList.any (·.refKey) = true := by rw [a]; exact Bool.false_ne_true
  rw [if_neg a']
  exact congrArg some e
theorem VC.look {h : Heap} {x dx C : Addr} {mA : Str → Option Value} (I : VC h x dx C mA) : ∃ od, PySem.W.InstAt h x (PySem.W.instObj C dx) C (some od) ∧ ∀ name, PySem.W.lookIn name od = some (mA name) :=
 let ⟨od, ho, hl⟩ := ZZ I.ns
 ⟨od, ⟨I.obj, rfl, rfl, ho⟩, hl⟩
section
variable {prog : Program} {w : World} {A : Around} {E : Value → Shared → Prop} {s : Shared} {K : PySem.W.Frag} {x dx C f : Addr} {mA : Str → Option Value} {name : Str} {v : Value}
theorem iN {expr : Bool} {Q : Value → Shared → Prop} (X : K.In s.heap) (I : VC s.heap x dx C mA) (hg : PySem.W.plainGet K C name = true) (hh : PySem.W.hasDictIn K C = true)
  (ha : PySem.W.findIn K (.ref C) name = some none) (hv : mA name = some v) (hv' : PySem.W.handedIn v = true) (h : Q v { s with toks := s.toks + 1 }) :
  wpAny (model prog w) A (getAttr (.ref x) name expr) Q E s := by
 obtain ⟨od, J, hl⟩ := I.look
 exact PySem.W.get_value X J (PySem.W.plainGet_of hg).1 (PySem.W.findObj_own hh ha rfl (by rw [hl, hv])) hv' h
theorem fF {pl : Sem Bool} {Q : Value × List Value → Shared → Prop} (X : K.In s.heap) (I : VC s.heap x dx C mA) (hg : PySem.W.plainGet K C name = true)
  (hf : PySem.W.findIn K (.ref C) name = some (some (.ref f))) (ht : PySem.W.isFn K (.ref f) = true) (hv : mA name = none) (h : Q (.ref f, [.ref x]) s) :
  wpAny (model prog w) A (getMethod (.ref x) name pl) Q E s := by
 obtain ⟨od, J, hl⟩ := I.look
 exact PySem.W.method_fn X J (PySem.W.plainGet_of hg).1 (PySem.W.plainGet_of hg).2 hf (beq_iff_eq.mp ht) (by show (PySem.W.lookIn name od).map (·.isSome) = some false; rw [hl, hv]; rfl) h
theorem jP {ns : List Str} {Q : Unit → Shared → Prop} (X : K.In s.heap) (I : VC s.heap x dx C mA)
  (hs : PySem.W.findIn K (.ref C) "__setattr__" = some (some (.builtin "object.__setattr__"))) (hp : PySem.W.plainOver K C = true) (ht : PySem.W.takerIn K C name = some none) (hh : PySem.W.hasDictIn K C = true)
  (hw : PySem.Within mA ns) (hsz : ns.length ≤ sizeLine)
  (h : ∀ h', VC h' x dx C (fun y => if y = name then some v else mA y) → Heap.SameBut dx s.heap h' → Q () { s with heap := h', toks := s.toks + 2 }) :
  wpAny (model prog w) A (setAttr (.ref x) name v) Q E s := by
 obtain ⟨od, J, hl⟩ := I.look
 refine PySem.W.set_plain X J hs (PySem.W.osa_open (s := { s with toks := s.toks + 1 }) (r := none) X J hp ht fun b => ?_)
 obtain ⟨cd, hc, hd'⟩ := PySem.W.any_some hh
 have hx : s.heap.get? x = some ⟨.ref C, some dx, .plain, #[]⟩ := I.obj
 refine wpAny_bind (wpAny_pure (wpAny_bind (wpAny_bind (wpAny_loadPart hx (wpAny_bind (PySem.W.Looks.here (s := { s with toks := s.toks + 1 }) (PySem.W.looks_clsIn X hc) ?_))))))
 rw [hd']
 refine wpAny_pure (a := some dx) (wpAny_bind (wpAny_pure (wpAny_bind ?_)))
 refine wpAny_nsSet1 (s := { s with toks := s.toks + 1 }) I.ns fun h' hn2 hs2 => ?_
 obtain ⟨oD, esD, epD, hoD, hdD, hcD⟩ := hn2.count (PySem.Within.cons name v hw)
 refine wpAny_bind (wpAny_lookBehind hoD (by rw [hdD]; exact pastItsLine_dict (Nat.le_trans hcD (by rw [List.length_cons]; omega))) ?_)
 exact wpAny_pure (h _ ⟨(hs2.2 _ (Ne.symm I.ne)).trans I.obj, hn2, I.ne⟩ hs2)
theorem fK {R : Result → Shared → Prop} {vs : List Value} {kw : List (Str × Value)} (X : K.In s.heap) (hm : PySem.W.makesIn K C = true)
  (hi : PySem.W.findIn K (.ref C) "__init__" = some (some (.ref f))) (hf : PySem.W.typeIn K (.ref f) = some (.type "function"))
  (h : codeAny (model prog w) (A.under (.builtin "type.__call__" ⟨.ref C :: vs, kw⟩)) (.call (.ref f) ⟨.ref (s.heap.objs.size + 1) :: vs, kw⟩) (PySem.W.InitBack (s.heap.objs.size + 1) R)
   { s with heap := (s.heap.push PySem.W.emptyDict).push (PySem.W.instObj C s.heap.objs.size) }) :
  codeAny (model prog w) A (.call (.ref C) ⟨vs, kw⟩) R s := by
 obtain ⟨hh, g, d, t, os⟩ := s
 exact PySem.W.make_core (PySem.W.makes_of X hm) (PySem.W.looks_findIn X hi) (fun self => PySem.W.bind_fn X self hf) (.inl rfl) h
end
def BE (f : Str) (v : V) : List (Str × V) → List (Str × V)
 | [] => [(f, v)]
 | (g, x) :: r => if g = f then (g, v) :: r else (g, x) :: BE f v r
theorem LU (f g : Str) (v : V) : ∀ fs : List (Str × V), (BE f v fs).lookup g = if g = f then some v else fs.lookup g
 | [] => by
  show List.lookup g [(f, v)] = _
  by_cases h : g = f
  ·have hb : (g == f) = true := beq_iff_eq.mpr h
   simp only [List.lookup, hb, if_pos h]
  ·have hb : (g == f) = false := beq_eq_false_iff_ne.mpr h
   simp only [List.lookup, hb, if_neg h]
 | (k, x) :: r => by
  have ih := LU f g v r
  rw [show BE f v ((k, x) :: r) = (if k = f then (k, v) :: r else (k, x) :: BE f v r) from rfl]
  by_cases hk : k = f
  ·rw [if_pos hk]
   by_cases h : g = k
   ·have hb : (g == k) = true := beq_iff_eq.mpr h
    simp only [List.lookup, hb, if_pos (h.trans hk)]
   ·have hb : (g == k) = false := beq_eq_false_iff_ne.mpr h
    simp only [List.lookup, hb, if_neg (fun e : g = f => h (e.trans hk.symm))]
  ·rw [if_neg hk]
   by_cases h : g = k
   ·have hb : (g == k) = true := beq_iff_eq.mpr h
    simp only [List.lookup, hb, if_neg (fun e : g = f => hk (h.symm.trans e))]
   ·have hb : (g == k) = false := beq_eq_false_iff_ne.mpr h
    simp only [List.lookup, hb]
    exact ih
theorem LN (f : Str) (v : V) : ∀ fs : List (Str × V), f ∈ (BE f v fs).map (·.1) ∧ ∀ g, g ∈ fs.map (·.1) → g ∈ (BE f v fs).map (·.1)
 | [] => ⟨by simp [BE], fun g h => by simp at h⟩
 | (k, x) :: r => by
  obtain ⟨i1, i2⟩ := LN f v r
  rw [show BE f v ((k, x) :: r) = (if k = f then (k, v) :: r else (k, x) :: BE f v r) from rfl]
  by_cases hk : k = f
  ·rw [if_pos hk]
   subst hk
   exact ⟨by simp, fun g h => by simpa using h⟩
  ·rw [if_neg hk]
   refine ⟨?_, fun g h => ?_⟩
   ·rw [List.map_cons]
    exact List.mem_cons_of_mem _ i1
   ·rw [List.map_cons] at h ⊢
    rcases List.mem_cons.mp h with e | e
    ·exact List.mem_cons.mpr (.inl e)
    ·exact List.mem_cons_of_mem _ (i2 g e)
theorem MA (f : Str) (v : V) : ∀ fs : List (Str × V), (BE f v fs).length ≤ fs.length + 1
 | [] => by simp [BE]
 | (k, x) :: r => by
  have ih := MA f v r
  rw [show BE f v ((k, x) :: r) = (if k = f then (k, v) :: r else (k, x) :: BE f v r) from rfl]
  by_cases hk : k = f
  ·rw [if_pos hk, List.length_cons, List.length_cons]; omega
  ·rw [if_neg hk, List.length_cons, List.length_cons]; omega
theorem JK.some_of {v : V} {o : Option Value} (r : JK (some v) o) : ∃ u, o = some u ∧ AY v u := by
 cases o with
 | none => exact (show False from r).elim
 | some u => exact ⟨u, rfl, r⟩
theorem JK.none_of {o : Option Value} (r : JK none o) : o = none := by
 cases o with
 | none => rfl
 | some u => exact (show False from r).elim
theorem aY {v : V} {u : Value} (r : AY v u) : PySem.W.handedIn u = true := by
 cases v with
 | non => cases (show u = Value.none from r); rfl
 | bl b => cases (show u = Value.bool b from r); rfl
 | int i => obtain ⟨t, e⟩ := (show ∃ t, u = Value.int i t from r); cases e; rfl
 | str x => obtain ⟨t, e⟩ := (show ∃ t, u = Value.str x t from r); cases e; rfl
 | byt b => obtain ⟨t, e⟩ := (show ∃ t, u = Value.bytes b t from r); cases e; rfl
 | flt b => obtain ⟨t, e⟩ := (show ∃ t, u = Value.float b t from r); cases e; rfl
 | ref a => cases (show u = Value.ref a from r); rfl
 | ty n => cases (show u = Value.type n from r); rfl
section
variable {P : Program} {w : World} {H H' : Hp} {h h' : Heap} {a C dx : Addr} {fs fs' : List (Str × V)}
theorem MO (hok : HOk P w H h) (e : H a = some (.ins C dx fs)) : ∃ mA, VC h a dx C mA ∧ (∀ f, JK (fs.lookup f) (mA f)) ∧ PySem.Within mA (fs.map (·.1)) ∧ fs.length ≤ 1000 ∧ H dx = some (.own a) := by
 obtain ⟨d, z, ne, ob, mA, n, r, q⟩ := (show DA P w H h a (.ins C dx fs) from hok a _ e)
 exact ⟨mA, ⟨ob, n, ne⟩, r, q, z, d⟩
end
structure Cls (K : PySem.W.Frag) (C : Addr) : Prop where
 pg : PySem.W.plainGet K C Str.empty = true
 hd : PySem.W.hasDictIn K C = true
 po : PySem.W.plainOver K C = true
 sa : PySem.W.findIn K (.ref C) "__setattr__" = some (some (.builtin "object.__setattr__"))
theorem Cls.get {K : PySem.W.Frag} {C : Addr} (c : Cls K C) (f : Str) : PySem.W.plainGet K C f = true := c.pg
def BY (K : PySem.W.Frag) (C : Addr) (f : Str) : Prop := PySem.W.findIn K (.ref C) f = some none
theorem BY.taker {K : PySem.W.Frag} {C : Addr} {f : Str} (n : BY K C f) : PySem.W.takerIn K C f = some none := by
 unfold PySem.W.takerIn
 rw [show PySem.W.findIn K (.ref C) f = some none from n]
 rfl
structure Con (K : PySem.W.Frag) (C : Addr) (f : Str) (v : V) (u : Value) : Prop where
 at_ : PySem.W.findIn K (.ref C) f = some (some u)
 rel : AY v u
 get : PySem.W.specialIn K u "__get__" = some none
 cp : PySem.W.copiedNames.contains f = false
structure kL (K : PySem.W.Frag) (C : Addr) (m : Str) (f : Addr) : Prop where
 at_ : PySem.W.findIn K (.ref C) m = some (some (.ref f))
 fn : PySem.W.isFn K (.ref f) = true
 kp : PySem.W.keepIn K (.ref f) = true
section
variable {X : Cx} {pins : List (Addr × Obj)} {σ : St} {H : Hp} {s : Shared} {a C dx : Addr} {fs : List (Str × V)} {f : Str} {v : V} {A : Around} {E : Value → Shared → Prop}
theorem OJ {b : Bool} {Q : Value → Shared → Prop} (I : Inv X pins σ H s) (e : H a = some (.ins C dx fs)) (c : Cls X.K C) (n : BY X.K C f) (l : fs.lookup f = some v)
  (h : ∀ u s', Inv X pins σ H s' → AY v u → Q u s') : wpAny (model X.prog X.w) A (getAttr (.ref a) f b) Q E s := by
 obtain ⟨mA, O, r, _, _, _⟩ := MO I.hok e
 obtain ⟨u, hu, ru⟩ := JK.some_of (v := v) (o := mA f) (by rw [← l]; exact r f)
 exact iN I.kIn O (c.get f) c.hd n hu (aY ru) (h u _ (I.tok _) ru)
theorem ON {m : Str} {g : Addr} {pl : Sem Bool} {Q : Value × List Value → Shared → Prop} (I : Inv X pins σ H s) (e : H a = some (.ins C dx fs)) (c : Cls X.K C) (k : kL X.K C m g) (l : fs.lookup m = none)
  (h : Q (.ref g, [.ref a]) s) : wpAny (model X.prog X.w) A (getMethod (.ref a) m pl) Q E s := by
 obtain ⟨mA, O, r, _, _, _⟩ := MO I.hok e
 have hn : mA m = none := JK.none_of (by rw [← l]; exact r m)
 exact fF I.kIn O (c.get m) k.at_ k.fn hn h
theorem MX {y : V} {u : Value} {Q : Unit → Shared → Prop} (I : Inv X pins σ H s) (e : H a = some (.ins C dx fs)) (c : Cls X.K C) (n : BY X.K C f) (hl : fs.length < 1000) (ry : AY y u)
  (h : ∀ s', Inv X pins σ (upd H a (.ins C dx (BE f y fs))) s' → Q () s') : wpAny (model X.prog X.w) A (setAttr (.ref a) f u) Q E s := by
 obtain ⟨mA, O, r, wi, _, ho⟩ := MO I.hok e
 have hz : (fs.map (·.1)).length ≤ sizeLine := by rw [List.length_map, sizeLine_eq]; omega
 refine jP I.kIn O c.sa c.po n.taker c.hd wi hz fun h' O' sb => h _ ?_
 have hd : ∃ o, h'.get? dx = some o := let ⟨o, _, _, e', _⟩ := O'.ns; ⟨o, e'⟩
 refine I.write (x := a) (e := dx) (by rw [e]; exact True.intro) (.inr ho) (fun b q hb z => (sb.2 b hb).trans z) hd ?_
 refine ⟨by rw [AH O.ne]; exact ho, ?_, O.ne, O'.obj, _, O'.ns, fun g => ?_, fun g hg => ?_⟩
 ·have := MA f y fs; omega
 ·show JK ((BE f y fs).lookup g) (if g = f then some u else mA g)
  rw [LU]
  by_cases q : g = f
  ·rw [if_pos q, if_pos q]; exact ry
  ·rw [if_neg q, if_neg q]; exact r g
 ·by_cases q : g = f
  ·rw [q]; exact (LN f y fs).1
  ·refine (LN f y fs).2 g (wi g fun z => hg ?_)
   show (if g = f then some u else mA g) = none
   rw [if_neg q]; exact z
theorem Inv.made (I : Inv X pins σ H s) : Inv X pins σ (upd (upd H s.heap.objs.size (.own (s.heap.objs.size + 1))) (s.heap.objs.size + 1) (.ins C s.heap.objs.size []))
  { s with heap := (s.heap.push PySem.W.emptyDict).push (PySem.W.instObj C s.heap.objs.size) } := by
 have e1 : (s.heap.push PySem.W.emptyDict).get? s.heap.objs.size = some PySem.W.emptyDict := Heap.get?_push_size s.heap rfl
 have e2 : ((s.heap.push PySem.W.emptyDict).push (PySem.W.instObj C s.heap.objs.size)).get? (s.heap.objs.size + 1) = some (PySem.W.instObj C s.heap.objs.size) := by
  have := Heap.get?_push_size (s.heap.push PySem.W.emptyDict) (o := PySem.W.instObj C s.heap.objs.size) rfl
  rwa [Heap.size_push] at this
 have e3 : (s.heap.push PySem.W.emptyDict).Ns s.heap.objs.size (fun _ => none) := ⟨PySem.W.emptyDict, #[], _, e1, rfl, (fun e he => absurd he (by simp)), fun _ => rfl⟩
 have I1 := I.laid (a := s.heap.objs.size) (o := .own (s.heap.objs.size + 1)) (h' := s.heap.push PySem.W.emptyDict) (t' := s.toks) (fun b u q => Heap.get?_push_of_some _ q) (Nat.le_refl _) ⟨_, e1⟩
 refine I1.laid (a := s.heap.objs.size + 1) (o := .ins C s.heap.objs.size []) (t' := s.toks) (fun b u q => Heap.get?_push_of_some _ q) (Nat.le_of_eq (Heap.size_push _ _)) ?_
 have ne : s.heap.objs.size ≠ s.heap.objs.size + 1 := Nat.ne_of_lt (Nat.lt_succ_self _)
 refine ⟨by rw [AH ne, AB], Nat.zero_le _, ne, e2, fun _ => none, (Heap.Ns1.of_empty e3).at fun o q => Heap.get?_push_of_some _ q, fun _ => True.intro, fun y hy => absurd rfl hy⟩
theorem hG {prog : Program} {w : World} {env : Env} {e : Expr} {f : Str} {pos : Pos} {s : Shared} {Q : Value → Shared → Prop} (hb : attributeBase e f env (eval e env) = eval e env)
  (h : wpAny (model prog w) A (eval e env) (fun o s₁ => wpAny (model prog w) A (getAttr o f true) Q E s₁) E s) : wpAny (model prog w) A (eval (.Attribute e f pos) env) Q E s :=
 Attribute_any_ h (by rw [arm_eval_Attribute, hb])
end
def eT (K : PySem.W.Frag) (ta : TE) (f : Str) : TE := fun σ H Q => ta σ H fun x H1 => ∃ a C dx fs v, x = .ref a ∧ H1 a = some (.ins C dx fs) ∧ Cls K C ∧ BY K C f ∧ fs.lookup f = some v ∧ Q v H1
def cZ (K : PySem.W.Frag) (ta tv : TE) (f : Str) : TS := fun D σ H => tv σ H fun y H1 => ta σ H1 fun x H2 => ∃ a C dx fs, x = .ref a ∧ H2 a = some (.ins C dx fs) ∧ Cls K C ∧ BY K C f ∧ fs.length < 1000 ∧
 D.nx σ (upd H2 a (.ins C dx (BE f y fs)))
def nI (X : Cx) (op : Operator) (rd : V → V → Hp → VK → Prop) : Prop :=
 ∀ (pins : List (Addr × Obj)) (s : Shared) (σ : St) (H : Hp) (x y : V) (u v : Value) (Q : VK), Inv X pins σ H s → AY x u → AY y v → rd x y H Q → wpAny (model X.prog X.w) X.A (inplaceOp op u v) (EP X pins σ Q) X.xe s
def LB (K : PySem.W.Frag) (ta tv : TE) (rd : V → V → Hp → VK → Prop) (f : Str) : TS := fun D σ H => ta σ H fun x H1 => ∃ a C dx fs v, x = .ref a ∧ H1 a = some (.ins C dx fs) ∧ Cls K C ∧ BY K C f ∧ fs.lookup f = some v ∧
 tv σ H1 fun y H2 => rd v y H2 fun z H3 => ∃ dx' fs', H3 a = some (.ins C dx' fs') ∧ fs'.length < 1000 ∧ D.nx σ (upd H3 a (.ins C dx' (BE f z fs')))
section
variable {X : Cx} {o e value : Expr} {f : Str} {pos pos' tpos : Pos} {ta tv : TE}
theorem lV (he : PE X e ta) (hb : attributeBase e f X.env (eval e X.env) = eval e X.env) : PE X (.Attribute e f pos) (eT X.K ta f) := by
 intro pins s σ H Q I h
 refine hG hb (thn (he pins s σ H _ I h) fun u s1 ⟨x, H1, I1, rx, a, C, dx, fs, v, ex, ea, c, n, l, q⟩ => ?_)
 subst ex
 obtain rfl : u = Value.ref a := rx
 exact OJ I1 ea c n l fun u' s2 I2 ru => ⟨v, H1, I2, ru, q⟩
theorem lW (ha : PE X o ta) (hv : PE X value tv) (hs : swapsWith value (some (.Attribute o f pos')) pos.line X.env = pure false) : PS X (.Assign [.Attribute o f pos'] value pos) (cZ X.K ta tv f) := by
 intro pins s σ H D I h
 refine plainObj_wpAny_Assign_Attribute (thn (hv pins s σ H _ I h) fun u s1 ⟨y, H1, I1, ry, q⟩ => thn (ha pins s1 σ H1 _ I1 q) fun ov s2 ⟨x, H2, I2, rx, a, C, dx, fs, ex, ea, c, n, l, q2⟩ => ?_) hs
 subst ex
 obtain rfl : ov = Value.ref a := rx
 exact MX I2 ea c n l ry fun s3 I3 => ⟨σ, _, I3, q2⟩
theorem ZM {op : Operator} {rd : V → V → Hp → VK → Prop} (ha : PE X o ta) (hv : PE X value tv) (hop : nI X op rd) : PS X (.AugAssign (.Attribute o f tpos) op value pos) (LB X.K ta tv rd f) := by
 intro pins s σ H D I h
 refine wpAny_AugAssign_AttributeAny (thn (ha pins s σ H _ I h) fun ov s1 ⟨x, H1, I1, rx, a, C, dx, fs, v, ex, ea, c, n, l, q⟩ => ?_)
 subst ex
 obtain rfl : ov = Value.ref a := rx
 refine OJ I1 ea c n l fun u s2 I2 ru => thn (hv pins s2 σ H1 _ I2 q) fun w3 s3 ⟨y, H2, I3, ry, q3⟩ => thn (hop pins s3 σ H2 v y u w3 _ I3 ru ry q3) fun w4 s4 ⟨z, H3, I4, rz, dx', fs', ea', l', q4⟩ => ?_
 exact MX I4 ea' c n l' rz fun s5 I5 => ⟨σ, _, I5, q4⟩
def bX : V → V → Hp → VK → Prop := fun x y H Q => ∃ i j, x = .int i ∧ y = .int j ∧ Q (.int (i + j)) H
theorem VV : nI X .Add bX := by
 rintro pins s σ H x y u v Q I rx ry ⟨i, j, rfl, rfl, q⟩
 obtain ⟨t, rfl⟩ := (show ∃ t, u = Value.int i t from rx)
 obtain ⟨t', rfl⟩ := (show ∃ t', v = Value.int j t' from ry)
 exact PyProof.Rows.iadd_int ⟨.int (i + j), H, I.tok _, ⟨_, rfl⟩, q⟩
end
section
variable {X : Cx} {pins : List (Addr × Obj)} {σ : St} {H : Hp} {s : Shared} {A : Around} {E : Value → Shared → Prop} {Q : Value → Shared → Prop} {c : Value} {b : Bool}
inductive JW (K : PySem.W.Frag) (H : Hp) : V → Value → Prop where
 | non : JW K H .non (.type "NoneType")
 | bl (x : Bool) : JW K H (.bl x) (.type "bool")
 | int (i : Int) : JW K H (.int i) (.type "int")
 | str (x : Str) : JW K H (.str x) (.type "str")
 | flt (x : UInt64) : JW K H (.flt x) (.type "float")
 | lst {a : Addr} {xs : List V} (e : H a = some (.lst xs)) : JW K H (.ref a) (.type "list")
 | frz {a : Addr} {o : Obj} {xs : List V} (e : H a = some (.frz o (.lst xs))) : JW K H (.ref a) (.type "list")
 | tup {a : Addr} {xs : List V} (e : H a = some (.tup xs)) : JW K H (.ref a) (.type "tuple")
 | dK {a : Addr} {kvs : List (Key × V)} (e : H a = some (.dK kvs)) : JW K H (.ref a) (.type "dict")
 | dT {a : Addr} {kvs : List (List Key × V)} (e : H a = some (.dT kvs)) : JW K H (.ref a) (.type "dict")
 | ins {a C dx : Addr} {fs : List (Str × V)} (e : H a = some (.ins C dx fs)) (cl : Cls K C) (ha : PySem.W.findIn K (.ref C) "__class__" = some (some (.builtin "object.__class__")))
   (hn : PySem.W.specialIn K (.builtin "object.__class__") "__get__" = some (some (.builtin "getset_descriptor.__get__"))) (htk : PySem.W.takesIn K (.builtin "object.__class__") = some true)
   (hm : PySem.W.mroIn K C (.type "object") = some true) : JW K H (.ref a) (.ref C)
theorem ZI {x : V} {u t : Value} (I : Inv X pins σ H s) (rx : AY x u) (ty : JW X.K H x t) (e : PySem.W.kitOne X.K t c = some b) (h : ∀ tk, Q (.bool b) { s with toks := tk }) :
  wpAny (model X.prog X.w) A (call (.builtin "isinstance") [u, c]) Q E s := by
 cases ty with
 | non => cases (show u = Value.none from rx); exact PySem.W.kia_one PySem.W.kitx_none I.kIn True.intro e (fun z => nomatch z) h
 | bl y => cases (show u = Value.bool y from rx); exact PySem.W.kia_one PySem.W.kitx_bool I.kIn True.intro e (fun z => nomatch z) h
 | int i => obtain ⟨t, q⟩ := (show ∃ t, u = Value.int i t from rx); cases q; exact PySem.W.kia_one PySem.W.kitx_int I.kIn True.intro e (fun z => nomatch z) h
 | str y => obtain ⟨t, q⟩ := (show ∃ t, u = Value.str y t from rx); cases q; exact PySem.W.kia_one PySem.W.kitx_str I.kIn True.intro e (fun z => nomatch z) h
 | flt y => obtain ⟨t, q⟩ := (show ∃ t, u = Value.float y t from rx); cases q; exact PySem.W.kia_one PySem.W.kitx_float I.kIn True.intro e (fun z => nomatch z) h
 | @lst a xs ea =>
  cases (show u = Value.ref a from rx)
  obtain ⟨_, _, n, _, h1⟩ := (show DA X.prog X.w H s.heap a (.lst xs) from I.hok a _ ea)
  exact PySem.W.kia_one PySem.W.kitx_list I.kIn ⟨_, h1, rfl⟩ e (fun z => nomatch z) h
 | @frz a ob xs ea =>
  cases (show u = Value.ref a from rx)
  obtain ⟨_, _, _, n, _, h1⟩ := (show DA X.prog X.w H s.heap a (.frz ob (.lst xs)) from I.hok a _ ea)
  exact PySem.W.kia_one PySem.W.kitx_list I.kIn ⟨_, h1, rfl⟩ e (fun z => nomatch z) h
 | @tup a xs ea =>
  cases (show u = Value.ref a from rx)
  obtain ⟨_, _, _, p⟩ := (show DA X.prog X.w H s.heap a (.tup xs) from I.hok a _ ea)
  obtain ⟨o, h1, h2, _⟩ := p
  exact PySem.W.kia_one PySem.W.kitx_tuple I.kIn ⟨o, h1, h2⟩ e (fun z => nomatch z) h
 | @dK a kvs ea =>
  cases (show u = Value.ref a from rx)
  obtain ⟨_, _, vs, _, p⟩ := (show DA X.prog X.w H s.heap a (.dK kvs) from I.hok a _ ea)
  obtain ⟨o, es, ep, h1, h2, _⟩ := p
  exact PySem.W.kia_one PySem.W.kitx_dict I.kIn ⟨o, h1, h2.1⟩ e (fun z => nomatch z) h
 | @dT a kvs ea =>
  cases (show u = Value.ref a from rx)
  obtain ⟨_, _, xs, _, o, es, ep, h1, h2, _⟩ := (show DA X.prog X.w H s.heap a (.dT kvs) from I.hok a _ ea)
  exact PySem.W.kia_one PySem.W.kitx_dict I.kIn ⟨o, h1, h2.1⟩ e (fun z => nomatch z) h
 | @ins a C dx fs ea cl ha hn htk hm =>
  cases (show u = Value.ref a from rx)
  obtain ⟨mA, O, _⟩ := MO I.hok ea
  obtain ⟨od, J, _⟩ := O.look
  exact PySem.W.kia_one (PySem.W.kitx_own (cl.get _) cl.hd ha hn htk hm) I.kIn J e (fun z => nomatch z) h
end
structure ET (k : Nat) (A : Around) : Prop where
 hd : A.handled = none
 dp : A.depth + 3 * k + 5 < recursionLimit
 un : A.units + 16 * k + 200 < cLine
theorem ET.mono {j k : Nat} {A : Around} (r : ET k A) (h : j ≤ k) : ET j A := ⟨r.hd, by have := r.dp; omega, by have := r.un; omega⟩
theorem ET.deeper {k : Nat} {A : Around} (r : ET (k + 1) A) (env : Env) : ET k (A.deeper env) :=
 ⟨r.hd, by have := r.dp; show A.depth + 1 + 3 * k + 5 < _; omega, by have := r.un; show A.units + 3 + 16 * k + 200 < _; omega⟩
theorem VJ {A : Around} {C : Addr} {us : List Value} {kw : List (Str × Value)} : (A.under (.builtin "type.__call__" ⟨.ref C :: us, kw⟩)).depth = A.depth + 1 := by
 first | rfl | simp [Around.under, Code.weight, Code.isCreation, Code.isGuard, Code.isCaller, Code.frames, Code.isFrame, guardIds]
theorem WV {A : Around} {C : Addr} {us : List Value} {kw : List (Str × Value)} : (A.under (.builtin "type.__call__" ⟨.ref C :: us, kw⟩)).units = A.units + 1 := by
 first | rfl | simp [Around.under, Code.cUnits, Code.frames, Code.isFrame]
theorem ET.make {k : Nat} {A : Around} (r : ET (k + 1) A) (C : Addr) (us : List Value) (kw : List (Str × Value)) : ET k (A.under (.builtin "type.__call__" ⟨.ref C :: us, kw⟩)) :=
 ⟨r.hd, by have := r.dp; rw [VJ]; omega, by have := r.un; rw [WV]; omega⟩
theorem ET.depth {k : Nat} {A : Around} (r : ET k A) : A.depth < recursionLimit := by have := r.dp; omega
theorem ET.units {k : Nat} {A : Around} (r : ET k A) : A.units + 64 < cLine := by have := r.un; omega
def WK : TA := fun _ H Q => Q [] H
def PQ (ta : TE) (tr : TA) : TA := fun σ H Q => ta σ H fun x H1 => tr σ H1 fun xs H2 => Q (x :: xs) H2
section
variable {X : Cx} {e : Expr} {es : List Expr} {te : TE} {t : TA} {pos : Pos}
theorem AC : PA X [] WK := fun _ _ _ _ H Q I h => Calls.spliced_nil ⟨[], H, I, .nil, h⟩
theorem AA (ha : PE X e te) (hr : PA X es t) (hs : starEach (e :: es) X.env = (false, eval e X.env) :: starEach es X.env := by rfl) : PA X (e :: es) (PQ te t) := by
 intro pos pins s σ H Q I h
 rw [hs]
 show wpAny _ _ (spliced ((false, eval e X.env) :: backTo pos (starEach es X.env))) _ _ s
 refine Calls.spliced_cons (thn (ha pins s σ H _ I h) fun u s1 ⟨x, H1, I1, r1, q1⟩ => ?_)
 exact thn (hr pos pins s1 σ H1 _ I1 q1) fun us s2 ⟨xs, H2, I2, r2, q2⟩ => ⟨x :: xs, H2, I2, .cons r1 r2, q2⟩
def cW (t : TA) : TE := fun σ H Q => t σ H fun xs H1 => xs.length ≤ sizeLine ∧ ∀ p, H1 p = none → Q (.ref p) (upd H1 p (.tup xs))
def eU (t : TA) : TE := fun σ H Q => t σ H fun xs H1 => xs.length ≤ sizeLine ∧ ∀ p, H1 p = none → Q (.ref p) (upd H1 p (.lst xs))
theorem BK {x1} (h : PA X es t) : PE X (.Tuple es x1 pos) (cW t) := by
 intro pins s σ H Q I hq
 refine wpAny_Tuple_spliced (thn (h pos pins s σ H _ I hq) fun us s1 ⟨xs, H1, I1, r, z, q⟩ => ⟨by rw [← r.length]; exact z, ?_⟩)
 have hf : H1 s1.heap.objs.size = none := I1.hok.fresh (Nat.le_refl _)
 refine ⟨.ref s1.heap.objs.size, upd H1 s1.heap.objs.size (.tup xs), I1.laid (t' := s1.toks) (fun b u e => Heap.get?_push_of_some _ e) (Nat.le_refl _) ?_, rfl, q _ hf⟩
 exact ⟨z, us, r, ⟨_, Heap.get?_push_size _ rfl, rfl, _, rfl⟩⟩
theorem DE (h : PA X es t) : PE X (.List es pos) (eU t) := by
 intro pins s σ H Q I hq
 refine wpAny_List_spliced (thn (h pos pins s σ H _ I hq) fun us s1 ⟨xs, H1, I1, r, z, q⟩ => ⟨by rw [← r.length]; exact z, ?_⟩)
 have hf : H1 s1.heap.objs.size = none := I1.hok.fresh (Nat.le_refl _)
 refine ⟨.ref s1.heap.objs.size, upd H1 s1.heap.objs.size (.lst xs), I1.laid (t' := s1.toks) (fun b u e => Heap.get?_push_of_some _ e) (Nat.le_refl _) ?_, rfl, q _ hf⟩
 exact ⟨z, us, 0, r, Heap.get?_push_size _ rfl⟩
end
abbrev Sp := List V → Hp → VK → XK → Prop
abbrev CXT := List Env → Hp → Shared → XK → Value → Shared → Prop
structure VL (P : Program) (w : World) (K : PySem.W.Frag) (mg : Str → Option Value) (base : Heap) (A : Around) (outer : List Env) (s : Shared) (H : Hp) : Prop where
 frames : A.frames = some outer
 mod : Mod K mg base
 bs : ∀ b o, base.get? b = some o → s.heap.get? b = some o ∧ H b = none
 bsz : base.objs.size ≤ s.heap.objs.size
 funs : s.heap.FunFrames base outer
 frf : ∀ b ∈ frs outer, H b = none
 hok : HOk P w H s.heap
 bare : AllBare s.gens
def CE (outer : List Env) (P : Program) (w : World) (H : Hp) (s : Shared) (Q : VK) (u : Value) (s' : Shared) : Prop :=
 ∃ v H', s'.os = s.os ∧ AllBare s'.gens ∧ Un (frs outer) [] H H' s.heap s'.heap ∧ HOk P w H' s'.heap ∧ AY v u ∧ Q v H'
def CR (CX : CXT) (outer : List Env) (P : Program) (w : World) (H : Hp) (s : Shared) (Q : VK) (E : XK) (r : Result) (s' : Shared) : Prop :=
 match r with
 | .ok (.ret u) => CE outer P w H s Q u s'
 | .ok _ => False
 | .error e => CX outer H s E e s'
structure BF (P : Program) (w : World) (K : PySem.W.Frag) (mg : Str → Option Value) (base : Heap) (CX : CXT) (k : Nat) (f : Addr) (fd : FuncData) (ps : List Str) (sp : Sp) : Prop where
 len : ∀ vs H Q E, sp vs H Q E → vs.length = ps.length
 run : ∀ (A : Around) (outer : List Env) (s : Shared) (H : Hp) (args : Args) (us : List Value) (vs : List V) (Q : VK) (E : XK), ET k A → VL P w K mg base A outer s H → BindsTo s fd args (ps.zip us) → AO vs us → sp vs H Q E →
  codeAny (model P w) A (.call (.ref f) args) (CR CX outer P w H s Q E) s
theorem VL.make {P : Program} {w : World} {K : PySem.W.Frag} {mg : Str → Option Value} {base : Heap} {A : Around} {outer : List Env} {s : Shared} {H : Hp} (e : VL P w K mg base A outer s H) (C : Addr) (us : List Value) (kw : List (Str × Value)) :
  VL P w K mg base (A.under (.builtin "type.__call__" ⟨.ref C :: us, kw⟩)) outer s H := ⟨by first | exact e.frames | (simpa [Around.under, Code.envs, Code.isFrame, pushEnvs] using e.frames), e.mod, e.bs, e.bsz, e.funs, e.frf, e.hok, e.bare⟩
section
variable {X : Cx} {pins : List (Addr × Obj)} {σ : St} {H : Hp} {s s' : Shared}
theorem Inv.env0 (I : Inv X pins σ H s) : VL X.prog X.w X.K X.mg X.base X.A X.stack s H :=
 ⟨I.ok.frames, I.ok.mod, I.bs, Nat.le_trans I.ok.bsz I.sz, I.stack, I.stkFree, I.hok, I.bare⟩
theorem Inv.after {Q : VK} {u : Value} (I : Inv X pins σ H s) (h : CE X.stack X.prog X.w H s Q u s') : EP X pins σ Q u s' := by
 obtain ⟨v, H', os, bare, un, hok, r, q⟩ := h
 obtain ⟨hh, g, d, t, os'⟩ := s'
 obtain rfl : os' = s.os := os
 exact ⟨v, H', I.call (h' := hh) (g' := g) (d' := d) (t' := t) (ch := []) un hok bare (fun b z => absurd z (by simp)), r, q⟩
end
def UK (sp : Sp) (dvs : List V) (E : XK) (t : TA) : TE := fun σ H Q => t σ H fun vs H1 => sp (vs ++ dvs) H1 Q E
def PY (C : Addr) (m : Str) (sp : Sp) (dvs : List V) (E : XK) (ta : TE) (t : TA) : TE := fun σ H Q => ta σ H fun x H1 => ∃ a dx fs, x = .ref a ∧ H1 a = some (.ins C dx fs) ∧ fs.lookup m = none ∧
 t σ H1 fun vs H2 => sp (x :: (vs ++ dvs)) H2 Q E
def PZ (C : Addr) (sp : Sp) (dvs : List V) (E : XK) (t : TA) : TE := fun σ H Q => t σ H fun vs H1 => ∀ x dx, H1 x = none → H1 dx = none → dx ≠ x →
 sp (.ref x :: (vs ++ dvs)) (upd (upd H1 dx (.own x)) x (.ins C dx [])) (fun v H2 => v = .non ∧ Q (.ref x) H2) E
def FY (K : PySem.W.Frag) (fd : FuncData) (ps : List Str) (ds : List Value) : Prop :=
 ∀ (s : Shared) (us : List Value), K.In s.heap → (us ++ ds).length = ps.length → BindsTo s fd ⟨us, []⟩ (ps.zip (us ++ ds))
theorem FY.all {K : PySem.W.Frag} {fd : FuncData} {ps : List Str} (h : ∀ us : List Value, us.length = ps.length → bindArgs fd ⟨us, []⟩ = pure (ps.zip us)) : FY K fd ps [] := fun s us _ hl => by
 rw [List.append_nil] at hl ⊢
 exact .of_eq (h us hl)
def GD (CX : CXT) (X : Cx) (E : XK) : Prop := ∀ (pins : List (Addr × Obj)) (σ : St) (H : Hp) (s : Shared) (e : Value) (s' : Shared), Inv X pins σ H s → CX X.stack H s E e s' → X.xe e s'
section
variable {X : Cx} {CX : CXT} {k : Nat} {f C : Addr} {fd : FuncData} {ps : List Str} {sp : Sp} {dvs : List V} {ds : List Value} {E : XK} {x m : Str} {p pos apos : Pos} {e o : Expr} {es : List Expr} {ta : TE} {t : TA}
theorem WQ {pins : List (Addr × Obj)} {σ : St} {H : Hp} {s : Shared} {Q : VK} {us : List Value} {vs : List V} (F : BF X.prog X.w X.K X.mg X.base CX k f fd ps sp) (hr : ET k X.A) (hb : FY X.K fd ps ds) (hd : AO dvs ds) (hx : GD CX X E)
  (I : Inv X pins σ H s) (r : AO vs us) (h : sp (vs ++ dvs) H Q E) : wpAny (model X.prog X.w) X.A (call (.ref f) us) (EP X pins σ Q) X.xe s := by
 have r2 : AO (vs ++ dvs) (us ++ ds) := r.append hd
 have hl : (us ++ ds).length = ps.length := by rw [← r2.length]; exact F.len _ _ _ _ h
 refine wpAny_call (codeAny_mono (F.run X.A X.stack s H ⟨us, []⟩ (us ++ ds) (vs ++ dvs) Q E hr I.env0 (hb s us I.kIn hl) r2 h) fun r s' hq => ?_)
 cases r with
 | error e => exact hx pins σ H s e s' I hq
 | ok fl =>
  cases fl with
  | ret u => exact I.after hq
  | next => exact False.elim hq
  | brk => exact False.elim hq
  | cont => exact False.elim hq
theorem AV (F : BF X.prog X.w X.K X.mg X.base CX k f fd ps sp) (hr : ET k X.A) (hg : Gl X x) (hm : X.mg x = some (.ref f)) (hk : PySem.W.keepIn X.K (.ref f) = true) (hb : FY X.K fd ps ds) (hd : AO dvs ds) (hx : GD CX X E)
  (ha : PA X (e :: es) t) (hdb : (x == ("__debug__" : Str)) = false := by decide) (he : starEach (e :: es) X.env = (false, eval e X.env) :: starEach es X.env := by rfl) (hpl : (backTo pos (starEach es X.env)).any (·.1) = false := by rfl) :
  PE X (.Call (.Name x p) (e :: es) [] pos) (UK sp dvs E t) := by
 intro pins s σ H Q I h
 refine wpAny_Call_Name_kw (GA I hg hm ?_ hdb)
 refine PySem.W.callWith_K (h₀ := X.base) I.ok.mod.kin hk (thn (ha pos pins s σ H _ I h) fun us s1 ⟨vs, H1, I1, r, q⟩ => ⟨I1.kIn, ?_⟩) he hpl
 exact WQ F hr hb hd hx I1 r q
theorem FF {pl : Sem Bool} (he : PE X o ta) (c : Cls X.K C) (hm : kL X.K C m f) (F : BF X.prog X.w X.K X.mg X.base CX k f fd ps sp) (hr : ET k X.A) (hb : FY X.K fd ps ds) (hd : AO dvs ds) (hx : GD CX X E) (ha : PA X (e :: es) t)
  (hst : starEach (e :: es) X.env = (false, eval e X.env) :: starEach es X.env := by rfl) (hpl : (backTo pos (starEach es X.env)).any (·.1) = false := by rfl)
  (ht : eval (.Call (.Attribute o m apos) (e :: es) [] pos) X.env = (do
   let ov ← eval o X.env
   standAt apos.atName
   let (f, first) ← holding [ov] (getMethod ov m pl)
   callWith pos f first (backTo pos (starEach (e :: es) X.env)) (backToKw pos (keywordEach [] X.env))) := by rfl) :
  PE X (.Call (.Attribute o m apos) (e :: es) [] pos) (PY C m sp dvs E ta t) := by
 intro pins s σ H Q I h
 refine PySem.W.methodCall_KW (pl := pl) (thn (he pins s σ H _ I h) fun u s1 ⟨x, H1, I1, rx, a, dx, fs, ex, ea, l, q⟩ => ?_) ht
 subst ex
 obtain rfl : u = Value.ref a := rx
 refine ON I1 ea c hm l ?_
 refine PySem.W.callWith_K (first := [.ref a]) (h₀ := X.base) I.ok.mod.kin hm.kp (thn (ha pos pins s1 σ H1 _ I1 q) fun us s2 ⟨vs, H2, I2, r, q2⟩ => ⟨I2.kIn, ?_⟩) hst hpl
 exact WQ (us := .ref a :: us) (vs := .ref a :: vs) F hr hb hd hx I2 (.cons rfl r) q2
theorem FH {pl : Sem Bool} (he : PE X o ta) (c : Cls X.K C) (hm : kL X.K C m f) (F : BF X.prog X.w X.K X.mg X.base CX k f fd ps sp) (hr : ET k X.A) (hb : FY X.K fd ps ds) (hd : AO dvs ds) (hx : GD CX X E)
  (ht : eval (.Call (.Attribute o m apos) [] [] pos) X.env = (do
   let ov ← eval o X.env
   standAt apos.atName
   let (f, first) ← holding [ov] (getMethod ov m pl)
   callWith pos f first (backTo pos (starEach [] X.env)) (backToKw pos (keywordEach [] X.env))) := by rfl) :
  PE X (.Call (.Attribute o m apos) [] [] pos) (PY C m sp dvs E ta WK) := by
 intro pins s σ H Q I h
 refine PySem.W.methodCall_KW (pl := pl) (thn (he pins s σ H _ I h) fun u s1 ⟨x, H1, I1, rx, a, dx, fs, ex, ea, l, q⟩ => ?_) ht
 subst ex
 obtain rfl : u = Value.ref a := rx
 refine ON I1 ea c hm l ?_
 exact PySem.W.callWith_K0 (first := [.ref a]) I1.kIn hm.kp (WQ (us := [.ref a]) (vs := [.ref a]) F hr hb hd hx I1 (.cons rfl .nil) q)
structure Mk (K : PySem.W.Frag) (C f : Addr) : Prop where
 makes : PySem.W.makesIn K C = true
 init : PySem.W.findIn K (.ref C) "__init__" = some (some (.ref f))
 fn : PySem.W.isFn K (.ref f) = true
 kp : PySem.W.keepIn K (.ref C) = true
theorem SO {pins : List (Addr × Obj)} {σ : St} {H : Hp} {s : Shared} {Q : VK} {us : List Value} {vs : List V} (M : Mk X.K C f) (F : BF X.prog X.w X.K X.mg X.base CX k f fd ps sp) (hr : ET (k + 1) X.A) (hb : FY X.K fd ps ds) (hd : AO dvs ds)
  (hx : GD CX X E) (I : Inv X pins σ H s) (r : AO vs us)
  (h : ∀ x dx, H x = none → H dx = none → dx ≠ x → sp (.ref x :: (vs ++ dvs)) (upd (upd H dx (.own x)) x (.ins C dx [])) (fun v H2 => v = .non ∧ Q (.ref x) H2) E) :
  wpAny (model X.prog X.w) X.A (call (.ref C) us) (EP X pins σ Q) X.xe s := by
 have hq := h (s.heap.objs.size + 1) s.heap.objs.size (I.hok.fresh (Nat.le_succ _)) (I.hok.fresh (Nat.le_refl _)) (Nat.ne_of_lt (Nat.lt_succ_self _))
 have I2 := Inv.made (C := C) I
 have r2 : AO (V.ref (s.heap.objs.size + 1) :: (vs ++ dvs)) (Value.ref (s.heap.objs.size + 1) :: (us ++ ds)) := .cons rfl (r.append hd)
 have hl : (Value.ref (s.heap.objs.size + 1) :: us ++ ds).length = ps.length := by
  have e := r2.length
  rw [F.len _ _ _ _ hq] at e
  exact e.symm
 refine wpAny_call (fK (f := f) I.kIn M.makes M.init (beq_iff_eq.mp M.fn) (codeAny_mono (F.run _ X.stack _ _ ⟨Value.ref (s.heap.objs.size + 1) :: us, []⟩ (Value.ref (s.heap.objs.size + 1) :: (us ++ ds)) _ _ E (hr.make C us [])
  (I2.env0.make C us []) (hb _ (Value.ref (s.heap.objs.size + 1) :: us) I2.kIn hl) r2 hq) fun r s' hq' => ?_))
 cases r with
 | error e => exact hx pins σ _ _ e s' I2 hq'
 | ok fl =>
  cases fl with
  | ret u =>
   obtain ⟨v, H', I3, rv, ev, q3⟩ := I2.after hq'
   subst ev
   exact ⟨rv, ⟨V.ref (s.heap.objs.size + 1), H', I3, rfl, q3⟩⟩
  | next => exact False.elim hq'
  | brk => exact False.elim hq'
  | cont => exact False.elim hq'
theorem KK (M : Mk X.K C f) (F : BF X.prog X.w X.K X.mg X.base CX k f fd ps sp) (hr : ET (k + 1) X.A) (hg : Gl X x) (hm : X.mg x = some (.ref C)) (hb : FY X.K fd ps ds) (hd : AO dvs ds) (hx : GD CX X E)
  (ha : PA X (e :: es) t) (hdb : (x == ("__debug__" : Str)) = false := by decide) (he : starEach (e :: es) X.env = (false, eval e X.env) :: starEach es X.env := by rfl) (hpl : (backTo pos (starEach es X.env)).any (·.1) = false := by rfl) :
  PE X (.Call (.Name x p) (e :: es) [] pos) (PZ C sp dvs E t) := by
 intro pins s σ H Q I h
 refine wpAny_Call_Name_kw (GA I hg hm ?_ hdb)
 refine PySem.W.callWith_K (h₀ := X.base) I.ok.mod.kin M.kp (thn (ha pos pins s σ H _ I h) fun us s1 ⟨vs, H1, I1, r, q⟩ => ⟨I1.kIn, ?_⟩) he hpl
 exact SO M F hr hb hd hx I1 r q
theorem TD (M : Mk X.K C f) (F : BF X.prog X.w X.K X.mg X.base CX k f fd ps sp) (hr : ET (k + 1) X.A) (hg : Gl X x) (hm : X.mg x = some (.ref C)) (hb : FY X.K fd ps ds) (hd : AO dvs ds) (hx : GD CX X E)
  (hdb : (x == ("__debug__" : Str)) = false := by decide) : PE X (.Call (.Name x p) [] [] pos) (PZ C sp dvs E WK) := by
 intro pins s σ H Q I h
 refine wpAny_Call_Name_kw (GA I hg hm ?_ hdb)
 exact PySem.W.callWith_K0 I.kIn M.kp (SO (us := []) M F hr hb hd hx I .nil h)
end
section
variable {X : Cx} {CX : CXT} {k : Nat} {f C : Addr} {fd : FuncData} {ps ks : List Str} {sp : Sp} {E : XK} {x m : Str} {p pos apos kpos : Pos} {e o : Expr} {es : List Expr} {kws : List Keyword} {te ta : TE} {t tk : TA} {nm : Option Str}
structure KBinds (K : PySem.W.Frag) (fd : FuncData) (ps ks : List Str) (g : List Value → List Value → List Value) (gV : List V → List V → List V) : Prop where
 to : ∀ (s : Shared) (us ws : List Value), K.In s.heap → (g us ws).length = ps.length → BindsTo s fd ⟨us, ks.zip ws⟩ (ps.zip (g us ws))
 rel : ∀ {vs : List V} {us : List Value} {zs : List V} {ws : List Value}, AO vs us → AO zs ws → AO (gV vs zs) (g us ws)
variable {g : List Value → List Value → List Value} {gV : List V → List V → List V}
end
structure AQ (N P : List Str) (sc : Scope) : Prop where
 kind : sc.kind = .function
 co : sc.isCoroutine = false
 gen : sc.isGenerator = false
 nd : N.Nodup
 pre : N.take P.length = P
 par : ∀ x ∈ P, sc.names.lookup x = some .local ∨ sc.names.lookup x = some .cell
 nofree : ∀ y ∈ sc.names, y.2 ≠ .free
theorem QD {kindOf : Str → Option NameKind} {x : Str} : ∀ {binds : List (Str × Value)} {m : Str → Option Value}, (∀ v, (x, v) ∉ binds) → bindL kindOf binds m x = m x
 | [], _, _ => rfl
 | (n, v) :: r, m, h => by
  unfold bindL
  rw [QD fun w hw => h w (List.mem_cons_of_mem _ hw)]
  split
  ·have : x ≠ n := by rintro rfl; exact h v List.mem_cons_self
   simp [this]
  ·rfl
theorem QE {kindOf : Str → Option NameKind} {x : Str} : ∀ {binds : List (Str × Value)} {m : Str → Option Value}, (∀ v, (x, v) ∉ binds) → bindC kindOf binds m x = m x
 | [], _, _ => rfl
 | (n, v) :: r, m, h => by
  unfold bindC
  rw [QE fun w hw => h w (List.mem_cons_of_mem _ hw)]
  split
  ·rfl
  ·have : x ≠ n := by rintro rfl; exact h v List.mem_cons_self
   simp [this]
theorem QA {kindOf : Str → Option NameKind} {x : Str} {v : Value} : ∀ {P : List Str} {vs : List Value} {i : Nat} {m : Str → Option Value}, P.Nodup → P[i]? = some x → vs[i]? = some v → kindOf x = some .local →
  bindL kindOf (P.zip vs) m x = some v
 | [], _, _, _, _, h, _, _ => by simp at h
 | _ :: _, [], _, _, _, _, h, _ => by simp at h
 | p :: P, w :: vs, 0, m, nd, h1, h2, hk => by
  simp at h1 h2; subst h1; subst h2
  show bindL kindOf ((p, w) :: P.zip vs) m p = _
  unfold bindL
  rw [QD fun v hv => (List.nodup_cons.mp nd).1 (List.of_mem_zip hv).1, if_pos hk]
  simp
 | p :: P, w :: vs, i + 1, m, nd, h1, h2, hk => by
  show bindL kindOf ((p, w) :: P.zip vs) m x = _
  unfold bindL
  exact QA (i := i) (List.nodup_cons.mp nd).2 (by simpa using h1) (by simpa using h2) hk
theorem QC {kindOf : Str → Option NameKind} {x : Str} {v : Value} : ∀ {P : List Str} {vs : List Value} {i : Nat} {m : Str → Option Value}, P.Nodup → P[i]? = some x → vs[i]? = some v → kindOf x ≠ some .local →
  bindC kindOf (P.zip vs) m x = some v
 | [], _, _, _, _, h, _, _ => by simp at h
 | _ :: _, [], _, _, _, _, h, _ => by simp at h
 | p :: P, w :: vs, 0, m, nd, h1, h2, hk => by
  simp at h1 h2; subst h1; subst h2
  show bindC kindOf ((p, w) :: P.zip vs) m p = _
  unfold bindC
  rw [QE fun v hv => (List.nodup_cons.mp nd).1 (List.of_mem_zip hv).1, if_neg hk]
  simp
 | p :: P, w :: vs, i + 1, m, nd, h1, h2, hk => by
  show bindC kindOf ((p, w) :: P.zip vs) m x = _
  unfold bindC
  exact QC (i := i) (List.nodup_cons.mp nd).2 (by simpa using h1) (by simpa using h2) hk
def start (N : List Str) (vs : List V) : St := vs.map some ++ List.replicate (N.length - vs.length) none
def EO (CX : CXT) (P : Program) (w : World) (K : PySem.W.Frag) (mg : Str → Option Value) (base : Heap) (N : List Str) (qual : Str) (scope : Scope) (f : Addr) (cd : Value) (A : Around) (outer : List Env) (s : Shared) (H : Hp) (E : XK) : Cx where
 prog := P
 w := w
 K := K
 mg := mg
 base := base
 A := A.deeper (envOfC qual scope s.heap.objs.size f cd)
 N := N
 s₀ := s
 H₀ := H
 env := envOfC qual scope s.heap.objs.size f cd
 outer := outer
 stack := envOfC qual scope s.heap.objs.size f cd :: outer
 ex := []
 calm := true
 fn := fun _ => true
 pn := []
 xe := fun e s' => wpAny (model P w) (A.deeper (envOfC qual scope s.heap.objs.size f cd)) (leaving (envOfC qual scope s.heap.objs.size f cd) e) (fun _ s'' => CX outer H s E e s'') (fun e' s'' => CX outer H s E e' s'') s'
theorem TM {sc : Scope} {n : Nat} {x : Str} (h : sc.names.lookup x = some .cell) : ∃ c, (cellsFrom n sc.names []).lookup x = some c := by
 have q := PySem.W.cellsFrom_some sc.names n [] (.inl h)
 exact Option.isSome_iff_exists.mp q
theorem aO {CX : CXT} {P : Program} {w : World} {K : PySem.W.Frag} {mg : Str → Option Value} {base : Heap} {N ps : List Str} {qual : Str} {scope : Scope} {f : Addr} {cd : Value} {A : Around} {outer : List Env} {s s1 : Shared} {H : Hp} {E : XK} {us : List Value} {vs : List V}
  (S : AQ N ps scope) (hd : A.handled = none) (e0 : VL P w K mg base A outer s H) (hl : vs.length = ps.length) (r : AO vs us)
  (x : InCallC s s.heap.objs.size (bindL (envOfC qual scope s.heap.objs.size f cd).kindOf (ps.zip us) fun _ => none) (cellsFrom (s.heap.objs.size + 1) scope.names []) (bindC (envOfC qual scope s.heap.objs.size f cd).kindOf (ps.zip us) fun _ => none) s1) :
  Inv (EO CX P w K mg base N qual scope f cd A outer s H E) [] (start N vs) H s1 := by
 have hpl : ps.length ≤ N.length := by have := congrArg List.length S.pre; rw [List.length_take] at this; omega
 obtain ⟨h1, tk, rfl, hk⟩ := x.done
 have noA : ∀ b : Addr, b ∉ (EO CX P w K mg base N qual scope f cd A outer s H E).ex := fun b z => absurd (show b ∈ ([] : List Addr) from z) (by simp)
 refine ⟨⟨e0.mod, S.kind, rfl, rfl, Nat.le_refl _, fun y z c h1 h2 => ?_, fun y hy => ?_, fun y c _ h => ?_, fun _ => hd, Around.frames_deeper e0.frames, .inr ⟨rfl, rfl⟩, fun b z => absurd z (noA b), e0.bs, e0.bsz, fun b _ _ => noA b, fun b z => absurd z (noA b), e0.funs, e0.frf⟩,
  rfl, e0.bare, Un.kept hk, ⟨_, x.toInCall.ns, fun i y v h1 h2 h3 => ?_⟩, fun y c h => ⟨_, x.cell y c h⟩, e0.hok.fresh (Nat.le_refl _), fun y c h => ?_, fun p hp => absurd (show p ∈ ([] : List (Addr × Obj)) from hp) (by simp), e0.hok.kept hk, ?_⟩
 ·exact name_of_addr x.apart (PySem.mem_of_lookup h1) (PySem.mem_of_lookup h2)
 ·have hy : scope.names.lookup y = some .cell ∨ scope.names.lookup y = some .free := hy
  rcases hy with hy | hy
  ·exact TM hy
  ·exact absurd rfl (S.nofree _ (PySem.mem_of_lookup hy))
 ·exact Nat.le_of_lt (x.above y c (PySem.mem_of_lookup h))
 ·have hi : i < vs.length := by
   unfold start at h2
   by_cases hi : i < vs.length
   ·exact hi
   ·rw [List.getElem?_append_right (by simpa using hi)] at h2
    rw [List.getElem?_replicate] at h2
    split at h2 <;> cases h2
  have ha : vs[i]? = some v := by
   unfold start at h2
   rw [List.getElem?_append_left (by simpa using hi), List.getElem?_map] at h2
   cases e : vs[i]? with
   | none => rw [e] at h2; cases h2
   | some a => rw [e] at h2; cases h2; rfl
  obtain ⟨u, hu, rv⟩ := r.get ha
  have hp : ps[i]? = some y := by
   rw [← S.pre, List.getElem?_take_of_lt (by omega)]; exact h1
  have ndP : ps.Nodup := by rw [← S.pre]; exact S.nd.sublist (List.take_sublist _ _)
  refine ⟨u, rv, ?_⟩
  rcases S.par y (List.mem_of_getElem? hp) with k | k
  ·exact .inl ⟨k, QA ndP hp hu k⟩
  ·obtain ⟨c, e⟩ := TM (n := s.heap.objs.size + 1) k
   refine .inr ⟨.inl k, c, e, ?_⟩
   have q := x.cell y c e
   rw [QC ndP hp hu (by show scope.names.lookup y ≠ _; rw [k]; decide)] at q
   exact q
 ·exact e0.hok.fresh (Nat.le_of_lt (x.above y c (PySem.mem_of_lookup h)))
 ·unfold start
  show _ = N.length
  rw [List.length_append, List.length_map, List.length_replicate]
  omega
theorem kS {CX : CXT} {P : Program} {w : World} {K : PySem.W.Frag} {mg : Str → Option Value} {base : Heap} {k : Nat} {f : Addr} {name qual : Str} {params : Arguments} {body : List Stmt} {scope : Scope} {dV kV doc pm cdv ct oc : Value} {an od : Option Addr}
  {osl : Array (Option Value)} {N ps : List Str} {sp : Sp} (lk : K.lookup f = some ⟨oc, od, .func (PySem.W.fnOf name qual params body scope dV kV doc pm an cdv ct), osl⟩) (hcd : PySem.W.codeIn K cdv qual = true) (S : AQ N ps scope)
  (len : ∀ vs H Q E, sp vs H Q E → vs.length = ps.length)
  (hbody : ∀ (A : Around) (outer : List Env) (s : Shared) (H : Hp) (vs : List V) (Q : VK) (E : XK), ET k (A.deeper (envOfC qual scope s.heap.objs.size f cdv)) → sp vs H Q E →
   ∃ t, PSs (EO CX P w K mg base N qual scope f cdv A outer s H E) body t ∧ t { nx := fun _ H' => Q .non H', rt := Q } (start N vs) H) :
  BF P w K mg base CX (k + 1) f (PySem.W.fnOf name qual params body scope dV kV doc pm an cdv ct) ps sp := by
 refine ⟨len, fun A outer s H args us vs Q E hr e0 hb r hsp => ?_⟩
 have hl := len _ _ _ _ hsp
 have KX : K.In s.heap := e0.mod.kin.keeps fun b o e => (e0.bs b o e).1
 have lim : s.heap.NoLimit := e0.mod.nolimit.keeps fun b o e => (e0.bs b o e).1
 have hkind : ∀ y ∈ ps.zip us, scope.names.lookup y.1 = some .local ∨ (scope.names.lookup y.1 = some .cell ∧ ((cellsFrom (s.heap.objs.size + 1) scope.names []).lookup y.1).isSome = true) := fun ⟨n, v⟩ hy => by
  rcases S.par n (List.of_mem_zip hy).1 with q | q
  ·exact .inl q
  ·exact .inr ⟨q, PySem.W.cellsFrom_some _ _ _ (.inl q)⟩
 refine codeAny_call_function hr.depth (KX _ _ lk) rfl S.co S.gen rfl (PySem.W.codeRec_of KX hcd) (hb _ _ _ _ ?_)
 refine wpAny_newFunctionEnv_cells S.kind hkind fun env he s1 x => ?_
 subst he
 refine ⟨lim.keeps x.toInCall.keep, codeAny_func ?_⟩
 obtain ⟨t, ht, hq⟩ := hbody A outer s H vs Q E (hr.deeper _) hsp
 have I : Inv (EO CX P w K mg base N qual scope f cdv A outer s H E) [] (start N vs) H s1 := aO S hr.hd e0 hl r x
 refine wpAny_mono (ht [] s1 (start N vs) H _ I hq) (fun fl s' hs => ?_) fun e s' hs => hs
 have fin : ∀ {σ' : St} {H' : Hp} {v : V} {u : Value}, Inv (EO CX P w K mg base N qual scope f cdv A outer s H E) [] σ' H' s' → AY v u → Q v H' → CE outer P w H s Q u s' :=
  fun {σ' H' v u} J rv q => ⟨v, H', J.os, J.bare, J.base, J.hok, rv, q⟩
 cases fl with
 | ret u =>
  obtain ⟨v, σ', H', J, rv, q⟩ := hs
  exact fin J rv q
 | next =>
  obtain ⟨σ', H', J, q⟩ := hs
  exact fin (v := V.non) (u := Value.none) J rfl q
 | brk =>
  obtain ⟨_, _, _, q⟩ := hs
  exact False.elim q
 | cont =>
  obtain ⟨_, _, _, q⟩ := hs
  exact False.elim q
section
variable {X : Cx} {x : Str} {p pos : Pos} {e : Expr} {es : List Expr} {t : TA} {id T : String} {r : List V → Hp → VK → Prop}
def tCB (r : List V → Hp → VK → Prop) (t : TA) : TE := fun σ H Q => t σ H fun vs H1 => r vs H1 Q
theorem CJ (hc : EI X (.builtin id) r) (hg : Gl X x) (hm : X.mg x = none) (hv : bootBuiltins x = some (.builtin id)) (ha : PA X (e :: es) t) (hn : x ≠ "__name__" := by decide) (hdb : (x == ("__debug__" : Str)) = false := by decide)
  (he : starEach (e :: es) X.env = (false, eval e X.env) :: starEach es X.env := by rfl) (hpl : (backTo pos (starEach es X.env)).any (·.1) = false := by rfl) : PE X (.Call (.Name x p) (e :: es) [] pos) (tCB r t) := by
 intro pins s σ H Q I h
 refine wpAny_Call_Name_kw (IM I hg hm hv ?_ hn hdb)
 exact PyProof.Rows.callWith_builtin1 (thn (ha pos pins s σ H _ I h) fun us s1 ⟨vs, H1, I1, r1, q1⟩ => hc pins s1 σ H1 vs us Q I1 r1 q1) he hpl
theorem IT (hc : EI X (.type T) r) (hg : Gl X x) (hm : X.mg x = none) (hv : bootBuiltins x = some (.type T)) (ha : PA X (e :: es) t) (hn : x ≠ "__name__" := by decide) (hdb : (x == ("__debug__" : Str)) = false := by decide)
  (he : starEach (e :: es) X.env = (false, eval e X.env) :: starEach es X.env := by rfl) (hpl : (backTo pos (starEach es X.env)).any (·.1) = false := by rfl) : PE X (.Call (.Name x p) (e :: es) [] pos) (tCB r t) := by
 intro pins s σ H Q I h
 refine wpAny_Call_Name_kw (IM I hg hm hv ?_ hn hdb)
 exact PyProof.Rows.callWith_type1 (thn (ha pos pins s σ H _ I h) fun us s1 ⟨vs, H1, I1, r1, q1⟩ => hc pins s1 σ H1 vs us Q I1 r1 q1) he hpl
end
end L2
namespace HT
open PySem PyProof.Rows
section
open PySem.SeqAt
open PySem.AutoSeq1 (wpAny_loadPart')
open PySem.MeetsSeq PySem.MeetsSeq2 PySem.MeetsSeq3
end
section
variable {prog : Program} {w : World} {A : Around} {E : Value → Shared → Prop} {s : Shared}
theorem cat_tup {t b : Addr} {vs ws : List Value} {Q : Value → Shared → Prop} (ht : IsTup s.heap t vs.toArray) (hb : IsTup s.heap b ws.toArray) (hv : vs ≠ [])
  (h1 : ws = [] → Q (.ref t) s) (h2 : ws ≠ [] → Q (.ref s.heap.objs.size) { s with heap := s.heap.push { cls := .type "tuple", data := .seq (vs ++ ws).toArray } })
  (hsz : vs.length + ws.length ≤ sizeLine) : wpAny (model prog w) A (binaryOp .Add (.ref t) (.ref b)) Q E s := by
 obtain ⟨⟨cls, dd, data, sl⟩, ho, hc, n, hd⟩ := id ht
 obtain ⟨⟨cls2, dd2, data2, sl2⟩, ho2, hc2, n2, hd2⟩ := id hb
 simp only at hc hd hc2 hd2
 subst hc hd hc2 hd2
 have e : vs.toArray ++ ws.toArray = (vs ++ ws).toArray := by simp
 by_cases hw : ws = []
 ·exact concat_meets ⟨_, ho, rfl⟩ ⟨_, ho2, rfl⟩ noFill_tuple_add seq_tuple_add PySem.F.slot_tuple_add PySem.F.entry_tuple_add (PySem.F.args_tuple_add_2 _ _)
   (tuple_addW1 t b vs.toArray ws.toArray n n2 dd dd2 sl sl2 (by simpa using hv) (by simp [hw])) ⟨ho, ho2, h1 hw⟩
 ·refine concat_meets ⟨_, ho, rfl⟩ ⟨_, ho2, rfl⟩ noFill_tuple_add seq_tuple_add PySem.F.slot_tuple_add PySem.F.entry_tuple_add (PySem.F.args_tuple_add_2 _ _)
   (tuple_addW2 t b vs.toArray ws.toArray n n2 dd dd2 sl sl2 (by simpa using hv) (by simpa using hw) (by rw [List.size_toArray, List.size_toArray]; exact hsz)) ⟨ho, ho2, ?_⟩
  rw [e]
  exact h2 hw
end
end HT
namespace L2
open PySem PySem.Spec PyProof.Rows
abbrev TO := St → Hp → (Option Int → Hp → Prop) → Prop
def PO (X : Cx) (e : Option Expr) (t : TO) : Prop :=
 ∀ (pins : List (Addr × Obj)) (s : Shared) (σ : St) (H : Hp) (Q : Option Int → Hp → Prop), Inv X pins σ H s → t σ H Q →
  wpAny (model X.prog X.w) X.A (evalPart e X.env) (fun u s' => ∃ o H', Inv X pins σ H' s' ∧ IsPart u o ∧ Q o H') X.xe s
section
variable {X : Cx} {e : Expr} {te : TE} {lo hi : Option Expr} {tl th : TO} {pos p2 : Pos}
def SlR (X : Cx) (r : V → Option Int → Option Int → Hp → VK → Prop) : Prop :=
 ∀ (pins : List (Addr × Obj)) (s : Shared) (σ : St) (H : Hp) (x : V) (v vl vu : Value) (lo hi : Option Int) (sl : Addr) (Q : VK), Inv X pins σ H s → AY x v → s.heap.IsSliceOf sl vl vu .none → IsPart vl lo → IsPart vu hi → r x lo hi H Q →
  ∃ T id, typeLookup (.type T) "__getitem__" = pure (some (.builtin id)) ∧ s.TypeIs v T ∧ wpAny (model X.prog X.w) X.A (getItem v (.ref sl)) (EP X pins σ Q) X.xe s
def TY (K : PySem.W.Frag) : R2 := fun x y H Q => ∃ a b xs ys, x = .ref a ∧ y = .ref b ∧ SqT K H a xs ∧ SqT K H b ys ∧ xs ≠ [] ∧ xs.length + ys.length ≤ sizeLine ∧
 (ys = [] → Q (.ref a) H) ∧ (ys ≠ [] → ∀ p, H p = none → Q (.ref p) (upd H p (.tup (xs ++ ys))))
theorem AO.nil_iff {xs : List V} {us : List Value} (r : AO xs us) : us = [] ↔ xs = [] := by
 cases r with
 | nil => simp
 | cons _ _ => simp
theorem jN : OpR X (binaryOp .Add) (TY X.K) := by
 intro pins s σ H x y v u Q I rx ry h
 obtain ⟨a, b, xs, ys, rfl, rfl, ha, hb, hx, hz, q1, q2⟩ := h
 cases rx
 cases ry
 obtain ⟨its, r1, p1, _⟩ := I.tuple ha
 obtain ⟨its2, r2, p2, _⟩ := I.tuple hb
 refine HT.cat_tup p1 p2 (fun z => hx (r1.nil_iff.mp z)) (fun z => ⟨.ref a, H, I, rfl, q1 (r2.nil_iff.mp z)⟩) (fun z => ?_) (by rw [← r1.length, ← r2.length]; exact hz)
 refine ⟨.ref s.heap.objs.size, _, I.laid (t' := s.toks) (o := .tup (xs ++ ys)) (fun b ob q => Heap.get?_push_of_some _ q) (Nat.le_refl _) ?_, rfl, q2 (fun w => z (r2.nil_iff.mpr w)) _ (I.hok.fresh (Nat.le_refl _))⟩
 exact ⟨by rw [List.length_append]; exact hz, _, r1.append r2, IsTup.new _ _⟩
end
def ixN (n : Nat) (i : Int) : Option Nat := if 0 ≤ i then (if i < n then some i.toNat else none) else if -(n : Int) ≤ i then some (i + n).toNat else none
def atI {α : Type} (xs : List α) (i : Int) : Option α := (ixN xs.length i).bind fun j => xs[j]?
theorem kH {n : Nat} {i : Int} {j : Nat} (h : ixN n i = some j) : seqIndex? i n = some j ∧ j < n ∧ -(n : Int) ≤ i ∧ i < n := by
 unfold ixN at h
 by_cases h0 : 0 ≤ i
 ·rw [if_pos h0] at h
  by_cases h1 : i < n
  ·rw [if_pos h1] at h
   have e : i.toNat = j := Option.some.inj h
   exact ⟨by rw [seqIndex_of h0 h1, e], by omega, by omega, h1⟩
  ·rw [if_neg h1] at h; cases h
 ·rw [if_neg h0] at h
  by_cases h1 : -(n : Int) ≤ i
  ·rw [if_pos h1] at h
   have e : (i + n).toNat = j := Option.some.inj h
   exact ⟨by rw [seqIndex_neg (by omega) h1, e], by omega, h1, by omega⟩
  ·rw [if_neg h1] at h; cases h
theorem XV {α : Type} {xs : List α} {i : Int} {v : α} (h : atI xs i = some v) : ∃ j, seqIndex? i xs.length = some j ∧ xs[j]? = some v ∧ j < xs.length ∧ -(xs.length : Int) ≤ i ∧ i < xs.length := by
 unfold atI at h
 cases e : ixN xs.length i with
 | none => rw [e] at h; cases h
 | some j =>
  rw [e] at h
  obtain ⟨h1, h2, h3, h4⟩ := kH e
  exact ⟨j, h1, h, h2, h3, h4⟩
theorem DF {α : Type} {xs : List α} {j : Nat} {v : α} (h : xs[j]? = some v) : atI xs (j : Int) = some v := by
 have hj : j < xs.length := (List.getElem?_eq_some_iff.mp h).1
 have e : ixN xs.length (j : Int) = some j := by
  unfold ixN
  rw [if_pos (by omega), if_pos (by omega)]; simp
 unfold atI; rw [e]; exact h
theorem TR {α : Type} (xs : List α) (v : α) : atI (xs ++ [v]) (-1) = some v := by
 have hl : (xs ++ [v]).length = xs.length + 1 := by simp
 have e : ixN (xs ++ [v]).length (-1) = some xs.length := by
  unfold ixN
  rw [hl, if_neg (by decide), if_pos (by omega)]
  congr 1
  omega
 unfold atI
 rw [e]
 show (xs ++ [v])[xs.length]? = some v
 simp
def iA (b : Expr) : Prop := ∀ o i, subscripted b false o i = operate [o, i] (getItem o i)
def IxR (X : Cx) (r : R2) : Prop :=
 ∀ (value slice : Expr) (pins : List (Addr × Obj)) (s : Shared) (σ : St) (H : Hp) (x y : V) (v u : Value) (Q : VK), Inv X pins σ H s → AY x v → AY y u → r x y H Q →
  subscripted slice false v u = operate [v, u] (getItem v u) → wpAny (model X.prog X.w) X.A (subscriptTail value slice v u) (EP X pins σ Q) X.xe s
def MtR (X : Cx) (id : String) (r : V → List V → Hp → VK → Prop) : Prop :=
 ∀ (pins : List (Addr × Obj)) (s : Shared) (σ : St) (H : Hp) (x : V) (xs : List V) (v : Value) (us : List Value) (Q : VK), Inv X pins σ H s → AY x v → AO xs us → r x xs H Q →
  wpAny (model X.prog X.w) X.A (call (.builtin id) (v :: us)) (EP X pins σ Q) X.xe s
section
variable {X : Cx} {a b : Expr} {ta tb : TE} {pos : Pos}
theorem BH {r : R2} (hr : IxR X r) (ha : PE X a ta) (hb : PE X b tb) (hs : iA b) : PE X (.Subscript a b pos) (tOp r ta tb) := by
 intro pins s σ H Q I h
 exact Subscript_ (lG ha hb I h fun v u s2 x y H2 I2 rx ry q => hr a b pins s2 σ H2 x y v u Q I2 rx ry q (hs _ _))
def bJ (K : PySem.W.Frag) : R2 := fun x y H Q => ∃ p xs i v, x = .ref p ∧ y = .int i ∧ SqL K H p xs ∧ atI xs i = some v ∧ Q v H
def cA (K : PySem.W.Frag) : R2 := fun x y H Q => ∃ p xs i v, x = .ref p ∧ y = .int i ∧ SqT K H p xs ∧ atI xs i = some v ∧ Q v H
theorem jW : IxR X (bJ X.K) := by
 intro value slice pins s σ H x y v u Q I rx ry h hs
 obtain ⟨p, xs, i, z, rfl, rfl, hq, he, q⟩ := h
 cases rx
 obtain ⟨t, rfl⟩ := ry
 obtain ⟨its, r, pl, hz⟩ := I.list hq
 obtain ⟨j, h1, h2, h3, h4, h5⟩ := XV he
 obtain ⟨w, ew, rw'⟩ := r.get h2
 have hl := r.length
 have hn := RK
 have fin : EP X pins σ Q w s := ⟨z, H, I, rw', q⟩
 by_cases h0 : 0 ≤ i
 ·have hj : i.toNat = j := by
   rw [seqIndex_of h0 h5] at h1
   exact Option.some.inj h1
  exact item_listR pl.isList h0 (by omega) (by rw [hj]; simpa using ew) fin hs
 ·have hj : (i + (its.toArray.size : Int)).toNat = j := by
   rw [seqIndex_neg (by omega) h4] at h1
   rw [List.size_toArray, ← hl]
   exact Option.some.inj h1
  exact subscriptTail_builtinR (x := w) pl.isList.typeIs slot_list_getitem.lookup
   (wpAny_getItem_list_neg (Q := fun r s' => r = w ∧ EP X pins σ Q r s') pl.isList (by omega) (by rw [List.size_toArray] <;> omega) (by omega) (by rw [hj]; simpa using ew) ⟨rfl, fin⟩) hs
theorem lE : IxR X (cA X.K) := by
 intro value slice pins s σ H x y v u Q I rx ry h hs
 obtain ⟨p, xs, i, z, rfl, rfl, hq, he, q⟩ := h
 cases rx
 obtain ⟨t, rfl⟩ := ry
 obtain ⟨its, r, pl, hz⟩ := I.tuple hq
 obtain ⟨j, h1, h2, h3, h4, h5⟩ := XV he
 obtain ⟨w, ew, rw'⟩ := r.get h2
 have hl := r.length
 have hn := RK
 have fin : EP X pins σ Q w s := ⟨z, H, I, rw', q⟩
 exact subscriptTail_builtinR (x := w) pl.typeIs slot_tuple_getitem.lookup
  (getItem_tuple (j := j) (Q := fun r s' => r = w ∧ EP X pins σ Q r s') pl (by omega) (by omega) (by rw [List.size_toArray, ← hl]; exact h1) (by simpa using ew) ⟨rfl, fin⟩) hs
theorem Inv.lst {pins : List (Addr × Obj)} {σ : St} {H : Hp} {s : Shared} {p : Addr} {xs : List V} (I : Inv X pins σ H s) (h : H p = some (.lst xs)) :
  ∃ (its : List Value) (n : Nat), AO xs its ∧ s.heap.get? p = some { cls := .type "list", data := .seq its.toArray n } ∧ xs.length ≤ sizeLine := by
 obtain ⟨z, its, n, r, e⟩ := I.hok p _ h
 exact ⟨its, n, r, e, z⟩
def LY : V → Bool
 | .non => true
 | .bl _ => true
 | .int _ => true
 | .str _ => true
 | _ => false
def eqV : V → V → Bool
 | .non, .non => true
 | .bl a, .bl b => a == b
 | .bl a, .int b => (if a then 1 else 0) == b
 | .int a, .bl b => a == (if b then 1 else 0)
 | .int a, .int b => a == b
 | .str a, .str b => a == b
 | _, _ => false
theorem nK {A : Around} {s : Shared} {y x : V} {u v : Value} (ry : AY y u) (rx : AY x v) (fy : LY y = true) (fx : LY x = true) : SeqAt.EqAt A s u v (eqV y x) := by
 cases y with
 | non =>
  cases ry
  cases x with
  | non => cases rx; exact SeqAt.EqAt.same _
  | bl b => cases rx; exact SeqAt.EqAt.none_bool b
  | int b => obtain ⟨t, rfl⟩ := rx; exact SeqAt.EqAt.none_int b t
  | str b => obtain ⟨t, rfl⟩ := rx; exact SeqAt.EqAt.none_str b t
  | _ => exact absurd (show false = true from fx) Bool.false_ne_true
 | bl a =>
  cases ry
  cases x with
  | non => cases rx; exact SeqAt.EqAt.bool_none a
  | bl b => cases rx; exact SeqAt.EqAt.bool_bool a b
  | int b => obtain ⟨t, rfl⟩ := rx; exact SeqAt.EqAt.bool_int a b t
  | str b => obtain ⟨t, rfl⟩ := rx; exact SeqAt.EqAt.bool_str a b t
  | _ => exact absurd (show false = true from fx) Bool.false_ne_true
 | int a =>
  obtain ⟨t', rfl⟩ := ry
  cases x with
  | non => cases rx; exact SeqAt.EqAt.int_none a t'
  | bl b => cases rx; exact SeqAt.EqAt.int_bool a t' b
  | int b => obtain ⟨t, rfl⟩ := rx; exact SeqAt.EqAt.int_int a t' b t
  | str b => obtain ⟨t, rfl⟩ := rx; exact SeqAt.EqAt.int_str a t' b t
  | _ => exact absurd (show false = true from fx) Bool.false_ne_true
 | str a =>
  obtain ⟨t', rfl⟩ := ry
  cases x with
  | non => cases rx; exact SeqAt.EqAt.str_none a t'
  | bl b => cases rx; exact SeqAt.EqAt.str_bool a t' b
  | int b => obtain ⟨t, rfl⟩ := rx; exact SeqAt.EqAt.str_int a t' b t
  | str b => obtain ⟨t, rfl⟩ := rx; exact SeqAt.EqAt.str_str a t' b t
  | _ => exact absurd (show false = true from fx) Bool.false_ne_true
 | _ => exact absurd (show false = true from fy) Bool.false_ne_true
def eqU (x : V) (u : Value) : Bool := match u with
 | .none => eqV .non x
 | .bool b => eqV (.bl b) x
 | .int i _ => eqV (.int i) x
 | .str z _ => eqV (.str z) x
 | _ => false
theorem bO {x y : V} {u : Value} (r : AY y u) (f : LY y = true) : eqU x u = eqV y x := by
 cases y with
 | non => cases r; rfl
 | bl b => cases r; rfl
 | int i => obtain ⟨t, rfl⟩ := r; rfl
 | str z => obtain ⟨t, rfl⟩ := r; rfl
 | _ => exact absurd (show false = true from f) Bool.false_ne_true
theorem QO {x : V} : ∀ {xs : List V} {us : List Value}, AO xs us → xs.all LY = true → us.any (eqU x) = xs.any fun y => eqV y x
 | _, _, .nil, _ => rfl
 | y :: xs, u :: us, .cons r t, f => by
  rw [List.all_cons, Bool.and_eq_true] at f
  rw [List.any_cons, List.any_cons, bO r f.1, QO t f.2]
theorem NX {A : Around} {s : Shared} {x : V} {v : Value} (rx : AY x v) (fx : LY x = true) : ∀ {xs : List V} {us : List Value}, AO xs us → xs.all LY = true → ∀ u ∈ us, SeqAt.EqAt A s u v (eqU x u)
 | _, _, .nil, _ => fun u hu => by cases hu
 | y :: xs, u :: us, .cons r t, f => fun u' hu => by
  rw [List.all_cons, Bool.and_eq_true] at f
  rcases List.mem_cons.mp hu with rfl | hu
  ·rw [bO r f.1]; exact nK r rx f.1 fx
  ·exact NX rx fx t f.2 u' hu
def inV (x : V) (xs : List V) : Bool := xs.any fun y => eqV y x
def rIn (K : PySem.W.Frag) (neg : Bool) : R2 := fun x y H Q => ∃ p xs, y = .ref p ∧ (SqL K H p xs ∨ SqT K H p xs) ∧ LY x = true ∧ xs.all LY = true ∧ Q (.bl (if neg then !inV x xs else inV x xs)) H
theorem ZG : OpR X (compareOp .In) (rIn X.K false) := by
 intro pins s σ H x y v u Q I rx ry h
 obtain ⟨p, xs, rfl, hq, fx, fs, q⟩ := h
 cases ry
 rcases hq with hq | hq
 ·obtain ⟨its, r, pl, hz⟩ := I.list hq
  refine SeqAt.in_listAt (eqU x) pl.isList (fun w hw => NX rx fx r fs w (by simpa using hw)) ⟨.bl _, H, I, rfl, ?_⟩
  rw [show its.toArray.any (eqU x) = its.any (eqU x) by simp, QO r fs]
  exact q
 ·obtain ⟨its, r, pl, hz⟩ := I.tuple hq
  refine SeqAt.in_tupleAt (eqU x) pl (fun w hw => NX rx fx r fs w (by simpa using hw)) ⟨.bl _, H, I, rfl, ?_⟩
  rw [show its.toArray.any (eqU x) = its.any (eqU x) by simp, QO r fs]
  exact q
theorem RM : EI X (.builtin "len") (fun xs H Q => ∃ p ys, xs = [.ref p] ∧ (SqL X.K H p ys ∨ SqT X.K H p ys) ∧ Q (.int ys.length) H) := by
 intro pins s σ H xs us Q I r h
 obtain ⟨p, ys, rfl, hq, q⟩ := h
 obtain ⟨u, rfl, rx⟩ := YC r
 cases rx
 have hn := RK
 rcases hq with hq | hq
 ·obtain ⟨its, r', pl, hz⟩ := I.list hq
  have hlen := r'.length
  exact Calls.call_len_list pl.isList (by simp only [List.size_toArray] <;> omega) ⟨.int ys.length, H, I.tok _, ⟨s.toks + 1, by rw [List.size_toArray, hlen]⟩, q⟩
 ·obtain ⟨its, r', pl, hz⟩ := I.tuple hq
  have hlen := r'.length
  exact len_tuple pl (by simp only [List.size_toArray] <;> omega) ⟨.int ys.length, H, I.tok _, ⟨s.toks + 1, by rw [List.size_toArray, hlen]⟩, q⟩
theorem PF : EI X (.type "tuple") (fun xs H Q => ∃ p ys, xs = [.ref p] ∧ ((SqL X.K H p ys ∧ ∀ l, H l = none → Q (.ref l) (upd H l (.tup ys))) ∨ (SqT X.K H p ys ∧ Q (.ref p) H))) := by
 intro pins s σ H xs us Q I r h
 obtain ⟨p, ys, rfl, h⟩ := h
 obtain ⟨u, rfl, rx⟩ := YC r
 cases rx
 rcases h with ⟨hq, q⟩ | ⟨hq, q⟩
 ·obtain ⟨its, r', pl, hz⟩ := I.list hq
  have hlen := r'.length
  refine call_tuple_list pl.isList (fun h' kp => ?_) (by simp only [List.size_toArray] <;> omega)
  have I1 : Inv X pins σ H { s with heap := h' } := I.kept (t' := s.toks) kp
  have I2 : Inv X pins σ (upd H h'.objs.size (.tup ys)) { s with heap := h'.push { cls := .type "tuple", data := .seq its.toArray } } :=
   I1.laid (t' := s.toks) (fun b o e => Heap.get?_push_of_some _ e) (Nat.le_refl _) (show DA X.prog X.w _ _ _ (.tup ys) from ⟨hz, its, r', IsTup.new _ _⟩)
  exact ⟨.ref h'.objs.size, _, I2, rfl, q _ (I1.hok.fresh (Nat.le_refl _))⟩
 ·obtain ⟨its, r', pl, hz⟩ := I.tuple hq
  exact call_tuple_same pl ⟨.ref p, H, I, rfl, q⟩
def tyV (K : PySem.W.Frag) (T : String) (x : V) (H : Hp) : Prop := match x with
 | .str _ => T = "str"
 | .int _ => T = "int"
 | .ref p => (T = "list" ∧ ∃ xs, SqL K H p xs) ∨ (T = "tuple" ∧ ∃ o, K.lookup p = some o ∧ o.cls = .type "tuple" ∧ o.dict = none) ∨
   (T = "dict" ∧ ((∃ kvs, H p = some (.dK kvs)) ∨ ∃ kvs, H p = some (.dT kvs))) ∨ (T = "set" ∧ ∃ S n, H p = some (.set S n))
 | _ => False
theorem cV {pins : List (Addr × Obj)} {σ : St} {H : Hp} {s : Shared} {T : String} {x : V} {v : Value} (I : Inv X pins σ H s) (r : AY x v) (ty : tyV X.K T x H) :
  s.TypeIs v T ∧ ∀ a, v = .ref a → ∃ ob, s.heap.get? a = some ob ∧ ob.dict = none := by
 cases x with
 | str z =>
  obtain ⟨t, rfl⟩ := r
  cases (show T = "str" from ty)
  exact ⟨typeIs_str s z t, fun _ e => nomatch e⟩
 | int i =>
  obtain ⟨t, rfl⟩ := r
  cases (show T = "int" from ty)
  exact ⟨typeIs_int s i t, fun _ e => nomatch e⟩
 | ref p =>
  cases r
  rcases ty with ⟨rfl, xs, hq⟩ | ⟨rfl, o, hk, hc, hd⟩ | ⟨rfl, hk⟩ | ⟨rfl, S, n, hk⟩
  ·obtain ⟨its, _, pl, _⟩ := I.list hq
   refine ⟨pl.isList.typeIs, fun a e => ?_⟩
   cases e
   obtain ⟨o, n, e, c, hd, _⟩ := pl
   exact ⟨o, e, hd⟩
  ·refine ⟨⟨o, I.kIn p o hk, hc⟩, fun a e => ?_⟩
   cases e
   exact ⟨o, I.kIn _ o hk, hd⟩
  ·have z : ∃ o, s.heap.get? p = some o ∧ o.ExactDict := by
    rcases hk with ⟨kvs, hk⟩ | ⟨kvs, hk⟩
    ·obtain ⟨_, _, _, _, o, _, _, e, ex, _⟩ := I.hok p _ hk
     exact ⟨o, e, ex⟩
    ·obtain ⟨_, _, _, _, o, _, _, e, ex, _⟩ := I.hok p _ hk
     exact ⟨o, e, ex⟩
   obtain ⟨o, e, ex⟩ := z
   refine ⟨⟨o, e, ex.1⟩, fun a e2 => ?_⟩
   cases e2
   exact ⟨o, e, ex.2.1⟩
  ·obtain ⟨o, _, _, _, e, ex, _⟩ := I.hok p _ hk
   refine ⟨⟨o, e, ex.1⟩, fun a e2 => ?_⟩
   cases e2
   exact ⟨o, e, ex.2.1⟩
 | _ => exact False.elim ty
def cR (K : PySem.W.Frag) (T : String) (r : V → List V → Hp → VK → Prop) (to : TE) : TE := fun σ H Q => to σ H fun x H1 => tyV K T x H1 ∧ r x [] H1 Q
def tBM (K : PySem.W.Frag) (T : String) (r : V → List V → Hp → VK → Prop) (to : TE) (t : TA) : TE := fun σ H Q => to σ H fun x H1 => tyV K T x H1 ∧ t σ H1 fun xs H2 => r x xs H2 Q
variable {o e : Expr} {es : List Expr} {to : TE} {t : TA} {name : Str} {apos cpos : Pos} {T id : String} {r : V → List V → Hp → VK → Prop}
theorem nO (pa : PlainAttrs T) (slot : Slot T name id) (hty : typeOf (.builtin id) = pure (.type "method_descriptor")) (hm : MtR X id r) (ho : PE X o to)
  (hbase : attributeBase o name X.env (eval o X.env) = eval o X.env := by rfl) (hline : (apos.endLine == cpos.line) = true := by rfl) : PE X (.Call (.Attribute o name apos) [] [] cpos) (cR X.K T r to) := by
 intro pins s σ H Q I h
 refine wpAny_Call_method0_late hbase hline (thn (ho pins s σ H _ I h) fun v s1 ⟨x, H1, I1, r1, ty, q1⟩ => ?_)
 obtain ⟨h1, h2⟩ := cV I1 r1 ty
 exact ⟨T, id, pa, slot, hty, h1, h2, Calls.callWith_builtin rfl (PySem.evalArgs_none (hm pins s1 σ H1 x [] v [] Q I1 r1 .nil q1))⟩
theorem ID (pa : PlainAttrs T) (slot : Slot T name id) (hty : typeOf (.builtin id) = pure (.type "method_descriptor")) (hm : MtR X id r) (ho : PE X o to) (ha : PA X (e :: es) t)
  (hbase : attributeBase o name X.env (eval o X.env) = eval o X.env := by rfl)
  (hfew : ((backTo cpos (starEach (e :: es) X.env)).all (fun x => !x.1) && (backToKw cpos (keywordEach [] X.env)).all (fun x => x.1.isSome)
   && decide ((e :: es).length + ([] : List Keyword).length + (if ([] : List Keyword).isEmpty then 0 else 1) < 30)) = true := by rfl)
  (hline : (apos.endLine == cpos.line) = true := by rfl) (hs : starEach (e :: es) X.env = (false, eval e X.env) :: starEach es X.env := by rfl) (hplain : (backTo cpos (starEach es X.env)).any (·.1) = false := by rfl) :
  PE X (.Call (.Attribute o name apos) (e :: es) [] cpos) (tBM X.K T r to t) := by
 intro pins s σ H Q I h
 refine wpAny_Call_method_late hbase hfew hline rfl (thn (ho pins s σ H _ I h) fun v s1 ⟨x, H1, I1, r1, ty, q1⟩ => ?_)
 obtain ⟨h1, h2⟩ := cV I1 r1 ty
 refine ⟨T, id, pa, slot, hty, h1, h2, ?_⟩
 have hA := ha cpos pins s1 σ H1 _ I1 q1
 rw [hs] at hA ⊢
 refine Calls.callWith_builtin (by show (false || (backTo cpos (starEach es X.env)).any (·.1)) = false; rw [hplain] <;> rfl) (Calls.evalArgs_plain ?_)
 exact thn hA fun us s2 ⟨vs, H2, I2, r2, q2⟩ => hm pins s2 σ H2 x vs v us Q I2 r1 r2 q2
end
def MtM (X : Cx) (id : String) (r : V → List V → Hp → VK → Prop) : Prop :=
 ∀ (pins : List (Addr × Obj)) (s : Shared) (σ : St) (H : Hp) (x : V) (xs : List V) (v : Value) (us : List Value) (Q : VK), Inv X pins σ H s → AY x v → AO xs us → r x xs H Q →
  wpAny (model X.prog X.w) X.A (call (.builtin id) (v :: us)) (EP X pins σ Q) X.xe s
theorem AO.one : ∀ {x : V} {us : List Value}, AO [x] us → ∃ u, us = [u] ∧ AY x u
 | _, _, .cons r .nil => ⟨_, rfl, r⟩
theorem unP {α β : Type} {R : α → β → Prop} {x : α} {xs : List α} {us : List β} (h : Paired R (x :: xs) us) : ∃ u vs, us = u :: vs ∧ R x u ∧ Paired R xs vs := by
 cases h with
 | cons r h => exact ⟨_, _, rfl, r, h⟩
theorem unP0 {α β : Type} {R : α → β → Prop} {us : List β} (h : Paired R [] us) : us = [] := by
 cases h; rfl
theorem AO.two {x y : V} {us : List Value} (h : AO [x, y] us) : ∃ u v, us = [u, v] ∧ AY x u ∧ AY y v := by
 obtain ⟨u, vs, rfl, r, h⟩ := unP h
 obtain ⟨v, vs, rfl, q, h⟩ := unP h
 obtain rfl := unP0 h
 exact ⟨_, _, rfl, r, q⟩
theorem AO.zero : ∀ {us : List Value}, AO [] us → us = []
 | _, .nil => rfl
theorem AO.dropLast {xs : List V} {us : List Value} (h : AO xs us) : AO xs.dropLast us.dropLast := by
 induction h with
 | nil => exact .nil
 | cons r t ih =>
  cases t with
  | nil => exact .nil
  | cons q t' => exact .cons r ih
theorem AO.eraseIdx : ∀ {xs : List V} {us : List Value} (i : Nat), AO xs us → AO (xs.eraseIdx i) (us.eraseIdx i)
 | _, _, _, .nil => .nil
 | _, _, 0, .cons _ t => t
 | _, _, i + 1, .cons r t => .cons r (AO.eraseIdx i t)
theorem AO.rep {xs : List V} {us : List Value} (h : AO xs us) : ∀ k : Nat, AO (List.replicate k xs).flatten (List.replicate k us).flatten
 | 0 => .nil
 | k + 1 => by
  rw [List.replicate_succ, List.replicate_succ, List.flatten_cons, List.flatten_cons]
  exact AO.append h (AO.rep h k)
theorem VT {α : Type} (l : List α) : l.eraseIdx (l.length - 1) = l.dropLast := by
 induction l with
 | nil => rfl
 | cons a r ih =>
  cases r with
  | nil => rfl
  | cons b r =>
   have e : (a :: b :: r).length - 1 = ((b :: r).length - 1) + 1 := by
    have h1 : (a :: b :: r).length = r.length + 2 := rfl
    have h2 : (b :: r).length = r.length + 1 := rfl
    omega
   rw [e, List.eraseIdx_cons_succ, ih]
   all_goals rfl
theorem LH (its : List Value) : ∀ (k : Nat) (acc : List Value),
  List.foldl (fun x1 x2 => x1 ++ x2) acc.toArray (List.replicate k its.toArray) = (acc ++ (List.replicate k its).flatten).toArray
 | 0, acc => by simp
 | k + 1, acc => by
  have e : acc.toArray ++ its.toArray = (acc ++ its).toArray := by simp
  have e2 : (acc ++ its) ++ (List.replicate k its).flatten = acc ++ (List.replicate (k + 1) its).flatten := by
   rw [List.replicate_succ, List.flatten_cons, List.append_assoc]
  rw [← e2, ← LH its k (acc ++ its), ← e, List.replicate_succ, List.foldl_cons]
section
variable {X : Cx} {pins : List (Addr × Obj)} {σ : St} {H : Hp} {s : Shared} {l b : Addr} {xs ys zs : List V}
theorem Inv.lset {its its' : List Value} {n : Nat} {f : Array Value → Array Value} {t' : Nat} (I : Inv X pins σ H s) (hH : H l = some (.lst xs))
  (e : s.heap.get? l = some { cls := .type "list", data := .seq its.toArray n }) (hf : f its.toArray = its'.toArray) (hv : AO ys its') (hz : ys.length ≤ sizeLine) :
  Inv X pins σ (upd H l (.lst ys)) { s with heap := s.heap.update l (Obj.mapSeq f), toks := t' } := by
 have q := PySem.IsL.update e f
 rw [hf] at q
 refine I.write (x := l) (e := l) (by rw [hH]; exact trivial) (.inl rfl) (fun b' u hb hu => (Heap.get?_update_other s.heap (Obj.mapSeq f) (Ne.symm hb)).trans hu) ⟨_, q⟩ ?_
 exact ⟨hz, its', _, hv, q⟩
theorem Inv.lnew {its : List Value} {t' : Nat} (I : Inv X pins σ H s) (hv : AO ys its) (hz : ys.length ≤ sizeLine) :
  Inv X pins σ (upd H s.heap.objs.size (.lst ys)) { s with heap := s.heap.push { cls := .type "list", data := .seq its.toArray }, toks := t' } :=
 I.laid (fun _ _ q => Heap.get?_push_of_some _ q) (Nat.le_refl _) ⟨hz, its, 0, hv, Heap.get?_push_size _ rfl⟩
theorem Inv.fresh (I : Inv X pins σ H s) : H s.heap.objs.size = none := I.hok.fresh (Nat.le_refl _)
theorem Inv.lstM (I : Inv X pins σ H s) (hH : H l = some (.lst xs)) : xs.length ≤ sizeLine ∧ ∃ (its : List Value) (n : Nat), AO xs its ∧ xs.length = its.length ∧ s.heap.get? l = some { cls := .type "list", data := .seq its.toArray n } := by
 obtain ⟨z, its, n, r, e⟩ := I.hok l _ hH
 exact ⟨z, its, n, r, r.length, e⟩
theorem eV {n : Nat} (h : n ≤ sizeLine) : Builtin.List.listTooLong n = false := by
 unfold Builtin.List.listTooLong
 exact decide_eq_false (by omega)
end
section
variable {X : Cx}
def KO : V → List V → Hp → VK → Prop := fun x vs H Q => ∃ l xs y, x = .ref l ∧ vs = [y] ∧ H l = some (.lst xs) ∧ xs.length < sizeLine ∧ Q .non (upd H l (.lst (xs ++ [y])))
theorem LM : MtM X "list.append" KO := by
 intro pins s σ H x vs v us Q I rx rv h
 obtain ⟨l, xs, y, rfl, rfl, hH, hz, q⟩ := h
 cases rx
 obtain ⟨u, rfl, ru⟩ := rv.one
 obtain ⟨z, its, n, r, hl, e⟩ := I.lstM hH
 refine call_meets F.slot_list_append ⟨_, e, rfl⟩ F.entry_list_append (F.args_list_append_2 _ _) (PySem.list_append l its.toArray n u (by rw [List.size_toArray]; omega)) ⟨e, ?_⟩
 refine ⟨.non, _, I.lset (its' := its ++ [u]) hH e (by simp) (r.append (.cons ru .nil)) ?_, rfl, q⟩
 rw [List.length_append, List.length_singleton]
 omega
def KP : V → List V → Hp → VK → Prop := fun x vs H Q => ∃ l b xs zs, x = .ref l ∧ vs = [.ref b] ∧ H l = some (.lst xs) ∧ H b = some (.lst zs) ∧ xs.length + zs.length ≤ sizeLine ∧ Q .non (upd H l (.lst (xs ++ zs)))
theorem LC : MtM X "list.extend" KP := by
 intro pins s σ H x vs v us Q I rx rv h
 obtain ⟨l, b, xs, zs, rfl, rfl, hH, hB, hz, q⟩ := h
 cases rx
 obtain ⟨u, rfl, ru⟩ := rv.one
 cases ru
 obtain ⟨z, its, n, r, hl, e⟩ := I.lstM hH
 obtain ⟨z2, its2, n2, r2, hl2, e2⟩ := I.lstM hB
 have hsz : its.toArray.size + its2.toArray.size ≤ sizeLine := by rw [List.size_toArray, List.size_toArray]; omega
 have hlong : ¬ (!its.toArray.isEmpty && Builtin.List.listTooLong (its.toArray.size + its2.toArray.size)) = true := by
  rw [eV hsz, Bool.and_false]
  exact Bool.false_ne_true
 refine call_meets F.slot_list_extend ⟨_, e, rfl⟩ F.entry_list_extend (F.args_list_extend_2 _ _)
  (AutoSeq1.list_extend_list_list_0 l its.toArray n b its2.toArray n2 hlong (by rw [List.size_toArray]; omega) (by omega)) ⟨e, e2, ?_⟩
 refine ⟨.non, _, I.lset (its' := its ++ its2) hH e (by simp) (r.append r2) ?_, rfl, q⟩
 rw [List.length_append]
 omega
def gD : V → List V → Hp → VK → Prop := fun x vs H Q => ∃ l xs y, x = .ref l ∧ vs = [] ∧ H l = some (.lst xs) ∧ xs[xs.length - 1]? = some y ∧ Q y (upd H l (.lst xs.dropLast))
theorem lL : MtM X "list.pop" gD := by
 intro pins s σ H x vs v us Q I rx rv h
 obtain ⟨l, xs, y, rfl, rfl, hH, hy, q⟩ := h
 cases rx
 have hus := rv.zero
 subst hus
 obtain ⟨z, its, n, r, hl, e⟩ := I.lstM hH
 obtain ⟨u, hu, ru⟩ := r.get hy
 have hy' : its.toArray[its.toArray.size - 1]? = some u := by
  show its.toArray[its.length - 1]? = some u
  rw [← Array.getElem?_toList, ← hl]
  exact hu
 refine call_meets F.slot_list_pop ⟨_, e, rfl⟩ F.entry_list_pop (F.args_list_pop_1 _) (MeetsSeq.list_pop_last l its.toArray n u hy' (by rw [List.size_toArray]; omega)) ⟨e, ?_⟩
 refine ⟨y, _, I.lset (its' := its.dropLast) hH e ?_ r.dropLast ?_, ru, q⟩
 ·show its.toArray.eraseIdxIfInBounds (its.toArray.size - 1) = its.dropLast.toArray
  rw [List.size_toArray, List.eraseIdxIfInBounds_toArray, VT]
 ·rw [List.length_dropLast]
  omega
def gY : R2 := fun x y H Q => ∃ l b xs zs, x = .ref l ∧ y = .ref b ∧ H l = some (.lst xs) ∧ H b = some (.lst zs) ∧ xs.length + zs.length ≤ sizeLine ∧ ∀ p, H p = none → Q (.ref p) (upd H p (.lst (xs ++ zs)))
theorem lN : OpR X (binaryOp .Add) gY := by
 intro pins s σ H x y v u Q I rx ry h
 obtain ⟨l, b, xs, zs, rfl, rfl, hH, hB, hz, q⟩ := h
 cases rx
 cases ry
 obtain ⟨z, its, n, r, hl, e⟩ := I.lstM hH
 obtain ⟨z2, its2, n2, r2, hl2, e2⟩ := I.lstM hB
 refine PySem.P.add_list e e2 ?_ (by rw [List.size_toArray, List.size_toArray]; omega)
 have ea : its.toArray ++ its2.toArray = (its ++ its2).toArray := by simp
 rw [ea]
 exact ⟨.ref _, _, I.lnew (t' := s.toks) (r.append r2) (by rw [List.length_append]; omega), rfl, q _ I.fresh⟩
theorem YI {α : Type} (xs : List α) (k : Nat) : (List.replicate k xs).flatten.length = k * xs.length := by
 induction k with
 | zero => simp
 | succ k ih => rw [List.replicate_succ, List.flatten_cons, List.length_append, ih, Nat.succ_mul, Nat.add_comm]
end
section
variable {prog : Program} {w : World} {A : Around} {E : Value → Shared → Prop} {s : Shared}
end
section
variable {X : Cx}
end
end L2
namespace Att
open PySem PySem.W PySem.Calls PyProof.Rows
theorem MD {P : Params} {h : Heap} : ∀ (ns : List Int) (vs : List Value), WellAll P h vs (ns.map WData.int) → IntsAre vs ns := by
 intro ns
 induction ns with
 | nil =>
  intro vs w
  rw [List.map_nil] at w
  cases w
  exact .nil
 | cons n ns ih =>
  intro vs w
  rw [List.map_cons] at w
  cases w with
  | cons a b =>
   cases a
   exact .cons _ _ (ih _ b)
theorem YN {l : OpenLaw} {n : Nat} (hn : l.most = some n) {P : Params} {h : Heap} {args : List WData} {vals : List Value}
  (hpre : l.row.toRowW.claim.pre args = true) (hwl : WellAll P h vals args) :
  ∃ a vs ns, vals = [Value.ref a] ∧ args = [WData.list (ns.map WData.int)] ∧ h.get? a = some { cls := .type "list", data := .seq vs.toArray } ∧ IntsAre vs ns ∧ ns.length ≤ n := by
 have hsh : WShape.hasAll [] args [.list .int] = true := (pre_splitW hpre).1
 have hc : l.pre.holds [] { args := args } = true := (pre_splitW hpre).2
 obtain ⟨d, r, rfl, h1, h2⟩ := hasAllW_cons hsh
 obtain rfl := hasAllW_nil h2
 obtain ⟨xs, rfl, h3⟩ := hasW_list h1
 obtain ⟨ns, rfl⟩ := items_int h3
 have hlen : ns.length ≤ n := by
  unfold OpenLaw.pre at hc
  have h4 : (WTm.not (.lt (.lit (.int (n : Int))) (.len (.arg 0)))).holds [] { args := [.list (ns.map .int)] } = true := by
   have h4 := (holds_andW hc).1
   rw [hn] at h4
   exact h4
  have h5 := condW_of h4 (w_not (w_lt w_lit (w_len_list (w_arg rfl))))
  rw [List.length_map] at h5
  refine Nat.le_of_not_lt fun q => ?_
  have q' : (n : Int) < ((ns.length : Nat) : Int) := by omega
  first
   | (rw [decide_eq_true q'] at h5; exact absurd h5 (by decide))
   | (simp at h5; omega)
 cases hwl with
 | cons w1 w2 =>
  cases w2
  cases w1 with
  | list ho hall => exact ⟨_, _, ns, rfl, rfl, ho, MD ns _ hall, hlen⟩
theorem aT (l : OpenLaw) (args : List WData) : l.row.toRowW.claim.post args (.bool true) args = true :=
 postW_of (r := l.row.toRowW) (X := (true == true))
  (show WShape.has [] (.bool true) .bool = true by first | rfl | decide | simp [WShape.has, WShape.arms, WShape.armsAll])
  (show (WTm.eq .res (.lit (.bool true))).value [] { args := args, res := some (.bool true), after := args } = some (.bool (true == true)) from w_eq_bool (w_res rfl) w_lit) rfl
theorem attach_call {l : OpenLaw} {n : Nat} {q : Program} {loose : List Str} {XP : (Str → Option Value) → Heap → Prop} {YP : World → Heap → Prop} {d : DefRec}
  (hn : l.most = some n) (hdf : d.params.defaults = [])
  (call : ∀ (w : World) (s₀ s₁ : Shared) (mg mb : Str → Option Value) (fa : Addr) (o : Obj) (pm cd doc : Value) (a : Addr) (vs : List Value) (ns : List Int),
   Ground q loose [] XP w s₀ mg mb s₁.heap → YP w s₁.heap →
   s₁.heap.get? fa = some o → o.data = .func (docDef d.name d.params d.body d.scope pm cd doc) → s₁.heap.CodeRec cd d.name → mg d.name = some (.ref fa) →
   s₁.heap.get? a = some { cls := .type "list", data := .seq vs.toArray } → IntsAre vs ns → ns.length ≤ n → s₁.gens = #[] →
   codeAny (model l.prog w) callerA (.call (.ref fa) ⟨[.ref a], []⟩) (fun r s' => r = .ok (.ret (.bool true)) ∧ OldK s₁.heap s'.heap ∧ s'.os = s₁.os ∧ AllBare s'.gens) s₁) :
  WalkO q loose XP YP l.row.toRowW d [] (fun f vs => PySem.call f vs) := by
 intro w s₀ s₁ mg mb G Y fa o pm cd doc dV kV ho hd hcd hD hmg hg args vals as hpre hlay hrd hwl hlo
 obtain rfl : dV = .none := Dflts.none hD hdf
 obtain rfl : kV = .none := Dflts.noKw hD
 obtain ⟨a, vs, ns, rfl, rfl, hobj, hints, hlen⟩ := YN hn hpre hwl
 refine enter_call (codeAny_mono (call w s₀ s₁ mg mb fa o pm cd doc a vs ns G Y ho (fd_plain hd) hcd hmg hobj hints hlen hg) fun r s' hq => ?_)
 obtain ⟨rfl, h2, h3, h4⟩ := hq
 exact ⟨.inl ⟨.bool true, .bool true, [], rfl, fun _ => rfl, .bool true, aT l _, fun _ => ⟨List.Pairwise.nil, fun _ hm => (nomatch hm)⟩⟩, h2, h3, h4⟩
section
variable {prog : Program} {w : World} {A : Around} {E : Value → Shared → Prop} {s : Shared} {K : Frag}
def ledger (h : Heap) (L d : Addr) : List (Addr × Obj) := (List.range h.objs.size).filterMap fun a => if a = L ∨ a = d then none else (h.get? a).map fun o => (a, o)
end
end Att
namespace L2
open PySem PySem.Spec PyProof.Rows
theorem QJ : ∀ {vs : List Value} {ns : List Int}, IntsAre vs ns → AO (ns.map V.int) vs
 | _, _, .nil => .nil
 | _, _, .cons n t h => .cons ⟨t, rfl⟩ (QJ h)
def mR (H : Hp) : Prop := ∀ b, H b = none ∨ ∃ o xs, H b = some (.frz o (.lst xs))
theorem bE {P : Program} {w : World} {K : PySem.W.Frag} {mg mb : Str → Option Value} {CX : CXT} {k : Nat} {fa a : Addr} {fd : FuncData} {x : Str} {sp : Sp} {s₁ : Shared} {vs : List Value} {ns : List Int}
  (KX : K.In s₁.heap) (hns : s₁.heap.Ns mainGlobals mg) (hb : s₁.heap.Ns builtinsNs mb) (hbb : ∀ x : Str, x ≠ "__name__" → mb x = bootBuiltins x) (hlim : s₁.heap.NoLimit) (hg : s₁.gens = #[])
  (ha : s₁.heap.get? a = some { cls := .type "list", data := .seq vs.toArray }) (hi : IntsAre vs ns) (hl : ns.length ≤ sizeLine) (hr : ET k callerA)
  (F : ∀ base : Heap, K.In base → base.Ns mainGlobals mg → BF P w K mg base CX k fa fd [x] sp) (hbind : ∀ (s : Shared) (u : Value), BindsTo s fd ⟨[u], []⟩ [(x, u)])
  (hsp : ∀ H : Hp, mR H → SqL K H a (ns.map V.int) → sp [.ref a] H (fun v _ => v = .bl true) fun _ _ _ => False)
  (hCX : ∀ H e s', CX [] H s₁ (fun _ _ _ => False) e s' → False) :
  codeAny (model P w) callerA (.call (.ref fa) ⟨[.ref a], []⟩) (fun r s' => r = .ok (.ret (.bool true)) ∧ OldK s₁.heap s'.heap ∧ s'.os = s₁.os ∧ AllBare s'.gens) s₁ := by
 have rv := QJ hi
 have lenV := hi.length
 have core : ∀ H : Hp, mR H → SqL K H a (ns.map V.int) → HOk P w H s₁.heap → (∀ b, H b ≠ none → b = a) → (H a ≠ none → K.lookup a = none) →
   codeAny (model P w) callerA (.call (.ref fa) ⟨[.ref a], []⟩) (fun r s' => r = .ok (.ret (.bool true)) ∧ OldK s₁.heap s'.heap ∧ s'.os = s₁.os ∧ AllBare s'.gens) s₁ := by
  intro H hO hS hok hA hK
  have base_of : ∀ {b : Addr} {o : Obj}, s₁.heap.get? b = some o → H b = none → (RN s₁.heap H).get? b = some o := fun e n => dS e n
  have noA : ∀ {b : Addr} {o : Obj} {es : Array DictEntry} {ep : Nat}, s₁.heap.get? b = some o → o.data = .dict es ep → H b = none := fun {b o es ep} e d => by
   cases q : H b with
   | none => rfl
   | some u =>
    have e' : b = a := hA b (by rw [q]; simp)
    subst e'
    rw [ha] at e; cases e
    have d' : Data.seq vs.toArray _ = Data.dict es ep := d
    cases d'
  have nsK : ∀ {b : Addr} {m : Str → Option Value}, s₁.heap.Ns b m → (RN s₁.heap H).Ns b m := fun {b m} ⟨o, es, ep, e, d, r⟩ => ⟨o, es, ep, base_of e (noA e d), d, r⟩
  have hKb : K.In (RN s₁.heap H) := fun b o e => base_of (KX b o e) (by
   cases q : H b with
   | none => rfl
   | some u =>
    have e' : b = a := hA b (by rw [q]; simp)
    subst e'
    rw [hK (by rw [q]; simp)] at e; cases e)
  have hM : Mod K mg (RN s₁.heap H) := ⟨hKb, nsK hns, ⟨mb, nsK hb, hbb⟩, let ⟨mc, h1, h2⟩ := hlim; ⟨mc, nsK h1, h2⟩⟩
  have e0 : VL P w K mg (RN s₁.heap H) callerA [] s₁ H := ⟨rfl, hM, fun b o e => jR e, Nat.le_of_eq (aH _ _), trivial, fun b hb => absurd (show b ∈ ([] : List Addr) from hb) (by simp), hok, .of_eq hg⟩
  refine codeAny_mono ((F _ hKb (nsK hns)).run callerA [] s₁ H ⟨[.ref a], []⟩ [.ref a] [.ref a] _ _ hr e0 (hbind s₁ (.ref a)) (.cons rfl .nil) (hsp H hO hS)) fun r s' h => ?_
  cases r with
  | error e => exact (hCX H e s' h).elim
  | ok fl =>
   cases fl with
   | next => exact False.elim h
   | brk => exact False.elim h
   | cont => exact False.elim h
   | ret u =>
    obtain ⟨v, H', os, bare, un, hok', r', q⟩ := h
    have q' : v = .bl true := q
    subst q'
    obtain rfl : u = Value.bool true := r'
    refine ⟨rfl, OldK.of_keep fun b o e => ?_, os, bare⟩
    cases q : H b with
    | none => exact un.keep b o e q (by intro z; exact absurd (show b ∈ ([] : List Addr) from z) (by simp)) (by simp)
    | some u =>
     rcases hO b with z | ⟨ob, xs, z⟩
     ·rw [q] at z; cases z
     ·have z2 := un.frzs b ob _ z
      obtain ⟨e1, _⟩ := hok b _ z
      obtain ⟨e2, _⟩ := hok' b _ z2
      rw [e] at e1; cases e1
      exact e2
 cases hk : K.lookup a with
 | some o =>
  have e := KX a o hk
  rw [ha] at e
  cases e
  refine core (fun _ => none) (fun _ => .inl rfl) (.inr ⟨_, vs.toArray, _, hk, rfl, rfl, rfl, by rw [List.size_toArray, lenV]; exact hl, by simpa using rv⟩) (fun b u z => by have z' : (none : Option HO) = some u := z; cases z') (fun b z => absurd rfl z) fun z => absurd rfl z
 | none =>
  refine core (fun b => if b = a then some (.frz { cls := .type "list", data := .seq vs.toArray } (.lst (ns.map V.int))) else none) (fun b => ?_) (.inl (.inr ⟨{ cls := .type "list", data := .seq vs.toArray }, if_pos rfl⟩)) (fun b u z => ?_) (fun b z => ?_) fun _ => hk
  ·by_cases hb : b = a
   ·exact .inr ⟨_, _, if_pos hb⟩
   ·exact .inl (if_neg hb)
  ·by_cases hb : b = a
   ·have z' := (if_pos hb).symm.trans z
    cases z'
    subst hb
    exact ⟨ha, by rw [List.length_map]; exact hl, vs, _, rv, ha⟩
   ·have z' := (if_neg hb).symm.trans z
    cases z'
  ·by_cases hb : b = a
   ·exact hb
   ·exact absurd (if_neg hb) z
abbrev KOf {K : PySem.W.Frag} {h : Heap} (_ : K.In h) : PySem.W.Frag := K
theorem walk_of {l : PySem.W.OpenLaw} {n k : Nat} {q : Program} {loose : List Str} {XP : (Str → Option Value) → Heap → Prop} {YP : World → Heap → Prop} {d : DefRec} {K : Params → PySem.W.Frag} {CX : World → CXT} {sp : World → Sp} {x : Str}
  (hn : l.most = some n) (hn2 : n ≤ sizeLine) (hdf : d.params.defaults = []) (hr : ET k callerA)
  (hY : ∀ (w : World) (h : Heap), YP w h → (K w.params).In h)
  (F : ∀ (w : World) (mg : Str → Option Value) (fa : Addr) (h : Heap), (K w.params).In h → h.Ns mainGlobals mg → mg d.name = some (.ref fa) →
   ∃ fd : FuncData, (∀ (s : Shared) (u : Value), BindsTo s fd ⟨[u], []⟩ [(x, u)]) ∧
    ∀ base : Heap, (K w.params).In base → base.Ns mainGlobals mg → BF l.prog w (K w.params) mg base (CX w) k fa fd [x] (sp w))
  (hsp : ∀ (w : World) (H : Hp) (a : Addr) (ns : List Int), ns.length ≤ n → mR H → SqL (K w.params) H a (ns.map V.int) → sp w [.ref a] H (fun v _ => v = .bl true) fun _ _ _ => False)
  (hCX : ∀ (w : World) (H : Hp) (s : Shared) (e : Value) (s' : Shared), CX w [] H s (fun _ _ _ => False) e s' → False) :
  PySem.W.WalkO q loose XP YP l.row.toRowW d [] (fun f vs => PySem.call f vs) := by
 refine Att.attach_call hn hdf fun w s₀ s₁ mg mb fa o pm cd doc a vs ns G Y ho hd hcd hmg hobj hints hlen hg => ?_
 have KX := hY w _ Y
 obtain ⟨fd, hb, hF⟩ := F w mg fa _ KX G.T.g hmg
 exact bE KX G.T.g G.T.b G.T.builtins G.T.nolimit hg hobj hints (Nat.le_trans hlen hn2) hr hF hb (fun H hO hS => hsp w H a ns hlen hO hS) fun H e s' => hCX w H s₁ e s'
def CG (s : Stmt) (j : Nat) : Stmt := match s with
 | .ClassDef _ _ _ body _ _ _ _ _ _ _ => body.getD j (.Pass ⟨0, 0, 0, 0⟩)
 | _ => .Pass ⟨0, 0, 0, 0⟩
def AN (s : Stmt) : Arguments := match s with
 | .FunctionDef _ a _ _ _ _ _ _ _ _ => a
 | _ => { posonlyargs := [], args := [], vararg := none, kwonlyargs := [], kw_defaults := [], kwarg := none, defaults := [] }
def AL (s : Stmt) : List Stmt := match s with
 | .FunctionDef _ _ b _ _ _ _ _ _ _ => b
 | _ => []
def AE (s : Stmt) : Scope := match s with
 | .FunctionDef _ _ _ _ _ _ sc _ _ _ => sc
 | _ => { kind := .function, names := [], isGenerator := false, isCoroutine := false }
abbrev CX0 : CXT := fun _ _ _ _ _ _ => False
abbrev E0 : XK := fun _ _ _ => False
theorem CM {X : Cx} : GD CX0 X E0 := fun _ _ _ _ _ _ _ h => h.elim
structure Fun (K : PySem.W.Frag) (x qual : Str) (st : Stmt) (f : Addr) (fd : FuncData) : Prop where
 ex : ∃ (oc : Value) (od : Option Addr) (kV doc pm : Value) (an : Option Addr) (cdv ct : Value) (osl : Array (Option Value)),
  fd = PySem.W.fnOf x qual (AN st) (AL st) (AE st) .none kV doc pm an cdv ct ∧ K.lookup f = some ⟨oc, od, .func fd, osl⟩ ∧ PySem.W.codeIn K cdv qual = true
 kp : PySem.W.keepIn K (.ref f) = true
section
variable {P : Program} {w : World} {K : PySem.W.Frag} {mg : Str → Option Value} {base : Heap}
theorem Fun.ok {x qual : Str} {st : Stmt} {f : Addr} {fd : FuncData} {N ps : List Str} {k : Nat} {sp : Sp} (F : Fun K x qual st f fd) (S : AQ N ps (AE st)) (len : ∀ vs H Q E, sp vs H Q E → vs.length = ps.length)
  (hbody : ∀ (cdv : Value) (A : Around) (outer : List Env) (s : Shared) (H : Hp) (vs : List V) (Q : VK) (E : XK), ET k (A.deeper (envOfC qual (AE st) s.heap.objs.size f cdv)) → sp vs H Q E →
   ∃ t, PSs (EO CX0 P w K mg base N qual (AE st) f cdv A outer s H E).nox (AL st) t ∧ t { nx := fun _ H' => Q .non H', rt := Q } (start N vs) H) : BF P w K mg base CX0 (k + 1) f fd ps sp := by
 obtain ⟨oc, od, kV, doc, pm, an, cdv, ct, osl, rfl, lk, hcd⟩ := F.ex
 refine kS lk hcd S len fun A outer s H vs Q E hr hsp => ?_
 obtain ⟨t, h, q⟩ := hbody cdv A outer s H vs Q E hr hsp
 exact ⟨t, h.nox, q⟩
theorem Fun.binds {x qual : Str} {st : Stmt} {f : Addr} {fd : FuncData} {ps : List Str} (F : Fun K x qual st f fd)
  (h : ∀ (kV doc pm : Value) (an : Option Addr) (cdv ct : Value) (us : List Value), us.length = ps.length → bindArgs (PySem.W.fnOf x qual (AN st) (AL st) (AE st) .none kV doc pm an cdv ct) ⟨us, []⟩ = pure (ps.zip us)) : FY K fd ps [] := by
 obtain ⟨oc, od, kV, doc, pm, an, cdv, ct, osl, rfl, lk, hcd⟩ := F.ex
 exact .all (h kV doc pm an cdv ct)
theorem BG {x qual : Str} {st : Stmt} {f : Addr} {oc : Value} {od an : Option Addr} {osl : Array (Option Value)} {kV doc pm cdv ct : Value} (l : K.lookup f = some ⟨oc, od, .func (PySem.W.fnOf x qual (AN st) (AL st) (AE st) .none kV doc pm an cdv ct), osl⟩)
  (c : PySem.W.codeIn K cdv qual = true) (k : PySem.W.keepIn K (.ref f) = true) : Fun K x qual st f (PySem.W.fnOf x qual (AN st) (AL st) (AE st) .none kV doc pm an cdv ct) := ⟨⟨oc, od, kV, doc, pm, an, cdv, ct, osl, rfl, l, c⟩, k⟩
end
theorem OC {A : Around} {k : Nat} (hr : ET k A) : A.units + 1 < cLine := Nat.lt_of_le_of_lt (Nat.add_le_add_left (by decide : 1 ≤ 64) _) hr.units
theorem QG {n : Nat} (h : n ≤ 1000) : n < sizeLine := Nat.lt_of_le_of_lt h (by decide)
section
variable {X : Cx}
theorem pv (i : Nat) {x : Str} {pos : Pos} (hN : X.N[i]? = some x := by rfl) (hv : Vis X.env.scope x := by first | exact Or.inl rfl | exact Or.inr (Or.inl rfl) | exact Or.inr (Or.inr rfl)) (hd : (x == ("__debug__" : Str)) = false := by decide)
  (hcd : (x == ("__classdict__" : Str)) = false := by decide) : PE X (.Name x pos) (aQ i) := lM hN hv hd hcd
end
def AI (H H' : Hp) : Prop := ∀ b o, H b = some o → H' b = some o
theorem AI.refl (H : Hp) : AI H H := fun _ _ h => h
theorem AI.trans {H H1 H2 : Hp} (a : AI H H1) (b : AI H1 H2) : AI H H2 := fun c o h => b c o (a c o h)
theorem AI.free {H H' : Hp} (e : AI H H') {l : Addr} (h : H' l = Option.none) : H l = Option.none := by
 cases q : H l with
 | none => rfl
 | some o =>
  rw [e l o q] at h
  cases h
theorem AI.seq {K : PySem.W.Frag} {H H' : Hp} {a : Addr} {xs : List V} (e : AI H H') (h : SqL K H a xs) : SqL K H' a xs := by
 rcases h with (h | ⟨o, h⟩) | h
 ·exact .inl (.inl (e _ _ h))
 ·exact .inl (.inr ⟨o, e _ _ h⟩)
 ·exact .inr h
theorem aV {prog : Program} {w : World} {A : Around} {R : Result → Shared → Prop} {s : Shared} {elt target iter : Expr} {ifs : List Expr} {scope : Scope} {pos : Pos} {it acc : Value} {env : Env} (I : Nat → Shared → Prop)
  (turn : ∀ n s, I n s → wpAny (model prog w) A (pyNext it) (fun r s₁ => match r with
   | none => R (.ok .next) s₁
   | some v => wpAny (model prog w) A (letOwnedTupleGo target it v) (fun _ s₁' => wpAny (model prog w) A (assign target env v) (fun _ s₂ =>
     wpAny (model prog w) A (forIn ifs true fun c r => if r = true then do let ok ← isTrue c env (eval c env); pure (ForInStep.yield ok) else pure (ForInStep.yield r)) (fun ok s₃ =>
      if ok = true then wpAny (model prog w) A (eval elt env) (fun x s₄ =>
       wpAny (model prog w) A (call (.builtin "list.append") [acc, x]) (fun _ s₅ => ∃ m, m < n ∧ I m s₅) (fun _ _ => False) s₄) (fun _ _ => False) s₃
      else ∃ m, m < n ∧ I m s₃) (fun _ _ => False) s₂) (fun _ _ => False) s₁') (fun _ _ => False) s₁) (fun _ _ => False) s)
  (n : Nat) (h : I n s) :
  codeAny (model prog w) A (.compLoop (.ListComp elt [⟨target, iter, ifs, 0⟩] scope pos) 0 it acc env) R s := by
 refine codeAny_loop rfl I (fun n s hI => ?_) n h
 show wpAny _ A ((compTurn (.ListComp elt [⟨target, iter, ifs, 0⟩] scope pos) 0 it acc env).onRaise (fun x => do noteFrame x env; theTreesLotGoes x)) _ _ s
 refine wpAny_noted ?_
 rw [compTurn_list]
 refine wpAny_bind (wpAny_standAt (wpAny_bind (wpAny_mono (turn n s hI) (fun r s₁ h₁ => ?_) fun _ _ z => False.elim z)))
 cases r with
 | none => exact wpAny_pure h₁
 | some v =>
  refine wpAny_bind (wpAny_mono h₁ (fun _ s₁' h₁' => ?_) fun _ _ z => False.elim z)
  refine wpAny_bind (wpAny_mono h₁' (fun _ s₂ h₂ => wpAny_bind (wpAny_mono h₂ (fun ok s₃ h₃ => ?_) fun _ _ z => False.elim z)) fun _ _ z => False.elim z)
  cases ok with
  | false => exact wpAny_pure ⟨rfl, h₃⟩
  | true =>
   exact wpAny_bind (wpAny_bind (wpAny_mono h₃ (fun x s₄ h₄ => wpAny_bind (wpAny_mono h₄ (fun _ s₅ h₅ => wpAny_pure (wpAny_pure ⟨rfl, h₅⟩)) fun _ _ z => False.elim z)) fun _ _ z => False.elim z))
def EV (cells : List (Str × Addr)) : List (Str × NameKind) → List (Str × Addr) → List (Str × Addr)
 | [], acc => acc
 | (n, k) :: r, acc => if k == .free then EV cells r ((n, (cells.lookup n).getD 0) :: acc) else EV cells r acc
theorem RU {env : Env} : ∀ (names : List (Str × NameKind)) (acc : List (Str × Addr)), (∀ y ∈ names, y.2 = .free → ∃ c, env.cells.lookup y.1 = some c) →
  (forIn names acc fun x r => if (x.snd == NameKind.free) = true then do let a ← cellOf env x.fst; pure (ForInStep.yield ((x.fst, a) :: r)) else pure (ForInStep.yield r)) = (pure (EV env.cells names acc) : Sem _)
 | [], acc, _ => rfl
 | (n, k) :: r, acc, h => by
  rw [List.forIn_cons]
  have hr : ∀ y ∈ r, y.2 = .free → ∃ c, env.cells.lookup y.1 = some c := fun y hy => h y (List.mem_cons_of_mem _ hy)
  by_cases hk : k = .free
  ·subst hk
   obtain ⟨c, hc⟩ := h (n, .free) List.mem_cons_self rfl
   have ih := RU r ((n, c) :: acc) hr
   simp only [EV, beq_self_eq_true, if_true, cellOf, hc, Option.getD_some, pure_bind]
   exact ih
  ·have hb : (k == NameKind.free) = false := by simpa using hk
   have ih := RU r acc hr
   simp only [EV, hb, Bool.false_eq_true, if_false, pure_bind]
   exact ih
theorem RW {scope : Scope} {env : Env} (h : ∀ y ∈ scope.names, y.2 = .free → ∃ c, env.cells.lookup y.1 = some c) : closureFor scope env = pure (EV env.cells scope.names []) := by
 have e := RU (env := env) scope.names [] h
 simp only [closureFor]
 rw [e]
 rfl
theorem GN {cells : List (Str × Addr)} : ∀ (names : List (Str × NameKind)) (acc : List (Str × Addr)), (∀ y ∈ names, y.2 = .free → ∃ c, cells.lookup y.1 = some c) → (∀ y c, acc.lookup y = some c → cells.lookup y = some c) →
  ∀ y c, (EV cells names acc).lookup y = some c → cells.lookup y = some c
 | [], acc, _, ha, y, c, e => ha y c e
 | (n, k) :: r, acc, h, ha, y, c, e => by
  have hr : ∀ y ∈ r, y.2 = .free → ∃ c, cells.lookup y.1 = some c := fun y hy => h y (List.mem_cons_of_mem _ hy)
  by_cases hk : k = .free
  ·subst hk
   obtain ⟨d, hd⟩ := h (n, .free) List.mem_cons_self rfl
   simp only [EV, beq_self_eq_true, if_true] at e
   refine GN r _ hr (fun z b q => ?_) y c e
   rw [List.lookup_cons] at q
   cases hz : z == n with
   | true =>
    rw [hz] at q
    have : z = n := by simpa using hz
    subst this
    rw [hd] at q ⊢
    exact q
   | false => rw [hz] at q; exact ha z b q
  ·have hb : (k == NameKind.free) = false := by simpa using hk
   simp only [EV, hb, Bool.false_eq_true, if_false] at e
   exact GN r acc hr ha y c e
theorem OR {cells : List (Str × Addr)} : ∀ (names : List (Str × NameKind)) (acc : List (Str × Addr)) (y : Str), (∃ c, acc.lookup y = some c) → ∃ c, (EV cells names acc).lookup y = some c
 | [], acc, y, h => h
 | (n, k) :: r, acc, y, h => by
  by_cases hk : (k == NameKind.free) = true
  ·simp only [EV, hk, if_true]
   refine OR r _ y ?_
   rw [List.lookup_cons]
   cases hz : y == n with
   | true => exact ⟨_, rfl⟩
   | false => exact h
  ·simp only [EV, hk, if_false]
   exact OR r acc y h
theorem OA {cells : List (Str × Addr)} : ∀ (names : List (Str × NameKind)) (acc : List (Str × Addr)) (y : Str), (y, NameKind.free) ∈ names → ∃ c, (EV cells names acc).lookup y = some c
 | (n, k) :: r, acc, y, h => by
  rcases List.mem_cons.mp h with e | h
  ·cases e
   simp only [EV, beq_self_eq_true, if_true]
   refine OR r _ _ ?_
   rw [List.lookup_cons]
   simp
  ·by_cases hk : (k == NameKind.free) = true
   ·simp only [EV, hk, if_true]
    exact OA r _ y h
   ·simp only [EV, hk, if_false]
    exact OA r _ y h
theorem GC {β : Type} : ∀ {l : List (Str × β)} {y : Str} {b : β}, l.lookup y = some b → (y, b) ∈ l
 | [], _, _, e => by cases e
 | (n, k) :: r, y, b, e => by
  rw [List.lookup_cons] at e
  cases hz : y == n with
  | true =>
   rw [hz] at e
   have : y = n := by simpa using hz
   subst this
   cases e
   exact List.mem_cons_self
  | false => rw [hz] at e; exact List.mem_cons_of_mem _ (GC e)
theorem RT {scope : Scope} {env : Env} {y : Str} (hc : ∀ z ∈ scope.names, z.2 ≠ .cell) (h : (relabel scope env).names.lookup y = some .cell ∨ (relabel scope env).names.lookup y = some .free) : (y, NameKind.free) ∈ scope.names := by
 have key : ∀ k, (relabel scope env).names.lookup y = some k → (k = .cell ∨ k = .free) → (y, NameKind.free) ∈ scope.names := fun k e hk => by
  have m := GC e
  obtain ⟨⟨n, k0⟩, hm, e0⟩ := List.mem_map.mp m
  dsimp only at e0
  split at e0
  ·rename_i hh
   cases e0
   have : k0 = .free := by
    simp only [Bool.and_eq_true, beq_iff_eq] at hh
    exact hh.1.1
   subst this
   exact hm
  ·cases e0
   rcases hk with rfl | rfl
   ·exact absurd rfl (hc _ hm)
   ·exact hm
 rcases h with h | h
 ·exact key _ h (.inl rfl)
 ·exact key _ h (.inr rfl)
theorem LR {env : Env} : ∀ {names : List (Str × NameKind)} {y : Str}, names.lookup y = some .free →
  (names.map fun (n, k) => if (k == NameKind.free && env.scope.kind == .function && env.kindOf n == some .cell) then (n, NameKind.cell) else (n, k)).lookup y = some .cell ∨
  (names.map fun (n, k) => if (k == NameKind.free && env.scope.kind == .function && env.kindOf n == some .cell) then (n, NameKind.cell) else (n, k)).lookup y = some .free
 | [], _, h => by simp at h
 | (n, k) :: r, y, h => by
  have ih := @LR env r y
  simp only [List.map_cons]
  cases hx : y == n with
  | true =>
   simp only [List.lookup_cons, hx] at h
   cases h
   by_cases hc : (NameKind.free == NameKind.free && env.scope.kind == .function && env.kindOf n == some .cell) = true
   ·rw [if_pos hc]; left; simp only [List.lookup_cons, hx]
   ·rw [if_neg hc]; right; simp only [List.lookup_cons, hx]
  | false =>
   simp only [List.lookup_cons, hx] at h
   by_cases hc : (k == NameKind.free && env.scope.kind == .function && env.kindOf n == some .cell) = true
   ·rw [if_pos hc]; simp only [List.lookup_cons, hx]; exact ih h
   ·rw [if_neg hc]; simp only [List.lookup_cons, hx]; exact ih h
def cxC (X : Cx) (scope : Scope) (cl : List (Str × Addr)) (N : List Str) (s₃ : Shared) (H₃ : Hp) (fp : List Addr) : Cx where
 prog := X.prog
 w := X.w
 K := X.K
 mg := X.mg
 base := X.base
 A := X.A
 N := N
 s₀ := s₃
 H₀ := H₃
 env := compEnvC scope cl s₃.heap.objs.size X.env
 outer := X.stack
 stack := X.stack
 ex := fp
 fn := fun _ => false
 calm := true
 pn := []
 xe := fun _ _ => False
structure RI (scope sc : Scope) (N0 : List Str) (js : List Nat) (os N : List Str) : Prop where
 kind : scope.kind = .function
 cell : ∀ y ∈ scope.names, y.2 ≠ .cell
 names : ∀ y ∈ scope.names, y.2 = .local → scope.names.lookup y.1 = some .local
 free : ∀ y ∈ scope.names, y.2 = .free → (sc.names.lookup y.1 = some .cell ∨ sc.names.lookup y.1 = some .free)
 slots : ∀ j ∈ js, ((N0[j]?).bind fun y => scope.names.lookup y) = some .free
 eq : N.map some = js.map (N0[·]?) ++ os.map some
def stC (js : List Nat) (os : List Str) (σ : St) : St := js.map (fun j => (σ[j]?).join) ++ List.replicate os.length none
def aG (X : Cx) (ifs : List Expr) (t : TT) : Prop :=
 ∀ (pins : List (Addr × Obj)) (s : Shared) (σ : St) (H : Hp) (Q : Bool → Hp → Prop), Inv X pins σ H s → t σ H Q →
  wpAny (model X.prog X.w) X.A (forIn ifs true fun c r => if r = true then do let ok ← isTrue c X.env (eval c X.env); pure (ForInStep.yield ok) else pure (ForInStep.yield r)) (TP X pins σ Q) X.xe s
def cL : TT := fun _ H Q => Q true H
theorem MT {X : Cx} : aG X [] cL := fun _ _ _ H _ I h => wpAny_pure ⟨H, I, h⟩
theorem fV {X : Cx} {c : Expr} {t : TT} (h : PT X c t) : aG X [c] t := fun pins s σ H Q I q => by
 simp only [List.forIn_cons, List.forIn_nil, if_true]
 exact wpAny_bind (wpAny_bind (wpAny_mono (h pins s σ H Q I q) (fun b s' hb => wpAny_pure (wpAny_pure hb)) fun _ _ x => x))
def cS (js : List Nat) (os : List Str) (wi : TI) (g : TG) (tt : TT) (te : TE) : TE := fun σ H Q => wi σ H fun J H1 => ∀ p, H1 p = none →
 ∃ W : Nat → Nat → St → Hp → Prop, (∃ m, W 0 m (stC js os σ) (upd H1 p (.lst []))) ∧ ∀ i m σ H, W i m σ H →
  (J.stop i H ∧ Q (.ref p) H) ∨ (J.go i H ∧ ∀ x H', J.yld i H x H' → g x σ H' fun σ2 H2 => tt σ2 H2 fun b H3 =>
   if b = true then te σ2 H3 fun y H4 => ∃ ys, H4 p = some (.lst ys) ∧ ys.length < sizeLine ∧ ∃ m', m' < m ∧ W (i + 1) m' σ2 (upd H4 p (.lst (ys ++ [y])))
   else ∃ m', m' < m ∧ W (i + 1) m' σ2 H3)
section
variable {X : Cx}
theorem OP {scope sc : Scope} {N0 N os : List Str} {js fp : List Nat} {pins : List (Addr × Obj)} {σ : St} {H₃ : Hp} {s₃ : Shared} {h' : Heap} {t' : Nat} {m : Str → Option Value}
  (hc : X.calm = true) (hsc : X.env.scope = sc) (hN : X.N = N0) (ok : RI scope sc N0 js os N) (I : Inv X pins σ H₃ s₃) (hf : ∀ b ∈ fp, LL X pins H₃ b) (hfs : ∀ b ∈ fp, b < s₃.heap.objs.size)
  (hns : h'.Ns s₃.heap.objs.size m) (hk : ∀ b o, s₃.heap.get? b = some o → h'.get? b = some o) :
  Inv (cxC X scope (EV X.env.cells scope.names []) N s₃ H₃ fp) [] (stC js os σ) H₃ { s₃ with heap := h', toks := t' } := by
 have hfree : ∀ y ∈ scope.names, y.2 = .free → ∃ c, X.env.cells.lookup y.1 = some c := fun y hy e => I.ok.has _ (by
  have := ok.free y hy e
  rw [← hsc] at this
  exact this)
 have sub := GN (cells := X.env.cells) scope.names [] hfree (fun _ _ e => by cases e)
 have has : ∀ y, (y, NameKind.free) ∈ scope.names → ∃ c, (EV X.env.cells scope.names []).lookup y = some c := fun y hy => OA scope.names [] y hy
 refine ⟨⟨I.ok.mod, ok.kind, I.ok.glob, I.ok.blt, Nat.le_refl _, fun x y c e1 e2 => I.ok.inj x y c (sub _ _ e1) (sub _ _ e2), fun x e => has x (RT ok.cell e), (fun _ _ e => by cases e), (fun _ => I.ok.hd hc), I.ok.frames, .inl rfl, ?_, ?_, ?_, ?_, ?_, I.stack, I.stkFree⟩,
  rfl, I.bare, Un.kept hk, ⟨m, hns, ?_⟩, ?_, I.hok.fresh (Nat.le_refl _), ?_, ?_, I.hok.kept hk, ?_⟩
 ·exact fun b hb => ⟨Nat.ne_of_lt (hfs b hb), fun x c e => (hf b hb).2.2.2.2.1 x c (sub _ _ e)⟩
 ·exact I.bs
 ·exact Nat.le_trans I.ok.bsz I.sz
 ·intro b o e hb
  rcases (hf b hb).2.2.2.1 with z | z
  ·exact I.ok.noex b o e z
  ·exact absurd (Nat.lt_of_lt_of_le (Heap.lt_size e) (Nat.le_trans I.ok.bsz z)) (Nat.lt_irrefl _)
 ·intro b hb z
  rcases List.mem_cons.mp (I.stkSub b z) with e | e
  ·exact (hf b hb).2.1 e
  ·exact (hf b hb).2.2.1 e
 ·intro i x v e1 e2 e3
  have hl : i < js.length := by
   apply Classical.byContradiction
   intro hh
   have e2' : (stC js os σ)[i]? = some (some v) := e2
   unfold stC at e2'
   rw [List.getElem?_append_right (by simpa using Nat.le_of_not_lt hh)] at e2'
   rw [List.getElem?_replicate] at e2'
   split at e2' <;> cases e2'
  have ej : js[i]? = some js[i] := List.getElem?_eq_getElem hl
  have e2' : (stC js os σ)[i]? = some (some v) := e2
  unfold stC at e2'
  rw [List.getElem?_append_left (by simpa using hl), List.getElem?_map, ej] at e2'
  have e2'' : (σ[js[i]]?).join = some v := Option.some.inj e2'
  have e1' : N[i]? = some x := e1
  have en : N0[js[i]]? = some x := by
   have q : (N.map some)[i]? = some (some x) := by rw [List.getElem?_map, e1']; rfl
   rw [ok.eq, List.getElem?_append_left (by simpa using hl), List.getElem?_map, ej] at q
   exact Option.some.inj q
  have hfr := ok.slots _ (List.getElem_mem hl)
  rw [en] at hfr
  replace hfr : scope.names.lookup x = some .free := hfr
  have eσ : σ[js[i]]? = some (some v) := by
   cases q : σ[js[i]]? with
   | none => rw [q] at e2''; cases e2''
   | some o => rw [q] at e2''; exact congrArg some e2''
  have kk := ok.free (x, .free) (GC hfr) rfl
  obtain ⟨m0, hn0, hl0⟩ := I.loc
  obtain ⟨u, r, l⟩ := hl0 js[i] x v (by rw [hN]; exact en) eσ (by rw [hsc]; exact .inr kk)
  refine ⟨u, r, .inr ⟨LR hfr, ?_⟩⟩
  rcases l with ⟨k, _⟩ | ⟨k, c, e, z⟩
  ·have k' : sc.names.lookup x = some .local := by rw [← hsc]; exact k
   rcases kk with q | q <;> (dsimp only at q; rw [q] at k'; cases k')
  ·obtain ⟨c', hc'⟩ := has x (GC hfr)
   have := sub _ _ hc'
   rw [e] at this; cases this
   exact ⟨c, hc', z.keeps hk⟩
 ·intro x c e
  obtain ⟨v, z⟩ := I.cell x c (sub _ _ e)
  exact ⟨v, z.keeps hk⟩
 ·exact fun x c e => I.freeC x c (sub _ _ e)
 ·intro p hp
  cases hp
 ·show (stC js os σ).length = N.length
  have := congrArg List.length ok.eq
  simp at this
  simp [stC, this]
theorem RP {elt iter tg : Expr} {ifs : List Expr} {scope sc : Scope} {pos : Pos} {wi : TI} {g : TG} {tt : TT} {te : TE} {N0 N os : List Str} {js : List Nat}
  (hc : X.calm = true) (hsc : X.env.scope = sc) (hN : X.N = N0) (ok : RI scope sc N0 js os N) (hi : PI X tg iter wi)
  (hg : ∀ s₃ H₃ fp cl, PG (cxC X scope cl N s₃ H₃ fp) tg g) (ht : ∀ s₃ H₃ fp cl, aG (cxC X scope cl N s₃ H₃ fp) ifs tt) (he : ∀ s₃ H₃ fp cl, PE (cxC X scope cl N s₃ H₃ fp) elt te)
  (hs : ∀ x, foldedSetIterable iter X.env x = pure x := by intro _; rfl) :
  PE X (.ListComp elt [⟨tg, iter, ifs, 0⟩] scope pos) (cS js os wi g tt te) := by
 intro pins s σ H Q I h
 rw [eval_ListComp]
 have hfree : ∀ y ∈ scope.names, y.2 = .free → ∃ c, X.env.cells.lookup y.1 = some c := fun y hy e => I.ok.has _ (by
  have := ok.free y hy e
  rw [← hsc] at this
  exact this)
 refine wpAny_comprehension_free (use := none) rfl hs (RW hfree) ok.kind ok.names (thn (hi pins s σ H _ I h) fun v s1 h1 => thn h1 fun itv s2 h2 => ?_)
 obtain ⟨it, fp, tn, J, H1, e, I2, T, st2, f2, hW⟩ := h2
 subst e
 refine wpAny_newObj_type (wpAny_newFunctionEnv ok.cell (by intro y hy; simp at hy) (fun h₁ hns₁ hsb₁ => ?_) ok.kind)
 dsimp only at hns₁ hsb₁ ⊢
 have hfr : H1 s2.heap.objs.size = none := I2.fresh
 have I3 := I2.lnew (ys := []) (its := []) (t' := s2.toks) .nil (Nat.zero_le _)
 generalize hs3 : ({ s2 with heap := s2.heap.push { cls := .type "list", data := .seq ([] : List Value).toArray }, toks := s2.toks } : Shared) = s₃ at I3
 have eh : s2.heap.push { cls := .type "list", dict := none, data := .seq ([] : List Value).toArray } = s₃.heap := by rw [← hs3]
 rw [eh] at hns₁ hsb₁ ⊢
 have k23 : ∀ b o, s2.heap.get? b = some o → s₃.heap.get? b = some o := fun b o q => by rw [← eh]; exact Heap.get?_push_of_some _ q
 have lt2 : ∀ b ∈ fp, b < s2.heap.objs.size := fun b hb => by
  obtain ⟨o, q, _⟩ := T.obj _ _ st2 b hb
  exact Heap.lt_size q
 have sz3 : s2.heap.objs.size ≤ s₃.heap.objs.size := by rw [← eh, Heap.size_push]; exact Nat.le_succ _
 have f3 : ∀ b ∈ fp, LL X pins (upd H1 s2.heap.objs.size (.lst [])) b := fun b hb => ⟨by rw [AH (Nat.ne_of_lt (lt2 b hb))]; exact (f2 b hb).1, (f2 b hb).2⟩
 have k34 : ∀ b o, s₃.heap.get? b = some o → h₁.get? b = some o := fun b o q => hsb₁.extBut b o (Nat.ne_of_lt (Heap.lt_size q)) (Heap.get?_push_of_some _ q)
 have I4 := OP (t' := s₃.toks) hc hsc hN ok I3 f3 (fun b hb => Nat.lt_of_lt_of_le (lt2 b hb) sz3) hns₁ k34
 generalize hX' : cxC X scope (EV X.env.cells scope.names []) N s₃ (upd H1 s2.heap.objs.size (.lst [])) fp = X' at I4
 obtain ⟨W, ⟨m0, w0⟩, turn⟩ := hW _ hfr
 have st4 : tn 0 h₁ := T.keep _ _ _ st2 fun b hb o q => k34 b o (k23 b o q)
 have stat : ∀ {H' : Hp}, (∀ b ∈ fp, H' b = none) → ∀ b ∈ fp, LL X' [] H' b := fun {H'} hn b hb => by
  subst hX'
  refine ⟨hn b hb, Nat.ne_of_lt (Nat.lt_of_lt_of_le (lt2 b hb) sz3), fun z => ?_, .inl hb, fun x c e => ?_, fun p hp => by cases hp⟩
  ·rcases List.mem_cons.mp (I2.stkSub b z) with q | q
   ·exact (f2 b hb).2.1 q
   ·exact (f2 b hb).2.2.1 q
  ·exact (f2 b hb).2.2.2.2.1 x c (GN (cells := X.env.cells) scope.names [] hfree (fun _ _ e => by cases e) _ _ e)
 have ePr : X'.prog = X.prog := by subst hX'; rfl
 have eW : X'.w = X.w := by subst hX'; rfl
 have eK : X'.K = X.K := by subst hX'; rfl
 have eA : X'.A = X.A := by subst hX'; rfl
 have eE : X'.env = compEnvC scope (EV X.env.cells scope.names []) s₃.heap.objs.size X.env := by subst hX'; rfl
 have eC : X'.calm = true := by subst hX'; rfl
 have eX : X'.xe = fun _ _ => False := by subst hX'; rfl
 have hg' : PG X' tg g := by subst hX'; exact hg _ _ _ _
 have ht' : aG X' ifs tt := by subst hX'; exact ht _ _ _ _
 have he' : PE X' elt te := by subst hX'; exact he _ _ _ _
 have fin : ∀ {σ' : St} {H' : Hp} {s' : Shared}, Inv X' [] σ' H' s' → (∀ b ∈ fp, H' b = none) → Q (.ref s2.heap.objs.size) H' → compPost (model X.prog X.w) X.A X.xe none (EP X pins σ Q) (.ref s2.heap.objs.size) s₃.heap.objs.size (.ok .next) s' := by
  intro σ' H' s' I' hn q
  obtain ⟨m, hm, _⟩ := id I'.loc
  subst hX'
  refine ⟨m, hm, fun h'' sb => ⟨.ref s2.heap.objs.size, H', ?_, rfl, q⟩⟩
  have fC : H' s₃.heap.objs.size = none := I'.free
  have hok' : HOk X.prog X.w H' h'' := fun b ob e => by
   refine (I'.hok b ob e).stay (fun c w' hc' q' => (sb.2 c ?_).trans q') (fun _ q' => q') fun _ _ q' => q'
   rintro rfl
   rcases hc' with z | z
   ·have e' := e; rw [← z] at e'; rw [fC] at e'; cases e'
   ·rw [fC] at z; cases z
  have u1 : Un (frs X.stack) fp (upd H1 s2.heap.objs.size (.lst [])) H' s₃.heap h'' := by
   have b0 := I'.base
   have ne : ∀ b o, s₃.heap.get? b = some o → b ≠ s₃.heap.objs.size := fun b o e => Nat.ne_of_lt (Heap.lt_size e)
   exact ⟨fun b o e n hb hx => (sb.2 b (ne b o e)).trans (b0.keep b o e n hb hx), fun b o e n hb hx => by
     obtain ⟨sl, z⟩ := b0.slot b o e n hb hx
     exact ⟨sl, (sb.2 b (ne b o e)).trans z⟩, b0.free, fun b o e hx => by
     obtain ⟨o', z⟩ := b0.there b o e hx
     exact ⟨o', (sb.2 b (ne b o e)).trans z⟩, b0.tups, b0.frzs, b0.tbls⟩
  exact I3.call' (s' := { s' with heap := h'' }) (ch := fp) I'.os u1 hok' I'.bare fun b hb => ⟨(f2 b hb).2.2.2.1, (f2 b hb).2.1, (f2 b hb).2.2.2.2.1, (f2 b hb).2.2.2.2.2⟩
 have loop : codeAny (model X.prog X.w) X.A (.compLoop (.ListComp elt [⟨tg, iter, ifs, 0⟩] scope pos) 0 (.ref it) (.ref s2.heap.objs.size) (compEnvC scope (EV X.env.cells scope.names []) s₃.heap.objs.size X.env))
   (compPost (model X.prog X.w) X.A X.xe none (EP X pins σ Q) (.ref s2.heap.objs.size) s₃.heap.objs.size) { s₃ with heap := h₁, toks := s₃.toks } := by
  refine aV (fun n s' => ∃ i σ' H', Inv X' [] σ' H' s' ∧ tn i s'.heap ∧ (∀ b ∈ fp, H' b = none) ∧ W i n σ' H') ?_ m0 ⟨0, _, _, I4, st4, fun b hb => (f3 b hb).1, w0⟩
  rintro n s5 ⟨i, σ5, H5, I5, st5, fr5, w5⟩
  rw [← ePr, ← eW, ← eA, ← eE]
  rcases turn i n σ5 H5 w5 with ⟨stop, qn⟩ | ⟨go, step⟩
  ·have := T.done X' ePr eW eK eC i [] s5 σ5 H5 X'.xe I5 (stat fr5) st5 stop
   rw [eX] at this
   rw [← ePr, ← eW] at this
   refine thn this fun r s6 ⟨hr, I6⟩ => ?_
   subst hr
   dsimp only
   rw [ePr, eW, eA]
   exact fin I6 fr5 qn
  ·have := T.item X' ePr eW eK eC i [] s5 σ5 H5 X'.xe I5 (stat fr5) st5 go
   rw [eX] at this
   rw [← ePr, ← eW] at this
   refine thn this fun r s6 ⟨u, hr, h6⟩ => ?_
   subst hr
   dsimp only
   refine thn h6 fun _ s7 ⟨x, H7, I7, r7, y7, st7, fr7⟩ => ?_
   have I7' := I7.pinned (stat fr7) (T.obj _ _ st7)
   have g7 := hg' _ s7 σ5 H7 x u _ I7' r7 (step x H7 y7)
   rw [eX] at g7
   refine thn g7 fun _ s8 ⟨σ8, H8, I8, q8⟩ => ?_
   have t8 := ht' _ s8 σ8 H8 _ I8 q8
   rw [eX] at t8
   have again : ∀ {σ9 : St} {H9 : Hp} {s9 : Shared}, Inv X' ([] ++ JV fp s7.heap) σ9 H9 s9 → tn (i + 1) s9.heap ∧ ∀ b ∈ fp, H9 b = none := fun {σ9 H9 s9} I9 => by
    refine ⟨T.keep _ _ _ st7 fun b hb o e => (I9.pin (b, o) (List.mem_append_right _ (List.mem_append_right _ (DU hb e)))).1, fun b hb => ?_⟩
    obtain ⟨o, e, d⟩ := T.obj _ _ st7 b hb
    exact (I9.pin (b, o) (List.mem_append_right _ (List.mem_append_right _ (DU hb e)))).2.1
   refine thn t8 fun b s9 ⟨H9, I9, q9⟩ => ?_
   cases b with
   | false =>
    rw [if_neg Bool.false_ne_true] at q9 ⊢
    obtain ⟨m', hm, w9⟩ := q9
    exact ⟨m', hm, i + 1, σ8, H9, I9.unpinned, (again I9).1, (again I9).2, w9⟩
   | true =>
    rw [if_pos rfl] at q9 ⊢
    have e9 := he' _ s9 σ8 H9 _ I9 q9
    rw [eX] at e9
    refine thn e9 fun y s10 ⟨z, H10, I10, r10, ys, hy, hlen, m', hm, w10⟩ => ?_
    have a10 := LM (X := X') _ s10 σ8 H10 (.ref s2.heap.objs.size) [z] _ _ (fun _ H11 => H11 = upd H10 s2.heap.objs.size (.lst (ys ++ [z]))) I10 rfl (.cons r10 .nil) ⟨_, ys, z, rfl, rfl, hy, hlen, rfl⟩
    rw [eX] at a10
    refine thn a10 fun _ s11 ⟨_, H11, I11, _, e11⟩ => ?_
    subst e11
    exact ⟨m', hm, i + 1, σ8, _, I11.unpinned, (again I11).1, (again I11).2, w10⟩
 have es : ({ s2 with heap := h₁, toks := s2.toks + ([] : List (Str × Value)).length } : Shared) = { s₃ with heap := h₁, toks := s₃.toks } := by rw [← hs3]; rfl
 rw [show ({ s2 with heap := h₁, toks := s2.toks + ([] : List (Str × Value)).length } : Shared) = { s₃ with heap := h₁, toks := s₃.toks } from es]
 exact codeAny_compStart_list loop (T.self _ 0 _ _ _ st4 loop)
end
section
variable {prog : Program} {w : World} {A : Around} {E : Value → Shared → Prop} {s : Shared}
end
section
variable {X : Cx} {pos : Pos}
theorem iQ : OpR X (binaryOp .Mult) (rI (fun i j => IntMulOk i j) fun i j => .int (i * j)) := opI fun _ _ _ _ _ _ _ hc q => mul_int q hc
theorem WS {i j : Int} (m n : Nat) (h1 : i.natAbs < 2 ^ m) (h2 : j.natAbs < 2 ^ n) (h : m + n ≤ 134217728) : IntMulOk i j := IntMulOk.of_le (intBits_le h1) (intBits_le h2) h
theorem FG {i j : Int} (h1 : -(2 ^ 64) < i) (h2 : i < 2 ^ 64) : IntMulOk i j := .of_left (intBits_le_64 h1 h2)
theorem IV {i j : Int} (h1 : -(2 ^ 64) < j) (h2 : j < 2 ^ 64) : IntMulOk i j := .of_right (intBits_le_64 h1 h2)
theorem fA : OpR X (binaryOp .FloorDiv) (rI (fun _ j => 0 < j ∧ j < 2 ^ 100) fun i j => .int (i / j)) := opI fun i j _ _ s Q E hc q => by
 refine floordiv_int (Int.ne_of_gt hc.1) (by rw [Int.fdiv_eq_ediv_of_nonneg _ (Int.le_of_lt hc.1)]; exact q) (.inl (PyProof.noPylong_of_log2 ?_))
 have h1 : j.natAbs < 2 ^ 100 := by omega
 have h0 : j.natAbs ≠ 0 := by omega
 have := (Nat.log2_lt h0).mpr h1
 omega
theorem eY {c : Value} : EI X (.builtin "isinstance") (fun xs H Q => ∃ x y ty b, xs = [x, y] ∧ AY y c ∧ (∃ n, c = .type n) ∧ JW X.K H x ty ∧ PySem.W.kitOne X.K ty c = some b ∧ Q (.bl b) H) := by
 intro pins s σ H xs us Q I rv h
 obtain ⟨x, y, ty, b, rfl, ry, ⟨n, rfl⟩, hty, hk, q⟩ := h
 obtain ⟨u, u', rfl, ru, ru'⟩ := rv.two
 have e : u' = .type n := by
  cases y with
  | ty m => have := (show Value.type n = Value.type m from ry); cases this; exact ru'
  | non => cases ry
  | bl _ => cases ry
  | int _ => obtain ⟨_, z⟩ := ry; cases z
  | str _ => obtain ⟨_, z⟩ := ry; cases z
  | byt _ => obtain ⟨_, z⟩ := ry; cases z
  | flt _ => obtain ⟨_, z⟩ := ry; cases z
  | ref _ => cases ry
 subst e
 exact ZI I ru hty hk fun tk => ⟨.bl b, H, I.tok _, rfl, q⟩
theorem mJ {K : PySem.W.Frag} {T U : String} {b : Bool} (h0 : (Value.type T == Value.type U) = false) (h1 : PySem.W.kitMeta U = true) (h2 : ((fastBuiltinMro T).map (·.contains (.type U))) = some b) : PySem.W.kitOne K (.type T) (.type U) = some b := by
 unfold PySem.W.kitOne
 rw [h0, if_neg Bool.false_ne_true]
 unfold PySem.W.kitCls
 dsimp only
 rw [h1, if_pos rfl]
 exact h2
theorem ME {K : PySem.W.Frag} : PySem.W.kitOne K (.type "tuple") (.type "tuple") = some true := rfl
end
def FW (J : It) (g : TG) (tb : TS) (D : GG) (σ : St) (H1 : Hp) : Prop := ∃ W : Nat → Nat → St → Hp → Prop, (∃ m, W 0 m σ H1) ∧ ∀ i m σ H, W i m σ H →
 (J.stop i H ∧ D.nx σ H) ∨ (J.go i H ∧ ∃ N : St → Hp → Prop, (∀ σ' H', N σ' H' → ∃ m', m' < m ∧ W (i + 1) m' σ' H') ∧ ∀ x H', J.yld i H x H' → g x σ H' fun σ2 H2 => tb { D with nx := N, ct := N, bk := D.nx } σ2 H2)
theorem MJ (wi : TI) (g : TG) (tb : TS) (D : GG) (σ : St) (H : Hp) : oA wi g tb D σ H = wi σ H fun J H1 => FW J g tb D σ H1 := rfl
theorem NG {lo : Int} {n : Nat} {g : TG} {tb : TS} {D : GG} {σ : St} {H : Hp} (Pv : Nat → St → Hp → Prop) (h0 : Pv 0 σ H)
  (hs : ∀ i σ H, i < n → Pv i σ H → g (.int (lo + i)) σ H fun σ2 H2 => tb { D with nx := Pv (i + 1), ct := Pv (i + 1), bk := D.nx } σ2 H2) (hd : ∀ σ H, Pv n σ H → D.nx σ H) : FW (Itr lo n) g tb D σ H := ZH Pv h0 hs hd
theorem QX {K : PySem.W.Frag} {a : Addr} {xs : List V} {g : TG} {tb : TS} {D : GG} {σ : St} {H : Hp} (Pv : Nat → St → Hp → Prop) (h0 : Pv 0 σ H) (hl : ∀ i σ H, i ≤ xs.length → Pv i σ H → SqL K H a xs)
  (hs : ∀ i x σ H, xs[i]? = some x → Pv i σ H → g x σ H fun σ2 H2 => tb { D with nx := Pv (i + 1), ct := Pv (i + 1), bk := D.nx } σ2 H2) (hd : ∀ σ H, Pv xs.length σ H → D.nx σ H) : FW (Itl K a) g tb D σ H := cH Pv h0 hl hs hd
theorem nU {K : PySem.W.Frag} {a : Addr} {xs : List V} {g : TG} {tb : TS} {D : GG} {σ : St} {H : Hp} (Pv : Nat → St → Hp → Prop) (h0 : Pv 0 σ H) (hl : ∀ i σ H, i ≤ xs.length → Pv i σ H → SqT K H a xs)
  (hs : ∀ i x σ H, xs[i]? = some x → Pv i σ H → g x σ H fun σ2 H2 => tb { D with nx := Pv (i + 1), ct := Pv (i + 1), bk := D.nx } σ2 H2) (hd : ∀ σ H, Pv xs.length σ H → D.nx σ H) : FW (Itt K a) g tb D σ H := jQ Pv h0 hl hs hd
def CW (J : It) (g : TG) (tt : TT) (te : TE) (p : Addr) (Q : VK) (σ : St) (H1 : Hp) : Prop :=
 ∃ W : Nat → Nat → St → Hp → Prop, (∃ m, W 0 m σ H1) ∧ ∀ i m σ H, W i m σ H →
  (J.stop i H ∧ Q (.ref p) H) ∨ (J.go i H ∧ ∀ x H', J.yld i H x H' → g x σ H' fun σ2 H2 => tt σ2 H2 fun b H3 =>
   if b = true then te σ2 H3 fun y H4 => ∃ ys, H4 p = some (.lst ys) ∧ ys.length < sizeLine ∧ ∃ m', m' < m ∧ W (i + 1) m' σ2 (upd H4 p (.lst (ys ++ [y])))
   else ∃ m', m' < m ∧ W (i + 1) m' σ2 H3)
theorem KG (js : List Nat) (os : List Str) (wi : TI) (g : TG) (tt : TT) (te : TE) (σ : St) (H : Hp) (Q : VK) : cS js os wi g tt te σ H Q = wi σ H fun J H1 => ∀ p, H1 p = none → CW J g tt te p Q (stC js os σ) (upd H1 p (.lst [])) := rfl
def Nx (n i : Nat) (P : Prop) : Prop := ∃ m', m' < n - i ∧ m' = n - (i + 1) ∧ i + 1 ≤ n ∧ P
theorem nx {n i : Nat} {P : Prop} (h : i < n) (p : P) : Nx n i P := ⟨n - (i + 1), by omega, rfl, h, p⟩
theorem SY {lo : Int} {n : Nat} {g : TG} {tt : TT} {te : TE} {p : Addr} {Q : VK} {σ : St} {H : Hp} (Pv : Nat → St → Hp → Prop) (h0 : Pv 0 σ H)
  (hs : ∀ i σ H, i < n → Pv i σ H → g (.int (lo + i)) σ H fun σ2 H2 => tt σ2 H2 fun b H3 => if b = true then te σ2 H3 fun y H4 => ∃ ys, H4 p = some (.lst ys) ∧ ys.length < sizeLine ∧ Nx n i (Pv (i + 1) σ2 (upd H4 p (.lst (ys ++ [y])))) else Nx n i (Pv (i + 1) σ2 H3))
  (hd : ∀ σ H, Pv n σ H → Q (.ref p) H) : CW (Itr lo n) g tt te p Q σ H := by
 refine ⟨fun i m σ H => m = n - i ∧ i ≤ n ∧ Pv i σ H, ⟨n, by simp, Nat.zero_le _, h0⟩, ?_⟩
 rintro i m σ H ⟨rfl, hi, q⟩
 by_cases hlt : i < n
 ·refine .inr ⟨hlt, fun x H' y => ?_⟩
  obtain ⟨e, y⟩ := y
  subst e y
  exact hs i σ _ hlt q
 ·have e : i = n := by omega
  subst e
  exact .inl ⟨Nat.le_refl _, hd σ H q⟩
theorem iS {K : PySem.W.Frag} {a : Addr} {xs : List V} {g : TG} {tt : TT} {te : TE} {p : Addr} {Q : VK} {σ : St} {H : Hp} (Pv : Nat → St → Hp → Prop) (h0 : Pv 0 σ H) (hl : ∀ i σ H, i ≤ xs.length → Pv i σ H → SqL K H a xs)
  (hs : ∀ i x σ H, xs[i]? = some x → Pv i σ H → g x σ H fun σ2 H2 => tt σ2 H2 fun b H3 => if b = true then te σ2 H3 fun y H4 => ∃ ys, H4 p = some (.lst ys) ∧ ys.length < sizeLine ∧ Nx xs.length i (Pv (i + 1) σ2 (upd H4 p (.lst (ys ++ [y])))) else Nx xs.length i (Pv (i + 1) σ2 H3))
  (hd : ∀ σ H, Pv xs.length σ H → Q (.ref p) H) : CW (Itl K a) g tt te p Q σ H := by
 refine ⟨fun i m σ H => m = xs.length - i ∧ i ≤ xs.length ∧ Pv i σ H, ⟨xs.length, by simp, Nat.zero_le _, h0⟩, ?_⟩
 rintro i m σ H ⟨rfl, hi, q⟩
 have w := hl i σ H hi q
 by_cases hlt : i < xs.length
 ·refine .inr ⟨⟨xs, xs[i], w, by simp [hlt]⟩, fun x H' y => ?_⟩
  obtain ⟨e, y⟩ := y
  subst e
  exact hs i x σ _ (y xs w) q
 ·have e : i = xs.length := by omega
  subst e
  exact .inl ⟨⟨xs, w, Nat.le_refl _⟩, hd σ H q⟩
theorem lX {K : PySem.W.Frag} {a : Addr} {xs : List V} {g : TG} {tt : TT} {te : TE} {p : Addr} {Q : VK} {σ : St} {H : Hp} (Pv : Nat → St → Hp → Prop) (h0 : Pv 0 σ H) (hl : ∀ i σ H, i ≤ xs.length → Pv i σ H → SqT K H a xs)
  (hs : ∀ i x σ H, xs[i]? = some x → Pv i σ H → g x σ H fun σ2 H2 => tt σ2 H2 fun b H3 => if b = true then te σ2 H3 fun y H4 => ∃ ys, H4 p = some (.lst ys) ∧ ys.length < sizeLine ∧ Nx xs.length i (Pv (i + 1) σ2 (upd H4 p (.lst (ys ++ [y])))) else Nx xs.length i (Pv (i + 1) σ2 H3))
  (hd : ∀ σ H, Pv xs.length σ H → Q (.ref p) H) : CW (Itt K a) g tt te p Q σ H := by
 refine ⟨fun i m σ H => m = xs.length - i ∧ i ≤ xs.length ∧ Pv i σ H, ⟨xs.length, by simp, Nat.zero_le _, h0⟩, ?_⟩
 rintro i m σ H ⟨rfl, hi, q⟩
 have w := hl i σ H hi q
 by_cases hlt : i < xs.length
 ·refine .inr ⟨⟨xs, xs[i], w, by simp [hlt]⟩, fun x H' y => ?_⟩
  obtain ⟨e, y⟩ := y
  subst e
  exact hs i x σ _ (y xs w) q
 ·have e : i = xs.length := by omega
  subst e
  exact .inl ⟨⟨xs, w, Nat.le_refl _⟩, hd σ H q⟩
theorem YA {c : TT} {tb : TS} {D : GG} {σ : St} {H : Hp} (Pv : St → Hp → Prop) (μ : St → Hp → Nat) (h0 : Pv σ H)
  (hs : ∀ σ H, Pv σ H → c σ H fun b H1 => if b = true then ∃ N : St → Hp → Prop, (∀ σ' H', N σ' H' → ∃ m', m' < μ σ H ∧ (m' = μ σ' H' ∧ Pv σ' H')) ∧ tb { D with nx := N, ct := N, bk := D.nx } σ H1 else D.nx σ H1) : cT c tb D σ H := by
 refine ⟨fun m σ H => m = μ σ H ∧ Pv σ H, ⟨_, rfl, h0⟩, ?_⟩
 rintro m σ H ⟨rfl, p⟩
 have z := hs σ H p
 exact z
theorem AI.upd {H : Hp} {p : Addr} {o : HO} (h : H p = none) : AI H (upd H p o) := fun b u e => by rw [AH (EC e h)]; exact e
theorem AI.upd2 {H H' : Hp} {p : Addr} {o : HO} (s : AI H H') (h : H p = none) : AI H (L2.upd H' p o) := fun b u e => by rw [AH (EC e h)]; exact s b u e
theorem AI.tup {K : PySem.W.Frag} {H H' : Hp} {a : Addr} {xs : List V} (e : AI H H') (h : SqT K H a xs) : SqT K H' a xs := by
 rcases h with (h | ⟨o, h⟩) | h
 ·exact .inl (.inl (e _ _ h))
 ·exact .inl (.inr ⟨o, e _ _ h⟩)
 ·exact .inr h
theorem SU {ns : List Int} {k : Int} (h0 : 0 ≤ k) (h1 : k < ns.length) : ∃ z ∈ ns, atI (ns.map V.int) k = some (.int z) := by
 have hk : k.toNat < ns.length := by omega
 refine ⟨ns[k.toNat], List.getElem_mem hk, ?_⟩
 have e : ((k.toNat : Nat) : Int) = k := by omega
 have := DF (xs := ns.map V.int) (j := k.toNat) (v := .int ns[k.toNat]) (by rw [List.getElem?_map, List.getElem?_eq_getElem hk]; rfl)
 rw [e] at this
 exact this
inductive D where
 | int (i : Int) | str (x : Str) | non | tup (ds : List D)
mutual
def Rp (K : PySem.W.Frag) (H : Hp) : D → V → Prop
 | .int i, v => v = .int i
 | .str x, v => v = .str x
 | .non, v => v = .non
 | .tup ds, v => ∃ p xs, v = .ref p ∧ SqT K H p xs ∧ RpL K H ds xs
def RpL (K : PySem.W.Frag) (H : Hp) : List D → List V → Prop
 | [], xs => xs = []
 | d :: ds, xs => ∃ v r, xs = v :: r ∧ Rp K H d v ∧ RpL K H ds r
end
mutual
def deq : D → D → Bool
 | .int i, .int j => i == j
 | .str x, .str y => x == y
 | .non, .non => true
 | .tup ds, .tup es => deqL ds es
 | _, _ => false
def deqL : List D → List D → Bool
 | [], [] => true
 | d :: ds, e :: es => deq d e && deqL ds es
 | _, _ => false
end
mutual
def dep : D → Nat
 | .tup ds => depL ds + 1
 | _ => 0
def depL : List D → Nat
 | [] => 0
 | d :: ds => max (dep d) (depL ds)
end
theorem RpL.length {K : PySem.W.Frag} {H : Hp} : ∀ {ds : List D} {xs : List V}, RpL K H ds xs → xs.length = ds.length
 | [], xs, h => by rw [RpL] at h; subst h; rfl
 | d :: ds, xs, h => by
  rw [RpL] at h
  obtain ⟨v, r, rfl, _, h⟩ := h
  rw [List.length_cons, List.length_cons, RpL.length h]
mutual
theorem Rp.same {K : PySem.W.Frag} {H H' : Hp} (s : AI H H') : ∀ {d : D} {v : V}, Rp K H d v → Rp K H' d v
 | .int i, v, h => by rw [Rp] at h ⊢; exact h
 | .str x, v, h => by rw [Rp] at h ⊢; exact h
 | .non, v, h => by rw [Rp] at h ⊢; exact h
 | .tup ds, v, h => by
  rw [Rp] at h ⊢
  obtain ⟨p, xs, e, hs, hl⟩ := h
  exact ⟨p, xs, e, s.tup hs, RpL.same s hl⟩
theorem RpL.same {K : PySem.W.Frag} {H H' : Hp} (s : AI H H') : ∀ {ds : List D} {xs : List V}, RpL K H ds xs → RpL K H' ds xs
 | [], xs, h => by rw [RpL] at h ⊢; exact h
 | d :: ds, xs, h => by
  rw [RpL] at h ⊢
  obtain ⟨v, r, e, h1, h2⟩ := h
  exact ⟨v, r, e, Rp.same s h1, RpL.same s h2⟩
end
section
variable {X : Cx} {pins : List (Addr × Obj)} {σ : L2.St} {H : Hp} {s : Shared}
end
mutual
def GU (K : PySem.W.Frag) : D → Value → Bool
 | .int i, .int j _ => i == j
 | .str x, .str y _ => x == y
 | .non, .none => true
 | .tup ds, .ref p => (match K.lookup p with
  | some o => (match o.cls, o.data with
   | .type n, .seq its _ => n == "tuple" && decide (its.size ≤ 1000) && kdInL K ds its.toList
   | _, _ => false)
  | none => false)
 | _, _ => false
def kdInL (K : PySem.W.Frag) : List D → List Value → Bool
 | [], [] => true
 | d :: ds, u :: us => GU K d u && kdInL K ds us
 | _, _ => false
end
mutual
theorem HV {K : PySem.W.Frag} : ∀ {d : D} {u : Value}, GU K d u = true → ∃ v, AY v u ∧ ∀ H, Rp K H d v
 | .int i, u, h => by
  cases u with
  | int j t =>
   rw [GU] at h
   have e : i = j := by simpa using h
   subst e
   exact ⟨.int i, ⟨t, rfl⟩, fun H => by rw [Rp]⟩
  | _ => simp [GU] at h
 | .str x, u, h => by
  cases u with
  | str y t =>
   rw [GU] at h
   have e : x = y := by simpa using h
   subst e
   exact ⟨.str x, ⟨t, rfl⟩, fun H => by rw [Rp]⟩
  | _ => simp [GU] at h
 | .non, u, h => by
  cases u with
  | none => exact ⟨.non, rfl, fun H => by rw [Rp]⟩
  | _ => simp [GU] at h
 | .tup ds, u, h => by
  cases u with
  | ref p =>
   rw [GU] at h
   cases e : K.lookup p with
   | none => rw [e] at h; cases h
   | some o =>
    rw [e] at h
    dsimp only at h
    split at h
    ·rename_i n its k ec ed
     simp only [Bool.and_eq_true, beq_iff_eq, decide_eq_true_eq] at h
     obtain ⟨⟨rfl, hz⟩, hl⟩ := h
     obtain ⟨vs, rv, hv⟩ := kd_rpL hl
     exact ⟨.ref p, rfl, fun H => by
      rw [Rp]
      exact ⟨p, vs, rfl, .inr ⟨o, its, k, e, ec, ed, Nat.le_trans hz (by decide), rv⟩, hv H⟩⟩
    ·cases h
  | _ => simp [GU] at h
theorem kd_rpL {K : PySem.W.Frag} : ∀ {ds : List D} {us : List Value}, kdInL K ds us = true → ∃ vs, AO vs us ∧ ∀ H, RpL K H ds vs
 | [], us, h => by
  cases us with
  | nil => exact ⟨[], .nil, fun H => by rw [RpL]⟩
  | cons _ _ => simp [kdInL] at h
 | d :: ds, us, h => by
  cases us with
  | nil => simp [kdInL] at h
  | cons u us =>
   rw [kdInL, Bool.and_eq_true] at h
   obtain ⟨v, r, hv⟩ := HV h.1
   obtain ⟨vs, rs, hvs⟩ := kd_rpL h.2
   exact ⟨v :: vs, .cons r rs, fun H => by rw [RpL]; exact ⟨v, vs, rfl, hv H, hvs H⟩⟩
end
theorem RpL.at {K : PySem.W.Frag} {H : Hp} : ∀ {ds : List D} {xs : List V} {j : Nat}, RpL K H ds xs → j < ds.length → ∃ v, xs[j]? = some v ∧ Rp K H (ds.getD j .non) v
 | [], xs, j, h, hj => absurd hj (Nat.not_lt_zero _)
 | d :: ds, xs, j, h, hj => by
  rw [RpL] at h
  obtain ⟨v, r, rfl, h1, h2⟩ := h
  cases j with
  | zero => exact ⟨v, rfl, h1⟩
  | succ j =>
   obtain ⟨u, e, q⟩ := RpL.at (ds := ds) (xs := r) (j := j) h2 (by simpa using hj)
   exact ⟨u, e, q⟩
theorem RpL.atI {K : PySem.W.Frag} {H : Hp} {ds : List D} {xs : List V} {i : Int} (h : RpL K H ds xs) (h0 : 0 ≤ i) (h1 : i < ds.length) : ∃ v, L2.atI xs i = some v ∧ Rp K H (ds.getD i.toNat .non) v := by
 obtain ⟨v, e, r⟩ := h.at (j := i.toNat) (by omega)
 have := DF e
 rw [show ((i.toNat : Nat) : Int) = i by omega] at this
 exact ⟨v, this, r⟩
abbrev num (a b : Int) : D := .tup [.int a, .int b]
abbrev plc (a b c d : Int) : D := .tup [num a b, num c d]
theorem KZ {K : PySem.W.Frag} {H : Hp} {a b : Int} {v : V} : Rp K H (num a b) v ↔ ∃ p, v = .ref p ∧ SqT K H p [.int a, .int b] := by
 constructor
 ·intro h
  rw [Rp] at h
  obtain ⟨p, xs, rfl, hs, hl⟩ := h
  rw [RpL] at hl
  obtain ⟨v, r, rfl, h1, hl⟩ := hl
  rw [RpL] at hl
  obtain ⟨v', r', rfl, h2, hl⟩ := hl
  rw [RpL] at hl
  rw [Rp] at h1 h2
  subst h1 h2 hl
  exact ⟨p, rfl, hs⟩
 ·rintro ⟨p, rfl, hs⟩
  rw [Rp]
  refine ⟨p, _, rfl, hs, ?_⟩
  rw [RpL]
  refine ⟨_, _, rfl, by rw [Rp], ?_⟩
  rw [RpL]
  refine ⟨_, _, rfl, by rw [Rp], ?_⟩
  rw [RpL]
theorem CN {K : PySem.W.Frag} {H : Hp} {d e : D} {v : V} : Rp K H (.tup [d, e]) v ↔ ∃ p x y, v = .ref p ∧ SqT K H p [x, y] ∧ Rp K H d x ∧ Rp K H e y := by
 constructor
 ·intro h
  rw [Rp] at h
  obtain ⟨p, xs, rfl, hs, hl⟩ := h
  rw [RpL] at hl
  obtain ⟨v, r, rfl, h1, hl⟩ := hl
  rw [RpL] at hl
  obtain ⟨v', r', rfl, h2, hl⟩ := hl
  rw [RpL] at hl
  subst hl
  exact ⟨p, v, v', rfl, hs, h1, h2⟩
 ·rintro ⟨p, x, y, rfl, hs, h1, h2⟩
  rw [Rp]
  refine ⟨p, _, rfl, hs, ?_⟩
  rw [RpL]
  refine ⟨_, _, rfl, h1, ?_⟩
  rw [RpL]
  refine ⟨_, _, rfl, h2, ?_⟩
  rw [RpL]
section
variable {X : Cx}
theorem ZR {c : Value} : EI X (.builtin "isinstance") (fun xs H Q => ∃ x y, xs = [x, y] ∧ AY y c ∧ (∃ n, c = .type n) ∧ ∃ ty, (JW X.K H x ty ∨ ∃ p ys, x = .ref p ∧ SqT X.K H p ys ∧ ty = .type "tuple") ∧ ∃ b, PySem.W.kitOne X.K ty c = some b ∧ Q (.bl b) H) := by
 intro pins s σ H xs us Q I rv h
 obtain ⟨x, y, rfl, ry, ⟨n, rfl⟩, ty, hty, b, hk, q⟩ := h
 rcases hty with hty | ⟨p, ys, rfl, hs, rfl⟩
 ·exact eY (c := .type n) pins s σ H [x, y] us Q I rv ⟨x, y, ty, b, rfl, ry, ⟨n, rfl⟩, hty, hk, q⟩
 ·obtain ⟨u, u', rfl, ru, ru'⟩ := rv.two
  have e : u' = .type n := by
   cases y with
   | ty m => have := (show Value.type n = Value.type m from ry); cases this; exact ru'
   | non => cases ry
   | bl _ => cases ry
   | int _ => obtain ⟨_, z⟩ := ry; cases z
   | str _ => obtain ⟨_, z⟩ := ry; cases z
   | byt _ => obtain ⟨_, z⟩ := ry; cases z
   | flt _ => obtain ⟨_, z⟩ := ry; cases z
   | ref _ => cases ry
  subst e
  cases ru
  obtain ⟨its, _, ⟨o, h1, h2, _⟩, _⟩ := I.tuple hs
  exact PySem.W.kia_one PySem.W.kitx_tuple I.kIn ⟨o, h1, h2⟩ hk (fun z => nomatch z) fun tk => ⟨.bl b, H, I.tok _, rfl, q⟩
end
def RJ (K : PySem.W.Frag) (d : D) : TE := fun _ H Q => ∀ v H', AI H H' → Rp K H' d v → Q v H'
def JL (K : PySem.W.Frag) (ds : List D) : TA := fun _ H Q => ∀ vs H', AI H H' → RpL K H' ds vs → Q vs H'
section
variable {X : Cx} {e : Expr} {es : List Expr} {pos : Pos} {d : D} {ds : List D}
theorem PE.imp {t t' : TE} (h : PE X e t) (i : ∀ σ H Q, t' σ H Q → t σ H Q) : PE X e t' := fun pins s σ H Q I q => h pins s σ H Q I (i _ _ _ q)
theorem PA.imp {t t' : TA} (h : PA X es t) (i : ∀ σ H Q, t' σ H Q → t σ H Q) : PA X es t' := fun p pins s σ H Q I q => h p pins s σ H Q I (i _ _ _ q)
theorem nX {i : Int} {j pos} : PE X (.Constant (.int i) j pos) (RJ X.K (.int i)) := AF.imp fun _ H Q q => q _ _ (AI.refl H) (by rw [Rp])
theorem nA {x : Str} {j pos} : PE X (.Constant (.str x) j pos) (RJ X.K (.str x)) := AT.imp fun _ H Q q => q _ _ (AI.refl H) (by rw [Rp])
theorem BO : PA X [] (JL X.K []) := AC.imp fun _ H Q q => q _ _ (AI.refl H) (by rw [RpL])
theorem NC (h : PE X e (RJ X.K d)) (hs : PA X es (JL X.K ds)) (he : starEach (e :: es) X.env = (false, eval e X.env) :: starEach es X.env := by rfl) : PA X (e :: es) (JL X.K (d :: ds)) :=
 (AA h hs he).imp fun _ H Q q => fun v H1 s1 r1 vs H2 s2 r2 => q _ _ (s1.trans s2) (by rw [RpL]; exact ⟨v, vs, rfl, r1.same s2, r2⟩)
theorem CI {x1} (h : PA X es (JL X.K ds)) (hz : ds.length ≤ 1000 := by decide) : PE X (.Tuple es x1 pos) (RJ X.K (.tup ds)) :=
 (BK h).imp fun _ H Q q => fun vs H1 s1 r1 => ⟨by rw [r1.length]; exact Nat.le_trans hz (by decide), fun p hp => q _ _ (s1.upd2 (s1.free hp)) (by
  rw [Rp]; exact ⟨p, vs, rfl, SqT.of AB, r1.same (AI.upd hp)⟩)⟩
end
end L2
namespace L2
open PySem PySem.Spec PyProof.Rows L2
section
variable {X : Cx} {es es' : List Expr} {pos pos' p : Pos} {d : D} {ds : List D}
theorem AW {x1} {te : TE} {t : TA} (ha : PE X (.Tuple es' x1 p) te) (hr : PA X es t) : PA X (.Tuple es' x1 p :: es) (PQ te t) := AA ha hr (by rfl)
theorem FQ {x1} (ha : PE X (.Tuple es' x1 p) (RJ X.K d)) (hr : PA X es (JL X.K ds)) : PA X (.Tuple es' x1 p :: es) (JL X.K (d :: ds)) := NC ha hr (by rfl)
theorem DB {i : Int} {j} (hr : PA X es (JL X.K ds)) : PA X (.Constant (.int i) j p :: es) (JL X.K (.int i :: ds)) := NC nX hr (by rfl)
theorem BR {i : Str} {j} (hr : PA X es (JL X.K ds)) : PA X (.Constant (.str i) j p :: es) (JL X.K (.str i :: ds)) := NC nA hr (by rfl)
end
theorem RH {CX P w K mg base N nm sc fa cdv A outer s H E} : (EO CX P w K mg base N nm sc fa cdv A outer s H E).K = K := rfl
section
variable {κ : Type} [DecidableEq κ]
def GM (kvs : List (κ × V)) (k : κ) : Option V := (kvs.find? fun kv => decide (kv.1 = k)).map (·.2)
def ES (kvs : List (κ × V)) (k : κ) (v : V) : List (κ × V) :=
 if (kvs.any fun kv => decide (kv.1 = k)) = true then kvs.map (fun kv => if kv.1 = k then (kv.1, v) else kv) else kvs ++ [(k, v)]
theorem OH {p : κ × V} {r : List (κ × V)} {k : κ} (e : p.1 = k) : GM (p :: r) k = some p.2 := by simp [GM, List.find?_cons, e]
theorem OM {p : κ × V} {r : List (κ × V)} {k : κ} (e : ¬ p.1 = k) : GM (p :: r) k = GM r k := by simp [GM, List.find?_cons, e]
theorem UO (k : κ) : ∀ kvs : List (κ × V), (kvs.any fun kv => decide (kv.1 = k)) = (GM kvs k).isSome
 | [] => rfl
 | p :: r => by
  rw [List.any_cons]
  by_cases e : p.1 = k
  ·simp only [OH e, decide_eq_true e, Bool.true_or, Option.isSome_some]
  ·rw [OM e, decide_eq_false e, Bool.false_or]; exact UO k r
theorem LW (kvs : List (κ × V)) (k : κ) (v : V) : (ES kvs k v).length ≤ kvs.length + 1 := by
 unfold ES
 split
 ·rw [List.length_map]; omega
 ·rw [List.length_append, List.length_cons, List.length_nil]; omega
theorem JK.isSome_eq {o : Option V} {u : Option Value} (r : JK o u) : o.isSome = u.isSome := by
 cases o with
 | none => cases u with
  | none => rfl
  | some _ => exact (show False from r).elim
 | some _ => cases u with
  | none => exact (show False from r).elim
  | some _ => rfl
theorem KV.val {kvs : List (κ × V)} {vs : List (κ × Value)} (r : KV kvs vs) (k : κ) : JK (GM kvs k) (valueAt vs k) := by
 unfold KV at r
 induction r with
 | nil => exact True.intro
 | @cons p q ps qs h t ih =>
  obtain ⟨h1, h2⟩ := h
  by_cases e : p.1 = k
  ·have e' : q.1 = k := h1.symm.trans e
   have b : valueAt (q :: qs) k = some q.2 := by simp [valueAt, List.find?_cons, e']
   rw [OH e, b]; exact h2
  ·have e' : ¬ q.1 = k := fun z => e (h1.trans z)
   have b : valueAt (q :: qs) k = valueAt qs k := by simp [valueAt, List.find?_cons, e']
   rw [OM e, b]; exact ih
theorem KV.any {kvs : List (κ × V)} {vs : List (κ × Value)} (r : KV kvs vs) (k : κ) : (kvs.any fun kv => decide (kv.1 = k)) = vs.any fun kv => decide (kv.1 = k) := by
 unfold KV at r
 induction r with
 | nil => rfl
 | cons h t ih => rw [List.any_cons, List.any_cons, ih, h.1]
theorem KV.repl {kvs : List (κ × V)} {vs : List (κ × Value)} (r : KV kvs vs) (k : κ) {y : V} {u : Value} (ry : AY y u) :
  KV (kvs.map fun kv => if kv.1 = k then (kv.1, y) else kv) (vs.map fun kv => if kv.1 = k then (kv.1, u) else kv) := by
 unfold KV at r ⊢
 induction r with
 | nil => exact .nil
 | @cons p q ps qs h t ih =>
  rw [List.map_cons, List.map_cons]
  refine .cons ?_ ih
  obtain ⟨h1, h2⟩ := h
  by_cases e : p.1 = k
  ·rw [if_pos e, if_pos (h1.symm.trans e)]; exact ⟨h1, ry⟩
  ·rw [if_neg e, if_neg (fun z => e (h1.trans z))]; exact ⟨h1, h2⟩
theorem KV.put {kvs : List (κ × V)} {vs : List (κ × Value)} (r : KV kvs vs) (k : κ) {y : V} {u : Value} (ry : AY y u) : KV (ES kvs k y) (stored vs k u) := by
 unfold ES stored
 rw [r.any k]
 by_cases e : (vs.any fun kv => decide (kv.1 = k)) = true
 ·rw [if_pos e, if_pos e]; exact r.repl k ry
 ·rw [if_neg e, if_neg e]; exact Paired.snoc r ⟨rfl, ry⟩
theorem KV.length {kvs : List (κ × V)} {vs : List (κ × Value)} (r : KV kvs vs) : kvs.length = vs.length := Paired.length r
end
theorem XM {P : Program} {w : World} {k : Key} {u : Value} (r : AY (kV k) u) : (BT P w).is k u = true := by
 cases k with
 | inl i => obtain ⟨t, e⟩ := (show ∃ t, u = Value.int i t from r); subst e; exact LX P w i t
 | inr x => obtain ⟨t, e⟩ := (show ∃ t, u = Value.str x t from r); subst e; exact MC P w x t
theorem PP {P : Program} {w : World} : ∀ {ks : List Key} {us : List Value}, AO (ks.map kV) us → ItemsAre (BT P w) ks us
 | [], _, r => by rw [List.map_nil] at r; cases r; exact .nil
 | k :: ks, _, r => by
  rw [List.map_cons] at r
  cases r with
  | cons h t => exact .cons (XM h) (PP t)
abbrev KT (H : Hp) : List (List Key × V) → List (List Key × Addr × Value) → Prop := Paired fun p q => p.1 = q.1 ∧ H q.2.1 = some (.tup (p.1.map kV)) ∧ AY p.2 q.2.2
theorem KT.val {H : Hp} {kvs : List (List Key × V)} {xs : List (List Key × Addr × Value)} (r : KT H kvs xs) (k : List Key) : JK (GM kvs k) ((atKey xs k).map (·.2)) := by
 induction r with
 | nil => exact True.intro
 | @cons p q ps qs h t ih =>
  obtain ⟨h1, _, h2⟩ := h
  by_cases e : p.1 = k
  ·have e' : q.1 = k := h1.symm.trans e
   have b : atKey (q :: qs) k = some q.2 := by simp [atKey, List.find?_cons, e']
   rw [OH e, b]; exact h2
  ·have e' : ¬ q.1 = k := fun z => e (h1.trans z)
   have b : atKey (q :: qs) k = atKey qs k := by simp [atKey, List.find?_cons, e']
   rw [OM e, b]; exact ih
theorem KT.repl {H : Hp} {kvs : List (List Key × V)} {xs : List (List Key × Addr × Value)} (r : KT H kvs xs) (k : List Key) {y : V} {u : Value} (ry : AY y u) :
  KT H (kvs.map fun kv => if kv.1 = k then (kv.1, y) else kv) (xs.map (putAt k u)) := by
 induction r with
 | nil => exact .nil
 | @cons p q ps qs h t ih =>
  rw [List.map_cons, List.map_cons]
  refine .cons ?_ ih
  obtain ⟨h1, h2, h3⟩ := h
  unfold putAt
  by_cases e : p.1 = k
  ·rw [if_pos e, if_pos (h1.symm.trans e)]; exact ⟨h1, h2, ry⟩
  ·rw [if_neg e, if_neg (fun z => e (h1.trans z))]; exact ⟨h1, h2, h3⟩
theorem KT.put {H : Hp} {kvs : List (List Key × V)} {xs : List (List Key × Addr × Value)} (r : KT H kvs xs) (k : List Key) {b : Addr} {y : V} {u : Value} (hb : H b = some (.tup (k.map kV))) (ry : AY y u) :
  KT H (ES kvs k y) (storedH xs k b u) := by
 have e : (kvs.any fun kv => decide (kv.1 = k)) = (atKey xs k).isSome := by
  rw [UO, (r.val k).isSome_eq, Option.isSome_map]
 unfold ES storedH
 rw [e]
 by_cases q : (atKey xs k).isSome = true
 ·rw [if_pos q, if_pos q]; exact r.repl k ry
 ·rw [if_neg q, if_neg q]; exact Paired.snoc r ⟨rfl, hb, ry⟩
theorem KT.keeps {H H' : Hp} {kvs : List (List Key × V)} {xs : List (List Key × Addr × Value)} (r : KT H kvs xs) (ht : ∀ b ys, H b = some (.tup ys) → H' b = some (.tup ys)) : KT H' kvs xs :=
 Paired.mapP r fun _ _ z => ⟨z.1, ht _ _ z.2.1, z.2.2⟩
section
variable {P : Program} {w : World} {H : Hp} {h : Heap} {a : Addr}
theorem kR {u : HO} (ok : HOk P w H h) (e : Rd H a u) : DA P w H h a u := e.ok ok
theorem UF {kvs : List (Key × V)} (ok : HOk P w H h) (e : Rd H a (.dK kvs)) : kvs.length ≤ sizeLine ∧ (a == sysModules) = false ∧ ∃ vs, KV kvs vs ∧ h.DictOf (BT P w) a vs :=
 show DA P w H h a (.dK kvs) from kR ok e
theorem kO {kvs : List (Key × V)} (ok : HOk P w H h) (e : H a = some (.dK kvs)) : kvs.length ≤ sizeLine ∧ (a == sysModules) = false ∧ ∃ vs, KV kvs vs ∧ h.DictOf (BT P w) a vs := UF ok (.inl e)
theorem RC {ks : List Key} (ok : HOk P w H h) (e : H a = some (.tup (ks.map kV))) : (tupleKind (BT P w)).is h ks a := by
 obtain ⟨_, its, r, o, h1, h2, n, h3⟩ := (show DA P w H h a (.tup (ks.map kV)) from ok a _ e)
 exact ⟨o, its.toArray, n, h1, h2, h3, by simpa using PP r⟩
theorem YB {kvs : List (List Key × V)} (ok : HOk P w H h) (e : Rd H a (.dT kvs)) : kvs.length ≤ sizeLine ∧ (a == sysModules) = false ∧
  ∃ xs, KT H kvs xs ∧ h.DictOfH (tupleKind (BT P w)) a xs := by
 obtain ⟨z, y, xs, r, o, es, ep, h1, h2, h3, h4, h5⟩ := (show DA P w H h a (.dT kvs) from kR ok e)
 refine ⟨z, y, xs, r, o, es, ep, h1, h2, h3, h4, fun x hx => ?_, h5⟩
 have all : ∀ {l : List (List Key × V)} {m : List (List Key × Addr × Value)}, KT H l m → ∀ x ∈ m, (tupleKind (BT P w)).is h x.1 x.2.1 := by
  intro l m q
  induction q with
  | nil => intro x hx; exact nomatch hx
  | @cons p q ps qs hq t ih =>
   intro x hx
   rcases List.mem_cons.mp hx with e | hx
   ·subst e
    exact RC ok (by rw [← hq.1]; exact hq.2.1)
   ·exact ih x hx
 exact all r x hx
theorem pU {kvs : List (List Key × V)} (ok : HOk P w H h) (e : H a = some (.dT kvs)) : kvs.length ≤ sizeLine ∧ (a == sysModules) = false ∧
  ∃ xs, KT H kvs xs ∧ h.DictOfH (tupleKind (BT P w)) a xs := YB ok (.inl e)
end
def jU (H : Hp) (a : Addr) (y : V) (r : Option V) : Prop :=
 (∃ kvs k, Rd H a (.dK kvs) ∧ y = kV k ∧ r = GM kvs k) ∨ ∃ kvs k b, Rd H a (.dT kvs) ∧ y = .ref b ∧ H b = some (.tup (k.map kV)) ∧ r = GM kvs k
def jF (H : Hp) (a : Addr) (y v : V) (H' : Hp) : Prop :=
 (∃ kvs k, H a = some (.dK kvs) ∧ y = kV k ∧ kvs.length < sizeLine ∧ H' = upd H a (.dK (ES kvs k v))) ∨
 ∃ kvs k b, H a = some (.dT kvs) ∧ y = .ref b ∧ H b = some (.tup (k.map kV)) ∧ kvs.length < sizeLine ∧ H' = upd H a (.dT (ES kvs k v))
theorem jF.k {H : Hp} {a : Addr} {kvs : List (Key × V)} {k : Key} {v : V} (e : H a = some (.dK kvs)) (hl : kvs.length < sizeLine) : jF H a (kV k) v (upd H a (.dK (ES kvs k v))) := .inl ⟨kvs, k, e, rfl, hl, rfl⟩
section
variable {X : Cx} {pins : List (Addr × Obj)} {σ : St} {H : Hp} {s : Shared} {a : Addr} {y v : V} {u r : Value} {o : Option V} {A : Around} {E : Value → Shared → Prop}
theorem Inv.big (I : Inv X pins σ H s) : sysModules < s.heap.objs.size := by
 have h : mainGlobals < s.heap.objs.size := (I.mod.glob.keeps I.bk).lt
 exact Nat.lt_trans (by decide) h
theorem aK {Q : Value → Shared → Prop} (hu : A.units + 1 < cLine) (I : Inv X pins σ H s) (g : jU H a y (some v)) (ry : AY y u) (h : ∀ w' s', Inv X pins σ H s' → AY v w' → Q w' s') :
  wpAny (model X.prog X.w) A (getItem (.ref a) u) Q E s := by
 rcases g with ⟨kvs, k, e, ey, l⟩ | ⟨kvs, k, b, e, ey, eb, l⟩
 ·subst ey
  obtain ⟨z, hd, vs, rel, dd⟩ := UF I.hok e
  obtain ⟨w', hw, rw'⟩ := JK.some_of (v := v) (o := valueAt vs k) (by rw [l]; exact rel.val k)
  exact wpAny_getItem_of (XM ry) dd.mapOf hw (h w' _ (I.tok _) rw')
 ·subst ey
  cases (show u = Value.ref b from ry)
  obtain ⟨z, hd, xs, rel, dd⟩ := YB I.hok e
  obtain ⟨w', hw, rw'⟩ := JK.some_of (v := v) (o := (atKey xs k).map (·.2)) (by rw [l]; exact rel.val k)
  obtain ⟨p, hp, hp2⟩ := Option.map_eq_some_iff.mp hw
  refine wpAny_getItem_heap (tupleKind_room_in1 hu) (RC I.hok eb) dd hp ?_
  rw [hp2]
  exact h w' _ (I.tok _) rw'
theorem jM {Q : Value → Shared → Prop} (hu : A.units + 1 < cLine) (I : Inv X pins σ H s) (g : jU H a y o) (ry : AY y u) (h : ∀ s', Inv X pins σ H s' → Q (.bool (!o.isSome)) s') :
  wpAny (model X.prog X.w) A (compareOp .NotIn u (.ref a)) Q E s := by
 rcases g with ⟨kvs, k, e, ey, l⟩ | ⟨kvs, k, b, e, ey, eb, l⟩
 ·subst ey
  obtain ⟨z, hd, vs, rel, dd⟩ := UF I.hok e
  refine wpAny_notIn_of (XM ry) hd dd.mapOf ?_
  rw [← (rel.val k).isSome_eq, ← l]
  exact h _ (I.tok _)
 ·subst ey
  cases (show u = Value.ref b from ry)
  obtain ⟨z, hd, xs, rel, dd⟩ := YB I.hok e
  refine wpAny_notIn_heap (tupleKind_room_in1 hu) (RC I.hok eb) hd dd ?_
  have q := (rel.val k).isSome_eq
  rw [Option.isSome_map] at q
  rw [← q, ← l]
  exact h _ (I.tok _)
theorem RS {h' : Heap} {t' : Nat} {ob : HO} (I : Inv X pins σ H s) (mu : Mut (H a)) (hs : Heap.SameBut a s.heap h') (he : ∃ q, h'.get? a = some q) (new : DA X.prog X.w (upd H a ob) h' a ob) :
  Inv X pins σ (upd H a ob) { s with heap := h', toks := t' } :=
 I.write (x := a) (e := a) mu (.inl rfl) (fun b q hb z => (hs.2 b hb).trans z) he new
theorem lH {P : Program} {w : World} {H' : Hp} {h' : Heap} {kvs : List (Key × V)} {vs : List (Key × Value)} (z : kvs.length ≤ sizeLine) (hd : (a == sysModules) = false) (rel : KV kvs vs) (dd : h'.DictOf (BT P w) a vs) :
  DA P w H' h' a (.dK kvs) := ⟨z, hd, vs, rel, dd⟩
theorem ZO {H' : Hp} {Q : Unit → Shared → Prop} (hu : A.units + 1 < cLine) (I : Inv X pins σ H s) (g : jF H a y v H') (ry : AY y u) (rv : AY v r) (h : ∀ s', Inv X pins σ H' s' → Q () s') :
  wpAny (model X.prog X.w) A (setItem (.ref a) u r) Q E s := by
 rcases g with ⟨kvs, k, e, ey, l, eH⟩ | ⟨kvs, k, b, e, ey, eb, l, eH⟩
 ·subst ey eH
  obtain ⟨z, hd, vs, rel, dd⟩ := kO I.hok e
  have hz : vs.length ≤ sizeLine := by rw [← rel.length]; exact z
  have hl : (ES kvs k v).length ≤ sizeLine := by have := LW kvs k v; omega
  refine wpAny_setItem_pairs (hsz := hz) (XM ry) dd fun h' dd' hs => h _ ?_
  have he : ∃ q, h'.get? a = some q := let ⟨q, _, _, hq, _⟩ := dd'; ⟨q, hq⟩
  exact RS I (by rw [e]; exact True.intro) hs he (lH hl hd (rel.put k rv) dd')
 ·subst ey eH
  cases (show u = Value.ref b from ry)
  obtain ⟨z, hd, xs, rel, dd⟩ := pU I.hok e
  have hz : xs.length ≤ sizeLine := by rw [← Paired.length rel]; exact z
  have hl : (ES kvs k v).length ≤ sizeLine := by have := LW kvs k v; omega
  refine wpAny_setItem_heap (hsz := hz) (tupleKind_room_in1 hu) (RC I.hok eb) dd fun h' dd' hs => h _ ?_
  obtain ⟨q, es, ep, hq, h2, h3, h4, _, h5⟩ := dd'
  refine RS I (by rw [e]; exact True.intro) hs ⟨q, hq⟩ ⟨hl, hd, _, (rel.put k eb rv).keeps fun c ys ec => ?_, q, es, ep, hq, h2, h3, h4, h5⟩
  rw [AH (BJ ec e (fun z => nomatch z))]
  exact ec
end
section
variable {X : Cx} {pins : List (Addr × Obj)} {σ : St} {H : Hp} {s : Shared} {a : Addr} {kvs : List (Key × V)} {k : Key} {u : Value} {A : Around} {E : Value → Shared → Prop}
end
def oH (i : Expr) : Prop := ∀ ov iv, subscripted i false ov iv = operate [ov, iv] (getItem ov iv)
theorem hX {prog : Program} {w : World} {A : Around} {E : Value → Shared → Prop} {s : Shared} {env : Env} {value slice : Expr} {pos : Pos} {T id : String} {Q : Value → Shared → Prop}
  (hl : typeLookup (.type T) "__getitem__" = pure (some (.builtin id))) (hs : oH slice)
  (h : wpAny (model prog w) A (eval value env) (fun o s₁ => wpAny (model prog w) A (eval slice env) (fun i s₂ => s₂.TypeIs o T ∧ wpAny (model prog w) A (getItem o i) Q E s₂) E s₁) E s) :
  wpAny (model prog w) A (eval (.Subscript value slice pos) env) Q E s := by
 refine Subscript_ (wpAny_mono h (fun o s₁ h₁ => wpAny_mono h₁ (fun i s₂ h₂ => ?_) fun _ _ x => x) fun _ _ x => x)
 obtain ⟨hT, h₂⟩ := h₂
 unfold subscriptTail
 refine wpAny_bind ?_
 rw [getitemInPython_of_ne hT.not_modules]
 refine wpAny_bind (wpAny_specialOf hT hl ?_)
 have fin : wpAny (model prog w) A (subscripted slice false o i) (fun r s₃ => wpAny (model prog w) A (letTemporaryGo value o r >>= fun _ => pure r) Q E s₃) E s₂ := by
  rw [hs o i]
  exact wpAny_operating (wpAny_mono h₂ (fun r s₃ h₃ => wpAny_bind (wpAny_letTemporaryGo (wpAny_pure h₃))) fun _ _ x => x)
 first
  | exact wpAny_pure (wpAny_bind fin)
  | exact wpAny_bind (wpAny_pure (wpAny_bind fin))
  | exact wpAny_bind fin
theorem UA {X : Cx} {pins : List (Addr × Obj)} {σ : St} {H : Hp} {s : Shared} {a : Addr} {y : V} {o : Option V} (I : Inv X pins σ H s) (g : jU H a y o) : s.TypeIs (.ref a) "dict" := by
 rcases g with ⟨kvs, k, e, _, _⟩ | ⟨kvs, k, b, e, _, _, _⟩
 ·obtain ⟨_, _, vs, _, dd⟩ := UF I.hok e
  exact dd.typeIs
 ·obtain ⟨_, _, xs, _, dd⟩ := YB I.hok e
  exact dd.typeIs
section
variable {X : Cx} {o i e value : Expr} {pos pos' tpos : Pos} {td ty tv : TE}
end
theorem SI {P : Program} {w : World} {H : Hp} (h : Heap) (hb : sysModules < h.objs.size) : DA P w H (h.push { cls := .type "dict", data := .dict #[] }) h.objs.size (.dK []) :=
 ⟨Nat.zero_le _, beq_eq_false_iff_ne.mpr (Ne.symm (Nat.ne_of_lt hb)), [], .nil, Heap.DictOf.new h⟩
def NZ : TE := fun _ H Q => ∀ p, H p = none → Q (.ref p) (upd H p (.dK []))
section
variable {X : Cx} {pos : Pos}
theorem UL : PE X (.Dict [] [] pos) NZ := fun pins s σ H Q I h =>
 wpAny_Dict_empty ⟨.ref s.heap.objs.size, _, I.laid (a := s.heap.objs.size) (o := .dK []) (t' := s.toks) (fun _ _ q => Heap.get?_push_of_some _ q) (Nat.le_refl _) (SI s.heap I.big), rfl, h _ (I.hok.fresh (Nat.le_refl _))⟩
end
structure M1 (X : Cx) (o : Expr) (m : Str) (apos : Pos) (e : Expr) (cpos : Pos) : Prop where
 base : attributeBase o m X.env (eval o X.env) = eval o X.env
 few : ((backTo cpos (starEach [e] X.env)).all (fun x => !x.1) && (backToKw cpos (keywordEach [] X.env)).all (fun x => x.1.isSome)
  && decide (([e] : List Expr).length + ([] : List Keyword).length + (if ([] : List Keyword).isEmpty then 0 else 1) < 30)) = true
 line : (apos.endLine == cpos.line) = true
 trees : backTo cpos (starEach [e] X.env) = [(false, eval e X.env)]
structure M2 (X : Cx) (o : Expr) (m : Str) (apos : Pos) (e f : Expr) (cpos : Pos) : Prop where
 base : attributeBase o m X.env (eval o X.env) = eval o X.env
 few : ((backTo cpos (starEach [e, f] X.env)).all (fun x => !x.1) && (backToKw cpos (keywordEach [] X.env)).all (fun x => x.1.isSome)
  && decide (([e, f] : List Expr).length + ([] : List Keyword).length + (if ([] : List Keyword).isEmpty then 0 else 1) < 30)) = true
 line : (apos.endLine == cpos.line) = true
 trees : backTo cpos (starEach [e, f] X.env) = [(false, eval e X.env), (false, eval f X.env)]
section
variable {X : Cx} {pins : List (Addr × Obj)} {σ : St} {H : Hp} {s : Shared} {a : Addr} {y d : V} {u r : Value} {o : Option V} {A : Around} {E : Value → Shared → Prop}
end
section
variable {X : Cx} {o e f : Expr} {apos cpos : Pos} {td ty tx : TE}
end
section
variable {X : Cx} {pins : List (Addr × Obj)} {σ : St} {H : Hp} {s : Shared} {a : Addr} {kvs : List (Key × V)} {A : Around} {E : Value → Shared → Prop}
end
section
variable {X : Cx} {pins : List (Addr × Obj)} {σ : St} {H : Hp} {s : Shared} {a : Addr} {y : V} {u : Value} {A : Around} {E : Value → Shared → Prop}
end
section
variable {κ : Type} [DecidableEq κ]
end
section
variable {X : Cx}
end
def AM (H H' : Hp) : Prop := ∀ b o, H b = some o → ((∃ xs, o = .tup xs) ∨ ∃ o1 o2, o = .frz o1 o2) → H' b = some o
theorem AI.t {H H' : Hp} (s : AI H H') : AM H H' := fun b o e _ => s b o e
theorem AM.refl (H : Hp) : AM H H := fun b o e _ => e
theorem AM.trans {H H' H'' : Hp} (a : AM H H') (b : AM H' H'') : AM H H'' := fun x o e h => b x o (a x o e h) h
theorem AM.upd {H H' : Hp} {p : Addr} {o : HO} (s : AM H H') (h : ∀ u, H p = some u → ¬ ((∃ xs, u = .tup xs) ∨ ∃ o1 o2, u = .frz o1 o2)) : AM H (L2.upd H' p o) := fun b u e k => by
 by_cases hb : b = p
 ·subst hb; exact absurd k (h u e)
 ·rw [AH hb]; exact s b u e k
theorem AM.tup {K : PySem.W.Frag} {H H' : Hp} {a : Addr} {xs : List V} (e : AM H H') (h : SqT K H a xs) : SqT K H' a xs := by
 rcases h with (h | ⟨o, h⟩) | h
 ·exact .inl (.inl (e _ _ h (.inl ⟨_, rfl⟩)))
 ·exact .inl (.inr ⟨o, e _ _ h (.inr ⟨_, _, rfl⟩)⟩)
 ·exact .inr h
mutual
theorem Rp.t {K : PySem.W.Frag} {H H' : Hp} (s : AM H H') : ∀ {d : D} {v : V}, Rp K H d v → Rp K H' d v
 | .int i, v, h => by rw [Rp] at h ⊢; exact h
 | .str x, v, h => by rw [Rp] at h ⊢; exact h
 | .non, v, h => by rw [Rp] at h ⊢; exact h
 | .tup ds, v, h => by
  rw [Rp] at h ⊢
  obtain ⟨p, xs, e, hs, hl⟩ := h
  exact ⟨p, xs, e, s.tup hs, RpL.t s hl⟩
theorem RpL.t {K : PySem.W.Frag} {H H' : Hp} (s : AM H H') : ∀ {ds : List D} {xs : List V}, RpL K H ds xs → RpL K H' ds xs
 | [], xs, h => by rw [RpL] at h ⊢; exact h
 | d :: ds, xs, h => by
  rw [RpL] at h ⊢
  obtain ⟨v, r, e, h1, h2⟩ := h
  exact ⟨v, r, e, Rp.t s h1, RpL.t s h2⟩
end
theorem RpL.app {K : PySem.W.Frag} {H : Hp} : ∀ {ds es : List D} {xs ys : List V}, RpL K H ds xs → RpL K H es ys → RpL K H (ds ++ es) (xs ++ ys)
 | [], es, xs, ys, h, g => by rw [RpL] at h; subst h; exact g
 | d :: ds, es, xs, ys, h, g => by
  rw [RpL] at h
  obtain ⟨v, r, rfl, h1, h2⟩ := h
  rw [List.cons_append, List.cons_append, RpL]
  exact ⟨v, r ++ ys, rfl, h1, RpL.app h2 g⟩
theorem RpL.one {K : PySem.W.Frag} {H : Hp} {d : D} {v : V} (h : Rp K H d v) : RpL K H [d] [v] := by
 rw [RpL]; exact ⟨v, [], rfl, h, by rw [RpL]⟩
theorem RpL.nil {K : PySem.W.Frag} {H : Hp} : RpL K H [] [] := by rw [RpL]
def But (l : List Addr) (H H' : Hp) : Prop := ∀ b o, H b = some o → b ∉ l → H' b = some o
theorem AI.but {H H' : Hp} {l : List Addr} (s : AI H H') : But l H H' := fun b o e _ => s b o e
theorem But.trans {l : List Addr} {H H' H'' : Hp} (a : But l H H') (b : But l H' H'') : But l H H'' := fun x o e h => b x o (a x o e h) h
theorem But.upd {l : List Addr} {H H' : Hp} {p : Addr} {o : HO} (s : But l H H') (h : H p = none ∨ p ∈ l) : But l H (L2.upd H' p o) := fun b u e k => by
 have hb : b ≠ p := by
  rintro rfl
  rcases h with h | h
  ·rw [h] at e; cases e
  ·exact k h
 rw [AH hb]; exact s b u e k
theorem But.mono {l l' : List Addr} {H H' : Hp} (s : But l H H') (h : ∀ b ∈ l, b ∈ l') : But l' H H' := fun b o e k => s b o e fun z => k (h b z)
def TF (K : PySem.W.Frag) (ta : TE) : TE := fun σ H Q => ta σ H fun x H1 => ∃ k, lR K x H1 k ∧ Q (.bl (!k)) H1
section
variable {X : Cx} {a : Expr} {ta : TE} {pos : Pos}
theorem jZ (ha : PE X a ta) : PE X (.UnaryOp .Not a pos) (TF X.K ta) := by
 intro pins s σ H Q I h
 refine UnaryOp_ (thn (ha pins s σ H _ I h) fun v s1 ⟨x, H1, I1, r1, q1⟩ => ?_)
 obtain ⟨k, hk, q1⟩ := q1
 refine not_of (thn (fX pins s1 σ H1 x v (fun b H2 => Q (.bl (!b)) H2) I1 r1 ⟨k, hk, q1⟩) fun b s2 ⟨H2, I2, q2⟩ => ⟨.bl (!b), H2, I2, rfl, q2⟩)
end
theorem GH {H : Hp} {p C dx : Addr} {fs : List (Str × V)} (h : H p = some (.ins C dx fs)) : ∀ u, H p = some u → ¬ ((∃ xs, u = .tup xs) ∨ ∃ o1 o2, u = .frz o1 o2) := fun u e => by
 rw [h] at e; cases e
 rintro (⟨xs, e⟩ | ⟨o1, o2, e⟩) <;> cases e
theorem CS {H : Hp} {p : Addr} {xs : List V} (h : H p = some (.lst xs)) : ∀ u, H p = some u → ¬ ((∃ xs, u = .tup xs) ∨ ∃ o1 o2, u = .frz o1 o2) := fun u e => by
 rw [h] at e; cases e
 rintro (⟨xs, e⟩ | ⟨o1, o2, e⟩) <;> cases e
theorem GI {H : Hp} {p ls C dx : Addr} {fs : List (Str × V)} {xs : List V} (h : H p = some (.ins C dx fs)) (g : H ls = some (.lst xs)) : p ≠ ls := by rintro rfl; rw [h] at g; cases g
theorem un {H : Hp} {p b : Addr} {o : HO} (h : upd H p o b = none) : b ≠ p ∧ H b = none := by
 have hb : b ≠ p := by rintro rfl; rw [AB] at h; cases h
 rw [AH hb] at h
 exact ⟨hb, h⟩
theorem But.free {l : List Addr} {H G : Hp} {b : Addr} (bt : But l H G) (hl : ∀ c ∈ l, ∃ o, G c = some o) (h : G b = none) : H b = none := by
 cases e : H b with
 | none => rfl
 | some o =>
  by_cases m : b ∈ l
  ·obtain ⟨o, z⟩ := hl b m; rw [h] at z; cases z
  ·have := bt b o e m; rw [h] at this; cases this
theorem But.refl (l : List Addr) (H : Hp) : But l H H := fun _ _ e _ => e
theorem AK {H : Hp} {p b : Addr} {o : HO} (h : H p = some o) (g : H b = none) : p ≠ b := by rintro rfl; rw [h] at g; cases g
theorem NR {X : Cx} : EI X (.type "tuple") (fun xs H Q => ∃ p ys, xs = [.ref p] ∧ SqL X.K H p ys ∧ ∀ l, H l = none → Q (.ref l) (upd H l (.tup ys))) := by
 intro pins s σ H xs us Q I r h
 obtain ⟨p, ys, e, hq, q⟩ := h
 exact PF pins s σ H xs us Q I r ⟨p, ys, e, .inl ⟨hq, q⟩⟩
section
variable {X : Cx}
end
section
variable {X : Cx} {st : Stmt} {DQ : List Stmt} {t u : TS}
def pJ {α : Sort u} (a : α) : α := a
def gJ (a b : TS) : TS := fun D σ H => a { D with nx := pJ (b D) } σ H
theorem DI (h1 : PS X st t) (h2 : PSs X DQ u) : PSs X (st :: DQ) (gJ t u) := AD h1 h2
theorem jH {R : St → Hp → Prop} {σ : St} {H : Hp} (h : R σ H) : pJ R σ H := h
end
def DX (x : V) (P : Addr → Prop) : Prop := match x with | .ref a => P a | _ => False
def GJ (x : V) (P : Int → Prop) : Prop := match x with | .int a => P a | _ => False
def oBl (x : V) (P : Bool → Prop) : Prop := match x with | .bl a => P a | _ => False
def QY (σ : St) (i : Nat) (P : V → Prop) : Prop := match σ[i]? with | some (some v) => P v | _ => False
def o1 (vs : List V) (P : V → Prop) : Prop := match vs with | [x] => P x | _ => False
def o2 (vs : List V) (P : V → V → Prop) : Prop := match vs with | [x, y] => P x y | _ => False
def o0 (vs : List V) (P : Prop) : Prop := match vs with | [] => P | _ => False
def oC (vs : List V) (P : V → List V → Prop) : Prop := match vs with | x :: r => P x r | _ => False
theorem DX.ex {x : V} {P : Addr → Prop} (h : DX x P) : ∃ a, x = .ref a ∧ P a := by cases x <;> first | exact ⟨_, rfl, h⟩ | exact h.elim
theorem GJ.ex {x : V} {P : Int → Prop} (h : GJ x P) : ∃ a, x = .int a ∧ P a := by cases x <;> first | exact ⟨_, rfl, h⟩ | exact h.elim
theorem oBl.ex {x : V} {P : Bool → Prop} (h : oBl x P) : ∃ a, x = .bl a ∧ P a := by cases x <;> first | exact ⟨_, rfl, h⟩ | exact h.elim
theorem QY.ex {σ : St} {i : Nat} {P : V → Prop} (h : QY σ i P) : ∃ v, σ[i]? = some (some v) ∧ P v := by
 unfold QY at h
 split at h
 ·exact ⟨_, ‹_›, h⟩
 ·exact h.elim
theorem o1.ex {vs : List V} {P : V → Prop} (h : o1 vs P) : ∃ x, vs = [x] ∧ P x := match vs, h with | [x], h => ⟨x, rfl, h⟩
theorem o2.ex {vs : List V} {P : V → V → Prop} (h : o2 vs P) : ∃ x y, vs = [x, y] ∧ P x y := match vs, h with | [x, y], h => ⟨x, y, rfl, h⟩
theorem o0.ex {vs : List V} {P : Prop} (h : o0 vs P) : vs = [] ∧ P := match vs, h with | [], h => ⟨rfl, h⟩
theorem oC.ex {vs : List V} {P : V → List V → Prop} (h : oC vs P) : ∃ x r, vs = x :: r ∧ P x r := match vs, h with | x :: r, h => ⟨x, r, rfl, h⟩
def oG (t : TE) : TE := fun σ H Q => ∃ Q', t σ H Q' ∧ ∀ v H', Q' v H' → Q v H'
def pK (r : R2) : R2 := fun x y H Q => ∃ Q', r x y H Q' ∧ ∀ v H', Q' v H' → Q v H'
section
variable {X : Cx} {a b c o e value tg : Expr} {es : List Expr} {ta tb tc tv te : TE} {pos pos' apos tpos p : Pos} {f x : Str}
theorem PE.mono {t : TE} (h : PE X e t) : PE X e (oG t) := fun pins s σ H Q I ⟨Q', q, m⟩ => thn (h pins s σ H Q' I q) fun _ _ ⟨v, H', I', r, z⟩ => ⟨v, H', I', r, m _ _ z⟩
theorem OpR.mono {f : Value → Value → Sem Value} {r : R2} (h : OpR X f r) : OpR X f (pK r) := fun pins s σ H x y v u Q I r1 r2 ⟨Q', q, m⟩ => thn (h pins s σ H x y v u Q' I r1 r2 q) fun _ _ ⟨v, H', I', r, z⟩ => ⟨v, H', I', r, m _ _ z⟩
theorem OpR.imp {f : Value → Value → Sem Value} {r r' : R2} (h : OpR X f r) (i : ∀ x y H Q, r' x y H Q → r x y H Q) : OpR X f r' := fun pins s σ H x y v u Q I r1 r2 q => h pins s σ H x y v u Q I r1 r2 (i _ _ _ _ q)
theorem UnR.imp {f : Value → Sem Value} {r r' : V → Hp → VK → Prop} (h : UnR X f r) (i : ∀ x H Q, r' x H Q → r x H Q) : UnR X f r' := fun pins s σ H x v Q I r1 q => h pins s σ H x v Q I r1 (i _ _ _ q)
theorem IxR.imp {r r' : R2} (h : IxR X r) (i : ∀ x y H Q, r' x y H Q → r x y H Q) : IxR X r' := fun value slice pins s σ H x y v u Q I r1 r2 q => h value slice pins s σ H x y v u Q I r1 r2 (i _ _ _ _ q)
theorem PT.imp {t t' : TT} (h : PT X e t) (i : ∀ σ H Q, t' σ H Q → t σ H Q) : PT X e t' := fun pins s σ H Q I q => h pins s σ H Q I (i _ _ _ q)
theorem PG.imp {t t' : TG} (h : PG X e t) (i : ∀ v σ H Q, t' v σ H Q → t v σ H Q) : PG X e t' := fun pins s σ H v u Q I r q => h pins s σ H v u Q I r (i _ _ _ _ q)
theorem PGs.imp {t t' : TGs} (h : PGs X es t) (i : ∀ v σ H Q, t' v σ H Q → t v σ H Q) : PGs X es t' := fun pins s σ H v u Q I r q => h pins s σ H v u Q I r (i _ _ _ _ q)
theorem PS.imp {st : Stmt} {t t' : TS} (h : PS X st t) (i : ∀ D σ H, t' D σ H → t D σ H) : PS X st t' := fun pins s σ H D I q => h pins s σ H D I (i _ _ _ q)
theorem EI.imp {g : Value} {r r' : List V → Hp → VK → Prop} (h : EI X g r) (i : ∀ xs H Q, r' xs H Q → r xs H Q) : EI X g r' := fun pins s σ H xs us Q I r1 q => h pins s σ H xs us Q I r1 (i _ _ _ q)
theorem MtM.imp {id : String} {r r' : V → List V → Hp → VK → Prop} (h : MtM X id r) (i : ∀ x xs H Q, r' x xs H Q → r x xs H Q) : MtM X id r' := fun pins s σ H x xs v us Q I r1 r2 q => h pins s σ H x xs v us Q I r1 r2 (i _ _ _ _ q)
theorem PI.imp {iter : Expr} {t t' : TI} (h : PI X tg iter t) (i : ∀ σ H R, t' σ H R → t σ H R) : PI X tg iter t' := fun pins s σ H R I q => h pins s σ H R I (i _ _ _ q)
theorem nJ.imp {t t' : pC} (h : nJ X t) (i : ∀ o i v H Q, t' o i v H Q → t o i v H Q) : nJ X t' := fun pins s σ H o i' v ov iv u Q I r1 r2 r3 q => h pins s σ H o i' v ov iv u Q I r1 r2 r3 (i _ _ _ _ _ q)
theorem SlR.imp {r r' : V → Option Int → Option Int → Hp → VK → Prop} (h : SlR X r) (i : ∀ x l u H Q, r' x l u H Q → r x l u H Q) : SlR X r' := fun pins s σ H x v vl vu lo hi sl Q I r1 r2 r3 r4 q => h pins s σ H x v vl vu lo hi sl Q I r1 r2 r3 r4 (i _ _ _ _ _ q)
def UJ (i : Nat) : TE := fun σ H Q => QY σ i fun v => Q v H
theorem pvD (i : Nat) {x : Str} {pos : Pos} (hN : X.N[i]? = some x := by rfl) (hv : Vis X.env.scope x := by first | exact Or.inl rfl | exact Or.inr (Or.inl rfl) | exact Or.inr (Or.inr rfl)) (hd : (x == ("__debug__" : Str)) = false := by decide)
  (hcd : (x == ("__classdict__" : Str)) = false := by decide) : PE X (.Name x pos) (UJ i) := (pv i hN hv hd hcd).imp fun _ _ _ h => QY.ex h
def tBD (t : TE) : TT := fun σ H Q => t σ H fun x H1 => oBl x fun c => Q c H1
theorem DZ {e : Expr} {t : TE} (h : PE X e t) (he : ∀ whole, isTrue e X.env whole = (do let v ← whole; standAt e.pos; holding [v] (truthy v)) := by intro _; rfl) : PT X e (tBD t) :=
 (lS h.mono he).imp fun _ _ _ q => ⟨_, q, fun _ _ z => z.ex⟩
theorem AZ {op : CmpOp} {r : R2} (ho : OpR X (compareOp op) r) (ha : PE X a ta) (hb : PE X b tb) (hm : behindInMarks op b = false) : PT X (.Compare a [op] [b] pos) (tBD (tOp r ta tb)) :=
 (iT ho.mono ha.mono hb.mono hm).imp fun _ _ _ q => ⟨_, q, fun _ _ q => ⟨_, q, fun _ _ q => ⟨_, q, fun _ _ z => z.ex⟩⟩⟩
def MQ (ta tb : TE) : TE := fun σ H Q => ta σ H fun x H1 => oBl x fun c => if c = true then tb σ H1 Q else Q (.bl false) H1
theorem RQ {DQ : List Expr} (ha : PE X a ta) (hb : PE X (.BoolOp .And (b :: DQ) pos) tb) : PE X (.BoolOp .And (a :: b :: DQ) pos) (MQ ta tb) :=
 (mP ha.mono hb).imp fun _ _ _ q => ⟨_, q, fun _ _ z => z.ex⟩
def UX (K : PySem.W.Frag) (ta : TE) (f : Str) : TE := fun σ H Q => ta σ H fun x H1 => DX x fun a => ∃ C dx fs, H1 a = some (.ins C dx fs) ∧ Cls K C ∧ BY K C f ∧ ∃ v, fs.lookup f = some v ∧ Q v H1
theorem AS (he : PE X e ta) (hb : attributeBase e f X.env (eval e X.env) = eval e X.env) : PE X (.Attribute e f pos) (UX X.K ta f) :=
 (lV he.mono hb).imp fun _ _ _ q => ⟨_, q, fun _ _ z => by obtain ⟨a, rfl, C, dx, fs, h1, h2, h3, v, h4, h5⟩ := z.ex; exact ⟨a, C, dx, fs, v, rfl, h1, h2, h3, h4, h5⟩⟩
def SW (K : PySem.W.Frag) (ta tv : TE) (f : Str) : TS := fun D σ H => tv σ H fun y H1 => ta σ H1 fun x H2 => DX x fun a => ∃ C dx fs, H2 a = some (.ins C dx fs) ∧ Cls K C ∧ BY K C f ∧ fs.length < 1000 ∧
 D.nx σ (upd H2 a (.ins C dx (BE f y fs)))
theorem BP (ha : PE X o ta) (hv : PE X value tv) (hs : swapsWith value (some (.Attribute o f pos')) pos.line X.env = pure false) : PS X (.Assign [.Attribute o f pos'] value pos) (SW X.K ta tv f) :=
 (lW ha.mono hv.mono hs).imp fun _ _ _ q => ⟨_, q, fun _ _ q => ⟨_, q, fun _ _ z => by obtain ⟨a, rfl, C, dx, fs, h⟩ := z.ex; exact ⟨a, C, dx, fs, rfl, h⟩⟩⟩
def IJ (K : PySem.W.Frag) (ta tv : TE) (rd : V → V → Hp → VK → Prop) (f : Str) : TS := fun D σ H => ta σ H fun x H1 => DX x fun a => ∃ C dx fs, H1 a = some (.ins C dx fs) ∧ Cls K C ∧ BY K C f ∧ ∃ v, fs.lookup f = some v ∧
 tv σ H1 fun y H2 => rd v y H2 fun z H3 => ∃ dx' fs', H3 a = some (.ins C dx' fs') ∧ fs'.length < 1000 ∧ D.nx σ (upd H3 a (.ins C dx' (BE f z fs')))
theorem JX {op : Operator} {rd : V → V → Hp → VK → Prop} (ha : PE X o ta) (hv : PE X value tv) (hop : nI X op rd) : PS X (.AugAssign (.Attribute o f tpos) op value pos) (IJ X.K ta tv rd f) :=
 (ZM ha.mono hv hop).imp fun _ _ _ q => ⟨_, q, fun _ _ z => by obtain ⟨a, rfl, C, dx, fs, h1, h2, h3, v, h4, h5⟩ := z.ex; exact ⟨a, C, dx, fs, v, rfl, h1, h2, h3, h4, h5⟩⟩
def rID (C : Int → Int → Prop) (g : Int → Int → V) : R2 := fun x y H Q => GJ x fun i => GJ y fun j => C i j ∧ Q (g i j) H
def OL (g : Int → Int → V) : R2 := fun x y H Q => GJ x fun i => GJ y fun j => Q (g i j) H
def rUD (g : Int → V) : V → Hp → VK → Prop := fun x H Q => GJ x fun i => Q (g i) H
theorem OpR.iD {f : Value → Value → Sem Value} {C g} (h : OpR X f (rI C g)) : OpR X f (rID C g) := h.imp fun _ _ _ _ z => by
 obtain ⟨i, rfl, z1⟩ := z.ex; obtain ⟨j, rfl, z2⟩ := z1.ex; exact ⟨i, j, rfl, rfl, z2⟩
theorem OpR.i0D {f : Value → Value → Sem Value} {g} (h : OpR X f (rI0 g)) : OpR X f (OL g) := h.imp fun _ _ _ _ z => by
 obtain ⟨i, rfl, z1⟩ := z.ex; obtain ⟨j, rfl, z2⟩ := z1.ex; exact ⟨i, j, rfl, rfl, z2⟩
theorem BV : OpR X (binaryOp .Add) (OL fun i j => .int (i + j)) := nS.i0D
theorem HH : OpR X (binaryOp .Sub) (OL fun i j => .int (i - j)) := nR.i0D
theorem CC : OpR X (binaryOp .Mult) (rID (fun i j => IntMulOk i j) fun i j => .int (i * j)) := iQ.iD
theorem IX : OpR X (binaryOp .FloorDiv) (rID (fun _ j => 0 < j ∧ j < 2 ^ 100) fun i j => .int (i / j)) := fA.iD
theorem CB : OpR X (binaryOp .Mod) (rID (fun _ j => 0 < j) fun i j => .int (i % j)) := nB.iD
theorem HS : OpR X (binaryOp .Pow) (rID oK fun i j => .int (i ^ j.toNat)) := mF.iD
theorem cI : OpR X (compareOp .Lt) (OL fun i j => .bl (decide (i < j))) := nZ.i0D
theorem OB : OpR X (compareOp .LtE) (OL fun i j => .bl (decide (i ≤ j))) := oF.i0D
theorem JS : OpR X (compareOp .Gt) (OL fun i j => .bl (decide (j < i))) := pY.i0D
theorem mZ : OpR X (compareOp .GtE) (OL fun i j => .bl (decide (j ≤ i))) := oB.i0D
theorem MG : UnR X (unaryOp .USub) (rUD fun i => .int (-i)) := lF.imp fun _ _ _ z => z.ex
def KQ (x y : V) (P : Bool → Prop) : Prop := match x with
 | .int i => (match y with | .int j => P (decide (i = j)) | .str _ => P false | .non => P false | _ => False)
 | .str i => (match y with | .str j => P (decide (i = j)) | .int _ => P false | .non => P false | _ => False)
 | .bl i => (match y with | .bl j => P (decide (i = j)) | .str _ => P false | .non => P false | _ => False)
 | .non => (match y with | .non => P true | .int _ => P false | .bl _ => P false | .str _ => P false | _ => False)
 | _ => False
theorem KQ.ex {x y : V} {P : Bool → Prop} (h : KQ x y P) : mS x y = true ∧ P (decide (x = y)) := by
 cases x <;> cases y <;> first | exact h.elim | exact ⟨rfl, by simpa [KQ] using h⟩
def gT : R2 := fun x y H Q => KQ x y fun k => Q (.bl k) H
def fW : R2 := fun x y H Q => KQ x y fun k => Q (.bl (!k)) H
theorem CZ : OpR X (compareOp .Eq) gT := oN.imp fun _ _ _ _ z => z.ex
theorem JT : OpR X (compareOp .NotEq) fW := pN.imp fun _ _ _ _ z => z.ex
def PR (K : PySem.W.Frag) : R2 := fun x y H Q => DX x fun p => GJ y fun i => ∃ xs, SqL K H p xs ∧ ∃ v, atI xs i = some v ∧ Q v H
def PK (K : PySem.W.Frag) : R2 := fun x y H Q => DX x fun p => GJ y fun i => ∃ xs, SqT K H p xs ∧ ∃ v, atI xs i = some v ∧ Q v H
theorem CO : IxR X (PR X.K) := jW.imp fun _ _ _ _ z => by
 obtain ⟨p, rfl, z1⟩ := z.ex; obtain ⟨j, rfl, xs, h1, v, h2, h3⟩ := z1.ex; exact ⟨p, xs, j, v, rfl, rfl, h1, h2, h3⟩
theorem BA : IxR X (PK X.K) := lE.imp fun _ _ _ _ z => by
 obtain ⟨p, rfl, z1⟩ := z.ex; obtain ⟨j, rfl, xs, h1, v, h2, h3⟩ := z1.ex; exact ⟨p, xs, j, v, rfl, rfl, h1, h2, h3⟩
def TC : TGs := fun vs σ H Q => o0 vs (Q σ H)
def NJ (t : TG) (u : TGs) : TGs := fun vs σ H Q => oC vs fun v r => t v σ H fun σ' H' => u r σ' H' Q
def QB (K : PySem.W.Frag) (n : Nat) (t : TGs) : TG := fun v σ H Q => DX v fun a => ∃ xs, SqT K H a xs ∧ xs.length = n ∧ t xs σ H Q
theorem DG : PGs X [] TC := kD.imp fun _ _ _ _ z => z.ex
theorem AU {e : Expr} {es : List Expr} {t : TG} {u : TGs} (h1 : PG X e t) (h2 : PGs X es u)
  (hs : (assignEach (e :: es) X.env).map (·.2) = assign e X.env :: (assignEach es X.env).map (·.2) := by rfl) : PGs X (e :: es) (NJ t u) := (dU h1 h2 hs).imp fun _ _ _ _ z => z.ex
theorem EA {es : List Expr} {k : Nat} {t : TGs} {n : Nat} (hc : X.calm = true) (h : PGs X es t)
  (hn : (assignEach es X.env).length = n := by rfl) (hst : (assignEach es X.env).findIdx? (·.1) = none := by rfl) : PG X (.Tuple es k pos) (QB X.K n t) :=
 (lZ hc h hn hst).imp fun _ _ _ _ z => by obtain ⟨a, rfl, xs, z⟩ := z.ex; exact ⟨a, xs, rfl, z⟩
def OO (K : PySem.W.Frag) (tl : TE) : TI := fun σ H R => tl σ H fun x H1 => DX x fun a => (∃ xs, SqL K H1 a xs) ∧ R (Itl K a) H1
def UT (K : PySem.W.Frag) (tl : TE) : TI := fun σ H R => tl σ H fun x H1 => DX x fun a => (∃ xs, SqT K H1 a xs) ∧ R (Itt K a) H1
theorem KS {l : Expr} {tl : TE} (hl : PE X l tl) : PI X tg l (OO X.K tl) := (iW hl.mono).imp fun _ _ _ q => ⟨_, q, fun _ _ z => z.ex⟩
theorem SE {l : Expr} {tl : TE} (hl : PE X l tl) : PI X tg l (UT X.K tl) := (mT hl.mono).imp fun _ _ _ q => ⟨_, q, fun _ _ z => z.ex⟩
def eQ : List V → Hp → VK → Prop := fun xs H Q => o2 xs fun x y => GJ x fun i => GJ y fun j => Q (.int (if j > i then j else i)) H
def eL : List V → Hp → VK → Prop := fun xs H Q => o2 xs fun x y => GJ x fun i => GJ y fun j => Q (.int (if j < i then j else i)) H
def fZ (K : PySem.W.Frag) : List V → Hp → VK → Prop := fun xs H Q => o1 xs fun x => DX x fun p => ∃ ys, (SqL K H p ys ∨ SqT K H p ys) ∧ Q (.int ys.length) H
def UQ (K : PySem.W.Frag) : List V → Hp → VK → Prop := fun xs H Q => o1 xs fun x => DX x fun p => ∃ ys, SqL K H p ys ∧ ∀ l, H l = none → Q (.ref l) (upd H l (.tup ys))
theorem VW (hc : X.calm = true) : EI X (.builtin "max") eQ := (YS hc).imp fun _ _ _ z => by
 obtain ⟨x, y, rfl, z1⟩ := z.ex; obtain ⟨i, rfl, z2⟩ := z1.ex; obtain ⟨j, rfl, z3⟩ := z2.ex; exact ⟨i, j, rfl, z3⟩
theorem WP (hc : X.calm = true) : EI X (.builtin "min") eL := (ZE hc).imp fun _ _ _ z => by
 obtain ⟨x, y, rfl, z1⟩ := z.ex; obtain ⟨i, rfl, z2⟩ := z1.ex; obtain ⟨j, rfl, z3⟩ := z2.ex; exact ⟨i, j, rfl, z3⟩
theorem CK : EI X (.builtin "len") (fZ X.K) := RM.imp fun _ _ _ z => by
 obtain ⟨x, rfl, z1⟩ := z.ex; obtain ⟨p, rfl, ys, z2⟩ := z1.ex; exact ⟨p, ys, rfl, z2⟩
theorem HU : EI X (.type "tuple") (UQ X.K) := NR.imp fun _ _ _ z => by
 obtain ⟨x, rfl, z1⟩ := z.ex; obtain ⟨p, rfl, ys, z2⟩ := z1.ex; exact ⟨p, ys, rfl, z2⟩
def cN (K : PySem.W.Frag) (c : Value) : List V → Hp → VK → Prop := fun xs H Q => o2 xs fun x y => AY y c ∧ (∃ n, c = .type n) ∧ ∃ ty, (JW K H x ty ∨ ∃ p, x = .ref p ∧ (∃ ys, SqT K H p ys) ∧ ty = .type "tuple") ∧ ∃ b, PySem.W.kitOne K ty c = some b ∧ Q (.bl b) H
theorem WL {c : Value} : EI X (.builtin "isinstance") (cN X.K c) := ZR.imp fun _ _ _ z => by
 obtain ⟨x, y, rfl, h1, h2, ty, h3, h4⟩ := z.ex
 exact ⟨x, y, rfl, h1, h2, ty, h3.imp id fun ⟨p, e, ⟨ys, h⟩, h'⟩ => ⟨p, ys, e, h, h'⟩, h4⟩
def IB : V → List V → Hp → VK → Prop := fun x vs H Q => DX x fun l => o1 vs fun y => ∃ xs, H l = some (.lst xs) ∧ xs.length < sizeLine ∧ Q .non (upd H l (.lst (xs ++ [y])))
theorem DT : MtM X "list.append" IB := LM.imp fun _ _ _ _ z => by
 obtain ⟨l, rfl, z1⟩ := z.ex; obtain ⟨y, rfl, xs, z2⟩ := z1.ex; exact ⟨l, xs, y, rfl, rfl, z2⟩
end
section
variable {X : Cx} {pins : List (Addr × Obj)} {σ : St} {H : Hp} {s : Shared}
end
section
variable {prog : Program} {w : World} {A : Around} {s : Shared} {E : Value → Shared → Prop} {R : Result → Shared → Prop} {I l : Addr} {items : Array Value}
end
section
variable {X : Cx} {e : Expr} {te : TE} {p p' pos pos' : Pos}
end
section
variable {X : Cx} {K : PySem.W.Frag} {pos : Pos}
theorem iF {es : List Expr} {k : Nat} {t : TGs} {n : Nat} (hK : X.K = K) (hc : X.calm = true) (h : PGs X es t)
  (hn : (assignEach es X.env).length = n := by rfl) (hst : (assignEach es X.env).findIdx? (·.1) = none := by rfl) : PG X (.Tuple es k pos) (QB K n t) := hK ▸ EA hc h hn hst
theorem SQ (hK : X.K = K) : IxR X (PK K) := hK ▸ BA
theorem ZJ (hK : X.K = K) : IxR X (PR K) := hK ▸ CO
end
theorem PO.imp {X : Cx} {e : Option Expr} {t t' : TO} (h : PO X e t) (i : ∀ σ H Q, t' σ H Q → t σ H Q) : PO X e t' := fun pins s σ H Q I q => h pins s σ H Q I (i _ _ _ q)
def US : R2 := fun x y H Q => DX x fun l => DX y fun b => ∃ xs, H l = some (.lst xs) ∧ ∃ zs, H b = some (.lst zs) ∧ xs.length + zs.length ≤ sizeLine ∧ ∀ p, H p = none → Q (.ref p) (upd H p (.lst (xs ++ zs)))
theorem RF {X : Cx} : OpR X (binaryOp .Add) US := lN.imp fun _ _ _ _ z => by
 obtain ⟨l, rfl, z1⟩ := z.ex; obtain ⟨b, rfl, xs, h1, zs, h2, h3⟩ := z1.ex; exact ⟨l, b, xs, zs, rfl, rfl, h1, h2, h3⟩
section
variable {X : Cx}
end
section
variable {X : Cx} {pins : List (Addr × Obj)} {σ : St} {H : Hp} {s : Shared} {h' : Heap} {fp : List Addr} {t' : Nat}
end
theorem aR {n a b : Nat} (la : a < n) (lb : b < n) : ZipApart (n + 4) (n + 2) (n + 3) n (n + 1) a b := by
 constructor <;> (intro e; have e' : @Eq Nat _ _ := e; clear e; omega)
section
variable {X : Cx} {elts : List Expr} {tx : Nat} {tp p pos : Pos}
end
section
variable {X : Cx} {pins : List (Addr × Obj)} {σ : St} {H : Hp} {s : Shared}
theorem AO.get' : ∀ {vs : List V} {its : List Value} {j : Nat} {u : Value}, AO vs its → its[j]? = some u → ∃ v, vs[j]? = some v ∧ AY v u
 | _, _, j, u, .nil, h => by simp at h
 | _, _, 0, u, .cons r t, h => ⟨_, rfl, by simp at h; exact h ▸ r⟩
 | _, _, j + 1, u, .cons r t, h => by simpa using AO.get' t (by simpa using h)
def pP (x : V) (P : Prop) : Prop := match x with | .non => P | _ => False
theorem pP.ex {x : V} {P : Prop} (h : pP x P) : x = .non ∧ P := by cases x <;> first | exact ⟨rfl, h⟩ | exact h.elim
end
section
variable {X : Cx} {a b : Expr} {ta : TA} {p p' pos pos' : Pos}
end
section
variable {X : Cx}
end
theorem BN {K : PySem.W.Frag} {H : Hp} {ds : List D} {x : V} : Rp K H (.tup ds) x ↔ ∃ p xs, x = .ref p ∧ SqT K H p xs ∧ RpL K H ds xs := by rw [Rp]
section
variable {X : Cx}
theorem cQ {prog : Program} {w : World} {A : Around} {E : Value → Shared → Prop} {s : Shared} {t b : Addr} {ws : List Value} {Q : Value → Shared → Prop} (ht : IsTup s.heap t #[]) (hb : IsTup s.heap b ws.toArray) (h : Q (.ref b) s) :
  wpAny (model prog w) A (binaryOp .Add (.ref t) (.ref b)) Q E s := by
 obtain ⟨⟨cls, dd, data, sl⟩, ho, hc, n, hd⟩ := id ht
 obtain ⟨⟨cls2, dd2, data2, sl2⟩, ho2, hc2, n2, hd2⟩ := id hb
 simp only at hc hd hc2 hd2
 subst hc hd hc2 hd2
 exact concat_meets ⟨_, ho, rfl⟩ ⟨_, ho2, rfl⟩ noFill_tuple_add seq_tuple_add PySem.F.slot_tuple_add PySem.F.entry_tuple_add (PySem.F.args_tuple_add_2 _ _)
  (tuple_addW0 t b #[] ws.toArray n n2 dd dd2 sl sl2 (by simp)) ⟨ho, ho2, h⟩
def OU (K : PySem.W.Frag) : R2 := fun x y H Q => ∃ ds es, Rp K H (.tup ds) x ∧ Rp K H (.tup es) y ∧ ds.length + es.length ≤ sizeLine ∧ ∀ v H', AI H H' → Rp K H' (.tup (ds ++ es)) v → Q v H'
theorem FS : OpR X (binaryOp .Add) (OU X.K) := by
 intro pins s σ H x y v u Q I rx ry h
 obtain ⟨ds, es, hx, hy, hz, q⟩ := h
 obtain ⟨a, xs, rfl, ha, la⟩ := BN.mp hx
 obtain ⟨b, ys, rfl, hb, lb⟩ := BN.mp hy
 by_cases h0 : xs = []
 ·subst h0
  have e : ds = [] := by have := la.length; simp at this; exact List.length_eq_zero_iff.mp this.symm
  subst e
  cases rx
  cases ry
  obtain ⟨its, r1, p1, _⟩ := I.tuple ha
  obtain ⟨its2, r2, p2, _⟩ := I.tuple hb
  cases r1
  exact cQ p1 p2 ⟨.ref b, H, I, rfl, q _ _ (AI.refl _) hy⟩
 ·refine jN pins s σ H _ _ v u Q I rx ry ⟨a, b, xs, ys, rfl, rfl, ha, hb, h0, by rw [la.length, lb.length]; exact hz, fun e => ?_, fun _ p hp => ?_⟩
  ·subst e
   have e : es = [] := by have := lb.length; simp at this; exact List.length_eq_zero_iff.mp this.symm
   subst e
   exact q _ _ (AI.refl _) (by rw [List.append_nil]; exact hx)
  ·exact q _ _ (AI.upd hp) (BN.mpr ⟨p, _, rfl, SqT.of AB, (la.app lb).same (AI.upd hp)⟩)
theorem GZ (a : Int) (t : Tok) (l : Addr) (items : Array Value) (n : Nat) (dd : Option Addr) (sl : Array (Option Value)) :
  Meets (Builtin.«int.__rmul__» { pos := [.int a t, .ref l] }) fun x R s => s.heap.get? l = some { cls := .type "tuple", dict := dd, data := .seq items n, slots := sl } ∧ R (.ok (.ret .notImplemented)) s := by
 intro prog w A R s ⟨e, h⟩
 unfold Builtin.«int.__rmul__» Builtin.Int.intBinary
 refine wpAny_bind ?_
 rw [show slotArgs "__rmul__" 1 { pos := [.int a t, .ref l] } = pure (.int a t, [.ref l]) from rfl]
 refine wpAny_pure ?_
 dsimp only
 refine wpAny_bind ?_
 rw [show Builtin.Int.intOfSelf (.int a t) = pure a from rfl]
 refine wpAny_pure ?_
 refine wpAny_bind ?_
 show wpAny _ _ (load l >>= _) _ _ _
 refine wpAny_bind (wpAny_load e ?_)
 dsimp only
 refine wpAny_pure ?_
 refine wpAny_bind (wpAny_rule ?_)
 exact wpAny_pure h
theorem EX : fillsNumberSlot (.type "tuple") "mul" = pure false := by first | rfl | decide | (unfold fillsNumberSlot; kernel_rfl)
theorem GX : seqRepeat? (.type "tuple") = pure (some (.builtin "tuple.__mul__")) := by first | rfl | (unfold seqRepeat?; kernel_rfl)
theorem jT {l : Addr} {items : Array Value} {n : Nat} {dd : Option Addr} {sl : Array (Option Value)} {k : Int} {t : Tok} (h0 : 2 ≤ k) (h1 : k < 2 ^ 62) (hz : items.size * k.toNat ≤ sizeLine) (hne : items.isEmpty = false) :
  Meets (Builtin.«tuple.__mul__» { pos := [.ref l, .int k t] }) fun x R s => s.heap.get? l = some { cls := .type "tuple", dict := dd, data := .seq items n, slots := sl } ∧
   R (.ok (.ret (.ref s.heap.objs.size))) { s with heap := s.heap.push { cls := .type "tuple", data := .seq (List.foldl (fun x1 x2 => x1 ++ x2) #[] (List.replicate k.toNat items)) } } := by
 intro prog w A R s ⟨e, h⟩
 show wpAny _ _ (asIndex (.int k t) >>= _) _ _ s
 refine wpAny_bind ?_
 rw [show asIndex (.int k t) = pure k from rfl]
 refine wpAny_pure ?_
 dsimp only
 rw [if_neg (by simp; omega)]
 refine wpAny_bind (wpAny_tupleItemsOf e rfl ?_)
 try dsimp only
 rw [if_neg (by simp [hne]; omega), if_neg (by simp [hne]; omega)]
 have hk : k = (k.toNat : Int) := by omega
 have hm : (items.size : Int) * k ≤ sizeLine := by rw [hk, ← Int.natCast_mul]; exact Int.ofNat_le.mpr hz
 rw [sizeLine_eq] at hm
 rw [if_neg (by omega), if_neg (by unfold Builtin.Tuple.tupleTooMany; rw [sizeLine_eq]; simp; omega)]
 have hsz : (List.foldl (fun x1 x2 => x1 ++ x2) #[] (List.replicate k.toNat items)).size ≤ sizeLine := by
  have f0 := LH items.toList k.toNat []
  rw [List.nil_append] at f0
  rw [show items = items.toList.toArray by simp, f0, List.size_toArray, YI, Nat.mul_comm]
  simpa using hz
 exact wpAny_bind (m := Builtin.Tuple.tupleExact _) (wpAny_newObj_type (wpAny_pure h) hsz)
theorem bM {l : Addr} {items : Array Value} {n : Nat} {dd : Option Addr} {sl : Array (Option Value)} {k : Int} {t : Tok} (h0 : -(2 ^ 62) ≤ k) (h1 : k < 2 ^ 62) (hne : items.isEmpty = true) :
  Meets (Builtin.«tuple.__mul__» { pos := [.ref l, .int k t] }) fun x R s => s.heap.get? l = some { cls := .type "tuple", dict := dd, data := .seq items n, slots := sl } ∧ R (.ok (.ret (.ref l))) s := by
 intro prog w A R s ⟨e, h⟩
 show wpAny _ _ (asIndex (.int k t) >>= _) _ _ s
 refine wpAny_bind ?_
 rw [show asIndex (.int k t) = pure k from rfl]
 refine wpAny_pure ?_
 dsimp only
 rw [if_neg (by simp; omega)]
 refine wpAny_bind (wpAny_tupleItemsOf e rfl ?_)
 try dsimp only
 rw [if_pos (by simp [hne])]
 unfold Builtin.Tuple.tupleIsExact
 refine wpAny_bind (wpAny_bind (wpAny_typeOf (show s.TypeIs (.ref l) "tuple" from ⟨_, e, rfl⟩) (wpAny_pure ?_)))
 rw [if_pos (by decide)]
 refine wpAny_bind (wpAny_rule ?_)
 exact wpAny_pure h
def OI (K : PySem.W.Frag) : R2 := fun x y H Q => GJ y fun k => ∃ ds, Rp K H (.tup ds) x ∧ 2 ≤ k ∧ k < 2 ^ 62 ∧ ds.length * k.toNat ≤ sizeLine ∧ ∀ v H', AI H H' → Rp K H' (.tup (List.replicate k.toNat ds).flatten) v → Q v H'
theorem XX {K : PySem.W.Frag} {H : Hp} {ds : List D} {xs : List V} (h : RpL K H ds xs) : ∀ n : Nat, RpL K H (List.replicate n ds).flatten (List.replicate n xs).flatten
 | 0 => RpL.nil
 | n + 1 => by rw [List.replicate_succ, List.replicate_succ, List.flatten_cons, List.flatten_cons]; exact h.app (XX h n)
theorem cY : OpR X (binaryOp .Mult) (OI X.K) := by
 intro pins s σ H x y v u Q I rx ry h
 obtain ⟨k, rfl, ds, hx, h0, h1, hz, q⟩ := GJ.ex h
 obtain ⟨a, xs, rfl, ha, la⟩ := BN.mp hx
 cases rx
 obtain ⟨t, rfl⟩ := ry
 obtain ⟨its, r1, p1, _⟩ := I.tuple ha
 obtain ⟨⟨cls, dd, data, sl⟩, e, hc, n, hd⟩ := id p1
 simp only at hc hd
 subst hc hd
 have l1 : its.length = ds.length := by rw [← r1.length, la.length]
 by_cases hne : ds = []
 ·subst hne
  have e0 : its = [] := List.length_eq_zero_iff.mp l1
  subst e0
  have ef : (List.replicate k.toNat ([] : List D)).flatten = [] := by simp
  rw [ef] at q
  exact wpAny_binaryOp_repeat_ref (T := "tuple") (U := "int") (by decide) ⟨_, e, rfl⟩ (fun s' => typeIs_int s' k t) EX F.fills_int_mul F.slot_int_rmul GX F.slot_int_index.lookup
   (call_meets F.slot_int_rmul (typeIs_int s k t) F.entry_int_rmul (F.args_int_rmul_2 _ _) (GZ k t a _ n dd sl)
    ⟨e, rfl, ⟨_, e, rfl⟩, call_meets F.slot_tuple_mul ⟨_, e, rfl⟩ F.entry_tuple_mul (F.args_tuple_mul_2 _ _) (bM (by omega) h1 rfl) ⟨e, ⟨.ref a, H, I, rfl, q _ _ (AI.refl _) hx⟩⟩⟩)
 refine wpAny_binaryOp_repeat_ref (T := "tuple") (U := "int") (by decide) ⟨_, e, rfl⟩ (fun s' => typeIs_int s' k t) EX F.fills_int_mul F.slot_int_rmul GX F.slot_int_index.lookup
  (call_meets F.slot_int_rmul (typeIs_int s k t) F.entry_int_rmul (F.args_int_rmul_2 _ _) (GZ k t a its.toArray n dd sl)
   ⟨e, rfl, ⟨_, e, rfl⟩, call_meets F.slot_tuple_mul ⟨_, e, rfl⟩ F.entry_tuple_mul (F.args_tuple_mul_2 _ _) (jT h0 h1 (by rw [List.size_toArray, l1]; exact hz) (by
    cases its with
    | nil => simp at l1; exact absurd (List.length_eq_zero_iff.mp l1.symm) hne
    | cons _ _ => rfl)) ⟨e, ?_⟩⟩)
 have f0 := LH its k.toNat []
 rw [List.nil_append] at f0
 rw [f0]
 have hz' : ((List.replicate k.toNat xs).flatten).length ≤ sizeLine := by rw [YI, Nat.mul_comm, la.length]; exact hz
 refine ⟨.ref _, _, I.laid (t' := s.toks) (o := .tup (List.replicate k.toNat xs).flatten) (fun b ob q => Heap.get?_push_of_some _ q) (Nat.le_refl _) ⟨hz', _, r1.rep k.toNat, IsTup.new _ _⟩, rfl, q _ _ (AI.upd I.fresh) (BN.mpr ⟨_, _, rfl, SqT.of AB, (XX la k.toNat).same (AI.upd I.fresh)⟩)⟩
abbrev EnT := List (List Key × Addr × V)
section
variable {pins : List (Addr × Obj)} {σ : St} {H : Hp} {s : Shared} {a b : Addr} {es : EnT} {k : List Key}
end
section
variable {o i value : Expr} {pos pos' : Pos} {td ty tv : TE}
end
end
abbrev NK := Int × Int × Int × Int
def RB (h : Heap) (k : NK) (a : Addr) : Prop := ∃ (p q : Addr) (ti th ta tb : Tok), IsTup h a #[.int k.1 ti, .ref p] ∧ IsTup h p #[.int k.2.1 th, .ref q] ∧ IsTup h q #[.int k.2.2.1 ta, .int k.2.2.2 tb]
theorem EU {h : Heap} {a : Addr} {xs ys : Array Value} (p : IsTup h a xs) (q : IsTup h a ys) : xs = ys := by
 obtain ⟨o, e, _, n, d⟩ := p
 obtain ⟨o', e', _, n', d'⟩ := q
 rw [e] at e'
 cases e'
 rw [d] at d'
 injection d'
theorem RB.inj {h : Heap} {a : Addr} {x y : NK} (hx : RB h x a) (hy : RB h y a) : x = y := by
 obtain ⟨p, q, _, _, _, _, h1, h2, h3⟩ := hx
 obtain ⟨p', q', _, _, _, _, g1, g2, g3⟩ := hy
 have e1 := EU h1 g1
 simp at e1
 obtain ⟨⟨a1, _⟩, rfl⟩ := e1
 have e2 := EU h2 g2
 simp at e2
 obtain ⟨⟨a2, _⟩, rfl⟩ := e2
 have e3 := EU h3 g3
 simp at e3
 obtain ⟨⟨a3, _⟩, a4, _⟩ := e3
 obtain ⟨x1, x2, x3, x4⟩ := x
 obtain ⟨y1, y2, y3, y4⟩ := y
 simp_all
theorem LG {h h' : Heap} {a d : Addr} {xs : Array Value} {o : Obj} {es : Array DictEntry} {ep : Nat} (p : IsTup h a xs) (hd : h.get? d = some o) (e : o.data = .dict es ep) (s : Heap.SameBut d h h') : IsTup h' a xs := by
 obtain ⟨o', e', c, n, dd⟩ := p
 have hne : a ≠ d := by
  rintro rfl
  rw [hd] at e'
  cases e'
  rw [e] at dd
  cases dd
 exact ⟨o', by rw [s.2 a hne]; exact e', c, n, dd⟩
def PL (x y : Int) : Int := reduceHash (Builtin.Tuple.tupleHashOf [x, y])
section
variable {prog : Program} {w : World} {A : Around} {E : Value → Shared → Prop} {s : Shared}
theorem LD {a : Addr} {u v : Value} {Q : Int → Shared → Prop} (ht : IsTup s.heap a #[u, v]) (hA : A.units < cLine)
  (h : wpAny (model prog w) A.in1 (pyHash u) (fun x s1 => wpAny (model prog w) A.in1 (pyHash v) (fun y s2 => Q (PL x y) { s2 with toks := s2.toks + 1 }) E s1) E s) : wpAny (model prog w) A (pyHash (.ref a)) Q E s := by
 show wpAny (model prog w) A (pyHashByItsType (.ref a)) Q E s
 refine W.pyHash_slot (T := "tuple") ht.typeIs PySem.F.slot_tuple_hash PySem.F.entry_tuple_hash (PySem.F.args_tuple_hash_1 _) (by decide) (.inr hA) ?_
 unfold Builtin.«tuple.__hash__»
 refine wpAny_bind ?_
 rw [show slotArgs "__hash__" 0 { pos := [.ref a] } = pure (.ref a, []) from rfl]
 refine wpAny_pure ?_
 dsimp only
 refine wpAny_bind (tupleItemsOf_ ht ?_)
 refine wpAny_bind ?_
 rw [show (#[u, v] : Array Value) = [u, v].toArray from rfl, List.forIn_toArray, List.forIn_cons]
 refine wpAny_bind (wpAny_bind (wpAny_mono h (fun x s1 h1 => wpAny_pure ?_) fun _ _ z => z))
 dsimp only
 rw [List.forIn_cons]
 refine wpAny_bind (wpAny_bind (wpAny_mono h1 (fun y s2 h2 => wpAny_pure ?_) fun _ _ z => z))
 dsimp only
 rw [List.forIn_nil]
 refine wpAny_pure ?_
 exact wpAny_bind (wpAny_mkInt (wpAny_pure ⟨_, _, rfl, h2⟩))
def cM (k : NK) : Int := PL (hashInt k.1) (PL (hashInt k.2.1) (PL (hashInt k.2.2.1) (hashInt k.2.2.2)))
theorem iB {k : NK} {a : Addr} {Q : Int → Shared → Prop} (hA : A.units + 3 < cLine) (hk : RB s.heap k a) (q : Q (cM k) { s with toks := s.toks + 7 }) : wpAny (model prog w) A (pyHash (.ref a)) Q E s := by
 obtain ⟨p, r, ti, th, ta, tb, h1, h2, h3⟩ := hk
 refine LD h1 (by omega) (wpAny_pyHash_int ?_)
 refine LD (s := { s with toks := s.toks + 1 }) h2 (show A.units + 1 < cLine by omega) (wpAny_pyHash_int ?_)
 refine LD (s := { s with toks := s.toks + 1 + 1 }) h3 (show A.units + 1 + 1 < cLine by omega) (wpAny_pyHash_int (wpAny_pyHash_int ?_))
 exact q
theorem cG {k : NK} {a : Addr} {Q : Bool → Shared → Prop} (hk : RB s.heap k a) (q : Q true s) : wpAny (model prog w) A (eqIsQuiet 8 (.ref a)) Q E s := by
 obtain ⟨p, r, ti, th, ta, tb, h1, h2, h3⟩ := hk
 have step : ∀ (n : Nat) (a : Addr) (u v : Value) (Q : Bool → Shared → Prop), IsTup s.heap a #[u, v] → wpAny (model prog w) A (eqIsQuiet n u) (fun b s1 => b = true ∧ s1 = s) E s → wpAny (model prog w) A (eqIsQuiet n v) (fun b s1 => b = true ∧ s1 = s) E s → Q true s → wpAny (model prog w) A (eqIsQuiet (n + 1) (.ref a)) Q E s := by
  intro n a u v Q ht hu hv q
  rw [eqIsQuiet.eq_2]
  refine wpAny_bind (wpAny_specialOf ht.typeIs PySem.F.slot_tuple_eq.lookup ?_)
  show wpAny _ _ (PySem.isInstance (.ref a) (.type "tuple") >>= _) _ _ _
  refine wpAny_bind (wpAny_isInstance ht.typeIs isSubtype_tuple_tuple ?_)
  rw [if_neg (by decide)]
  obtain ⟨o, e, c, n', d⟩ := ht
  rw [seqItems?.eq_1]
  refine wpAny_bind (wpAny_bind (wpAny_load e ?_))
  rw [d]
  refine wpAny_pure ?_
  refine wpAny_bind ?_
  rw [show ((some (#[u, v] : Array Value)).getD #[]) = [u, v].toArray from rfl, List.forIn_toArray, List.forIn_cons]
  refine wpAny_bind (wpAny_bind (wpAny_mono hu (fun b s1 hb => ?_) fun _ _ z => z))
  obtain ⟨rfl, rfl⟩ := hb
  rw [if_neg (by decide)]
  refine wpAny_pure ?_
  dsimp only
  rw [List.forIn_cons]
  refine wpAny_bind (wpAny_bind (wpAny_mono hv (fun b s1 hb => ?_) fun _ _ z => z))
  obtain ⟨rfl, rfl⟩ := hb
  rw [if_neg (by decide)]
  refine wpAny_pure ?_
  dsimp only
  rw [List.forIn_nil]
  exact wpAny_pure (wpAny_pure q)
 have fl : ∀ (n : Nat) (i : Int) (t : Tok), wpAny (model prog w) A (eqIsQuiet n (.int i t)) (fun b s1 => b = true ∧ s1 = s) E s := fun n i t => by
  rw [eqIsQuiet_byValue n (by rfl)]
  exact wpAny_pure ⟨rfl, rfl⟩
 exact step 7 a _ _ _ h1 (fl _ _ _) (step 6 p _ _ _ h2 (fl _ _ _) (step 5 r _ _ _ h3 (fl _ _ _) (fl _ _ _) ⟨rfl, rfl⟩) ⟨rfl, rfl⟩) q
theorem RV {a b : Addr} {u v u' v' : Value} {k1 k2 : Bool} (h1 : IsTup s.heap a #[u, v]) (h2 : IsTup s.heap b #[u', v']) (hA : A.units < cLine) (e1 : SeqAt.EqAt A.in1 s u u' k1) (e2 : SeqAt.EqAt A.in1 s v v' k2) (hs : a = b → (k1 && k2) = true) : SeqAt.EqAt A s (.ref a) (.ref b) (k1 && k2) := by
 by_cases hab : a = b
 ·rw [hs hab]
  subst hab
  exact SeqAt.EqAt.same _
 ·have key := SeqAt.RcAt.tuples (e := fun j => if j = 0 then k1 else k2) h1 h2 hA (fun j g1 g2 => by
   have hj : j = 0 ∨ j = 1 := by simp at g1; omega
   rcases hj with rfl | rfl
   ·exact e1
   ·exact e2)
  refine SeqAt.EqAt.of_refs hab ?_
  have e : ((List.range (min (#[u, v] : Array Value).size (#[u', v'] : Array Value).size)).all (fun j => if j = 0 then k1 else k2) && (#[u, v] : Array Value).size == (#[u', v'] : Array Value).size) = (k1 && k2) := by
   cases k1 <;> cases k2 <;> rfl
  rw [e] at key
  exact key
theorem pV {x y : NK} {a b : Addr} {Q : Bool → Shared → Prop} (hA : A.units + 3 < cLine) (hx : RB s.heap x a) (hy : RB s.heap y b) (q : Q (decide (x = y)) s) : wpAny (model prog w) A (eqBool (.ref a) (.ref b)) Q E s := by
 obtain ⟨p, r, ti, th, ta, tb, h1, h2, h3⟩ := hx
 obtain ⟨p', r', ti', th', ta', tb', g1, g2, g3⟩ := hy
 have E3 : SeqAt.EqAt A.in1.in1 s (.ref r) (.ref r') ((x.2.2.1 == y.2.2.1) && (x.2.2.2 == y.2.2.2)) := RV h3 g3 (show A.units + 1 + 1 < cLine by omega) (SeqAt.EqAt.int_int _ _ _ _) (SeqAt.EqAt.int_int _ _ _ _) (by
  rintro rfl
  have := EU h3 g3
  simp at this
  simp [this.1.1, this.2.1])
 have E2 : SeqAt.EqAt A.in1 s (.ref p) (.ref p') ((x.2.1 == y.2.1) && ((x.2.2.1 == y.2.2.1) && (x.2.2.2 == y.2.2.2))) := RV h2 g2 (show A.units + 1 < cLine by omega) (SeqAt.EqAt.int_int _ _ _ _) E3 (by
  rintro rfl
  have := EU h2 g2
  simp at this
  obtain ⟨⟨a1, _⟩, rfl⟩ := this
  have := EU h3 g3
  simp at this
  simp [this.1.1, this.2.1, a1])
 have E1 : SeqAt.EqAt A s (.ref a) (.ref b) ((x.1 == y.1) && ((x.2.1 == y.2.1) && ((x.2.2.1 == y.2.2.1) && (x.2.2.2 == y.2.2.2)))) := RV h1 g1 (by omega) (SeqAt.EqAt.int_int _ _ _ _) E2 (by
  rintro rfl
  have := EU h1 g1
  simp at this
  obtain ⟨⟨a0, _⟩, rfl⟩ := this
  have := EU h2 g2
  simp at this
  obtain ⟨⟨a1, _⟩, rfl⟩ := this
  have := EU h3 g3
  simp at this
  simp [this.1.1, this.2.1, a1, a0])
 refine E1 prog w E Q ?_
 have e : ((x.1 == y.1) && ((x.2.1 == y.2.1) && ((x.2.2.1 == y.2.2.1) && (x.2.2.2 == y.2.2.2)))) = decide (x = y) := by
  obtain ⟨x1, x2, x3, x4⟩ := x
  obtain ⟨y1, y2, y3, y4⟩ := y
  rw [Bool.eq_iff_iff]
  simp [Prod.ext_iff]
 rw [e]
 exact q
def nW (prog : Program) (w : World) : HeapKind prog w NK where
 is := RB
 hash := cM
 draws := fun _ => 7
 room := fun A => A.units + 3 < cLine
 inj := RB.inj
 keeps := fun ⟨p, q, ti, th, ta, tb, h1, h2, h3⟩ hd e sb => ⟨p, q, ti, th, ta, tb, LG h1 hd e sb, LG h2 hd e sb, LG h3 hd e sb⟩
 pyHash := fun hA hk q => iB hA hk q
 eqBool := fun hA hx hy q => pV hA hx hy q
 quiet := fun hk q => cG hk q
end
abbrev EnN := List (NK × Addr × V)
def EVN : EnN → List (NK × Addr × Value) → Prop := Paired fun p q => p.1 = q.1 ∧ p.2.1 = q.2.1 ∧ AY p.2.2 q.2.2
def DN (P : Program) (w : World) (a : Addr) (es : EnN) (ep : Nat) : HO := .ext fun h => (a == sysModules) = false ∧ ∃ xs, EVN es xs ∧ ∃ o en, h.get? a = some o ∧ o.ExactDict ∧ o.data = .dict en ep ∧ en.toList = xs.map (entryOfKey (nW P w)) ∧ (xs.map (·.1)).Nodup
def nkD (k : NK) : D := .tup [.int k.1, .tup [.int k.2.1, .tup [.int k.2.2.1, .int k.2.2.2]]]
def kU (K : PySem.W.Frag) (H : Hp) (es : EnN) : Prop := ∀ x ∈ es, Rp K H (nkD x.1) (.ref x.2.1)
theorem EVN.mem : ∀ {es : EnN} {xs : List (NK × Addr × Value)}, EVN es xs → ∀ x ∈ xs, ∃ y ∈ es, y.1 = x.1 ∧ y.2.1 = x.2.1
 | _, _, .nil, x, hx => by cases hx
 | _, _, .cons h t, x, hx => by
  rcases List.mem_cons.mp hx with rfl | hx
  ·exact ⟨_, List.mem_cons_self, h.1, h.2.1⟩
  ·obtain ⟨y, hy, e⟩ := EVN.mem t x hx
   exact ⟨y, List.mem_cons_of_mem _ hy, e⟩
theorem EVN.app {es es' : EnN} {xs xs' : List (NK × Addr × Value)} (h : EVN es xs) (h' : EVN es' xs') : EVN (es ++ es') (xs ++ xs') := by
 unfold EVN at *
 induction h with
 | nil => exact h'
 | cons a _ ih => exact .cons a ih
def lkN (es : EnN) (k : NK) : Option V := (es.find? fun x => decide (x.1 = k)).map (·.2.2)
theorem EVN.look : ∀ {es : EnN} {xs : List (NK × Addr × Value)} {k : NK} {v : V}, EVN es xs → lkN es k = some v → ∃ p, atKey xs k = some p ∧ AY v p.2
 | _, _, k, v, .nil, h => by cases h
 | (k1, a1, v1) :: es, (k2, a2, v2) :: xs, k, v, .cons h t, e => by
  obtain ⟨rfl, rfl, r⟩ := h
  unfold lkN at e
  unfold atKey
  rw [List.find?_cons] at e ⊢
  by_cases hk : k1 = k
  ·simp only [hk, decide_true] at e ⊢
   cases e
   exact ⟨_, rfl, r⟩
  ·simp only [hk, decide_false] at e ⊢
   exact EVN.look t e
theorem EVN.none : ∀ {es : EnN} {xs : List (NK × Addr × Value)} {k : NK}, EVN es xs → lkN es k = none → atKey xs k = none
 | _, _, k, .nil, _ => rfl
 | (k1, a1, v1) :: es, (k2, a2, v2) :: xs, k, .cons h t, e => by
  obtain ⟨rfl, rfl, r⟩ := h
  unfold lkN at e
  unfold atKey
  rw [List.find?_cons] at e ⊢
  by_cases hk : k1 = k
  ·simp only [hk, decide_true] at e
   cases e
  ·simp only [hk, decide_false] at e ⊢
   exact EVN.none t e
section
variable {X : Cx} {pins : List (Addr × Obj)} {σ : St} {H : Hp} {s : Shared} {a b : Addr} {es : EnN} {ep : Nat} {k : NK}
end
section
variable {X : Cx} {o e f : Expr} {pos apos cpos : Pos} {td ty tx : TE}
end
def KI (h : Heap) (it d : Addr) (i n ep : Nat) : Prop := h.get? it = some { cls := .type "dict_keyiterator", data := .fields #[.ref d, .int i 0, .int n 0, .int ep 0] }
section
variable {prog : Program} {w : World} {A : Around} {E : Value → Shared → Prop} {s : Shared} {it d : Addr} {i n ep : Nat} {o : Obj} {en : Array DictEntry}
theorem KI.typeIs (k : KI s.heap it d i n ep) : s.TypeIs (.ref it) "dict_keyiterator" := ⟨_, k, rfl⟩
end
section
variable {X : Cx} {pins : List (Addr × Obj)} {σ : St} {H : Hp} {s : Shared} {d : Addr} {es : EnN} {ep : Nat}
end
section
variable {X : Cx} {tg l : Expr} {tl : TE}
end
theorem WJ {prog : Program} {w : World} {A : Around} {R : Result → Shared → Prop} {s : Shared} {kx vx target iter : Expr} {scope : Scope} {pos : Pos} {it : Value} {D : Addr} {env : Env} (I : Nat → Shared → Prop)
  (turn : ∀ n s, I n s → wpAny (model prog w) A (pyNext it) (fun r s₁ => match r with
   | none => R (.ok .next) s₁
   | some v => wpAny (model prog w) A (letOwnedTupleGo target it v) (fun _ s₁' => wpAny (model prog w) A (assign target env v) (fun _ s₂ =>
     wpAny (model prog w) A (eval kx env) (fun y s₃ => wpAny (model prog w) A (eval vx env) (fun z s₄ =>
       wpAny (model prog w) A (dictSet D y z) (fun _ s₅ => ∃ m, m < n ∧ I m s₅) (fun _ _ => False) s₄) (fun _ _ => False) s₃) (fun _ _ => False) s₂) (fun _ _ => False) s₁') (fun _ _ => False) s₁) (fun _ _ => False) s)
  (n : Nat) (h : I n s) :
  codeAny (model prog w) A (.compLoop (.DictComp kx vx [⟨target, iter, [], 0⟩] scope pos) 0 it (.ref D) env) R s := by
 refine codeAny_loop rfl I (fun n s hI => ?_) n h
 show wpAny _ A ((compTurn (.DictComp kx vx [⟨target, iter, [], 0⟩] scope pos) 0 it (.ref D) env).onRaise (fun x => do noteFrame x env; theTreesLotGoes x)) _ _ s
 refine wpAny_noted ?_
 rw [compTurn_dict]
 refine wpAny_bind (wpAny_standAt (wpAny_bind (wpAny_mono (turn n s hI) (fun r s₁ h₁ => ?_) fun _ _ z => False.elim z)))
 cases r with
 | none => exact wpAny_pure h₁
 | some v =>
  refine wpAny_bind (wpAny_mono h₁ (fun _ s₁' h₁' => ?_) fun _ _ z => False.elim z)
  refine wpAny_bind (wpAny_mono h₁' (fun _ s₂ h₂ => ?_) fun _ _ z => False.elim z)
  simp only [List.forIn_nil, pure_bind, if_true]
  exact wpAny_bind (wpAny_bind (wpAny_mono h₂ (fun y s₃ h₃ => wpAny_bind (wpAny_holding (wpAny_mono h₃ (fun z s₄ h₄ => wpAny_bind (wpAny_standAt (wpAny_holding (wpAny_mono h₄ (fun _ s₅ h₅ => wpAny_pure ⟨rfl, h₅⟩) fun _ _ z => False.elim z)))) fun _ _ z => False.elim z))) fun _ _ z => False.elim z))
def kM (P : Program) (w : World) (K : PySem.W.Frag) (js : List Nat) (os : List Str) (wi : TI) (g : TG) (tk tv : TE) : TE := fun σ H Q => wi σ H fun J H1 => ∀ p ep, H1 p = none →
 ∃ W : Nat → Nat → St → Hp → Prop, (∃ m, W 0 m (stC js os σ) (upd H1 p (DN P w p [] ep))) ∧ ∀ i m σ H, W i m σ H →
  (J.stop i H ∧ Q (.ref p) H) ∨ (J.go i H ∧ ∀ x H', J.yld i H x H' → g x σ H' fun σ2 H2 => tk σ2 H2 fun y H3 => tv σ2 H3 fun z H4 => DX y fun b =>
   ∃ (es : EnN) (ep : Nat) (k : NK), H4 p = some (DN P w p es ep) ∧ kU K H4 es ∧ es.length ≤ 10000 ∧ Rp K H4 (nkD k) (.ref b) ∧ lkN es k = none ∧ ∀ ep', ∃ m', m' < m ∧ W (i + 1) m' σ2 (upd H4 p (DN P w p (es ++ [(k, b, z)]) ep')))
section
variable {X : Cx}
end
section
variable {prog : Program} {w : World} {A : Around} {R : Result → Shared → Prop} {s : Shared} {elt tg iter tg2 iter2 : Expr} {scope : Scope} {pos : Pos} {it acc : Value} {env : Env}
end
def lY (js : List Nat) (os : List Str) (wi : TI) (g : TG) (wj : TI) (g2 : TG) (te : TE) : TE := fun σ H Q => wi σ H fun J H1 => ∀ p, H1 p = none →
 ∃ W : Nat → Nat → St → Hp → Prop, (∃ m, W 0 m (stC js os σ) (upd H1 p (.lst []))) ∧ ∀ i m σ H, W i m σ H →
  (J.stop i H ∧ Q (.ref p) H) ∨ (J.go i H ∧ ∀ x H', J.yld i H x H' → g x σ H' fun σ2 H2 => wj σ2 H2 fun J2 H3 =>
   ∃ V : Nat → Nat → St → Hp → Prop, (∃ m2, V 0 m2 σ2 H3) ∧ ∀ j m2 σ H, V j m2 σ H →
    (J2.stop j H ∧ ∃ m', m' < m ∧ W (i + 1) m' σ H) ∨ (J2.go j H ∧ ∀ x2 H', J2.yld j H x2 H' → g2 x2 σ H' fun σ4 H4 => te σ4 H4 fun y H5 =>
     ∃ ys, H5 p = some (.lst ys) ∧ ys.length < sizeLine ∧ ∃ m', m' < m2 ∧ V (j + 1) m' σ4 (upd H5 p (.lst (ys ++ [y])))))
section
variable {X : Cx}
end
section
variable {X : Cx} {o i : Expr} {pos : Pos} {td ty : TE}
end
def LtAt (A : Around) (s : Shared) (x y : Value) (b : Bool) : Prop := ∀ (prog : Program) (w : World) (E : Value → Shared → Prop) (Q : Value → Shared → Prop), Q (.bool b) s → wpAny (model prog w) A (richCompare .Lt x y) Q E s
section
variable {A : Around} {s : Shared}
theorem lt_int (i j : Int) (t u : Tok) : LtAt A s (.int i t) (.int j u) (decide (i < j)) := fun prog w E Q q => by
 exact wpAny_lt_int (a := i) (b := j) (t := t) (u := u) q
end
open PySem.W in
def JY {α : Type} (n : Nat) (f : Nat → Nat → Bool) (P : α → Prop) : KasT α → Prop
 | .ret a => P a
 | .ask i j k => i < n ∧ j < n ∧ JY n f P (k (f i j))
section
open PySem.W
variable {n : Nat} {f : Nat → Nat → Bool}
theorem JY.bind {α β : Type} {P : α → Prop} {P' : β → Prop} {g : α → KasT β} (h : ∀ a, P a → JY n f P' (g a)) : ∀ {t : KasT α}, JY n f P t → JY n f P' (t.bind g)
 | .ret a, q => h a q
 | .ask i j k, q => ⟨q.1, q.2.1, JY.bind h q.2.2⟩
theorem JY.wp {α : Type} {P : α → Prop} {cmp : Nat → Nat → (Bool → Shared → Prop) → Shared → Prop} {Q : α → Shared → Prop} {s : Shared} (hc : ∀ i j C, i < n → j < n → C (f i j) s → cmp i j C s) (hq : ∀ a, P a → Q a s) : ∀ {t : KasT α}, JY n f P t → t.kasWp cmp Q s
 | .ret a, g => hq a g
 | .ask i j k, g => hc i j _ g.1 g.2.1 (JY.wp hc hq g.2.2)
def UR (n : Nat) (p : Array Nat) : Prop := 0 < n ∧ p.Perm (List.range n).toArray
theorem UR.lt {p : Array Nat} (h : UR n p) (i : Nat) : p.getD i 0 < n := by
 unfold Array.getD
 split
 ·rename_i hi
  have hm : p[i] ∈ p := Array.getElem_mem hi
  have := h.2.mem_iff.mp hm
  simpa using this
 ·exact h.1
end
abbrev Q4 := Int × Int × Int × Int
def q4D (p : Q4) : D := plc p.1 p.2.1 p.2.2.1 p.2.2.2
abbrev Sk := Int × Q4 × Q4
def skD (k : Sk) : D := .tup [.int k.1, q4D k.2.1, q4D k.2.2]
def nlt (a b c d : Int) : Bool := if (a == c) = true then (if (b == d) = true then false else decide (b < d)) else decide (a < c)
def plt (p q : Q4) : Bool := if deq (num p.1 p.2.1) (num q.1 q.2.1) = true then (if deq (num p.2.2.1 p.2.2.2) (num q.2.2.1 q.2.2.2) = true then false else nlt p.2.2.1 p.2.2.2 q.2.2.1 q.2.2.2) else nlt p.1 p.2.1 q.1 q.2.1
def sklt (k l : Sk) : Bool := if (k.1 == l.1) = true then (if deq (q4D k.2.1) (q4D l.2.1) = true then (if deq (q4D k.2.2) (q4D l.2.2) = true then false else plt k.2.2 l.2.2) else plt k.2.1 l.2.1) else decide (k.1 < l.1)
section
variable {X : Cx} {pins : List (Addr × Obj)} {σ : St} {H : Hp} {s : Shared} {A : Around}
end
section
open PySem.W
def hJ {α : Type} (f : Nat → Nat → Bool) : KasT α → α
 | .ret a => a
 | .ask i j k => hJ f (k (f i j))
theorem JY.run {α : Type} {n : Nat} {f : Nat → Nat → Bool} {P : α → Prop} : ∀ {t : KasT α}, JY n f P t → JY n f (fun a => a = hJ f t ∧ P a) t
 | .ret a, g => ⟨rfl, g⟩
 | .ask i j k, g => ⟨g.1, g.2.1, JY.run g.2.2⟩
theorem JY.post {α : Type} {n : Nat} {f : Nat → Nat → Bool} {P : α → Prop} {t : KasT α} : JY n f P t → P (hJ f t) := by
 induction t with
 | ret a => exact id
 | ask i j k ih => exact fun g => ih _ g.2.2
end
def pF (ks : List Sk) (i j : Nat) : Bool := sklt (ks.getD i (0, (0, 0, 0, 0), (0, 0, 0, 0))) (ks.getD j (0, (0, 0, 0, 0), (0, 0, 0, 0)))
def sres (ks : List Sk) : List Nat := if ks.length < 2 then List.range ks.length else (hJ (pF ks) (PySem.W.kas_sort ks.length)).toList
section
variable {X : Cx}
end
def KxE (K : PySem.W.Frag) (k : Int × D) (e : DictEntry) : Prop := (∃ t, e.key = .int k.1 t) ∧ e.hash = hashInt k.1 ∧ ∃ v, AY v e.val ∧ ∀ H, Rp K H k.2 v
structure KX (K : PySem.W.Frag) (ks : List (Int × D)) (u : Value) : Prop where
 ex : ∃ p o en ep, u = .ref p ∧ K.lookup p = some o ∧ o.ExactDict ∧ o.data = .dict en ep ∧ Paired (KxE K) ks en.toList
section
variable {X : Cx} {o i : Expr} {pos : Pos} {td ty : TE}
end
section
variable {X : Cx} {tg : Expr}
end
def DCW (P : Program) (w : World) (K : PySem.W.Frag) (J : It) (g : TG) (tk tv : TE) (p : Addr) (Q : VK) (σ : St) (H1 : Hp) : Prop :=
 ∃ W : Nat → Nat → St → Hp → Prop, (∃ m, W 0 m σ H1) ∧ ∀ i m σ H, W i m σ H →
  (J.stop i H ∧ Q (.ref p) H) ∨ (J.go i H ∧ ∀ x H', J.yld i H x H' → g x σ H' fun σ2 H2 => tk σ2 H2 fun y H3 => tv σ2 H3 fun z H4 => DX y fun b =>
   ∃ (es : EnN) (ep : Nat) (k : NK), H4 p = some (DN P w p es ep) ∧ kU K H4 es ∧ es.length ≤ 10000 ∧ Rp K H4 (nkD k) (.ref b) ∧ lkN es k = none ∧ ∀ ep', ∃ m', m' < m ∧ W (i + 1) m' σ2 (upd H4 p (DN P w p (es ++ [(k, b, z)]) ep')))
theorem HM (P : Program) (w : World) (K : PySem.W.Frag) (js : List Nat) (os : List Str) (wi : TI) (g : TG) (tk tv : TE) (σ : St) (H : Hp) (Q : VK) : kM P w K js os wi g tk tv σ H Q = wi σ H fun J H1 => ∀ p ep, H1 p = none → DCW P w K J g tk tv p Q (stC js os σ) (upd H1 p (DN P w p [] ep)) := rfl
def IW (J2 : It) (g2 : TG) (te : TE) (p : Addr) (R : St → Hp → Prop) (σ : St) (H3 : Hp) : Prop :=
 ∃ V : Nat → Nat → St → Hp → Prop, (∃ m2, V 0 m2 σ H3) ∧ ∀ j m2 σ H, V j m2 σ H →
  (J2.stop j H ∧ R σ H) ∨ (J2.go j H ∧ ∀ x2 H', J2.yld j H x2 H' → g2 x2 σ H' fun σ4 H4 => te σ4 H4 fun y H5 =>
   ∃ ys, H5 p = some (.lst ys) ∧ ys.length < sizeLine ∧ ∃ m', m' < m2 ∧ V (j + 1) m' σ4 (upd H5 p (.lst (ys ++ [y]))))
def CW2 (J : It) (g : TG) (wj : TI) (g2 : TG) (te : TE) (p : Addr) (Q : VK) (σ : St) (H1 : Hp) : Prop :=
 ∃ W : Nat → Nat → St → Hp → Prop, (∃ m, W 0 m σ H1) ∧ ∀ i m σ H, W i m σ H →
  (J.stop i H ∧ Q (.ref p) H) ∨ (J.go i H ∧ ∀ x H', J.yld i H x H' → g x σ H' fun σ2 H2 => wj σ2 H2 fun J2 H3 => IW J2 g2 te p (fun σ H => ∃ m', m' < m ∧ W (i + 1) m' σ H) σ2 H3)
theorem JC (js : List Nat) (os : List Str) (wi : TI) (g : TG) (wj : TI) (g2 : TG) (te : TE) (σ : St) (H : Hp) (Q : VK) : lY js os wi g wj g2 te σ H Q = wi σ H fun J H1 => ∀ p, H1 p = none → CW2 J g wj g2 te p Q (stC js os σ) (upd H1 p (.lst [])) := rfl
section
variable {X : Cx}
end
section
variable {X : Cx}
end
section
open PySem.W
structure oS (n : Nat) (f : Nat → Nat → Bool) : Prop where
 tr : ∀ i j k, i < n → j < n → k < n → f i j = true → f j k = true → f i k = true
 tot : ∀ i j, i < n → j < n → i ≠ j → f i j = true ∨ f j i = true
 as : ∀ i j, i < n → j < n → f i j = true → f j i = false
variable {n : Nat} {f : Nat → Nat → Bool}
theorem UR.size {p : Array Nat} (h : UR n p) : p.size = n := by have := h.2.size_eq; simpa using this
theorem UR.inj {p : Array Nat} (h : UR n p) {i j : Nat} (hi : i < n) (hj : j < n) (e : p.getD i 0 = p.getD j 0) : i = j := by
 have hs := h.size
 have nd : p.toList.Nodup := (Array.perm_iff_toList_perm.mp h.2).nodup_iff.mpr (by simpa using List.nodup_range)
 unfold Array.getD at e
 rw [dif_pos (by omega), dif_pos (by omega)] at e
 exact (List.getElem_inj nd (i := i) (j := j) (h₀ := by simpa using (by omega : i < p.size)) (h₁ := by simpa using (by omega : j < p.size))).mp (by simpa using e)
def Inc (f : Nat → Nat → Bool) (p : Array Nat) (m : Nat) : Prop := ∀ i, i + 1 < m → f (p.getD i 0) (p.getD (i + 1) 0) = true
theorem Inc.lt (o : oS n f) {p : Array Nat} (h : UR n p) {m : Nat} (g : Inc f p m) : ∀ d i, i + d + 1 < m → f (p.getD i 0) (p.getD (i + d + 1) 0) = true
 | 0, i, hi => g i hi
 | d + 1, i, hi => o.tr _ _ _ (h.lt _) (h.lt _) (h.lt _) (Inc.lt o h g d i (by omega)) (g (i + d + 1) (by omega))
theorem Inc.all (o : oS n f) {p : Array Nat} (h : UR n p) {m : Nat} (g : Inc f p m) {i j : Nat} (hij : i < j) (hj : j < m) : f (p.getD i 0) (p.getD j 0) = true := by
 have := Inc.lt o h g (j - i - 1) i (by omega)
 rwa [show i + (j - i - 1) + 1 = j by omega] at this
end
def sorts (ks : List Sk) : List Sk := (sres ks).map fun i => ks.getD i (0, (0, 0, 0, 0), (0, 0, 0, 0))
namespace Tab
open PySem.SetTable
def kW (M i : Nat) : Nat := (i * 5 + 1) % M
def it5 (M : Nat) : Nat → Nat → Nat
 | 0, i => i
 | n + 1, i => it5 M n (kW M i)
def Mk (m : Nat) : Prop := m = 7 ∨ m = 31 ∨ m = 127
theorem MH (M : Nat) : ∀ a b i, it5 M (a + b) i = it5 M b (it5 M a i)
 | 0, b, i => by rw [Nat.zero_add]; rfl
 | a + 1, b, i => by
  rw [show a + 1 + b = (a + b) + 1 by omega]
  exact MH M a b (kW M i)
theorem reach {M : Nat} (c : ∀ r < M, ∃ n < M, it5 M n 0 = r) (p : it5 M M 0 = 0) (i r : Nat) (hi : i < M) (hr : r < M) : ∃ n < M, it5 M n i = r := by
 obtain ⟨a, ha, ea⟩ := c i hi
 obtain ⟨b, hb, eb⟩ := c r hr
 by_cases h : a ≤ b
 ·refine ⟨b - a, by omega, ?_⟩
  rw [← ea, ← MH, show a + (b - a) = b by omega, eb]
 ·refine ⟨M - a + b, by omega, ?_⟩
  rw [← ea, ← MH, show a + (M - a + b) = M + b by omega, MH, p, eb]
def lp (m : Nat) : Nat → Nat × Nat → Nat × Nat
 | 0, x => x
 | n + 1, x => lp m n (leap m x.1 x.2)
def st (m : Nat) (x : Nat × Nat) : Probe := { j := x.1, more := runEnd m x.1 - x.1, i := x.1, perturb := x.2, dummy := none }
structure POk (t : SetTable) (p : Probe) : Prop where
 i : p.i < t.mask + 1
 pt : p.perturb < 2 ^ 64
 more : p.more ≤ 9
 dm : p.dummy = none
 j : p.j ≤ t.mask
 run : p.more + p.j ≤ t.mask
theorem VY {l : List Nat} {f g : Nat → Bool} {j : Nat} (nd : l.Nodup) (hj : j ∈ l) (e0 : f j = false) (e1 : g j = true) (eq : ∀ i, i ≠ j → g i = f i) : l.countP g = l.countP f + 1 := by
 induction l with
 | nil => cases hj
 | cons a l ih =>
  rw [List.nodup_cons] at nd
  by_cases c : a = j
  ·subst c
   rw [List.countP_cons_of_pos e1, List.countP_cons_of_neg (by rw [e0]; decide)]
   congr 1
   refine List.countP_congr fun x hx => ?_
   rw [eq x (fun z => nd.1 (z ▸ hx))]
  ·have ij := ih nd.2 ((List.mem_cons.mp hj).resolve_left fun z => c z.symm)
   rw [List.countP_cons, List.countP_cons, eq a c, ij]
   omega
def cnt (m : Nat) (ow : Array (Option Nat)) : Nat := (List.range (m + 1)).countP fun j => (ow.getD j none).isSome
structure LO (m n : Nat) (ow : Array (Option Nat)) : Prop where
 size : ow.size = m + 1
 cnt : cnt m ow = n
 lt : ∀ (j k : Nat), ow.getD j none = some k → k < n
theorem LO.put {m n : Nat} {ow : Array (Option Nat)} (o : LO m n ow) {j : Nat} (hj : ow.getD j (some 0) = none) : LO m (n + 1) (ow.setIfInBounds j (some n)) := by
 have hs := o.size
 have jl : j < ow.size := by
  refine Classical.byContradiction fun z => ?_
  unfold Array.getD at hj
  rw [dif_neg z] at hj
  cases hj
 have at' : ∀ i, (ow.setIfInBounds j (some n)).getD i none = if i = j then some n else ow.getD i none := fun i => by
  rw [Array.getD_eq_getD_getElem?, Array.getD_eq_getD_getElem?, Array.getElem?_setIfInBounds]
  by_cases c : j = i
  ·subst c; rw [if_pos rfl, if_pos rfl, if_pos jl]; rfl
  ·rw [if_neg c, if_neg (fun z => c z.symm)]
 have e0 : ow.getD j none = none := by
  unfold Array.getD at hj ⊢
  rw [dif_pos jl] at hj ⊢
  exact hj
 refine ⟨by rw [Array.size_setIfInBounds]; exact hs, ?_, fun i k e => ?_⟩
 ·have := VY (l := List.range (m + 1)) (f := fun i => (ow.getD i none).isSome) (g := fun i => ((ow.setIfInBounds j (some n)).getD i none).isSome) (j := j) List.nodup_range (List.mem_range.mpr (by omega)) (by rw [e0]; rfl) (by rw [at' j, if_pos rfl]; rfl) (fun i hi => by rw [at' i, if_neg hi])
  unfold Tab.cnt
  rw [this]
  have := o.cnt
  unfold Tab.cnt at this
  omega
 ·rw [at' i] at e
  by_cases c : i = j
  ·rw [if_pos c] at e; cases e; omega
  ·rw [if_neg c] at e
   have := o.lt i k e
   omega
theorem LO.nil (m : Nat) : LO m 0 (Array.replicate (m + 1) none) := by
 have at' : ∀ i, (Array.replicate (m + 1) (none : Option Nat)).getD i none = none := fun i => by
  rw [Array.getD_eq_getD_getElem?, Array.getElem?_replicate]
  split <;> rfl
 refine ⟨Array.size_replicate, ?_, fun j k e => ?_⟩
 ·unfold Tab.cnt
  rw [List.countP_eq_zero]
  intro x _
  rw [at' x]
  decide
 ·rw [at' j] at e; cases e
end Tab
section
variable {prog : Program} {w : World} {A : Around} {E : Value → Shared → Prop} {s : Shared}
theorem cls2 {n : Nat} {a : Addr} {u0 u1 : Value} (ht : IsTup s.heap a #[u0, u1]) (h0 : wpAny (model prog w) A (ofAClassStatement n u0) (fun b s1 => b = false ∧ s1 = s) E s) (h1 : wpAny (model prog w) A (ofAClassStatement n u1) (fun b s1 => b = false ∧ s1 = s) E s) : wpAny (model prog w) A (ofAClassStatement (n + 1) (.ref a)) (fun b s1 => b = false ∧ s1 = s) E s := by
 unfold ofAClassStatement
 refine wpAny_bind (wpAny_typeOf ht.typeIs ?_)
 show wpAny _ _ (pure true >>= _) _ _ _
 refine wpAny_bind (wpAny_pure ?_)
 dsimp only
 rw [if_neg (by decide)]
 obtain ⟨o, e, c, n', d⟩ := ht
 rw [seqItems?.eq_1]
 refine wpAny_bind (wpAny_bind (wpAny_load e ?_))
 rw [d]
 refine wpAny_pure ?_
 refine wpAny_bind ?_
 rw [show (#[u0, u1] : Array Value) = [u0, u1].toArray from rfl, List.forIn_toArray]
 rw [List.forIn_cons]
 refine wpAny_bind (wpAny_bind (wpAny_mono h0 (fun b s1 hb => ?_) fun _ _ z => z))
 obtain ⟨rfl, rfl⟩ := hb
 rw [if_neg (by decide)]
 refine wpAny_pure ?_
 dsimp only
 rw [List.forIn_cons]
 refine wpAny_bind (wpAny_bind (wpAny_mono h1 (fun b s1 hb => ?_) fun _ _ z => z))
 obtain ⟨rfl, rfl⟩ := hb
 rw [if_neg (by decide)]
 refine wpAny_pure ?_
 dsimp only
 rw [List.forIn_nil]
 exact wpAny_pure (wpAny_pure ⟨rfl, rfl⟩)
def nH (a b : Int) : Int := PL (hashInt a) (hashInt b)
def q4H (x : Q4) : Int := PL (nH x.1 x.2.1) (nH x.2.2.1 x.2.2.2)
def skH (k : Sk) : Int := reduceHash (Builtin.Tuple.tupleHashOf [hashInt k.1, q4H k.2.1, q4H k.2.2])
end
end L2
namespace L2
open PySem PySem.Spec PyProof.Rows Tab
section
variable {prog : Program} {w : World} {A : Around} {E : Value → Shared → Prop} {s : Shared}
structure lQ (R : Sk → Addr → Prop) (h : Heap) (S : Addr) (es : Array (Int × Value)) (t : SetTable) (ks : List Sk) : Prop where
 ex : ∃ o ep, h.get? S = some o ∧ o.ExactSet ∧ o.data = .set es ep t
 mask : Tab.Mk t.mask
 dm : t.dummies = #[]
 sz : t.place.size = es.size
 sm : es.size * 5 < t.mask * 3
 el : ∀ e ∈ es.toList, ∃ l a, e = (skH l, Value.ref a) ∧ R l a ∧ l ∈ ks
 nn : es.size = ks.length
end
end L2
namespace L2
open PySem PySem.Spec PyProof.Rows Tab
section
variable {prog : Program} {w : World} {A : Around} {E : Value → Shared → Prop} {s : Shared}
theorem lQ.mv {R : Sk → Addr → Prop} {h h' : Heap} {S : Addr} {es : Array (Int × Value)} {t : SetTable} {ks : List Sk} (z : lQ R h S es t ks) (e : ∀ o, h.get? S = some o → h'.get? S = some o) : lQ R h' S es t ks := ⟨let ⟨o, ep, a, b, c⟩ := z.ex; ⟨o, ep, e _ a, b, c⟩, z.mask, z.dm, z.sz, z.sm, z.el, z.nn⟩
end
end L2
namespace L2
open PySem PySem.Spec PyProof.Rows Tab
section
variable {X : Cx} {pins : List (Addr × Obj)} {σ : St} {H : Hp} {s : Shared}
end
section
variable {prog : Program} {w : World} {A : Around} {E : Value → Shared → Prop} {s : Shared}
end
section
variable {X : Cx}
end
section
variable {X : Cx}
variable {tg : Expr}
end
section
variable {X : Cx}
end
section
variable {X : Cx}
end
section
variable {X : Cx} {e tg : Expr} {te : TE} {p' pos' : Pos}
end
section
variable {prog : Program} {w : World} {A : Around} {s : Shared} {E : Value → Shared → Prop} {R : Result → Shared → Prop} {I l : Addr} {items : Array Value}
end
section
variable {X : Cx} {e : Expr} {te : TE} {p p' pos pos' : Pos}
end
section
variable {X : Cx}
end
inductive ER (K : PySem.W.Frag) (H : Hp) : Nat → V → V → Prop
 | int (n : Nat) (i : Int) : ER K H n (.int i) (.int i)
 | bl (n : Nat) (b : Bool) : ER K H n (.bl b) (.bl b)
 | str (n : Nat) (x : Str) : ER K H n (.str x) (.str x)
 | non (n : Nat) : ER K H n .non .non
 | same (n : Nat) (p : Addr) : ER K H n (.ref p) (.ref p)
 | tup {n : Nat} {p q : Addr} {xs ys : List V} : SqT K H p xs → SqT K H q ys → xs.length = ys.length → (∀ (i : Nat) (x y : V), xs[i]? = some x → ys[i]? = some y → ER K H n x y) → ER K H (n + 1) (.ref p) (.ref q)
 | lst {n : Nat} {p q : Addr} {xs ys : List V} : SqL K H p xs → SqL K H q ys → xs.length = ys.length → (∀ (i : Nat) (x y : V), xs[i]? = some x → ys[i]? = some y → ER K H n x y) → ER K H (n + 1) (.ref p) (.ref q)
theorem ER.up {K : PySem.W.Frag} {H : Hp} {n : Nat} {v u : V} (h : ER K H n v u) : ∀ {m : Nat}, n ≤ m → ER K H m v u := by
 induction h with
 | int n i => intro m _; exact .int m i
 | bl n i => intro m _; exact .bl m i
 | str n i => intro m _; exact .str m i
 | non n => intro m _; exact .non m
 | same n p => intro m _; exact .same m p
 | @tup n p q xs ys a b c d ih =>
  intro m hm
  obtain ⟨m, rfl⟩ : ∃ k, m = k + 1 := ⟨m - 1, by omega⟩
  exact .tup a b c fun i x y hx hy => ih i x y hx hy (by omega)
 | @lst n p q xs ys a b c d ih =>
  intro m hm
  obtain ⟨m, rfl⟩ : ∃ k, m = k + 1 := ⟨m - 1, by omega⟩
  exact .lst a b c fun i x y hx hy => ih i x y hx hy (by omega)
mutual
theorem Rp.alike {K : PySem.W.Frag} {H : Hp} : ∀ {d : D} {v u : V}, Rp K H d v → Rp K H d u → ER K H (dep d) v u
 | .int i, v, u, h1, h2 => by rw [Rp] at h1 h2; subst h1 h2; exact .int _ _
 | .str x, v, u, h1, h2 => by rw [Rp] at h1 h2; subst h1 h2; exact .str _ _
 | .non, v, u, h1, h2 => by rw [Rp] at h1 h2; subst h1 h2; exact .non _
 | .tup ds, v, u, h1, h2 => by
  rw [Rp] at h1 h2
  obtain ⟨p, xs, rfl, hp, l1⟩ := h1
  obtain ⟨q, ys, rfl, hq, l2⟩ := h2
  rw [dep]
  exact .tup hp hq (by rw [l1.length, l2.length]) (RpL.alike l1 l2)
theorem RpL.alike {K : PySem.W.Frag} {H : Hp} : ∀ {ds : List D} {xs ys : List V}, RpL K H ds xs → RpL K H ds ys → ∀ (i : Nat) (x y : V), xs[i]? = some x → ys[i]? = some y → ER K H (depL ds) x y
 | [], xs, ys, h1, h2, i, x, y, hx, hy => by rw [RpL] at h1; subst h1; simp at hx
 | d :: ds, xs, ys, h1, h2, i, x, y, hx, hy => by
  rw [RpL] at h1 h2
  obtain ⟨v, r, rfl, a1, b1⟩ := h1
  obtain ⟨v', r', rfl, a2, b2⟩ := h2
  rw [depL]
  cases i with
  | zero =>
   simp at hx hy
   subst hx hy
   exact (Rp.alike a1 a2).up (by omega)
  | succ i =>
   simp at hx hy
   exact (RpL.alike b1 b2 i x y hx hy).up (by omega)
end
section
variable {X : Cx} {pins : List (Addr × Obj)} {σ : St} {H : Hp} {s : Shared}
theorem KF (n : Nat) : ((List.range n).all fun _ => true) = true := by simp
theorem ER.eqAt (I : Inv X pins σ H s) {n : Nat} {v u : V} (h : ER X.K H n v u) : ∀ {A : Around} {x y : Value}, AY v x → AY u y → A.units + n < cLine → SeqAt.EqAt A s x y true := by
 induction h with
 | int n i => rintro A x y ⟨t, rfl⟩ ⟨t', rfl⟩ hu; have := SeqAt.EqAt.int_int (A := A) (s := s) i t i t'; rwa [beq_self_eq_true] at this
 | bl n b => intro A x y h1 h2 hu; cases h1; cases h2; exact SeqAt.EqAt.same _
 | str n z => rintro A x y ⟨t, rfl⟩ ⟨t', rfl⟩ hu; have := SeqAt.EqAt.str_str (A := A) (s := s) z t z t'; rwa [beq_self_eq_true] at this
 | non n => intro A x y h1 h2 hu; cases h1; cases h2; exact SeqAt.EqAt.same _
 | same n p => intro A x y h1 h2 hu; cases h1; cases h2; exact SeqAt.EqAt.same _
 | @tup n p q xs ys a b c d ih =>
  intro A x y h1 h2 hu
  cases h1; cases h2
  by_cases hp : p = q
  ·subst hp; exact SeqAt.EqAt.same _
  ·refine SeqAt.EqAt.of_refs hp ?_
   obtain ⟨its, rv, ht, _⟩ := I.tuple a
   obtain ⟨its', rv', ht', _⟩ := I.tuple b
   have key := SeqAt.RcAt.tuples (e := fun _ => true) ht ht' (show A.units < cLine by omega) (fun j h1 h2 => by
    have j1 : j < its.length := by simpa using h1
    have j2 : j < its'.length := by simpa using h2
    obtain ⟨v1, e1, r1⟩ := AO.get' rv (List.getElem?_eq_getElem j1)
    obtain ⟨v2, e2, r2⟩ := AO.get' rv' (List.getElem?_eq_getElem j2)
    exact ih j v1 v2 e1 e2 r1 r2 (show A.units + 1 + n < cLine by omega))
   have e0 : ((List.range (min its.toArray.size its'.toArray.size)).all (fun j => true) && its.toArray.size == its'.toArray.size) = true := by
    rw [KF, Bool.true_and]
    simp only [List.size_toArray, ← rv.length, ← rv'.length, c, beq_self_eq_true]
   rw [e0] at key
   exact key
 | @lst n p q xs ys a b c d ih =>
  intro A x y h1 h2 hu
  cases h1; cases h2
  by_cases hp : p = q
  ·subst hp; exact SeqAt.EqAt.same _
  ·refine SeqAt.EqAt.of_refs hp ?_
   obtain ⟨its, rv, ht, _⟩ := I.list a
   obtain ⟨its', rv', ht', _⟩ := I.list b
   have key := SeqAt.RcAt.lists (e := fun _ => true) ht.isList ht'.isList (by simp only [List.size_toArray, ← rv.length, ← rv'.length, c]) (show A.units < cLine by omega) (fun j h1 h2 => by
    have j1 : j < its.length := by simpa using h1
    have j2 : j < its'.length := by simpa using h2
    obtain ⟨v1, e1, r1⟩ := AO.get' rv (List.getElem?_eq_getElem j1)
    obtain ⟨v2, e2, r2⟩ := AO.get' rv' (List.getElem?_eq_getElem j2)
    exact ih j v1 v2 e1 e2 r1 r2 (show A.units + 1 + n < cLine by omega))
   rw [KF] at key
   exact key
def rAl (K : PySem.W.Frag) (ne : Bool) : R2 := fun x y H Q => (∃ n p q xs ys, n ≤ 60 ∧ x = .ref p ∧ y = .ref q ∧ ((SqT K H p xs ∧ SqT K H q ys) ∨ (SqL K H p xs ∧ SqL K H q ys)) ∧ xs.length = ys.length ∧ (∀ (i : Nat) (x y : V), xs[i]? = some x → ys[i]? = some y → ER K H n x y)) ∧ Q (.bl (!ne)) H
theorem gN (hu : X.A.units + 64 < cLine) : OpR X (compareOp .NotEq) (rAl X.K true) := by
 intro pins s σ H x y v u Q I rx ry h
 obtain ⟨⟨n, p, q, xs, ys, hn, rfl, rfl, h, hl, ha⟩, hq⟩ := h
 cases rx; cases ry
 rcases h with ⟨a, b⟩ | ⟨a, b⟩
 ·obtain ⟨its, rv, ht, _⟩ := I.tuple a
  obtain ⟨its', rv', ht', _⟩ := I.tuple b
  refine SeqAt.RcNeAt.tuples (e := fun _ => true) ht ht' (by omega) (fun j h1 h2 => ?_) X.prog X.w X.xe _ ?_
  ·have j1 : j < its.length := by simpa using h1
   have j2 : j < its'.length := by simpa using h2
   obtain ⟨v1, e1, r1⟩ := AO.get' rv (List.getElem?_eq_getElem j1)
   obtain ⟨v2, e2, r2⟩ := AO.get' rv' (List.getElem?_eq_getElem j2)
   exact (ha j v1 v2 e1 e2).eqAt I r1 r2 (show X.A.units + 1 + n < cLine by omega)
  ·exact BM I hq (by rw [KF, Bool.true_and]; simp only [List.size_toArray, ← rv.length, ← rv'.length, hl, beq_self_eq_true])
 ·obtain ⟨its, rv, ht, _⟩ := I.list a
  obtain ⟨its', rv', ht', _⟩ := I.list b
  refine SeqAt.RcNeAt.lists (e := fun _ => true) ht.isList ht'.isList (by simp only [List.size_toArray, ← rv.length, ← rv'.length, hl]) (by omega) (fun j h1 h2 => ?_) X.prog X.w X.xe _ ?_
  ·have j1 : j < its.length := by simpa using h1
   have j2 : j < its'.length := by simpa using h2
   obtain ⟨v1, e1, r1⟩ := AO.get' rv (List.getElem?_eq_getElem j1)
   obtain ⟨v2, e2, r2⟩ := AO.get' rv' (List.getElem?_eq_getElem j2)
   exact (ha j v1 v2 e1 e2).eqAt I r1 r2 (show X.A.units + 1 + n < cLine by omega)
  ·exact BM I hq (by rw [KF])
theorem mG {K : PySem.W.Frag} {H : Hp} {d : List D} {x y : V} (h1 : Rp K H (.tup d) x) (h2 : Rp K H (.tup d) y) (hd : depL d ≤ 60) : ∃ n p q xs ys, n ≤ 60 ∧ x = .ref p ∧ y = .ref q ∧ ((SqT K H p xs ∧ SqT K H q ys) ∨ (SqL K H p xs ∧ SqL K H q ys)) ∧ xs.length = ys.length ∧ (∀ (i : Nat) (x y : V), xs[i]? = some x → ys[i]? = some y → ER K H n x y) := by
 rw [Rp] at h1 h2
 obtain ⟨p, xs, rfl, hp, l1⟩ := h1
 obtain ⟨q, ys, rfl, hq, l2⟩ := h2
 exact ⟨depL d, p, q, xs, ys, hd, rfl, rfl, .inl ⟨hp, hq⟩, by rw [l1.length, l2.length], RpL.alike l1 l2⟩
end
structure gQ (P : Program) (w : World) (l : List Env) (H H' : Hp) (h B : Heap) : Prop where
 hok : HOk P w H' B
 keep : ∀ b o, h.get? b = some o → H b = none → b ∉ frs l → B.get? b = some o
 there : ∀ b o, h.get? b = some o → b ∉ frs l → ∃ o', B.get? b = some o'
def CXr (P : Program) (w : World) : CXT := fun outer H s E e s' => ∃ (a : Addr) (C : Value) (H' : Hp) (B : Heap) (a0 : Value), e = .ref a ∧ s'.os = s.os ∧ AllBare s'.gens ∧ Un (frs outer) [] H H' s.heap s'.heap ∧
 Heap.FlyingW B outer a C a0 s'.heap ∧ gQ P w outer H H' s.heap B ∧ E C none H'
theorem Un.flown {fs : List Addr} {H H' : Hp} {h h1 h2 B : Heap} (u : Un fs [] H H' h h1) (hf : ∀ b ∈ fs, ∃ o, h1.get? b = some o ∧ ∀ vs, o.data ≠ .fields vs)
  (k1 : ∀ b o, h.get? b = some o → H b = none → b ∉ fs → B.get? b = some o) (k2 : ∀ b o, h.get? b = some o → b ∉ fs → ∃ o', B.get? b = some o') (st : B.StaysIn h2) (up : h1.UpToSlots h2) : Un fs [] H H' h h2 where
 keep := fun b o q n hb _ => st _ _ (k1 b o q n hb)
 slot := fun b o q n hb hx => by
  obtain ⟨sl, e⟩ := u.slot b o q n hb hx
  obtain ⟨o', e', hd⟩ := hf b hb
  rw [e] at e'; cases e'
  obtain ⟨sl', e2⟩ := up b _ e hd
  exact ⟨sl', e2⟩
 free := u.free
 there := fun b o q hx => by
  by_cases hb : b ∈ fs
  ·obtain ⟨o', e, hd⟩ := hf b hb
   obtain ⟨sl, e2⟩ := up b _ e hd
   exact ⟨_, e2⟩
  ·obtain ⟨o', e⟩ := k2 b o q hb
   exact ⟨o', st _ _ e⟩
 tups := u.tups
 frzs := u.frzs
 tbls := u.tbls
theorem FM {h B : Heap} {l : List Env} (hl : h.FunFrames B l) : ∀ b ∈ frs l, ∃ o, h.get? b = some o ∧ ∀ vs, o.data ≠ .fields vs := fun b hb => (hl.mem hb).2
section
variable {X : Cx} {pins : List (Addr × Obj)} {σ : St} {H H' : Hp} {s s' : Shared}
theorem Inv.flown {a : Addr} {C a0 : Value} {B h2 : Heap} (I : Inv X pins σ H s) (os : s'.os = s.os) (bare : AllBare s'.gens) (un : Un (frs X.stack) [] H H' s.heap s'.heap) (fl : Heap.FlyingW B X.stack a C a0 s'.heap)
  (bl : gQ X.prog X.w X.stack H H' s.heap B) (st : B.StaysIn h2) (up : s'.heap.UpToSlots h2) : Inv X pins σ H' { s' with heap := h2 } :=
 Inv.call' (s' := { s' with heap := h2 }) (ch := []) I os (un.flown (FM fl.2.2.1) bl.keep bl.there st up) (bl.hok.kept st) bare (fun b z => absurd z (by simp))
end
section
variable {P : Program} {w : World} {K : PySem.W.Frag} {mg : Str → Option Value} {base : Heap} {N : List Str} {qual : Str} {scope : Scope} {f : Addr} {cd : Value} {A : Around} {outer : List Env} {s : Shared} {H : Hp} {E : XK}
theorem JG (b : Addr) (o : Obj) (q : s.heap.get? b = some o) (hb : b ∉ frs outer) : b ∉ frs (envOfC qual scope s.heap.objs.size f cd :: outer) := fun m => by
 unfold frs at m
 rw [List.filterMap_cons] at m
 have e : (envOfC qual scope s.heap.objs.size f cd).frame = some s.heap.objs.size := rfl
 rw [e] at m
 rcases List.mem_cons.mp m with z | z
 ·rw [z] at q
  exact absurd (Heap.lt_size q) (Nat.lt_irrefl _)
 ·exact hb z
theorem CQ : GD (CXr P w) (EO (CXr P w) P w K mg base N qual scope f cd A outer s H E) E := by
 intro pins σ H1 s1 e s' I h
 obtain ⟨a, C, H', B, a0, rfl, os, bare, un, fl, bl, q⟩ := h
 show wpAny (model P w) _ (leaving _ (.ref a)) _ _ s'
 refine wpAny_leaves_onW I.ok.frames rfl fl fun h' fl' up => ?_
 have J := I.flown os bare un fl bl fl'.1 up
 refine ⟨a, C, H', B, a0, rfl, J.os, J.bare, J.base, fl', ⟨bl.hok, fun b o q n hb => ?_, fun b o q hb => ?_⟩, q⟩
 ·exact bl.keep b o (I.base.keep b o q n hb (by simp [EO])) (I.base.free b o q n (by simp [EO])) (JG b o q hb)
 ·obtain ⟨o1, e1⟩ := I.base.there b o q (by simp [EO])
  exact bl.there b o1 e1 (JG b o q hb)
def pM (X : Cx) (E : XK) : Prop := ∀ (pins : List (Addr × Obj)) (σ : St) (H : Hp) (s : Shared) (h' : Heap) (a C : Addr) (vs : List Value), Inv X pins σ H s → Heap.MadeExcOf s.heap h' a (.ref C) vs → E (.ref C) none H → X.xe (.ref a) { s with heap := h' }
theorem UN : pM (EO (CXr P w) P w K mg base N qual scope f cd A outer s H E) E := by
 intro pins σ H1 s1 h1 a C vs I hx q
 show wpAny (model P w) _ (leaving _ (.ref a)) _ _ _
 have hin : ∀ env ∈ (EO (CXr P w) P w K mg base N qual scope f cd A outer s H E).stack, ∀ b, env.frame = some b → b ∈ frs (EO (CXr P w) P w K mg base N qual scope f cd A outer s H E).stack := fun env he b hb => List.mem_filterMap.mpr ⟨env, he, hb⟩
 have hokB : HOk P w H1 (PySem.W.hideAll s1.heap (frs (EO (CXr P w) P w K mg base N qual scope f cd A outer s H E).stack)) := fun b o e => (I.hok b o e).stay (fun c u hc q => PySem.W.hideAll_get _ q fun m => by
  have n := I.stkFree c m
  rcases hc with rfl | hc
  ·rw [e] at n; cases n
  ·rw [hc] at n; cases n) (fun _ q => q) fun _ _ q => q
 refine wpAny_leaves_madeW (base := PySem.W.hideAll s1.heap (frs (EO (CXr P w) P w K mg base N qual scope f cd A outer s H E).stack)) I.ok.frames rfl (fun b o q => PySem.W.of_hideAll _ q) (PySem.W.funFrames_hide I.stack hin) hx fun h' t fl' tup new up => ?_
 have bl : gQ P w (EO (CXr P w) P w K mg base N qual scope f cd A outer s H E).stack H1 H1 s1.heap (PySem.W.hideAll s1.heap (frs (EO (CXr P w) P w K mg base N qual scope f cd A outer s H E).stack)) :=
  ⟨hokB, fun b o q _ hb => PySem.W.hideAll_get _ q hb, fun b o q hb => ⟨o, PySem.W.hideAll_get _ q hb⟩⟩
 have un : Un (frs (EO (CXr P w) P w K mg base N qual scope f cd A outer s H E).stack) [] H1 H1 s1.heap h' :=
  (Un.kept (h' := h1) hx.keeps).flown (fun b hb => by obtain ⟨o, e, hd⟩ := (I.stack.mem hb).2; exact ⟨o, hx.keeps _ _ e, hd⟩) bl.keep bl.there fl'.1 up
 have J : Inv (EO (CXr P w) P w K mg base N qual scope f cd A outer s H E) pins σ H1 { s1 with heap := h' } := Inv.call' (s' := { s1 with heap := h' }) (ch := []) I rfl un (hokB.kept fl'.1) I.bare (fun b z => absurd z (by simp))
 refine ⟨a, .ref C, H1, _, .ref t, rfl, J.os, J.bare, J.base, fl', ⟨hokB, fun b o q n hb => ?_, fun b o q hb => ?_⟩, q⟩
 ·exact bl.keep b o (I.base.keep b o q n hb (by simp [EO])) (I.base.free b o q n (by simp [EO])) (JG b o q hb)
 ·obtain ⟨o1, e1⟩ := I.base.there b o q (by simp [EO])
  exact bl.there b o1 e1 (JG b o q hb)
theorem Fun.okR {x : Str} {st : Stmt} {fd : FuncData} {ps : List Str} {k : Nat} {sp : Sp} (F : Fun K x qual st f fd) (S : AQ N ps (AE st)) (len : ∀ vs H Q E, sp vs H Q E → vs.length = ps.length)
  (hbody : ∀ (cdv : Value) (A : Around) (outer : List Env) (s : Shared) (H : Hp) (vs : List V) (Q : VK) (E : XK), ET k (A.deeper (envOfC qual (AE st) s.heap.objs.size f cdv)) → sp vs H Q E →
   ∃ t, PSs (EO (CXr P w) P w K mg base N qual (AE st) f cdv A outer s H E) (AL st) t ∧ t { nx := fun _ H' => Q .non H', rt := Q } (start N vs) H) : BF P w K mg base (CXr P w) (k + 1) f fd ps sp := by
 obtain ⟨oc, od, kV, doc, pm, an, cdv, ct, osl, rfl, lk, hcd⟩ := F.ex
 exact kS lk hcd S len fun A outer s H vs Q E hr hsp => hbody cdv A outer s H vs Q E hr hsp
theorem BF.upR {k : Nat} {fd : FuncData} {ps : List Str} {sp : Sp} (F : BF P w K mg base CX0 k f fd ps sp) : BF P w K mg base (CXr P w) k f fd ps sp :=
 ⟨F.len, fun A outer s H args us vs Q E hr e0 hb r h => codeAny_mono (F.run A outer s H args us vs Q E hr e0 hb r h) fun r s' q => by
  cases r with
  | error e => exact False.elim q
  | ok fl => cases fl <;> exact q⟩
end
abbrev veB : List Value := [.type "ValueError", .type "Exception", .type "BaseException", .type "object"]
def CP (K : PySem.W.Frag) (HE C : Addr) : Bool := !(C == HE) && PySem.W.ktsIn K C "BaseException" && PySem.W.tailIn K veB (.ref HE :: veB) && match K.lookup C with
 | some ⟨_, _, .cls cd, sl⟩ => cd.mro == (.ref C :: .ref HE :: veB) && PySem.W.nsOkIn K cd.ns && PySem.W.nsIn K cd.ns "__init__" == some none && sl.toList[4]? == some (some (.builtin "ValueError.__new__"))
 | _ => false
theorem CP.ne {K : PySem.W.Frag} {HE C : Addr} (q : CP K HE C = true) : C ≠ HE := by
 unfold CP at q
 simp only [Bool.and_eq_true, Bool.not_eq_true', beq_eq_false_iff_ne] at q
 exact q.1.1.1
theorem CP.obj {K : PySem.W.Frag} {HE C : Addr} {h : Heap} (q : CP K HE C = true) (k : K.In h) : ∃ nm qn N bs hdct sn sub ab col dd k0 k1 k2 k3 k5 mN,
  h.get? C = some (excClassObj nm qn C N bs (.ref HE :: veB) hdct sn sub ab col dd k0 k1 k2 k3 k5 "ValueError.__new__") ∧ h.Ns N mN ∧ mN "__init__" = none ∧ OwnTail h veB (.ref HE :: veB) := by
 unfold CP at q
 simp only [Bool.and_eq_true] at q
 obtain ⟨⟨⟨_, q1⟩, q2⟩, q3⟩ := q
 obtain ⟨nm, qn, N, bs, bm, hdct, sn, sub, ab, col, dd, k0, k1, k2, k3, k5, nid, e, _, _⟩ := PySem.W.kts_cls k q1
 split at q3
 ·rename_i c0 d0 cd sl lk
  have e2 := k _ _ lk
  rw [e] at e2
  simp only [Option.some.injEq, Obj.mk.injEq, Data.cls.injEq] at e2
  obtain ⟨_, _, rfl, rfl⟩ := e2
  simp only [Bool.and_eq_true, beq_iff_eq] at q3
  obtain ⟨⟨⟨m1, m2⟩, m3⟩, m4⟩ := q3
  have m1 : Value.ref C :: bm = .ref C :: .ref HE :: veB := m1
  injection m1 with _ m1
  subst m1
  have m4 : some (some (Value.builtin nid)) = some (some (.builtin "ValueError.__new__")) := m4
  have m4 : nid = "ValueError.__new__" := by injection m4 with m4; injection m4 with m4; injection m4
  subst m4
  exact ⟨nm, qn, N, bs, hdct, sn, sub, ab, col, dd, k0, k1, k2, k3, k5, _, e, .of_isNs (PySem.W.isNs_of_in k m2), PySem.W.nsMap_none_of_in k m2 m3, PySem.W.tail_of_in k q2⟩
 ·cases q3
section
variable {X : Cx} {E : XK} {C HE : Addr} {x : Str} {np cpos pos : Pos} {e : Expr} {es : List Expr} {t : TA}
def MW (C : Addr) (E : XK) (t : TA) : TS := fun _ σ H => t σ H fun vs H1 => vs.length ≤ sizeLine ∧ E (.ref C) none H1
theorem IH (hM : pM X E) (hc : X.calm = true) (hx : CP X.K HE C = true) (hg : Gl X x) (hm : X.mg x = some (.ref C)) (ha : PA X (e :: es) t) (hdb : (x == ("__debug__" : Str)) = false := by decide)
  (he : starEach (e :: es) X.env = (false, eval e X.env) :: starEach es X.env := by rfl) (hpl : (backTo cpos (starEach es X.env)).any (·.1) = false := by rfl) :
  PS X (.Raise (some (.Call (.Name x np) (e :: es) [] cpos)) none pos) (MW C E t) := by
 intro pins s σ H D I h
 obtain ⟨nm, q, N, bs, hdct, sn, sub, ab, col, dd, k0, k1, k2, k3, k5, mN, hC, hN, hni, T⟩ := CP.obj hx I.mod.kin
 refine wpAny_Raise_call_subU (C := C) (nm := nm) (q := q) (N := N) (bs := bs) (bm := .ref HE :: veB) (hdct := hdct) (sn := sn) (sub := sub) (ab := ab) (col := col) (dd := dd) (k0 := k0) (k1 := k1) (k2 := k2) (k3 := k3) (k5 := k5)
  PySem.F.excBase_ValueError (by decide) PySem.F.excBase_ValueError (mN := mN) (by rw [List.contains_cons]; rfl) (I.ok.hd hc) (by rw [he]; show (false || (backTo cpos (starEach es X.env)).any (·.1)) = false; rw [hpl]; rfl) hni (GA I hg hm ⟨rfl, ?_⟩ hdb)
 have h0 := ha cpos pins s σ H _ I h
 rw [he] at h0 ⊢
 exact Calls.evalArgs_plain (wpAny_mono h0 (fun us s2 ⟨vs, H2, I2, r, l, q⟩ => ⟨rfl, by rw [← r.length]; exact l, I2.bk _ _ hC, hN.keeps I2.bk, T.keeps I2.bk, fun h' a hm => hM pins σ H2 s2 h' a C us I2 hm q⟩) fun _ _ y => y)
end
theorem YV {M : Model} {A : Around} {E : Value → Shared → Prop} {K : PySem.W.Frag} {HE C D e : Addr} {s : Shared} {oe : Obj} {Q : Bool → Shared → Prop} (qC : CP K HE C = true) (qD : CP K HE D = true) (k : K.In s.heap)
  (he : s.heap.get? e = some oe) (hcls : oe.cls = .ref C) (hq : Q (decide (C = D)) s) : wpAny M A (excMatches (.ref e) (.ref D)) Q E s := by
 obtain ⟨nm, q, N, bs, hdct, sn, sub, ab, col, dd, k0, k1, k2, k3, k5, _, hC, _, _, _⟩ := CP.obj qC k
 obtain ⟨nm', q', N', bs', hdct', sn', sub', ab', col', dd', l0, l1, l2, l3, l5, _, hD, _, _, _⟩ := CP.obj qD k
 obtain ⟨h, g, d, t, os⟩ := s
 by_cases cd : C = D
 ·subst cd
  rw [decide_eq_true rfl] at hq
  exact wpAny_excMatches_sub_self hC he hcls (by rw [List.contains_cons]; rfl) hq
 ·rw [decide_eq_false cd] at hq
  have hcB : (Value.ref D :: .ref HE :: veB).contains (.type "BaseException") = true := by rw [List.contains_cons, List.contains_cons]; rfl
  have hcC : (Value.ref C :: .ref HE :: veB).contains (.ref D) = false := by
   rw [List.contains_cons, List.contains_cons]
   have n1 : (Value.ref D == Value.ref C) = false := by simpa using fun z => cd z.symm
   have n2 : (Value.ref D == Value.ref HE) = false := by simpa using CP.ne qD
   rw [n1, n2]
   rfl
  have f := tc_notTuple
  unfold excMatches
  repeat (first | (with_reducible refine wpAny_loadPart_at he ?_; rw [hcls]) | with_reducible refine wpAny_loadPart_at hD ?_ | (with_reducible refine wpAny_isSubtype_exc hD ?_; rw [hcB]) | (with_reducible refine wpAny_isSubtype_exc hC ?_; rw [hcC]) | wp_step)
  exact hq
abbrev Cx.sub (X : Cx) (a : Addr) : Cx := { X with A := X.A.mark (some (.ref a)), calm := false, xe := fun _ _ => False }
section
variable {X : Cx} {pins : List (Addr × Obj)} {σ : St} {H : Hp} {s : Shared} {a : Addr}
theorem Inv.sub (I : Inv X pins σ H s) (a : Addr) : Inv (X.sub a) pins σ H s :=
 ⟨⟨I.ok.mod, I.ok.kind, I.ok.glob, I.ok.blt, I.ok.above, I.ok.inj, I.ok.has, I.ok.cab, (fun z => by cases z), I.ok.frames, I.ok.stk, I.ok.exf, I.ok.bs, I.ok.bsz, I.ok.noex, I.ok.exfs, I.ok.funs, I.ok.frf⟩, I.os, I.bare, I.base, I.loc, I.cell, I.free, I.freeC, I.pin, I.hok, I.len⟩
theorem Inv.unsub (ok : X.Ok) (I : Inv (X.sub a) pins σ H s) : Inv X pins σ H s := ⟨ok, I.os, I.bare, I.base, I.loc, I.cell, I.free, I.freeC, I.pin, I.hok, I.len⟩
theorem SP.unsub (ok : X.Ok) {D : GG} {f : Flow} {s' : Shared} (h : SP (X.sub a) pins D f s') : SP X pins D f s' := by
 cases f with
 | next => obtain ⟨σ', H', I, q⟩ := h; exact ⟨σ', H', I.unsub ok, q⟩
 | brk => obtain ⟨σ', H', I, q⟩ := h; exact ⟨σ', H', I.unsub ok, q⟩
 | cont => obtain ⟨σ', H', I, q⟩ := h; exact ⟨σ', H', I.unsub ok, q⟩
 | ret u => obtain ⟨v, σ', H', I, r, q⟩ := h; exact ⟨v, σ', H', I.unsub ok, r, q⟩
end
def FL (X : Cx) (pins : List (Addr × Obj)) (σ : St) (E : XK) (ev : Value) (s' : Shared) : Prop := ∃ (a : Addr) (C a0 : Value) (B : Heap) (H' : Hp), ev = .ref a ∧ Heap.FlyingW B X.stack a C a0 s'.heap ∧
 (∀ h2, B.StaysIn h2 → s'.heap.UpToSlots h2 → Inv X pins σ H' { s' with heap := h2 }) ∧ E C none H'
abbrev TX := St → Hp → VK → XK → Prop
def PX (X : Cx) (e : Expr) (t : TX) : Prop :=
 ∀ (pins : List (Addr × Obj)) (s : Shared) (σ : St) (H : Hp) (Q : VK) (E : XK), Inv X pins σ H s → t σ H Q E → wpAny (model X.prog X.w) X.A (eval e X.env) (EP X pins σ Q) (FL X pins σ E) s
abbrev HX := Value → GG → St → Hp → Prop
def PH (X : Cx) (hs : List ExceptHandler) (th : HX) : Prop :=
 ∀ (pins : List (Addr × Obj)) (s : Shared) (σ : St) (H : Hp) (D : GG) (a : Addr) (C a0 : Value) (B : Heap), X.Ok → Heap.FlyingW B X.stack a C a0 s.heap → (∀ h2, B.StaysIn h2 → s.heap.UpToSlots h2 → Inv X pins σ H { s with heap := h2 }) → th C D σ H →
  wpAny (model X.prog X.w) X.A (handleBy (.ref a) X.env hs) (SP X pins D) X.xe s
section
variable {X : Cx}
theorem mE : PH X [] fun _ _ _ _ => False := fun _ _ _ _ _ _ _ _ _ _ _ _ h => h.elim
def tHc (K : PySem.W.Frag) (HE d : Addr) (ts : TS) (tr : HX) : HX := fun C D σ H => ∃ c, C = .ref c ∧ CP K HE c = true ∧ if c = d then ts D σ H else tr C D σ H
theorem NI (h : Heap) : h.UpToSlots h := fun b o q _ => ⟨o.slots, q⟩
theorem QM {HE d : Addr} {y : Str} {np pos : Pos} {b₀ : Stmt} {suite : List Stmt} {DQ : List ExceptHandler} {ts : TS} {tr : HX} (hg : Gl X y) (hm : X.mg y = some (.ref d)) (hd : CP X.K HE d = true)
  (hs : ∀ a, PSs (X.sub a) (b₀ :: suite) ts) (hr : PH X DQ tr) (hdb : (y == ("__debug__" : Str)) = false := by decide) :
  PH X (.ExceptHandler (some (.Name y np)) none (b₀ :: suite) pos :: DQ) (tHc X.K HE d ts tr) := by
 intro pins s σ H D a C a0 B ok fl st h
 obtain ⟨c, rfl, hc, h⟩ := h
 have I0 := st s.heap fl.1 (NI _)
 obtain ⟨oe, he, hcls⟩ := fl.there
 refine wpAny_handleBy_cons (codeAny_handlers_test (GA (X := X.sub a) (I0.sub a) hg hm ?_ hdb)) (by intro q; cases q)
 refine YV (K := X.K) hc hd I0.kIn he hcls ?_
 by_cases e : c = d
 ·rw [decide_eq_true e]
  rw [if_pos e] at h
  refine codeAny_handlers_suite (lands_againW fl fun h2 fl2 up2 => ?_)
  refine wpAny_mono (hs a pins _ σ H D ((st h2 fl2.1 up2).sub a) h) (fun f s2 q => SP.unsub ok q) fun _ _ z => z.elim
 ·rw [decide_eq_false e]
  rw [if_neg e] at h
  exact hr pins s σ H D a (.ref c) a0 B ok fl st h
end
section
variable {X : Cx} {k : Nat} {f C : Addr} {fd : FuncData} {ps : List Str} {sp : Sp} {dvs : List V} {ds : List Value} {x : Str} {p pos : Pos} {e : Expr} {es : List Expr} {t : TA}
theorem FL.of {pins : List (Addr × Obj)} {σ : St} {H : Hp} {s s' : Shared} {E : XK} {ev : Value} (I : Inv X pins σ H s) (h : CXr X.prog X.w X.stack H s E ev s') : FL X pins σ E ev s' := by
 obtain ⟨a, C, H', B, a0, rfl, os, bare, un, fl, bl, q⟩ := h
 exact ⟨a, C, a0, B, H', rfl, fl, fun h2 st up => I.flown os bare un fl bl st up, q⟩
theorem jO {pins : List (Addr × Obj)} {σ : St} {H : Hp} {s : Shared} {Q : VK} {E : XK} {us : List Value} {vs : List V} (F : BF X.prog X.w X.K X.mg X.base (CXr X.prog X.w) k f fd ps sp) (hr : ET k X.A) (hb : FY X.K fd ps ds) (hd : AO dvs ds)
  (I : Inv X pins σ H s) (r : AO vs us) (h : sp (vs ++ dvs) H Q E) : wpAny (model X.prog X.w) X.A (call (.ref f) us) (EP X pins σ Q) (FL X pins σ E) s := by
 have r2 : AO (vs ++ dvs) (us ++ ds) := r.append hd
 have hl : (us ++ ds).length = ps.length := by rw [← r2.length]; exact F.len _ _ _ _ h
 refine wpAny_call (codeAny_mono (F.run X.A X.stack s H ⟨us, []⟩ (us ++ ds) (vs ++ dvs) Q E hr I.env0 (hb s us I.kIn hl) r2 h) fun r s' hq => ?_)
 cases r with
 | error e => exact FL.of I hq
 | ok fl =>
  cases fl with
  | ret u => exact I.after hq
  | next => exact False.elim hq
  | brk => exact False.elim hq
  | cont => exact False.elim hq
def MZ (sp : Sp) (dvs : List V) (t : TA) : TX := fun σ H Q E => t σ H fun vs H1 => sp (vs ++ dvs) H1 Q E
theorem XR (F : BF X.prog X.w X.K X.mg X.base (CXr X.prog X.w) k f fd ps sp) (hr : ET k X.A) (hg : Gl X x) (hm : X.mg x = some (.ref f)) (hk : PySem.W.keepIn X.K (.ref f) = true) (hb : FY X.K fd ps ds) (hd : AO dvs ds)
  (ha : PA X.nox (e :: es) t) (hdb : (x == ("__debug__" : Str)) = false := by decide) (he : starEach (e :: es) X.env = (false, eval e X.env) :: starEach es X.env := by rfl) (hpl : (backTo pos (starEach es X.env)).any (·.1) = false := by rfl) :
  PX X (.Call (.Name x p) (e :: es) [] pos) (MZ sp dvs t) := by
 intro pins s σ H Q E I h
 refine wpAny_Call_Name_kw (GA I hg hm ?_ hdb)
 refine PySem.W.callWith_K (h₀ := X.base) I.ok.mod.kin hk (wpAny_mono (ha pos pins s σ H _ (I.wish _) h) (fun us s1 ⟨vs, H1, I1, r, q⟩ => ⟨I1.unwish.kIn, ?_⟩) fun _ _ z => z.elim) he hpl
 exact jO F hr hb hd I1.unwish r q
end
section
variable {X : Cx} {e : Expr} {te : TX} {h₀ : ExceptHandler} {hs : List ExceptHandler} {th : HX} {pos pos' pos'' : Pos} {x : Str} {i : Nat} {L : Addr}
theorem handled (hst : X.stack = X.env :: X.outer) (hf : X.env.frame = some L) (ph : PH X (h₀ :: hs) th) {pins : List (Addr × Obj)} {σ : St} {D : GG} {ev : Value} {s : Shared} (ok : X.Ok) (h : FL X pins σ (fun C _ H' => th C D σ H') ev s) :
  wpAny (model X.prog X.w) X.A (noteFrame ev X.env) (fun _ s₂ => wpAny (model X.prog X.w) X.A (setFlight ev none) (fun _ s₃ => wpAny (model X.prog X.w) X.A (handleBy ev X.env (h₀ :: hs)) (SP X pins D) X.xe s₃) X.xe s₂) X.xe s := by
 obtain ⟨a, C, a0, B, H', rfl, fl, st, q⟩ := h
 have fl := fl
 rw [hst] at fl
 refine wpAny_looks_onW (by rw [ok.frames, hst]) hf fl fun h4 held up4 => ?_
 refine wpAny_landsW held fun h5 fl5 up5 => ?_
 rw [← hst] at fl5
 exact ph pins _ σ H' D a C a0 B ok fl5 (fun h2 s2 u2 => st h2 s2 ((up4.trans up5).trans u2)) q
def IF (te : TX) (th : HX) : TS := fun D σ H => te σ H (fun _ H' => D.nx σ H') fun C _ H' => th C D σ H'
theorem OQ (hst : X.stack = X.env :: X.outer) (hf : X.env.frame = some L) (he : PX X e te) (ph : PH X (h₀ :: hs) th) (hs' : swapsWith e none pos'.line X.env = pure false := by rfl) :
  PS X (.Try [.Expr e pos'] (h₀ :: hs) [] [] pos) (IF te th) := by
 intro pins s σ H D I h
 refine wpAny_Try_except (wpAny_execs_cons ?_)
 refine wpAny_Expr_any (wpAny_mono (he pins s σ H _ _ I h) (fun v s1 ⟨y, H1, I1, r1, q1⟩ => ?_) fun ev s1 q => handled hst hf ph I.ok q) I.quiet hs'
 exact wpAny_execs_nil (wpAny_execs_nil ⟨_, H1, I1, q1⟩)
end
def Fly (B : Heap) (l : List Env) (a : Addr) (C a0 : Value) (h : Heap) : Prop := B.StaysIn h ∧ B.get? a = none ∧ h.FunFrames B l ∧ ∃ fl, h.TracedAtW B a C a0 fl
theorem Fly.of {B h : Heap} {l : List Env} {a : Addr} {C a0 : Value} (x : Heap.FlyingW B l a C a0 h) : Fly B l a C a0 h := ⟨x.1, x.2.1, x.2.2.1, _, x.2.2.2⟩
theorem Fly.of_held {B h : Heap} {l : List Env} {a L : Addr} {C a0 : Value} (x : Heap.HeldW B l a C a0 L h) : Fly B l a C a0 h := ⟨x.1, x.2.1, x.2.2.1, _, x.2.2.2⟩
theorem YD {B h : Heap} {l : List Env} {T : Addr} {oT : Obj} {ts : Array Value} {v : Value} (st : B.StaysIn h) (ff : h.FunFrames B l) (hT : h.get? T = some oT) (hd : oT.data = .fields ts) (hn : B.get? T = none) :
  B.StaysIn (h.update T (Obj.mapFields fun z => z.setIfInBounds 3 v)) ∧ (h.update T (Obj.mapFields fun z => z.setIfInBounds 3 v)).FunFrames B l ∧ h.UpToSlots (h.update T (Obj.mapFields fun z => z.setIfInBounds 3 v)) ∧
   (∀ b, b ≠ T → (h.update T (Obj.mapFields fun z => z.setIfInBounds 3 v)).get? b = h.get? b) ∧ (h.update T (Obj.mapFields fun z => z.setIfInBounds 3 v)).get? T = some (Obj.mapFields (fun z => z.setIfInBounds 3 v) oT) := by
 have away : ∀ b, b ≠ T → (h.update T (Obj.mapFields fun z => z.setIfInBounds 3 v)).get? b = h.get? b := fun b nb => Heap.get?_update_other _ _ fun z => nb z.symm
 have nrec : ∀ b o, h.get? b = some o → (∀ vs, o.data ≠ .fields vs) → b ≠ T := by
  rintro b o e nf rfl
  rw [hT] at e; cases e
  exact nf ts hd
 refine ⟨fun b o e => ?_, ff.of_keeps fun b o e nf => ⟨o, by rw [away b (nrec b o e nf)]; exact e, rfl⟩, fun b o e nf => ⟨o.slots, by rw [away b (nrec b o e nf)]; exact e⟩, away, Heap.get?_update_self _ hT (Obj.isFreed_of_fields (Obj.data_mapFields hd _))⟩
 rw [away b (by rintro rfl; rw [hn] at e; cases e)]
 exact st b o e
section
variable {M : Model} {A : Around} {E : Value → Shared → Prop} {s : Shared} {B : Heap} {l : List Env} {a : Addr} {C a0 : Value}
theorem XN {fr : Option Addr} {Q : Unit → Shared → Prop} (x : Fly B l a C a0 s.heap) (h : ∀ h', Fly B l a C a0 h' → s.heap.UpToSlots h' → Q () { s with heap := h' }) : wpAny M A (setFlight (.ref a) fr) Q E s := by
 obtain ⟨x1, x2, x3, fl, oe, ws, T, oT, ts, y1, y2, y3, y4, y5, y6, y7, y8, y9⟩ := x
 have sz : 3 < ts.size := (Array.getElem?_eq_some_iff.mp y9).1
 unfold setFlight
 refine wpAny_bind (wpAny_field y1 y3 y4 ?_)
 rw [if_pos (by simp)]
 obtain ⟨z1, z2, z3, z4, z5⟩ := YD (l := l) (v := fr.elim Value.none fun f => rawInt f) x1 x3 y7 y8 y5
 refine wpAny_setField y7 y8 sz (h _ ⟨z1, x2, z2, fr.elim Value.none fun f => rawInt f, oe, ws, T, _, _, (z4 a (Ne.symm y6)).trans y1, y2, y3, y4, y5, y6, z5, Obj.data_mapFields y8 _, ?_⟩ z3)
 ·simp [sz]
theorem VG {env : Env} {outer : List Env} {L : Addr} {Q : Unit → Shared → Prop} (hfr : A.frames = some (env :: outer)) (hf : env.frame = some L) (x : Fly B (env :: outer) a C a0 s.heap)
  (h : ∀ h', Heap.FlyingW B outer a C a0 h' → s.heap.UpToSlots h' → Q () { s with heap := h' }) : wpAny M A (leaving env (.ref a)) Q E s := by
 have land : ∀ h1, Heap.HeldW B (env :: outer) a C a0 L h1 → s.heap.UpToSlots h1 → wpAny M A (setFlight (.ref a) none) Q E { s with heap := h1 } := fun h1 hh up =>
  wpAny_landsW (s := { s with heap := h1 }) hh fun h2 fl up2 => h h2 ⟨fl.1, fl.2.1, fl.2.2.1.2.2, fl.2.2.2⟩ (up.trans up2)
 obtain ⟨x1, x2, x3, fl, tr⟩ := x
 unfold leaving
 refine wpAny_bind ?_
 by_cases e : fl = rawInt L
 ·subst e
  exact wpAny_noteFrame_againW hf tr (land s.heap ⟨x1, x2, x3, tr⟩ (Heap.UpToSlots.refl _))
 ·obtain ⟨oe, ws, T, oT, ts, y1, ⟨y2, y2'⟩, y3, y4, y5, y6, y7, y8, y9⟩ := tr
  subst y2
  have sz : 3 < ts.size := (Array.getElem?_eq_some_iff.mp y9).1
  unfold noteFrame
  simp only [hf]
  refine wpAny_bind (wpAny_field y1 y3 y4 ?_)
  rw [if_pos (by simp)]
  refine wpAny_bind (wpAny_field y7 y8 y9 ?_)
  rw [if_neg (by simpa using e)]
  obtain ⟨z1, z2, z3, z4, z5⟩ := YD (l := env :: outer) (v := Value.none) x1 x3 y7 y8 y5
  refine wpAny_bind (wpAny_setField y7 y8 sz ?_)
  exact wpAny_entryW hfr z2 hf ((z4 a (Ne.symm y6)).trans y1) z1 x2 y3 (Array.getElem?_eq_some_iff.mp y4).1 y2' fun h' nt => land h' ⟨nt.1, x2, nt.2.1, nt.2.2.1⟩ (z3.trans nt.2.2.2)
end
structure WU (P : Program) (w : World) (l : List Env) (ch : List Addr) (H H' : Hp) (h B : Heap) : Prop where
 hok : HOk P w H' B
 keep : ∀ b o, h.get? b = some o → H b = none → b ∉ frs l → b ∉ ch → B.get? b = some o
 there : ∀ b o, h.get? b = some o → b ∉ frs l → b ∉ ch → ∃ o', B.get? b = some o'
def mM (X : Cx) (E : XK) : Prop := ∀ (pins : List (Addr × Obj)) (σ : St) (H H' : Hp) (s s' : Shared) (ch : List Addr) (B : Heap) (a : Addr) (C a0 : Value), Inv X pins σ H s → s'.os = s.os → AllBare s'.gens → Un (frs X.stack) ch H H' s.heap s'.heap →
 (∀ b ∈ ch, (b ∈ X.ex ∨ X.s₀.heap.objs.size ≤ b) ∧ b ≠ X.env.locals ∧ (∀ x c, X.env.cells.lookup x = some c → c ≠ b) ∧ ∀ p ∈ X.pn ++ pins, p.1 ≠ b) → Fly B X.stack a C a0 s'.heap → WU X.prog X.w X.stack ch H H' s.heap B → E C none H' → X.xe (.ref a) s'
theorem Un.flown2 {fs ch : List Addr} {H H' : Hp} {h h1 h2 B : Heap} (u : Un fs ch H H' h h1) (hf : ∀ b ∈ fs, ∃ o, h1.get? b = some o ∧ ∀ vs, o.data ≠ .fields vs)
  (k1 : ∀ b o, h.get? b = some o → H b = none → b ∉ fs → b ∉ ch → B.get? b = some o) (k2 : ∀ b o, h.get? b = some o → b ∉ fs → b ∉ ch → ∃ o', B.get? b = some o') (st : B.StaysIn h2) (up : ∀ b ∈ fs, ∀ o, h1.get? b = some o → (∀ vs, o.data ≠ .fields vs) → ∃ sl, h2.get? b = some { o with slots := sl }) : Un fs ch H H' h h2 where
 keep := fun b o q n hb hx => st _ _ (k1 b o q n hb hx)
 slot := fun b o q n hb hx => by
  obtain ⟨sl, e⟩ := u.slot b o q n hb hx
  obtain ⟨o', e', hd⟩ := hf b hb
  rw [e] at e'; cases e'
  obtain ⟨sl', e2⟩ := up b hb _ e hd
  exact ⟨sl', e2⟩
 free := u.free
 there := fun b o q hx => by
  by_cases hb : b ∈ fs
  ·obtain ⟨o', e, hd⟩ := hf b hb
   obtain ⟨sl, e2⟩ := up b hb _ e hd
   exact ⟨_, e2⟩
  ·obtain ⟨o', e⟩ := k2 b o q hb hx
   exact ⟨o', st _ _ e⟩
 tups := u.tups
 frzs := u.frzs
 tbls := u.tbls
section
variable {P : Program} {w : World} {K : PySem.W.Frag} {mg : Str → Option Value} {base : Heap} {N : List Str} {qual : Str} {scope : Scope} {f : Addr} {cd : Value} {A : Around} {outer : List Env} {s : Shared} {H : Hp} {E : XK}
theorem oO : mM (EO (CXr P w) P w K mg base N qual scope f cd A outer s H E) E := by
 intro pins σ H1 H' s1 s' ch B a C a0 I os bare un hch fl bl q
 show wpAny (model P w) _ (leaving _ (.ref a)) _ _ s'
 refine VG I.ok.frames rfl fl fun h' fl' up => ?_
 have J : Inv (EO (CXr P w) P w K mg base N qual scope f cd A outer s H E) pins σ H' { s' with heap := h' } :=
  Inv.call' (s' := { s' with heap := h' }) I os (un.flown2 (FM fl.2.2.1) bl.keep bl.there fl'.1 fun b _ => up b) (bl.hok.kept fl'.1) bare hch
 have nch : ∀ b o, s.heap.get? b = some o → b ∉ ch := fun b o q m => by
  rcases (hch b m).1 with z | z
  ·exact absurd (show b ∈ ([] : List Addr) from z) (by simp)
  ·exact absurd (Nat.lt_of_lt_of_le (Heap.lt_size q) z) (Nat.lt_irrefl _)
 refine ⟨a, C, H', B, a0, rfl, J.os, J.bare, J.base, fl', ⟨bl.hok, fun b o q n hb => ?_, fun b o q hb => ?_⟩, q⟩
 ·exact bl.keep b o (I.base.keep b o q n hb (by simp [EO])) (I.base.free b o q n (by simp [EO])) (JG b o q hb) (nch b o q)
 ·obtain ⟨o1, e1⟩ := I.base.there b o q (by simp [EO])
  exact bl.there b o1 e1 (JG b o q hb) (nch b o q)
end
def XB (X : Cx) (E : XK) (s₃ : Shared) (H₃ : Hp) (fp : List Addr) (ev : Value) (s' : Shared) : Prop := ∃ (a : Addr) (C a0 : Value) (B : Heap) (H' : Hp), ev = .ref a ∧ s'.os = s₃.os ∧ AllBare s'.gens ∧ Un (frs X.stack) fp H₃ H' s₃.heap s'.heap ∧
 Heap.FlyingW B X.stack a C a0 s'.heap ∧ WU X.prog X.w X.stack fp H₃ H' s₃.heap B ∧ (∃ m, s'.heap.Ns s₃.heap.objs.size m) ∧ H' s₃.heap.objs.size = none ∧ E C none H'
section
variable {X : Cx} {E : XK} {pins : List (Addr × Obj)} {σ : St} {H₃ : Hp} {s₃ : Shared} {fp : List Addr} {L : Addr}
theorem bL (hL : mM X E) (I : Inv X pins σ H₃ s₃) (hst : X.stack = X.env :: X.outer) (hf : X.env.frame = some L)
  (hch : ∀ b ∈ fp, (b ∈ X.ex ∨ X.s₀.heap.objs.size ≤ b) ∧ b ≠ X.env.locals ∧ (∀ x c, X.env.cells.lookup x = some c → c ≠ b) ∧ ∀ p ∈ X.pn ++ pins, p.1 ≠ b) {scope : Scope} {cl : List (Str × Addr)} {use : Option (Value → Sem Unit)} {Q : Value → Shared → Prop} {acc ev : Value} {s' : Shared}
  (h : XB X E s₃ H₃ fp ev s') : notedBy (model X.prog X.w) X.A (compEnvC scope cl s₃.heap.objs.size X.env) (fun x s2 => compPost (model X.prog X.w) X.A X.xe use Q acc s₃.heap.objs.size (.error x) s2) ev s' := by
 obtain ⟨a, C, a0, B, H', rfl, os, bare, un, fl, bl, ⟨m, hm⟩, hn, q⟩ := h
 show wpAny _ X.A (noteFrame (.ref a) X.env) _ _ s'
 have fl0 := fl
 rw [hst] at fl0
 refine wpAny_looks_onW (by rw [I.ok.frames, hst]) hf fl0 fun h4 held up4 => ?_
 rw [← hst] at held
 have hm4 := up4.ns hm
 have frl : ∀ b ∈ frs X.stack, b ≠ s₃.heap.objs.size := fun b hb => by
  obtain ⟨o, e, _⟩ := (I.stack.mem hb).2
  exact Nat.ne_of_lt (Heap.lt_size e)
 have main : ∃ m, h4.Ns s₃.heap.objs.size m ∧ ∀ h', Heap.SameBut s₃.heap.objs.size h4 h' → ∀ cenv : Env, cenv.locals = s₃.heap.objs.size → wpAny (model X.prog X.w) X.A (PySem.passOn "comprehension.variables-let-go" (.ref a) cenv : Sem Value) (fun _ _ => False) X.xe { s' with heap := h' } := by
  refine ⟨m, hm4, fun h5 sb cenv _ => ?_⟩
  obtain ⟨oc, es, ep, hc, hcd, _⟩ := hm4
  have keep : ∀ b, b ≠ s₃.heap.objs.size → h5.get? b = h4.get? b := fun b nb => sb.2 b nb
  obtain ⟨w1, w2, w3, fl4⟩ := Fly.of_held held
  obtain ⟨fv, oe, ws, T, oT, ts, y1, y2, y3, y4, y5, y6, y7, y8, y9⟩ := fl4
  have na : a ≠ s₃.heap.objs.size := by
   rintro rfl
   rw [hc] at y1; cases y1
   rw [hcd] at y3; cases y3
  have nT : T ≠ s₃.heap.objs.size := by
   rintro rfl
   rw [hc] at y7; cases y7
   rw [hcd] at y8; cases y8
  have sub : ∀ b o, (PySem.W.hideAll B [s₃.heap.objs.size]).get? b = some o → B.get? b = some o ∧ b ≠ s₃.heap.objs.size := fun b o e => ⟨PySem.W.of_hideAll _ e, by
   rintro rfl
   rw [PySem.W.hideAll_none [s₃.heap.objs.size] (h := B) List.mem_cons_self] at e
   cases e⟩
  have none' : ∀ b, B.get? b = none → (PySem.W.hideAll B [s₃.heap.objs.size]).get? b = none := fun b e => by
   cases e2 : (PySem.W.hideAll B [s₃.heap.objs.size]).get? b with
   | none => rfl
   | some o => rw [(sub b o e2).1] at e; cases e
  have put : ∀ b o, B.get? b = some o → b ≠ s₃.heap.objs.size → (PySem.W.hideAll B [s₃.heap.objs.size]).get? b = some o := fun b o e nb => PySem.W.hideAll_get _ e (by simpa using nb)
  have st5 : (PySem.W.hideAll B [s₃.heap.objs.size]).StaysIn h5 := fun b o e => by rw [keep b (sub b o e).2]; exact w1 b o (sub b o e).1
  have ff : ∀ (l : List Env), (∀ b ∈ frs l, b ≠ s₃.heap.objs.size) → h4.FunFrames B l → h5.FunFrames (PySem.W.hideAll B [s₃.heap.objs.size]) l := by
   intro l
   induction l with
   | nil => intro _ _; trivial
   | cons env r ih =>
    intro hs hl
    obtain ⟨hk, ⟨L', o, hf', hn', ho, hd'⟩, hr⟩ := hl
    have mL : L' ∈ frs (env :: r) := by unfold frs; rw [List.filterMap_cons, hf']; exact List.mem_cons_self
    refine ⟨hk, ⟨L', o, hf', none' _ hn', by rw [keep _ (hs _ mL)]; exact ho, hd'⟩, ih (fun b hb => hs b ?_) hr⟩
    unfold frs
    rw [List.filterMap_cons, hf']
    exact List.mem_cons_of_mem _ hb
  have fly5 : Fly (PySem.W.hideAll B [s₃.heap.objs.size]) X.stack a C a0 h5 := ⟨st5, none' _ w2, ff _ frl w3, fv, oe, ws, T, oT, ts, by rw [keep a na]; exact y1, y2, y3, y4, none' _ y5, y6, by rw [keep T nT]; exact y7, y8, y9⟩
  have bl5 : WU X.prog X.w X.stack fp H₃ H' s₃.heap (PySem.W.hideAll B [s₃.heap.objs.size]) := by
   refine ⟨fun b o e => (bl.hok b o e).stay (fun c u hc2 e2 => put c u e2 ?_) (fun _ z => z) fun _ _ z => z, fun b o e n hb hx => put b o (bl.keep b o e n hb hx) (Nat.ne_of_lt (Heap.lt_size e)), fun b o e hb hx => ?_⟩
   ·rintro rfl
    rcases hc2 with z | z
    ·rw [← z, hn] at e; cases e
    ·rw [hn] at z; cases z
   ·obtain ⟨o', e'⟩ := bl.there b o e hb hx
    exact ⟨o', put b o' e' (Nat.ne_of_lt (Heap.lt_size e))⟩
  have y1' : h5.get? a = some oe := by rw [keep a na]; exact y1
  unfold PySem.passOn
  refine wpAny_bind (wpAny_field y1' y3 y4 ?_)
  rw [if_neg (by simp)]
  have DQ : ∀ h6, Fly (PySem.W.hideAll B [s₃.heap.objs.size]) X.stack a C a0 h6 → h5.UpToSlots h6 → X.xe (.ref a) { s' with heap := h6 } := fun h6 fl6 up6 => by
   refine hL pins σ H₃ H' s₃ { s' with heap := h6 } fp _ a C a0 I os bare ?_ hch fl6 bl5 q
   refine un.flown2 (FM fl.2.2.1) bl5.keep bl5.there fl6.1 fun b hb o e hd => ?_
   obtain ⟨sl, e4⟩ := up4 b o e hd
   rw [← keep b (frl b hb)] at e4
   obtain ⟨sl', e6⟩ := up6 b _ e4 hd
   exact ⟨sl', e6⟩
  first
   | exact wpAny_bind (wpAny_pure (wpAny_bind (XN (s := { s' with heap := h5 }) fly5 fun h6 fl6 up6 => wpAny_throw (DQ h6 fl6 up6))))
   | exact wpAny_bind (XN (s := { s' with heap := h5 }) fly5 fun h6 fl6 up6 => wpAny_throw (DQ h6 fl6 up6))
 cases use with
 | none => exact main
 | some u => exact main
end
abbrev iH (X : Cx) (E : XK) (scope : Scope) (cl : List (Str × Addr)) (N : List Str) (s₃ : Shared) (H₃ : Hp) (fp : List Addr) : Cx := (cxC X scope cl N s₃ H₃ fp).wish (XB X E s₃ H₃ fp)
theorem WZ {prog : Program} {w : World} {A : Around} {R : Result → Shared → Prop} {s : Shared} {elt target iter : Expr} {ifs : List Expr} {scope : Scope} {pos : Pos} {it acc : Value} {env : Env} {EB : Value → Shared → Prop} (I : Nat → Shared → Prop)
  (turn : ∀ n s, I n s → wpAny (model prog w) A (pyNext it) (fun r s₁ => match r with
   | none => R (.ok .next) s₁
   | some v => wpAny (model prog w) A (letOwnedTupleGo target it v) (fun _ s₁' => wpAny (model prog w) A (assign target env v) (fun _ s₂ =>
     wpAny (model prog w) A (forIn ifs true fun c r => if r = true then do let ok ← isTrue c env (eval c env); pure (ForInStep.yield ok) else pure (ForInStep.yield r)) (fun ok s₃ =>
      if ok = true then wpAny (model prog w) A (eval elt env) (fun x s₄ =>
       wpAny (model prog w) A (call (.builtin "list.append") [acc, x]) (fun _ s₅ => ∃ m, m < n ∧ I m s₅) EB s₄) EB s₃
      else ∃ m, m < n ∧ I m s₃) EB s₂) EB s₁') EB s₁) EB s)
  (hEB : ∀ x s, EB x s → notedBy (model prog w) A env (fun x s2 => R (.error x) s2) x s) (n : Nat) (h : I n s) :
  codeAny (model prog w) A (.compLoop (.ListComp elt [⟨target, iter, ifs, 0⟩] scope pos) 0 it acc env) R s := by
 refine codeAny_loop rfl I (fun n s hI => ?_) n h
 show wpAny _ A ((compTurn (.ListComp elt [⟨target, iter, ifs, 0⟩] scope pos) 0 it acc env).onRaise (fun x => do noteFrame x env; theTreesLotGoes x)) _ _ s
 refine wpAny_noted ?_
 rw [compTurn_list]
 refine wpAny_bind (wpAny_standAt (wpAny_bind (wpAny_mono (turn n s hI) (fun r s₁ h₁ => ?_) fun x s z => hEB x s z)))
 cases r with
 | none => exact wpAny_pure h₁
 | some v =>
  refine wpAny_bind (wpAny_mono h₁ (fun _ s₁' h₁' => ?_) fun x s z => hEB x s z)
  refine wpAny_bind (wpAny_mono h₁' (fun _ s₂ h₂ => wpAny_bind (wpAny_mono h₂ (fun ok s₃ h₃ => ?_) fun x s z => hEB x s z)) fun x s z => hEB x s z)
  cases ok with
  | false => exact wpAny_pure ⟨rfl, h₃⟩
  | true =>
   exact wpAny_bind (wpAny_bind (wpAny_mono h₃ (fun x s₄ h₄ => wpAny_bind (wpAny_mono h₄ (fun _ s₅ h₅ => wpAny_pure (wpAny_pure ⟨rfl, h₅⟩)) fun x s z => hEB x s z)) fun x s z => hEB x s z))
section
variable {X : Cx} {E : XK} {scope : Scope} {cl : List (Str × Addr)} {N : List Str} {s₃ : Shared} {H₃ : Hp} {fp : List Addr}
theorem oU : GD (CXr X.prog X.w) (iH X E scope cl N s₃ H₃ fp) E := by
 intro pins σ H1 s1 e s' I h
 obtain ⟨a, C, H', B, a0, rfl, os, bare, un, fl, bl, q⟩ := h
 have frl : ∀ b ∈ frs X.stack, b ≠ s₃.heap.objs.size := fun b hb => by
  obtain ⟨o, e, _⟩ := (I.ok.funs.mem hb).2
  exact Nat.ne_of_lt (Heap.lt_size e)
 have nfr : s₃.heap.objs.size ∉ frs X.stack := fun m => frl _ m rfl
 obtain ⟨m, ⟨oc, es, ep, ho, r⟩, _⟩ := id I.loc
 refine ⟨a, C, a0, B, H', rfl, os.trans I.os, bare, Un.trans I.base (un.mono (fun _ z => z) (fun b z => by cases z)), fl, ⟨bl.hok, fun b o e n hb hx => bl.keep b o (I.base.keep b o e n hb hx) (I.base.free b o e n hx) hb, fun b o e hb hx => ?_⟩, ⟨m, oc, es, ep, un.keep _ _ ho I.free nfr (by simp), r⟩, un.free _ _ ho I.free (by simp), q⟩
 obtain ⟨o1, e1⟩ := I.base.there b o e hx
 exact bl.there b o1 e1 hb
end
section
variable {X : Cx}
theorem fL {elt iter tg : Expr} {ifs : List Expr} {scope sc : Scope} {pos spos py : Pos} {y : Str} {i : Nat} {wi : TI} {g : TG} {tt : TT} {te : TE} {N0 N os : List Str} {js : List Nat} {E : XK} {L : Addr} (hL : mM X E) (hst : X.stack = X.env :: X.outer) (hfL : X.env.frame = some L)
  (hNd : X.N.Nodup) (hiN : X.N[i]? = some y) (hx : Loc X.env.scope y) (hc : X.calm = true) (hsc : X.env.scope = sc) (hN : X.N = N0) (ok : RI scope sc N0 js os N) (hi : PI X tg iter wi)
  (hg : ∀ s₃ H₃ fp cl, PG (iH X E scope cl N s₃ H₃ fp) tg g) (ht : ∀ s₃ H₃ fp cl, aG (iH X E scope cl N s₃ H₃ fp) ifs tt) (he : ∀ s₃ H₃ fp cl, PE (iH X E scope cl N s₃ H₃ fp) elt te)
  (hs : ∀ x, foldedSetIterable iter X.env x = pure x := by intro _; rfl) (hsw : swapsWith (.ListComp elt [⟨tg, iter, ifs, 0⟩] scope pos) (some (.Name y py)) spos.line X.env = pure true := by rfl)
  (hf : X.fn y = true ∨ X.env.scope.names.lookup y = some .local := by first | exact .inl rfl | exact .inr rfl | assumption) :
  PS X (.Assign [.Name y py] (.ListComp elt [⟨tg, iter, ifs, 0⟩] scope pos) spos) (WH (cS js os wi g tt te) (NP i)) := by
 intro pins s σ H D I h
 rw [exec_Assign_Name_used _ _ _ _ hsw]
 refine wpAny_bind (wpAny_standAt (wpAny_bind ?_))
 show wpAny _ X.A (do let _ ← comprehension (.ListComp elt [⟨tg, iter, ifs, 0⟩] scope pos) scope X.env _ (newList []) false (eval iter X.env) (some (assign (.Name y py) X.env))) _ _ s
 have hfree : ∀ y ∈ scope.names, y.2 = .free → ∃ c, X.env.cells.lookup y.1 = some c := fun y hy e => I.ok.has _ (by
  have := ok.free y hy e
  rw [← hsc] at this
  exact this)
 refine wpAny_bind (wpAny_mono (wpAny_comprehension_free (use := some (assign (.Name y py) X.env)) (Q := fun _ s' => SP X pins D .next s') rfl hs (RW hfree) ok.kind ok.names (thn (hi pins s σ H _ I h) fun v s1 h1 => thn h1 fun itv s2 h2 => ?_)) (fun _ s' hq => wpAny_pure (wpAny_pure hq)) fun _ _ e => e)
 obtain ⟨it, fp, tn, J, H1, e, I2, T, st2, f2, hW⟩ := h2
 subst e
 refine wpAny_newObj_type (wpAny_newFunctionEnv ok.cell (by intro y hy; simp at hy) (fun h₁ hns₁ hsb₁ => ?_) ok.kind)
 dsimp only at hns₁ hsb₁ ⊢
 have hfr : H1 s2.heap.objs.size = none := I2.fresh
 have I3 := I2.lnew (ys := []) (its := []) (t' := s2.toks) .nil (Nat.zero_le _)
 generalize hs3 : ({ s2 with heap := s2.heap.push { cls := .type "list", data := .seq ([] : List Value).toArray }, toks := s2.toks } : Shared) = s₃ at I3
 have eh : s2.heap.push { cls := .type "list", dict := none, data := .seq ([] : List Value).toArray } = s₃.heap := by rw [← hs3]
 rw [eh] at hns₁ hsb₁ ⊢
 have k23 : ∀ b o, s2.heap.get? b = some o → s₃.heap.get? b = some o := fun b o q => by rw [← eh]; exact Heap.get?_push_of_some _ q
 have lt2 : ∀ b ∈ fp, b < s2.heap.objs.size := fun b hb => by
  obtain ⟨o, q, _⟩ := T.obj _ _ st2 b hb
  exact Heap.lt_size q
 have sz3 : s2.heap.objs.size ≤ s₃.heap.objs.size := by rw [← eh, Heap.size_push]; exact Nat.le_succ _
 have f3 : ∀ b ∈ fp, LL X pins (upd H1 s2.heap.objs.size (.lst [])) b := fun b hb => ⟨by rw [AH (Nat.ne_of_lt (lt2 b hb))]; exact (f2 b hb).1, (f2 b hb).2⟩
 have k34 : ∀ b o, s₃.heap.get? b = some o → h₁.get? b = some o := fun b o q => hsb₁.extBut b o (Nat.ne_of_lt (Heap.lt_size q)) (Heap.get?_push_of_some _ q)
 have I4 := (OP (t' := s₃.toks) hc hsc hN ok I3 f3 (fun b hb => Nat.lt_of_lt_of_le (lt2 b hb) sz3) hns₁ k34).wish (XB X E s₃ (upd H1 s2.heap.objs.size (.lst [])) fp)
 generalize hX' : (cxC X scope (EV X.env.cells scope.names []) N s₃ (upd H1 s2.heap.objs.size (.lst [])) fp).wish (XB X E s₃ (upd H1 s2.heap.objs.size (.lst [])) fp) = X' at I4
 obtain ⟨W, ⟨m0, w0⟩, turn⟩ := hW _ hfr
 have st4 : tn 0 h₁ := T.keep _ _ _ st2 fun b hb o q => k34 b o (k23 b o q)
 have stat : ∀ {H' : Hp}, (∀ b ∈ fp, H' b = none) → ∀ b ∈ fp, LL X' [] H' b := fun {H'} hn b hb => by
  subst hX'
  refine ⟨hn b hb, Nat.ne_of_lt (Nat.lt_of_lt_of_le (lt2 b hb) sz3), fun z => ?_, .inl hb, fun x c e => ?_, fun p hp => by cases hp⟩
  ·rcases List.mem_cons.mp (I2.stkSub b z) with q | q
   ·exact (f2 b hb).2.1 q
   ·exact (f2 b hb).2.2.1 q
  ·exact (f2 b hb).2.2.2.2.1 x c (GN (cells := X.env.cells) scope.names [] hfree (fun _ _ e => by cases e) _ _ e)
 have ePr : X'.prog = X.prog := by subst hX'; rfl
 have eW : X'.w = X.w := by subst hX'; rfl
 have eK : X'.K = X.K := by subst hX'; rfl
 have eA : X'.A = X.A := by subst hX'; rfl
 have eE : X'.env = compEnvC scope (EV X.env.cells scope.names []) s₃.heap.objs.size X.env := by subst hX'; rfl
 have eC : X'.calm = true := by subst hX'; rfl
 have eX : X'.xe = XB X E s₃ (upd H1 s2.heap.objs.size (.lst [])) fp := by subst hX'; rfl
 have hg' : PG X' tg g := by subst hX'; exact hg _ _ _ _
 have ht' : aG X' ifs tt := by subst hX'; exact ht _ _ _ _
 have he' : PE X' elt te := by subst hX'; exact he _ _ _ _
 have fin : ∀ {σ' : St} {H' : Hp} {s' : Shared}, Inv X' [] σ' H' s' → (∀ b ∈ fp, H' b = none) → D.nx (σ.set i (some (.ref s2.heap.objs.size))) H' → compPost (model X.prog X.w) X.A X.xe (some (assign (.Name y py) X.env)) (fun _ s' => SP X pins D .next s') (.ref s2.heap.objs.size) s₃.heap.objs.size (.ok .next) s' := by
  intro σ' H' s' I' hn q
  obtain ⟨m, hm, _⟩ := id I'.loc
  subst hX'
  have fC : H' s₃.heap.objs.size = none := I'.free
  have u1 : Un (frs X.stack) fp (upd H1 s2.heap.objs.size (.lst [])) H' s₃.heap s'.heap := by
   have b0 := I'.base
   exact ⟨fun b o e n hb hx => b0.keep b o e n hb hx, fun b o e n hb hx => b0.slot b o e n hb hx, b0.free, fun b o e hx => b0.there b o e hx, b0.tups, b0.frzs, b0.tbls⟩
  have Ip := I3.call' (s' := s') (ch := fp) I'.os u1 I'.hok I'.bare fun b hb => ⟨(f2 b hb).2.2.2.1, (f2 b hb).2.1, (f2 b hb).2.2.2.2.1, (f2 b hb).2.2.2.2.2⟩
  have cl : X.env.locals ≠ s₃.heap.objs.size := Nat.ne_of_lt I3.lt
  have cc : ∀ x c, X.env.cells.lookup x = some c → c ≠ s₃.heap.objs.size := fun x c e => by
   obtain ⟨v, o, ho, _⟩ := I3.cell x c e
   exact Nat.ne_of_lt (Heap.lt_size ho)
  show wpAny (model X.prog X.w) X.A (assign (.Name y py) X.env (.ref s2.heap.objs.size)) _ _ s'
  refine wpAny_assign_Name (QL Ip hNd hiN hx (v := .ref s2.heap.objs.size) rfl (fun s'' I'' ⟨a, sa, ha⟩ => ?_) hf)
  have na : s₃.heap.objs.size ≠ a := by
   rcases ha with ha | ha
   ·rw [ha]; exact Ne.symm cl
   ·exact Ne.symm (cc _ _ ha)
  refine ⟨m, hm.sameBut sa na, fun h3 sb => ⟨_, H', ?_, q⟩⟩
  have hok' : HOk X.prog X.w H' h3 := fun b ob e => by
   refine (I''.hok b ob e).stay (fun c w' hc' q' => (sb.2 c ?_).trans q') (fun _ q' => q') fun _ _ q' => q'
   rintro rfl
   rcases hc' with z | z
   ·have e' := e; rw [← z] at e'; rw [fC] at e'; cases e'
   ·rw [fC] at z; cases z
  have u2 : Un (frs X.stack) [s₃.heap.objs.size] H' H' s''.heap h3 :=
   have ne : ∀ b, b ∉ [s₃.heap.objs.size] → b ≠ s₃.heap.objs.size := fun b hb e => hb (by rw [e]; exact List.mem_singleton_self _)
   ⟨fun b o e n hb hx => (sb.2 b (ne b hx)).trans e, fun b o e n hb hx => ⟨o.slots, (sb.2 b (ne b hx)).trans e⟩, fun b o e n hx => n, fun b o e hx => ⟨o, (sb.2 b (ne b hx)).trans e⟩, fun b xs e => e, fun b o u e => e, fun b ps e => ⟨#[], by rw [e]; simp⟩⟩
  exact I''.call' (s' := { s'' with heap := h3 }) (ch := [s₃.heap.objs.size]) rfl u2 hok' I''.bare fun b hb => by
   rw [List.mem_singleton.mp hb]
   exact ⟨.inr I3.sz, Ne.symm cl, cc, fun p hp e => absurd (Heap.lt_size (I3.pin p hp).1) (by rw [e]; exact Nat.lt_irrefl _)⟩
 have loop : codeAny (model X.prog X.w) X.A (.compLoop (.ListComp elt [⟨tg, iter, ifs, 0⟩] scope pos) 0 (.ref it) (.ref s2.heap.objs.size) (compEnvC scope (EV X.env.cells scope.names []) s₃.heap.objs.size X.env))
   (compPost (model X.prog X.w) X.A X.xe (some (assign (.Name y py) X.env)) (fun _ s' => SP X pins D .next s') (.ref s2.heap.objs.size) s₃.heap.objs.size) { s₃ with heap := h₁, toks := s₃.toks } := by
  refine WZ (EB := XB X E s₃ (upd H1 s2.heap.objs.size (.lst [])) fp) (fun n s' => ∃ i σ' H', Inv X' [] σ' H' s' ∧ tn i s'.heap ∧ (∀ b ∈ fp, H' b = none) ∧ W i n σ' H') ?_ (fun x s z => bL hL I3 hst hfL (fun b hb => ⟨(f2 b hb).2.2.2.1, (f2 b hb).2.1, (f2 b hb).2.2.2.2.1, (f2 b hb).2.2.2.2.2⟩) z) m0 ⟨0, _, _, I4, st4, fun b hb => (f3 b hb).1, w0⟩
  rintro n s5 ⟨i, σ5, H5, I5, st5, fr5, w5⟩
  rw [← ePr, ← eW, ← eA, ← eE]
  rcases turn i n σ5 H5 w5 with ⟨stop, qn⟩ | ⟨go, step⟩
  ·have := T.done X' ePr eW eK eC i [] s5 σ5 H5 X'.xe I5 (stat fr5) st5 stop
   rw [eX] at this
   rw [← ePr, ← eW] at this
   refine thn this fun r s6 ⟨hr, I6⟩ => ?_
   subst hr
   dsimp only
   rw [ePr, eW, eA]
   exact fin I6 fr5 qn
  ·have := T.item X' ePr eW eK eC i [] s5 σ5 H5 X'.xe I5 (stat fr5) st5 go
   rw [eX] at this
   rw [← ePr, ← eW] at this
   refine thn this fun r s6 ⟨u, hr, h6⟩ => ?_
   subst hr
   dsimp only
   refine thn h6 fun _ s7 ⟨x, H7, I7, r7, y7, st7, fr7⟩ => ?_
   have I7' := I7.pinned (stat fr7) (T.obj _ _ st7)
   have g7 := hg' _ s7 σ5 H7 x u _ I7' r7 (step x H7 y7)
   rw [eX] at g7
   refine thn g7 fun _ s8 ⟨σ8, H8, I8, q8⟩ => ?_
   have t8 := ht' _ s8 σ8 H8 _ I8 q8
   rw [eX] at t8
   have again : ∀ {σ9 : St} {H9 : Hp} {s9 : Shared}, Inv X' ([] ++ JV fp s7.heap) σ9 H9 s9 → tn (i + 1) s9.heap ∧ ∀ b ∈ fp, H9 b = none := fun {σ9 H9 s9} I9 => by
    refine ⟨T.keep _ _ _ st7 fun b hb o e => (I9.pin (b, o) (List.mem_append_right _ (List.mem_append_right _ (DU hb e)))).1, fun b hb => ?_⟩
    obtain ⟨o, e, d⟩ := T.obj _ _ st7 b hb
    exact (I9.pin (b, o) (List.mem_append_right _ (List.mem_append_right _ (DU hb e)))).2.1
   refine thn t8 fun b s9 ⟨H9, I9, q9⟩ => ?_
   cases b with
   | false =>
    rw [if_neg Bool.false_ne_true] at q9 ⊢
    obtain ⟨m', hm, w9⟩ := q9
    exact ⟨m', hm, i + 1, σ8, H9, I9.unpinned, (again I9).1, (again I9).2, w9⟩
   | true =>
    rw [if_pos rfl] at q9 ⊢
    have e9 := he' _ s9 σ8 H9 _ I9 q9
    rw [eX] at e9
    refine thn e9 fun y s10 ⟨z, H10, I10, r10, ys, hy, hlen, m', hm, w10⟩ => ?_
    have a10 := LM (X := X') _ s10 σ8 H10 (.ref s2.heap.objs.size) [z] _ _ (fun _ H11 => H11 = upd H10 s2.heap.objs.size (.lst (ys ++ [z]))) I10 rfl (.cons r10 .nil) ⟨_, ys, z, rfl, rfl, hy, hlen, rfl⟩
    rw [eX] at a10
    refine thn a10 fun _ s11 ⟨_, H11, I11, _, e11⟩ => ?_
    subst e11
    exact ⟨m', hm, i + 1, σ8, _, I11.unpinned, (again I11).1, (again I11).2, w10⟩
 have es : ({ s2 with heap := h₁, toks := s2.toks + ([] : List (Str × Value)).length } : Shared) = { s₃ with heap := h₁, toks := s₃.toks } := by rw [← hs3]; rfl
 rw [show ({ s2 with heap := h₁, toks := s2.toks + ([] : List (Str × Value)).length } : Shared) = { s₃ with heap := h₁, toks := s₃.toks } from es]
 exact codeAny_compStart_list loop (T.self _ 0 _ _ _ st4 loop)
end
structure Wk (P : Program) (w : World) (i l : Addr) (xs : Array Value) (St : Nat → Heap → Prop) : Prop where
 item : ∀ {A : Around} {E : Value → Shared → Prop} {s : Shared} {k : Nat} {x : Value} {Q : Value → Shared → Prop}, St k s.heap → xs[k]? = some x → (∀ g, St (k + 1) g → Heap.SameBut i s.heap g → Q x { s with heap := g }) → wpAny (model P w) A (Builtin.SmallTypes.nextOf (.ref i)) Q E s
 done : ∀ {A : Around} {E : Value → Shared → Prop} {s : Shared} {k : Nat} {Q : Value → Shared → Prop}, A.handled = none → St k s.heap → xs[k]? = none → (∀ g e, Heap.ExtBut i s.heap g → (∃ o, g.get? e = some o ∧ o.cls = .type "StopIteration") → E (.ref e) { s with heap := g }) → wpAny (model P w) A (Builtin.SmallTypes.nextOf (.ref i)) Q E s
 keep : ∀ k h g, St k h → (∀ o, h.get? i = some o → g.get? i = some o) → (∀ o, h.get? l = some o → g.get? l = some o) → St k g
 rc : ∀ k h, St k h → ∃ o vs, h.get? i = some o ∧ o.data = .fields vs
theorem jX {P : Program} {w : World} {i l : Addr} {xs : Array Value} (ne : l ≠ i) : Wk P w i l xs fun k h => h.IsListIter i l k ∧ h.IsList l xs where
 item := fun st hx hq => wpAny_nextOf_list_item st.1 st.2 hx fun g g1 g2 => hq g ⟨g1, st.2.extBut g2.extBut ne⟩ g2
 done := fun hh st hx hq => wpAny_nextOf_list_end hh st.1 st.2 hx hq
 keep := fun k h g st k1 k2 => ⟨st.1.at k1, let ⟨o, e, r⟩ := st.2; ⟨o, k2 o e, r⟩⟩
 rc := fun k h st => let ⟨o, e, _, d⟩ := st.1; ⟨o, _, e, d⟩
section
variable {P : Program} {w : World} {A : Around} {E : Value → Shared → Prop} {s : Shared}
theorem hU {i t : Addr} {k : Nat} {xs : Array Value} {x : Value} {Q : Value → Shared → Prop} (hi : IsTupIter s.heap i t k) (ht : IsTup s.heap t xs) (hx : xs[k]? = some x) (hq : ∀ g, IsTupIter g i t (k + 1) → Heap.SameBut i s.heap g → Q x { s with heap := g }) :
  wpAny (model P w) A (Builtin.SmallTypes.nextOf (.ref i)) Q E s := by
 obtain ⟨p, p1, p2, p3⟩ := id hi
 obtain ⟨q, q1, _, n, q2⟩ := ht
 unfold Builtin.SmallTypes.nextOf
 refine wpAny_bind (wpAny_callSpecial?_slot (name := Str.ofString "__next__") hi.typeIs slot_tupleiter_next (wpAny_call_entry slot_tupleiter_next hi.typeIs entry_tupleiter_next ?_ (args_tupleiter_next _)))
 show wpAny _ _ (field (.ref i) 0 >>= _) _ _ _
 refine wpAny_bind (wpAny_field p1 p3 (x := .ref t) rfl ?_)
 show wpAny _ _ (if (Value.ref t == Value.none) = true then _ else _) _ _ _
 rw [if_neg (show ¬ (Value.ref t == Value.none) = true by simp)]
 show wpAny _ _ (field (.ref i) 1 >>= _) _ _ _
 refine wpAny_bind (wpAny_field p1 p3 (x := .int k 0) rfl ?_)
 show wpAny _ _ (seqItems? (.ref t) >>= _) _ _ _
 refine wpAny_bind (wpAny_seqItems q1 q2 ?_)
 simp only [Int.toNat_natCast, hx]
 refine wpAny_bind (wpAny_setField p1 p3 (by simp) (wpAny_pure ⟨x, rfl, wpAny_pure (hq _ ⟨_, Heap.get?_update_self _ p1 (Obj.isFreed_of_fields (Obj.data_mapFields p3 _)), (Obj.cls_mapFields ..).trans p2, ?_⟩ (Heap.SameBut.update ..))⟩))
 rw [Obj.data_mapFields p3]
 simp [rawInt]
theorem jL {i t : Addr} {k : Nat} {xs : Array Value} {Q : Value → Shared → Prop} (hh : A.handled = none) (hi : IsTupIter s.heap i t k) (ht : IsTup s.heap t xs) (hx : xs[k]? = none)
  (hq : ∀ g e, Heap.ExtBut i s.heap g → (∃ o, g.get? e = some o ∧ o.cls = .type "StopIteration") → E (.ref e) { s with heap := g }) : wpAny (model P w) A (Builtin.SmallTypes.nextOf (.ref i)) Q E s := by
 obtain ⟨p, p1, p2, p3⟩ := id hi
 obtain ⟨q, q1, _, n, q2⟩ := ht
 unfold Builtin.SmallTypes.nextOf
 refine wpAny_bind (wpAny_callSpecial?_slot (name := Str.ofString "__next__") hi.typeIs slot_tupleiter_next (wpAny_call_entry slot_tupleiter_next hi.typeIs entry_tupleiter_next ?_ (args_tupleiter_next _)))
 show wpAny _ _ (field (.ref i) 0 >>= _) _ _ _
 refine wpAny_bind (wpAny_field p1 p3 (x := .ref t) rfl ?_)
 show wpAny _ _ (if (Value.ref t == Value.none) = true then _ else _) _ _ _
 rw [if_neg (show ¬ (Value.ref t == Value.none) = true by simp)]
 show wpAny _ _ (field (.ref i) 1 >>= _) _ _ _
 refine wpAny_bind (wpAny_field p1 p3 (x := .int k 0) rfl ?_)
 show wpAny _ _ (seqItems? (.ref t) >>= _) _ _ _
 refine wpAny_bind (wpAny_seqItems q1 q2 ?_)
 simp only [Int.toNat_natCast, hx]
 refine wpAny_bind (wpAny_rule (wpAny_bind (wpAny_setField p1 p3 (by simp) ?_)))
 show wpAny _ _ (newExc (.type "StopIteration") [] >>= _) _ _ _
 refine wpAny_bind ?_
 simp only [newExc, newTuple]
 refine wpAny_bind (wpAny_newObj_type (wpAny_bind (m := firstArgMember _ _) (wpAny_of_eq (a := Value.none) (by first | rfl | (simp only [firstArgMember]; rfl)) (wpAny_newObj_type ?_ (by size_fits)))) (by size_fits))
 simp only [raiseNew]
 refine wpAny_bind (wpAny_handled ?_)
 first | rw [show A.in1.handled = none from hh] | rw [hh]
 exact wpAny_bind (wpAny_pure (wpAny_throw (hq _ _ (((Heap.SameBut.update ..).extBut.push _).push _) ⟨_, Heap.get?_push_size _ rfl, rfl⟩)))
end
theorem mH {P : Program} {w : World} {i t : Addr} {xs : Array Value} (ne : t ≠ i) : Wk P w i t xs fun k h => IsTupIter h i t k ∧ IsTup h t xs where
 item := fun st hx hq => hU st.1 st.2 hx fun g g1 g2 => hq g ⟨g1, let ⟨o, e, r⟩ := st.2; ⟨o, g2.extBut _ _ ne e, r⟩⟩ g2
 done := fun hh st hx hq => jL hh st.1 st.2 hx hq
 keep := fun k h g st k1 k2 => ⟨let ⟨o, e, r⟩ := st.1; ⟨o, k1 o e, r⟩, let ⟨o, e, r⟩ := st.2; ⟨o, k2 o e, r⟩⟩
 rc := fun k h st => let ⟨o, e, _, d⟩ := st.1; ⟨o, _, e, d⟩
abbrev EQ (h : Heap) (z TI TO : Addr) (f0 f1 : Value) : Prop := h.get? z = some { cls := .type "zip", dict := none, data := .fields #[f0, f1, .bool false, .ref TI, .ref TO], slots := #[] }
section
variable {P : Program} {w : World} {A : Around} {E : Value → Shared → Prop} {s : Shared} {z TI TO i1 i2 l1 l2 : Addr} {xs ys : Array Value} {S1 S2 : Nat → Heap → Prop} {k1 k2 : Nat} {x y a b f1 : Value}
theorem Wk.but {i l c : Addr} {St : Nat → Heap → Prop} (W : Wk P w i l xs St) {k : Nat} {h g : Heap} (st : St k h) (sb : Heap.ExtBut c h g) (n1 : i ≠ c) (n2 : l ≠ c) : St k g := W.keep k h g st (fun o e => sb _ o n1 e) fun o e => sb _ o n2 e
theorem QF {M : Model} {c : Addr} {Q : Option Obj → Shared → Prop} (h : Q (s.heap.get? c) s) : wpAny M A (loadIfAlive c) Q E s := fun Γ p _ => by
 show Sem.wp M Γ (.loadIfAlive c .pure) _ _ p s
 rw [Sem.wp_loadIfAlive, Sem.wp_pure]
 exact h
theorem oV {Q : Value → Shared → Prop} (D : ZipApart z TI TO i1 i2 l1 l2) (W1 : Wk P w i1 l1 xs S1) (W2 : Wk P w i2 l2 ys S2) (hz : EQ s.heap z TI TO .none (.bool false)) (ti : IsPair s.heap TI (.ref i1) (.ref i2)) (tt : IsPair s.heap TO a b)
  (t1 : S1 k1 s.heap) (t2 : S2 k2 s.heap) (hx : xs[k1]? = some x) (hy : ys[k2]? = some y)
  (hQ : ∀ g, EQ g z TI TO (rawInt s.heap.objs.size) (.bool false) → IsPair g TO x y → S1 (k1 + 1) g → S2 (k2 + 1) g → IsPair g s.heap.objs.size x y → g.objs.size = s.heap.objs.size + 1 →
   (∀ c o, c ≠ z → c ≠ TO → c ≠ i1 → c ≠ i2 → s.heap.get? c = some o → g.get? c = some o) → Q (.ref s.heap.objs.size) { s with heap := g }) :
  wpAny (model P w) A (Builtin.«zip.__next__» ⟨[.ref z], []⟩) (fun fin s' => ∃ v, fin = .done (.ret v) ∧ Q v s') E s := by
 show wpAny _ _ (field (.ref z) 2 >>= _) _ _ _
 refine wpAny_bind (wpAny_field hz rfl (x := .bool false) rfl ?_)
 show wpAny _ _ (field (.ref z) 3 >>= _) _ _ _
 refine wpAny_bind (wpAny_field hz rfl (x := .ref TI) rfl (wpAny_bind (wpAny_seqItems ti rfl ?_)))
 show wpAny _ _ (Builtin.SmallTypes.ownedTupleIsFree (.ref z) >>= _) _ _ _
 refine wpAny_bind ?_
 unfold Builtin.SmallTypes.ownedTupleIsFree
 refine wpAny_bind (wpAny_field hz rfl (x := .none) rfl (wpAny_pure ?_))
 simp only [if_true]
 refine wpAny_bind (wpAny_rule (wpAny_bind (wpAny_field hz rfl (x := .ref TO) rfl (wpAny_bind (wpAny_setField_rec hz (by simp) fun g1 z1 e1 => ?_)))))
 replace z1 : EQ g1 z TI TO .ellipsis (.bool false) := z1
 have e1 := e1.extBut
 refine wpAny_bind ?_
 simp only [List.zipIdx_cons, List.zipIdx_nil, List.forIn_cons, List.forIn_nil]
 refine wpAny_bind (wpAny_bind (wpAny_onRaise ?_))
 show wpAny _ _ (Builtin.SmallTypes.nextOf (.ref i1) >>= _) _ _ _
 refine wpAny_bind (W1.item (W1.but t1 e1 D.i1z D.l1z) hx fun g2 u2 e2 => wpAny_pure ?_)
 have sz2 := e2.1
 have e2 := e2.extBut
 have o2 : IsPair g2 TO a b := e2 _ _ D.TOi1 (e1 _ _ D.TOz tt)
 refine wpAny_bind (wpAny_seqItems o2 rfl (wpAny_bind (wpAny_updateSeq_pair o2 fun g3 o3 e3 => ?_)))
 replace o3 : IsPair g3 TO x b := o3
 have sz3 := e3.1
 have e3 := e3.extBut
 refine wpAny_bind (wpAny_letGo (wpAny_pure (wpAny_bind (wpAny_bind (wpAny_onRaise ?_)))))
 show wpAny _ _ (Builtin.SmallTypes.nextOf (.ref i2) >>= _) _ _ _
 refine wpAny_bind (W2.item (W2.but (W2.but (W2.but t2 e1 D.i2z D.l2z) e2 D.i12.symm D.l2i1) e3 D.TOi2.symm D.l2TO) hy fun g4 u4 e4 => wpAny_pure ?_)
 have sz4 := e4.1
 have e4 := e4.extBut
 have o4 : IsPair g4 TO x b := e4 _ _ D.TOi2 o3
 refine wpAny_bind (wpAny_seqItems o4 rfl (wpAny_bind (wpAny_updateSeq_pair o4 fun g5 o5 e5 => ?_)))
 replace o5 : IsPair g5 TO x y := o5
 have sz5 := e5.1
 have e5 := e5.extBut
 refine wpAny_bind (wpAny_letGo (wpAny_pure (wpAny_pure (wpAny_bind (wpAny_seqItems o5 rfl (wpAny_bind (wpAny_newTuple ?_)))))))
 have zz : EQ g5 z TI TO .ellipsis (.bool false) := e5 _ _ D.TOz.symm (e4 _ _ D.i2z.symm (e3 _ _ D.TOz.symm (e2 _ _ D.i1z.symm z1)))
 have kk : ∀ c o, c ≠ z → c ≠ TO → c ≠ i1 → c ≠ i2 → s.heap.get? c = some o → g5.get? c = some o := fun c o c1 c2 c3 c4 e => e5 _ _ c2 (e4 _ _ c4 (e3 _ _ c2 (e2 _ _ c3 (e1 _ _ c1 e))))
 have v1 : S1 (k1 + 1) g5 := W1.but (W1.but (W1.but u2 e3 D.TOi1.symm D.l1TO) e4 D.i12 D.l1i2) e5 D.TOi1.symm D.l1TO
 have v2 : S2 (k2 + 1) g5 := W2.but u4 e5 D.TOi2.symm D.l2TO
 show wpAny _ _ (Builtin.SmallTypes.ownedTupleHandOut (.ref z) (.ref g5.objs.size) >>= _) _ _ _
 refine wpAny_bind ?_
 unfold Builtin.SmallTypes.ownedTupleHandOut
 have zp : EQ (g5.push { cls := .type "tuple", data := .seq #[x, y] }) z TI TO .ellipsis (.bool false) := Heap.get?_push_of_some _ zz
 refine wpAny_bind (wpAny_setField_rec zp (by simp) fun g7 z7 e7 => ?_)
 replace z7 : EQ g7 z TI TO (rawInt g5.objs.size) (.bool false) := z7
 refine wpAny_setField_rec z7 (by simp) fun g8 z8 e8 => ?_
 replace z8 : EQ g8 z TI TO (rawInt g5.objs.size) (.bool false) := z8
 have sz : g5.objs.size = s.heap.objs.size := by
  rw [sz5, sz4, sz3, sz2]
  exact (by assumption : Heap.SameBut z s.heap g1).1
 have zlt : z < g5.objs.size := Heap.lt_size zz
 have up : ∀ c o, c ≠ z → g5.get? c = some o → g8.get? c = some o := fun c o c1 e => e8.extBut _ _ c1 (e7.extBut _ _ c1 (Heap.get?_push_of_some _ e))
 have new : IsPair g8 g5.objs.size x y := e8.extBut _ _ (Nat.ne_of_gt zlt) (e7.extBut _ _ (Nat.ne_of_gt zlt) (Heap.get?_push_size _ rfl))
 have s8 : g8.objs.size = g5.objs.size + 1 := by rw [e8.1, e7.1, Heap.size_push]
 rw [sz] at z8 new s8
 refine wpAny_pure ⟨_, rfl, ?_⟩
 show Q (.ref g5.objs.size) _
 rw [sz]
 exact hQ g8 z8 (up _ _ D.TOz o5) (W1.keep _ _ _ v1 (fun o e => up _ o D.i1z e) fun o e => up _ o D.l1z e) (W2.keep _ _ _ v2 (fun o e => up _ o D.i2z e) fun o e => up _ o D.l2z e) new s8 fun c o c1 c2 c3 c4 e => up c o c1 (kk c o c1 c2 c3 c4 e)
theorem mD {Q : Fin → Shared → Prop} (hh : A.handled = none) (D : ZipApart z TI TO i1 i2 l1 l2) (W1 : Wk P w i1 l1 xs S1) (W2 : Wk P w i2 l2 ys S2) (hz : EQ s.heap z TI TO .none (.bool false)) (ti : IsPair s.heap TI (.ref i1) (.ref i2)) (tt : IsPair s.heap TO a b)
  (t1 : S1 k1 s.heap) (t2 : S2 k2 s.heap) (hx : xs[k1]? = none ∨ ys[k2]? = none)
  (hE : ∀ g e, (∀ c o, c ≠ z → c ≠ TO → c ≠ i1 → c ≠ i2 → s.heap.get? c = some o → g.get? c = some o) → (∃ o, g.get? e = some o ∧ o.cls = .type "StopIteration") → E (.ref e) { s with heap := g }) :
  wpAny (model P w) A (Builtin.«zip.__next__» ⟨[.ref z], []⟩) Q E s := by
 show wpAny _ _ (field (.ref z) 2 >>= _) _ _ _
 refine wpAny_bind (wpAny_field hz rfl (x := .bool false) rfl ?_)
 show wpAny _ _ (field (.ref z) 3 >>= _) _ _ _
 refine wpAny_bind (wpAny_field hz rfl (x := .ref TI) rfl (wpAny_bind (wpAny_seqItems ti rfl ?_)))
 show wpAny _ _ (Builtin.SmallTypes.ownedTupleIsFree (.ref z) >>= _) _ _ _
 refine wpAny_bind ?_
 unfold Builtin.SmallTypes.ownedTupleIsFree
 refine wpAny_bind (wpAny_field hz rfl (x := .none) rfl (wpAny_pure ?_))
 simp only [if_true]
 refine wpAny_bind (wpAny_rule (wpAny_bind (wpAny_field hz rfl (x := .ref TO) rfl (wpAny_bind (wpAny_setField_rec hz (by simp) fun g1 z1 e1 => ?_)))))
 replace z1 : EQ g1 z TI TO .ellipsis (.bool false) := z1
 have e1 := e1.extBut
 refine wpAny_bind ?_
 simp only [List.zipIdx_cons, List.zipIdx_nil, List.forIn_cons, List.forIn_nil]
 refine wpAny_bind (wpAny_bind (wpAny_onRaise ?_))
 show wpAny _ _ (Builtin.SmallTypes.nextOf (.ref i1) >>= _) _ _ _
 have fin : ∀ {g : Heap} {e : Addr}, EQ g z TI TO .ellipsis (.bool false) → (∀ c o, c ≠ z → c ≠ TO → c ≠ i1 → c ≠ i2 → s.heap.get? c = some o → g.get? c = some o) → (∃ o, g.get? e = some o ∧ o.cls = .type "StopIteration") →
   wpAny (model P w) A (setField (.ref z) 0 .none) (fun _ s' => E (.ref e) s') E { s with heap := g } := fun {g e} zg kg ⟨oe, he, hc⟩ => by
  have nez : e ≠ z := by
   rintro rfl
   rw [zg] at he; cases he
   simp at hc
  exact wpAny_setField_rec zg (by simp) fun g' _ e' => hE g' e (fun c o c1 c2 c3 c4 q => e'.extBut _ _ c1 (kg c o c1 c2 c3 c4 q)) ⟨oe, e'.extBut _ _ nez he, hc⟩
 cases hx1 : xs[k1]? with
 | none => exact wpAny_bind (W1.done hh (W1.but t1 e1 D.i1z D.l1z) hx1 fun g2 e e2 he => fin (e2 _ _ D.i1z.symm z1) (fun c o c1 _ c3 _ q => e2 _ _ c3 (e1 _ _ c1 q)) he)
 | some x =>
  have hy : ys[k2]? = none := by
   rcases hx with h | h
   ·rw [hx1] at h; cases h
   ·exact h
  refine wpAny_bind (W1.item (W1.but t1 e1 D.i1z D.l1z) hx1 fun g2 u2 e2 => wpAny_pure ?_)
  have e2 := e2.extBut
  have o2 : IsPair g2 TO a b := e2 _ _ D.TOi1 (e1 _ _ D.TOz tt)
  refine wpAny_bind (wpAny_seqItems o2 rfl (wpAny_bind (wpAny_updateSeq_pair o2 fun g3 o3 e3 => ?_)))
  have e3 := e3.extBut
  refine wpAny_bind (wpAny_letGo (wpAny_pure (wpAny_bind (wpAny_bind (wpAny_onRaise ?_)))))
  show wpAny _ _ (Builtin.SmallTypes.nextOf (.ref i2) >>= _) _ _ _
  exact wpAny_bind (W2.done hh (W2.but (W2.but (W2.but t2 e1 D.i2z D.l2z) e2 D.i12.symm D.l2i1) e3 D.TOi2.symm D.l2TO) hy fun g4 e e4 he =>
   fin (e4 _ _ D.i2z.symm (e3 _ _ D.TOz.symm (e2 _ _ D.i1z.symm z1))) (fun c o c1 c2 c3 c4 q => e4 _ _ c4 (e3 _ _ c2 (e2 _ _ c3 (e1 _ _ c1 q)))) he)
theorem oI {T : Addr} {oT : Obj} {b1 : Bool} {Q : Value → Shared → Prop} (D : ZipApart z TI TO i1 i2 l1 l2) (W1 : Wk P w i1 l1 xs S1) (W2 : Wk P w i2 l2 ys S2) (hz : EQ s.heap z TI TO (rawInt T) (.bool b1)) (hT : s.heap.get? T = some oT) (ti : IsPair s.heap TI (.ref i1) (.ref i2))
  (t1 : S1 k1 s.heap) (t2 : S2 k2 s.heap) (hx : xs[k1]? = some x) (hy : ys[k2]? = some y)
  (hQ : ∀ g, EQ g z TI TO (rawInt T) (.bool true) → S1 (k1 + 1) g → S2 (k2 + 1) g → IsPair g s.heap.objs.size x y → g.objs.size = s.heap.objs.size + 1 →
   (∀ c o, c ≠ z → c ≠ i1 → c ≠ i2 → s.heap.get? c = some o → g.get? c = some o) → Q (.ref s.heap.objs.size) { s with heap := g }) :
  wpAny (model P w) A (Builtin.«zip.__next__» ⟨[.ref z], []⟩) (fun fin s' => ∃ v, fin = .done (.ret v) ∧ Q v s') E s := by
 show wpAny _ _ (field (.ref z) 2 >>= _) _ _ _
 refine wpAny_bind (wpAny_field hz rfl (x := .bool false) rfl ?_)
 show wpAny _ _ (field (.ref z) 3 >>= _) _ _ _
 refine wpAny_bind (wpAny_field hz rfl (x := .ref TI) rfl (wpAny_bind (wpAny_seqItems ti rfl ?_)))
 show wpAny _ _ (Builtin.SmallTypes.ownedTupleIsFree (.ref z) >>= _) _ _ _
 have fin : ∀ {g1 g2 g3 : Heap}, EQ g1 z TI TO (rawInt T) (.bool true) → Heap.SameBut z s.heap g1 → S1 (k1 + 1) g2 → Heap.SameBut i1 g1 g2 → S2 (k2 + 1) g3 → Heap.SameBut i2 g2 g3 → Q (.ref g3.objs.size) { s with heap := g3.push { cls := .type "tuple", data := .seq #[x, y] } } := fun {g1 g2 g3} z1 e1 u2 e2 u3 e3 => by
  have sz : g3.objs.size = s.heap.objs.size := by rw [e3.1, e2.1, e1.1]
  have z3 : EQ g3 z TI TO (rawInt T) (.bool true) := e3.extBut _ _ D.i2z.symm (e2.extBut _ _ D.i1z.symm z1)
  have v1 : S1 (k1 + 1) g3 := W1.but u2 e3.extBut D.i12 D.l1i2
  have r := hQ (g3.push { cls := .type "tuple", data := .seq #[x, y] }) (Heap.get?_push_of_some _ z3) (W1.keep _ _ _ v1 (fun o e => Heap.get?_push_of_some _ e) fun o e => Heap.get?_push_of_some _ e)
   (W2.keep _ _ _ u3 (fun o e => Heap.get?_push_of_some _ e) fun o e => Heap.get?_push_of_some _ e) (by rw [← sz]; exact Heap.get?_push_size _ rfl) (by rw [Heap.size_push, sz]) fun c o c1 c3 c4 e => Heap.get?_push_of_some _ (e3.extBut _ _ c4 (e2.extBut _ _ c3 (e1.extBut _ _ c1 e)))
  rw [← sz] at r
  exact r
 refine wpAny_bind ?_
 unfold Builtin.SmallTypes.ownedTupleIsFree
 refine wpAny_bind (wpAny_field hz rfl (x := rawInt T) rfl ?_)
 show wpAny _ _ (loadIfAlive T >>= _) _ _ _
 refine wpAny_bind (QF ?_)
 rw [hT]
 simp only [Option.isNone_some, Bool.false_eq_true, if_false]
 refine wpAny_bind (wpAny_field hz rfl (x := .bool b1) rfl ?_)
 have refl : Heap.SameBut z s.heap s.heap := ⟨rfl, fun _ _ => rfl⟩
 cases b1 with
 | true =>
  simp only [bne_self_eq_false, Bool.false_eq_true, if_false]
  refine wpAny_pure ?_
  simp only [Bool.false_eq_true, if_false]
  simp only [List.forIn_toArray, List.forIn_cons, List.forIn_nil]
  refine wpAny_bind (wpAny_bind (wpAny_bind (wpAny_holding ?_)))
  show wpAny _ _ (Builtin.SmallTypes.nextOf (.ref i1) >>= _) _ _ _
  refine wpAny_bind (W1.item (W1.but t1 refl.extBut D.i1z D.l1z) hx fun g2 u2 e2 => wpAny_pure ?_)
  refine wpAny_pure (wpAny_bind (wpAny_bind (wpAny_holding ?_)))
  show wpAny _ _ (Builtin.SmallTypes.nextOf (.ref i2) >>= _) _ _ _
  refine wpAny_bind (W2.item (W2.but (W2.but t2 refl.extBut D.i2z D.l2z) e2.extBut D.i12.symm D.l2i1) hy fun g3 u3 e3 => wpAny_pure ?_)
  refine wpAny_pure (wpAny_pure ?_)
  refine wpAny_bind (wpAny_newTuple (hsz := show 2 ≤ sizeLine by decide) (wpAny_pure ⟨_, rfl, ?_⟩))
  exact fin hz refl u2 e2 u3 e3
 | false =>
  rw [if_pos (by decide)]
  refine wpAny_bind (wpAny_setField_rec hz (by simp) fun g1 z1 e1 => wpAny_pure ?_)
  replace z1 : EQ g1 z TI TO (rawInt T) (.bool true) := z1
  simp only [Bool.false_eq_true, if_false]
  simp only [List.forIn_toArray, List.forIn_cons, List.forIn_nil]
  refine wpAny_bind (wpAny_bind (wpAny_bind (wpAny_holding ?_)))
  show wpAny _ _ (Builtin.SmallTypes.nextOf (.ref i1) >>= _) _ _ _
  refine wpAny_bind (W1.item (W1.but t1 e1.extBut D.i1z D.l1z) hx fun g2 u2 e2 => wpAny_pure ?_)
  refine wpAny_pure (wpAny_bind (wpAny_bind (wpAny_holding ?_)))
  show wpAny _ _ (Builtin.SmallTypes.nextOf (.ref i2) >>= _) _ _ _
  refine wpAny_bind (W2.item (W2.but (W2.but t2 e1.extBut D.i2z D.l2z) e2.extBut D.i12.symm D.l2i1) hy fun g3 u3 e3 => wpAny_pure ?_)
  refine wpAny_pure (wpAny_pure ?_)
  refine wpAny_bind (wpAny_newTuple (hsz := show 2 ≤ sizeLine by decide) (wpAny_pure ⟨_, rfl, ?_⟩))
  exact fin z1 e1 u2 e2 u3 e3
theorem mV {T : Addr} {oT : Obj} {b1 : Bool} {Q : Fin → Shared → Prop} (hh : A.handled = none) (D : ZipApart z TI TO i1 i2 l1 l2) (W1 : Wk P w i1 l1 xs S1) (W2 : Wk P w i2 l2 ys S2) (hz : EQ s.heap z TI TO (rawInt T) (.bool b1)) (hT : s.heap.get? T = some oT) (ti : IsPair s.heap TI (.ref i1) (.ref i2))
  (t1 : S1 k1 s.heap) (t2 : S2 k2 s.heap) (hx : xs[k1]? = none ∨ ys[k2]? = none)
  (hE : ∀ g e, (∀ c o, c ≠ z → c ≠ i1 → c ≠ i2 → s.heap.get? c = some o → g.get? c = some o) → (∃ o, g.get? e = some o ∧ o.cls = .type "StopIteration") → E (.ref e) { s with heap := g }) :
  wpAny (model P w) A (Builtin.«zip.__next__» ⟨[.ref z], []⟩) Q E s := by
 show wpAny _ _ (field (.ref z) 2 >>= _) _ _ _
 refine wpAny_bind (wpAny_field hz rfl (x := .bool false) rfl ?_)
 show wpAny _ _ (field (.ref z) 3 >>= _) _ _ _
 refine wpAny_bind (wpAny_field hz rfl (x := .ref TI) rfl (wpAny_bind (wpAny_seqItems ti rfl ?_)))
 show wpAny _ _ (Builtin.SmallTypes.ownedTupleIsFree (.ref z) >>= _) _ _ _
 refine wpAny_bind ?_
 unfold Builtin.SmallTypes.ownedTupleIsFree
 refine wpAny_bind (wpAny_field hz rfl (x := rawInt T) rfl ?_)
 show wpAny _ _ (loadIfAlive T >>= _) _ _ _
 refine wpAny_bind (QF ?_)
 rw [hT]
 simp only [Option.isNone_some, Bool.false_eq_true, if_false]
 refine wpAny_bind (wpAny_field hz rfl (x := .bool b1) rfl ?_)
 have refl : Heap.SameBut z s.heap s.heap := ⟨rfl, fun _ _ => rfl⟩
 cases b1 with
 | true =>
  simp only [bne_self_eq_false, Bool.false_eq_true, if_false]
  refine wpAny_pure ?_
  simp only [Bool.false_eq_true, if_false]
  simp only [List.forIn_toArray, List.forIn_cons, List.forIn_nil]
  refine wpAny_bind (wpAny_bind (wpAny_bind (wpAny_holding ?_)))
  show wpAny _ _ (Builtin.SmallTypes.nextOf (.ref i1) >>= _) _ _ _
  cases hx1 : xs[k1]? with
  | none => exact wpAny_bind (W1.done hh (W1.but t1 refl.extBut D.i1z D.l1z) hx1 fun g2 e e2 he => hE g2 e (fun c o c1 c3 c4 q => e2 _ _ c3 (refl.extBut _ _ c1 q)) he)
  | some x =>
   have hy : ys[k2]? = none := by
    rcases hx with h | h
    ·rw [hx1] at h; cases h
    ·exact h
   refine wpAny_bind (W1.item (W1.but t1 refl.extBut D.i1z D.l1z) hx1 fun g2 u2 e2 => wpAny_pure ?_)
   refine wpAny_pure (wpAny_bind (wpAny_bind (wpAny_holding ?_)))
   show wpAny _ _ (Builtin.SmallTypes.nextOf (.ref i2) >>= _) _ _ _
   exact wpAny_bind (W2.done hh (W2.but (W2.but t2 refl.extBut D.i2z D.l2z) e2.extBut D.i12.symm D.l2i1) hy fun g3 e e3 he => hE g3 e (fun c o c1 c3 c4 q => e3 _ _ c4 (e2.extBut _ _ c3 (refl.extBut _ _ c1 q))) he)
 | false =>
  rw [if_pos (by decide)]
  refine wpAny_bind (wpAny_setField_rec hz (by simp) fun g1 z1 e1 => wpAny_pure ?_)
  simp only [Bool.false_eq_true, if_false]
  simp only [List.forIn_toArray, List.forIn_cons, List.forIn_nil]
  refine wpAny_bind (wpAny_bind (wpAny_bind (wpAny_holding ?_)))
  show wpAny _ _ (Builtin.SmallTypes.nextOf (.ref i1) >>= _) _ _ _
  cases hx1 : xs[k1]? with
  | none => exact wpAny_bind (W1.done hh (W1.but t1 e1.extBut D.i1z D.l1z) hx1 fun g2 e e2 he => hE g2 e (fun c o c1 c3 c4 q => e2 _ _ c3 (e1.extBut _ _ c1 q)) he)
  | some x =>
   have hy : ys[k2]? = none := by
    rcases hx with h | h
    ·rw [hx1] at h; cases h
    ·exact h
   refine wpAny_bind (W1.item (W1.but t1 e1.extBut D.i1z D.l1z) hx1 fun g2 u2 e2 => wpAny_pure ?_)
   refine wpAny_pure (wpAny_bind (wpAny_bind (wpAny_holding ?_)))
   show wpAny _ _ (Builtin.SmallTypes.nextOf (.ref i2) >>= _) _ _ _
   exact wpAny_bind (W2.done hh (W2.but (W2.but t2 e1.extBut D.i2z D.l2z) e2.extBut D.i12.symm D.l2i1) hy fun g3 e e3 he => hE g3 e (fun c o c1 c3 c4 q => e3 _ _ c4 (e2.extBut _ _ c3 (e1.extBut _ _ c1 q))) he)
end
abbrev itL (l : Addr) : Obj := { cls := .type "list_iterator", data := .fields #[.ref l, .int 0 0] }
abbrev itT (t : Addr) : Obj := { cls := .type "tuple_iterator", data := .fields #[.ref t, .int 0 0] }
abbrev zp2 (h : Heap) (o1 o2 : Obj) : Heap := (h.push o1).push o2
abbrev zp3 (h : Heap) (o1 o2 : Obj) : Heap := (zp2 h o1 o2).push { cls := .type "tuple", data := .seq #[.ref h.objs.size, .ref (h.push o1).objs.size] }
abbrev zp4 (h : Heap) (o1 o2 : Obj) : Heap := (zp3 h o1 o2).push { cls := .type "tuple", data := .seq #[.none, .none] }
abbrev zp5 (h : Heap) (o1 o2 : Obj) : Heap := (zp4 h o1 o2).push { cls := .type "zip", data := .fields #[.none, .bool false, .bool false, .ref (zp2 h o1 o2).objs.size, .ref (zp3 h o1 o2).objs.size] }
theorem VI (t l : Addr) (xs ys : Array Value) : Meets (Builtin.«zip.__new__» ⟨[.type "zip", .ref t, .ref l], []⟩) (fun _ R s => IsTup s.heap t xs ∧ s.heap.IsList l ys ∧
   R (.ok (.ret (.ref (zp4 s.heap (itT t) (itL l)).objs.size))) { s with heap := zp5 s.heap (itT t) (itL l) }) :=
 .of_wp fun prog w A R s h => by
  obtain ⟨hp, g, d, tk, os⟩ := s
  obtain ⟨h1, h2, h⟩ := h
  have hsub := PySem.sub_zip
  have k1 : IsTup (Shared.heap ⟨hp, g, d, tk, os⟩) t xs := h1
  have k2 : Heap.IsList (Shared.heap ⟨hp.push (itT t), g, d, tk, os⟩) l ys := Heap.IsList.push h2 _
  wp_walk using iter_tuple k1, wpAny_pyIter_list k2
  exact ⟨_, rfl, h⟩
section
variable {P : Program} {w : World} {A : Around} {E : Value → Shared → Prop} {s : Shared}
theorem kP (h : Heap) (o1 o2 : Obj) (f1 : o1.isFreed = false) (f2 : o2.isFreed = false) : EQ (zp5 h o1 o2) (h.objs.size + 4) (h.objs.size + 2) (h.objs.size + 3) .none (.bool false) ∧ IsPair (zp5 h o1 o2) (h.objs.size + 2) (.ref h.objs.size) (.ref (h.objs.size + 1)) ∧
  IsPair (zp5 h o1 o2) (h.objs.size + 3) .none .none ∧ (zp5 h o1 o2).get? h.objs.size = some o1 ∧ (zp5 h o1 o2).get? (h.objs.size + 1) = some o2 ∧ (zp5 h o1 o2).objs.size = h.objs.size + 5 ∧ (∀ c o, h.get? c = some o → (zp5 h o1 o2).get? c = some o) ∧ (zp4 h o1 o2).objs.size = h.objs.size + 4 := by
 have z1 : (h.push o1).objs.size = h.objs.size + 1 := Heap.size_push ..
 have z2 : (zp2 h o1 o2).objs.size = h.objs.size + 2 := by rw [Heap.size_push, z1]
 have z3 : (zp3 h o1 o2).objs.size = h.objs.size + 3 := by rw [Heap.size_push, z2]
 have z4 : (zp4 h o1 o2).objs.size = h.objs.size + 4 := by rw [Heap.size_push, z3]
 refine ⟨?_, ?_, ?_, ?_, ?_, by rw [Heap.size_push, z4], fun c o e => ?_, z4⟩
 ·have q : (zp5 h o1 o2).get? (zp4 h o1 o2).objs.size = some _ := Heap.get?_push_size _ rfl
  rw [z2, z3, z4] at q
  exact q
 ·have q : (zp5 h o1 o2).get? (zp2 h o1 o2).objs.size = some _ := Heap.get?_push_of_some _ (Heap.get?_push_of_some _ (Heap.get?_push_size _ rfl))
  rw [z1, z2] at q
  exact q
 ·have q : (zp5 h o1 o2).get? (zp3 h o1 o2).objs.size = some _ := Heap.get?_push_of_some _ (Heap.get?_push_size _ rfl)
  rw [z3] at q
  exact q
 ·exact Heap.get?_push_of_some _ (Heap.get?_push_of_some _ (Heap.get?_push_of_some _ (Heap.get?_push_of_some _ (Heap.get?_push_size _ f1))))
 ·have q : (zp5 h o1 o2).get? (h.push o1).objs.size = some o2 := Heap.get?_push_of_some _ (Heap.get?_push_of_some _ (Heap.get?_push_of_some _ (Heap.get?_push_size _ f2)))
  rw [z1] at q
  exact q
 ·exact Heap.get?_push_of_some _ (Heap.get?_push_of_some _ (Heap.get?_push_of_some _ (Heap.get?_push_of_some _ (Heap.get?_push_of_some _ e))))
theorem SV {t l : Addr} {xs ys : Array Value} {Q : Value → Shared → Prop} (h1 : IsTup s.heap t xs) (h2 : s.heap.IsList l ys) (h : Q (.ref (s.heap.objs.size + 4)) { s with heap := zp5 s.heap (itT t) (itL l) }) :
  wpAny (model P w) A (call (.type "zip") [.ref t, .ref l]) Q E s := by
 refine callType_new F.called_zip (by decide) (F.typeCall_zip_2 _ _) (F.newCall_zip_2 _ _) (fun obj => F.args_object_init_3 obj _ _) F.entry_zip_new (VI t l xs ys) ⟨h1, h2, ?_⟩
 obtain ⟨a1, a2, a3, a4, a5, a6, a7, a8⟩ := kP s.heap (itT t) (itL l) rfl rfl
 rw [a8]
 exact ⟨⟨_, a1, rfl⟩, h⟩
end
theorem WX : typeLookup (.type "zip") "keys" = pure none := by rw [typeLookup_type, builtinLookup_eq_fast]; kernel_rfl
theorem OX : typeLookup (.type "zip") "__getattr__" = pure none := by rw [typeLookup_type, builtinLookup_eq_fast]; kernel_rfl
theorem nM : entryFor table "zip.__getattribute__" = some Builtin.«object.__getattribute__» := entryFor_alias (id' := "object.__getattribute__") (by kernel_rfl) (by decide +kernel) (by decide +kernel) (by kernel_rfl)
theorem gK (z : Addr) (vs : Array Value) (u : Tok) : Meets (Builtin.«object.__getattribute__» ⟨[.ref z, .str "keys" u], []⟩) (fun A R s => s.heap.get? z = some { cls := .type "zip", dict := none, data := .fields vs, slots := #[] } ∧ raisesAttr (.ref z) "keys" A R s) :=
 Meets.of_wp fun prog w A R s h0 => by
  obtain ⟨hp, g, d, tk, os⟩ := s
  obtain ⟨hx, h1⟩ := h0
  have hT : (⟨hp, g, d, tk, os⟩ : Shared).TypeIs (.ref z) "zip" := ⟨_, hx, rfl⟩
  have k0 := WX
  unfold Builtin.«object.__getattribute__»
  repeat (any_goals (first | assumption | wp_step))
  try simp only [show (["__module__", "__name__", "__qualname__", "__doc__", "__annotations__"] : List Str).contains "keys" = false by decide, Bool.false_eq_true, if_false]
  repeat (any_goals (first | assumption | wp_step))
  exact wpAny_raiseAttrError h1.1 h1.2 (attrMsg_fits (by decide +kernel) (by size_fits))
theorem gB {P : Program} {w : World} {A : Around} {E : Value → Shared → Prop} {s : Shared} {z : Addr} {vs : Array Value} {Q : Option Value → Shared → Prop} (hx : s.heap.get? z = some { cls := .type "zip", dict := none, data := .fields vs, slots := #[] }) (hA : A.handled = none)
  (h : ∀ g tk, (∀ b o, s.heap.get? b = some o → g.get? b = some o) → Q none { s with heap := g, toks := tk }) : wpAny (model P w) A (getAttr? (.ref z) "keys") Q E s := by
 obtain ⟨hp, g, d, tk, os⟩ := s
 have hT : ∀ tk', (⟨hp, g, d, tk', os⟩ : Shared).TypeIs (.ref z) "zip" := fun _ => ⟨_, hx, rfl⟩
 have k1 := sub_AttributeError
 have k3 := F.slot_zip_getattribute.lookup
 have k4 := F.slot_zip_getattribute.bind (.ref z)
 have k5 := OX
 unfold getAttr? getAttrBy? getAttrBy
 repeat (any_goals (first | assumption | exact hT _ | ((with_reducible show wpAny _ _ (call (Value.builtin "zip.__getattribute__") _ _) _ _ _); refine call_meets F.slot_zip_getattribute (hT _) nM (F.args_zip_getattribute_2 _ _) (gK z vs _) ⟨hx, hA, fun h' tk' e hx' => ?_⟩) | wp_step))
 obtain ⟨t', u', he⟩ := hx'.there
 show wpAny _ _ (getattributeRaised _ _ _ _ _ _ _) _ _ _
 unfold getattributeRaised
 repeat (any_goals (first | assumption | wp_step))
 exact h _ _ hx'.keeps
def ZS (h : Heap) (z TI TO i1 i2 : Addr) : Prop := IsPair h TI (.ref i1) (.ref i2) ∧ ((EQ h z TI TO .none (.bool false) ∧ ∃ a b, IsPair h TO a b) ∨ ∃ (T : Addr) (oT : Obj) (b1 : Bool), EQ h z TI TO (rawInt T) (.bool b1) ∧ h.get? T = some oT ∧ T ≠ z ∧ T ≠ i1 ∧ T ≠ i2)
section
variable {P : Program} {w : World} {A : Around} {E : Value → Shared → Prop} {s : Shared} {z TI TO i1 i2 l1 l2 : Addr} {xs ys : Array Value} {S1 S2 : Nat → Heap → Prop} {k1 k2 : Nat} {x y : Value}
theorem ZS.ty {h : Heap} (hz : ZS h z TI TO i1 i2) : ∃ vs, h.get? z = some { cls := .type "zip", dict := none, data := .fields vs, slots := #[] } := by
 rcases hz with ⟨_, ⟨hz, _⟩ | ⟨T, oT, b1, hz, _⟩⟩
 ·exact ⟨_, hz⟩
 ·exact ⟨_, hz⟩
theorem hZ {Q : Option Value → Shared → Prop} (D : ZipApart z TI TO i1 i2 l1 l2) (W1 : Wk P w i1 l1 xs S1) (W2 : Wk P w i2 l2 ys S2) (hz : ZS s.heap z TI TO i1 i2) (t1 : S1 k1 s.heap) (t2 : S2 k2 s.heap) (hx : xs[k1]? = some x) (hy : ys[k2]? = some y)
  (hQ : ∀ g, ZS g z TI TO i1 i2 → S1 (k1 + 1) g → S2 (k2 + 1) g → IsPair g s.heap.objs.size x y → (∀ c o, c ≠ z → c ≠ TO → c ≠ i1 → c ≠ i2 → s.heap.get? c = some o → g.get? c = some o) → Q (some (.ref s.heap.objs.size)) { s with heap := g }) :
  wpAny (model P w) A (pyNext (.ref z)) Q E s := by
 have ty : s.TypeIs (.ref z) "zip" := by obtain ⟨vs, e⟩ := hz.ty; exact ⟨_, e, rfl⟩
 obtain ⟨ti, hz⟩ := hz
 obtain ⟨oz, ez⟩ : ∃ o, s.heap.get? z = some o := by obtain ⟨o, e, _⟩ := ty; exact ⟨o, e⟩
 obtain ⟨oa, _, ea, _⟩ := W1.rc _ _ t1
 obtain ⟨ob, _, eb, _⟩ := W2.rc _ _ t2
 have nz : s.heap.objs.size ≠ z := Nat.ne_of_gt (Heap.lt_size ez)
 have na : s.heap.objs.size ≠ i1 := Nat.ne_of_gt (Heap.lt_size ea)
 have nb : s.heap.objs.size ≠ i2 := Nat.ne_of_gt (Heap.lt_size eb)
 unfold pyNext
 refine wpAny_bind (wpAny_attempt (wpAny_callSpecial?_slot (name := Str.ofString "__next__") ty F.slot_zip_next (wpAny_call_entry F.slot_zip_next ty F.entry_zip_next ?_ (F.args_zip_next_1 _))))
 rcases hz with ⟨hz, a, b, tt⟩ | ⟨T, oT, b1, hz, hT, n1, n2, n3⟩
 ·exact oV D W1 W2 hz ti tt t1 t2 hx hy fun g a1 a2 a3 a4 a5 a6 a7 => wpAny_pure (hQ g ⟨a7 _ _ D.TIz D.TITO D.TIi1 D.TIi2 ti, .inr ⟨_, _, _, a1, a5, nz, na, nb⟩⟩ a3 a4 a5 a7)
 ·exact oI D W1 W2 hz hT ti t1 t2 hx hy fun g a1 a3 a4 a5 a6 a7 => wpAny_pure (hQ g ⟨a7 _ _ D.TIz D.TIi1 D.TIi2 ti, .inr ⟨T, oT, true, a1, a7 _ _ n1 n2 n3 hT, n1, n2, n3⟩⟩ a3 a4 a5 fun c o c1 _ c3 c4 e => a7 c o c1 c3 c4 e)
theorem lP {Q : Option Value → Shared → Prop} (hh : A.handled = none) (D : ZipApart z TI TO i1 i2 l1 l2) (W1 : Wk P w i1 l1 xs S1) (W2 : Wk P w i2 l2 ys S2) (hz : ZS s.heap z TI TO i1 i2) (t1 : S1 k1 s.heap) (t2 : S2 k2 s.heap) (hx : xs[k1]? = none ∨ ys[k2]? = none)
  (hQ : ∀ g, (∀ c o, c ≠ z → c ≠ TO → c ≠ i1 → c ≠ i2 → s.heap.get? c = some o → g.get? c = some o) → Q none { s with heap := g }) : wpAny (model P w) A (pyNext (.ref z)) Q E s := by
 have ty : s.TypeIs (.ref z) "zip" := by obtain ⟨vs, e⟩ := hz.ty; exact ⟨_, e, rfl⟩
 obtain ⟨ti, hz⟩ := hz
 unfold pyNext
 refine wpAny_bind (wpAny_attempt (wpAny_callSpecial?_slot (name := Str.ofString "__next__") ty F.slot_zip_next (wpAny_call_entry F.slot_zip_next ty F.entry_zip_next ?_ (F.args_zip_next_1 _))))
 rcases hz with ⟨hz, a, b, tt⟩ | ⟨T, oT, b1, hz, hT, n1, n2, n3⟩
 ·exact mD hh D W1 W2 hz ti tt t1 t2 hx fun g e kg ⟨o, he, hc⟩ => wpAny_bind (wpAny_isInstance (T := "StopIteration") (b := true) ⟨o, he, hc⟩ isSubtype_stop (wpAny_pure (hQ g kg)))
 ·exact mV hh D W1 W2 hz hT ti t1 t2 hx fun g e kg ⟨o, he, hc⟩ => wpAny_bind (wpAny_isInstance (T := "StopIteration") (b := true) ⟨o, he, hc⟩ isSubtype_stop (wpAny_pure (hQ g fun c o c1 _ c3 c4 q => kg c o c1 c3 c4 q)))
end
theorem TH : entryFor table "dict.update.loop" = some Builtin.«dict.update.loop» := entryFor_of_tree (by kernel_rfl)
theorem KJ : plainId "dict.update.loop" = true := by decide +kernel
section
variable {P : Program} {w : World} {z TI TO i1 i2 l1 l2 d : Addr} {xs ys : Array Value} {S1 S2 : Nat → Heap → Prop}
def ED (ks : List Key) (vs : List Value) : Nat → List (Key × Value)
 | 0 => []
 | k + 1 => match ks[k]?, vs[k]? with
  | some a, some b => stored (ED ks vs k) a b
  | _, _ => ED ks vs k
theorem MY (ks : List Key) (vs : List Value) : ∀ k, (ED ks vs k).length ≤ k
 | 0 => by simp [ED]
 | k + 1 => by
  have := MY ks vs k
  rw [ED]
  split
  ·have := stored_length_le (ED ks vs k) ‹_› ‹_›
   omega
  ·omega
theorem jY (D : ZipApart z TI TO i1 i2 l1 l2) (W1 : Wk P w i1 l1 xs S1) (W2 : Wk P w i2 l2 ys S2) (dz : d ≠ z) (dT : d ≠ TO) (d1 : d ≠ i1) (d2 : d ≠ i2) (dl1 : l1 ≠ d) (dl2 : l2 ≠ d) (dTI : TI ≠ d) {ks : List Key} (hks : ∀ (i : Nat) (v : Value), xs[i]? = some v → ∃ k, ks[i]? = some k ∧ (BT P w).is k v = true) (small : xs.size ≤ 1000) {A : Around} (hh : A.handled = none) {R : Result → Shared → Prop} :
  ∀ (m k : Nat) (i : Int) (s : Shared), min xs.size ys.size - k = m → k ≤ min xs.size ys.size → ZS s.heap z TI TO i1 i2 → S1 k s.heap → S2 k s.heap → s.heap.DictOf (BT P w) d (ED ks ys.toList k) →
   (∀ g tk, g.DictOf (BT P w) d (ED ks ys.toList (min xs.size ys.size)) → (∀ c o, c ≠ z → c ≠ TO → c ≠ i1 → c ≠ i2 → c ≠ d → s.heap.get? c = some o → g.get? c = some o) → R (.ok (.ret .none)) { s with heap := g, toks := tk }) →
   codeAny (model P w) A (.builtin "dict.update.loop" ⟨[.ref d, .ref z, rawInt i, .none], []⟩) R s := by
 intro m
 induction m with
 | zero =>
  intro k i s hm hk zs t1 t2 hd hR
  have e : k = min xs.size ys.size := by omega
  refine codeAny_builtin TH ?_
  rw [Around.under_plainId KJ _]
  show wpAny _ A.in1 (pyNext (.ref z) >>= _) _ _ s
  refine wpAny_bind (lP hh D W1 W2 zs t1 t2 ?_ fun g kg => ?_)
  ·rcases Nat.le_total xs.size ys.size with h | h
   ·exact .inl (by rw [Array.getElem?_eq_none_iff]; omega)
   ·exact .inr (by rw [Array.getElem?_eq_none_iff]; omega)
  ·subst e
   show wpAny _ A.in1 (Builtin.Dict.addKeywords d [] >>= _) _ _ _
   obtain ⟨o, es, ep, ho, r⟩ := hd
   exact wpAny_bind (wpAny_pure (wpAny_pure (hR g s.toks ⟨o, es, ep, kg _ _ dz dT d1 d2 ho, r⟩ fun c o c1 c2 c3 c4 _ e => kg c o c1 c2 c3 c4 e)))
 | succ m ih =>
  intro k i s hm hk zs t1 t2 hd hR
  have k1 : k < xs.size := by omega
  have k2 : k < ys.size := by omega
  have hx : xs[k]? = some xs[k] := Array.getElem?_eq_getElem k1
  have hy : ys[k]? = some ys[k] := Array.getElem?_eq_getElem k2
  obtain ⟨key, hkey, hki⟩ := hks k _ hx
  refine codeAny_builtin TH ?_
  rw [Around.under_plainId KJ _]
  show wpAny _ A.in1 (pyNext (.ref z) >>= _) _ _ s
  refine wpAny_bind (hZ D W1 W2 zs t1 t2 hx hy fun g zg u1 u2 pg kg => ?_)
  have hdg : g.DictOf (BT P w) d (ED ks ys.toList k) := by
   obtain ⟨o, es, ep, ho, r⟩ := hd
   exact ⟨o, es, ep, kg _ _ dz dT d1 d2 ho, r⟩
  have st : stored (ED ks ys.toList k) key ys[k] = ED ks ys.toList (k + 1) := by
   rw [ED, hkey, Array.getElem?_toList, hy]
  show wpAny _ A.in1 (holding [Value.ref s.heap.objs.size] _ >>= _) _ _ _
  refine wpAny_bind (wpAny_holding ?_)
  refine wpAny_bind (wpAny_tryCatch ?_)
  unfold Builtin.Dict.pairItems
  refine wpAny_bind (wpAny_typeOf (show ({ s with heap := g } : Shared).TypeIs (.ref s.heap.objs.size) "tuple" from ⟨_, pg, rfl⟩) ?_)
  rw [if_pos (by decide)]
  refine wpAny_bind (wpAny_seqItems pg rfl (wpAny_pure ?_))
  show wpAny _ _ (holding [xs[k], ys[k]] (dictSet d xs[k] ys[k])) _ _ _
  have lz := MY ks ys.toList k
  refine wpAny_holding (wpAny_dictSet_pairs (s := { s with heap := g }) hki hdg (fun g2 hd2 sb => ?_) (Nat.le_trans (by omega : _ ≤ 1000) (by decide)))
  rw [st] at hd2
  have sb2 := sb.extBut
  refine wpAny_pure ⟨plainId_quiet KJ _, ih (k + 1) (i + 1) _ (by omega) (by omega) ?_ ?_ ?_ hd2 fun g3 tk hd3 k3 => ?_⟩
  ·obtain ⟨a1, a2⟩ := zg
   refine ⟨sb2 _ _ dTI a1, ?_⟩
   rcases a2 with ⟨a2, p, q, a3⟩ | ⟨T, oT, b1, a2, a3, a4, a5, a6⟩
   ·exact .inl ⟨sb2 _ _ dz.symm a2, p, q, sb2 _ _ dT.symm a3⟩
   ·by_cases nd : T = d
    ·subst nd
     obtain ⟨o, es, ep, ho, _⟩ := hd2
     exact .inr ⟨T, o, b1, sb2 _ _ dz.symm a2, ho, a4, a5, a6⟩
    ·exact .inr ⟨T, oT, b1, sb2 _ _ dz.symm a2, sb2 _ _ nd a3, a4, a5, a6⟩
  ·exact W1.but u1 sb2 d1.symm dl1
  ·exact W2.but u2 sb2 d2.symm dl2
  ·exact hR g3 tk hd3 fun c o c1 c2 c3 c4 c5 e => k3 c o c1 c2 c3 c4 c5 (sb2 _ _ c5 (kg c o c1 c2 c3 c4 e))
end
theorem WE {ks : List (Key × Value)} {k : Key} {v : Value} (h : ∀ p ∈ ks, p.1 ≠ k) : stored ks k v = ks ++ [(k, v)] := by
 unfold stored
 rw [if_neg]
 intro z
 rw [List.any_eq_true] at z
 obtain ⟨p, hp, e⟩ := z
 exact h p hp (by simpa using e)
theorem bI {α : Type} : ∀ {l : List α} (h : l.Nodup) {i j : Nat} (hi : i < l.length) (hj : j < l.length), l[i] = l[j] → i = j
 | [], _, i, j, hi, _, _ => absurd hi (Nat.not_lt_zero _)
 | a :: l, h, 0, 0, _, _, _ => rfl
 | a :: l, h, 0, j + 1, _, hj, e => absurd (show a ∈ l by rw [show a = l[j]'(by simpa using hj) from e]; exact List.getElem_mem _) (List.nodup_cons.mp h).1
 | a :: l, h, i + 1, 0, hi, _, e => absurd (show a ∈ l by rw [show a = l[i]'(by simpa using hi) from e.symm]; exact List.getElem_mem _) (List.nodup_cons.mp h).1
 | a :: l, h, i + 1, j + 1, hi, hj, e => congrArg (· + 1) (bI (List.nodup_cons.mp h).2 (by simpa using hi) (by simpa using hj) e)
theorem PU {ks : List Key} {vs : List Value} (nd : ks.Nodup) : ∀ k, k ≤ min ks.length vs.length → ED ks vs k = (ks.zip vs).take k
 | 0, _ => by simp [ED]
 | k + 1, h => by
  have k1 : k < ks.length := by omega
  have k2 : k < vs.length := by omega
  rw [ED, List.getElem?_eq_getElem k1, List.getElem?_eq_getElem k2]
  dsimp only
  rw [PU nd k (by omega), WE, List.take_add_one, List.getElem?_eq_getElem (by rw [List.length_zip]; omega)]
  ·simp
  ·intro p hp e
   rw [List.mem_take_iff_getElem] at hp
   obtain ⟨j, hj, rfl⟩ := hp
   rw [List.getElem_zip] at e
   have e : ks[j] = ks[k] := e
   have := bI nd _ _ e
   omega
theorem gL : ∀ {ks : List Key} {ys : List V} {vs : List Value}, AO ys vs → KV (ks.zip ys) (ks.zip vs)
 | [], ys, vs, r => by simp only [List.zip_nil_left]; exact .nil
 | k :: ks, _, _, .nil => by simp only [List.zip_nil_right]; exact .nil
 | k :: ks, _, _, .cons r t => by
  rw [List.zip_cons_cons, List.zip_cons_cons]
  exact .cons ⟨rfl, r⟩ (gL t)
theorem MU {n a k : Nat} (h : a < n) : a ≠ n + k := by omega
theorem kI {n : Nat} (j k : Nat) (h : j ≠ k) : n + j ≠ n + k := by omega
theorem ne_0 {n : Nat} (k : Nat) (h : k ≠ 0) : n + k ≠ n := by omega
section
variable {P : Program} {w : World} {A : Around} {E : Value → Shared → Prop} {s : Shared}
theorem OZ {t l : Addr} {xs ys : Array Value} {ks : List Key} {Q : Value → Shared → Prop} (hh : A.handled = none) (h1 : IsTup s.heap t xs) (h2 : s.heap.IsList l ys) (hl : ks.length = xs.size) (nd : ks.Nodup) (small : xs.size ≤ 1000)
  (hks : ∀ (i : Nat) (v : Value), xs[i]? = some v → ∃ k, ks[i]? = some k ∧ (BT P w).is k v = true)
  (h : ∀ g tk, g.DictOf (BT P w) (s.heap.objs.size + 5) (ks.zip ys.toList) → (∀ c o, s.heap.get? c = some o → g.get? c = some o) → Q (.ref (s.heap.objs.size + 5)) { s with heap := g, toks := tk }) :
  wpAny (model P w) A (call (.type "dict") [.ref (s.heap.objs.size + 4)]) Q E { s with heap := zp5 s.heap (itT t) (itL l) } := by
 obtain ⟨a1, a2, a3, a4, a5, a6, a7, a8⟩ := kP s.heap (itT t) (itL l) rfl rfl
 generalize zp5 s.heap (itT t) (itL l) = g0 at *
 have lt : t < s.heap.objs.size := by obtain ⟨o, e, _⟩ := h1; exact Heap.lt_size e
 have ll : l < s.heap.objs.size := by obtain ⟨o, e, _⟩ := h2; exact Heap.lt_size e
 have D : ZipApart (s.heap.objs.size + 4) (s.heap.objs.size + 2) (s.heap.objs.size + 3) s.heap.objs.size (s.heap.objs.size + 1) t l := aR lt ll
 have W1 : Wk P w s.heap.objs.size t xs _ := mH (Nat.ne_of_lt lt)
 have W2 : Wk P w (s.heap.objs.size + 1) l ys _ := jX (MU ll)
 refine callType_codes (Q₁ := fun obj s₁ => obj = .ref (s.heap.objs.size + 5) ∧ s₁ = { s with heap := g0.push { cls := .type "dict", data := .dict #[] } }) F.kt_called_dict (F.kt_typeCall_dict_1 _) F.entry_dict_init (kt_code_dict_new _ ⟨by rw [a6], rfl⟩) ?_
 rintro obj s1 ⟨rfl, rfl⟩
 have hnew : (g0.push { cls := .type "dict", data := .dict #[] }).DictOf (BT P w) (s.heap.objs.size + 5) [] := by
  have q := Heap.DictOf.new (knd := BT P w) g0
  rw [a6] at q
  exact q
 have up : ∀ {c : Addr} {o : Obj}, g0.get? c = some o → (g0.push { cls := .type "dict", data := .dict #[] }).get? c = some o := fun e => Heap.get?_push_of_some _ e
 refine ⟨hnew.typeIs, F.args_dict_init_2 _ _, ?_⟩
 unfold Builtin.«dict.__init__»
 refine wpAny_bind ?_
 unfold Builtin.Dict.selfAndRest
 refine wpAny_bind (wpAny_notOrdered_dict hnew.typeIs ?_)
 show wpAny _ _ (pure (s.heap.objs.size + 5, [Value.ref (s.heap.objs.size + 4)])) _ _ _
 refine wpAny_pure ?_
 show wpAny _ _ (Builtin.Dict.updateFrom "dict.__init__" (s.heap.objs.size + 5) (.ref (s.heap.objs.size + 4)) [] .none) _ _ _
 unfold Builtin.Dict.updateFrom
 refine wpAny_bind (wpAny_typeOf (show ({ s with heap := g0.push { cls := .type "dict", data := .dict #[] } } : Shared).TypeIs (.ref (s.heap.objs.size + 4)) "zip" from ⟨_, up a1, rfl⟩) ?_)
 rw [if_pos (by decide)]
 refine wpAny_bind (gB (s := { s with heap := g0.push { cls := .type "dict", data := .dict #[] } }) (up a1) hh fun g1 tk1 k1 => ?_)
 simp only [Option.isNone_none, if_true]
 refine wpAny_bind (wpAny_rule (wpAny_bind (wpAny_pyIter_zip (k1 _ _ (up a1)) ?_)))
 refine wpAny_pure ⟨plainId_quiet KJ _, ?_⟩
 have st1 : IsTupIter g1 s.heap.objs.size t 0 ∧ IsTup g1 t xs := ⟨⟨_, k1 _ _ (up a4), rfl, rfl⟩, let ⟨o, e, r⟩ := h1; ⟨o, k1 _ _ (up (a7 _ _ e)), r⟩⟩
 have st2 : g1.IsListIter (s.heap.objs.size + 1) l 0 ∧ g1.IsList l ys := ⟨⟨_, k1 _ _ (up a5), rfl, rfl⟩, let ⟨o, e, r⟩ := h2; ⟨o, k1 _ _ (up (a7 _ _ e)), r⟩⟩
 have hd1 : g1.DictOf (BT P w) (s.heap.objs.size + 5) [] := let ⟨o, es, ep, e, r⟩ := hnew; ⟨o, es, ep, k1 _ _ e, r⟩
 refine jY D W1 W2 (kI 5 4 (by decide)) (kI 5 3 (by decide)) (ne_0 5 (by decide)) (kI 5 1 (by decide)) (MU lt) (MU ll) (kI 2 5 (by decide)) hks small (A := A.in1) hh (min xs.size ys.size) 0 0 { s with heap := g1, toks := tk1 } rfl (Nat.zero_le _) ⟨k1 _ _ (up a2), .inl ⟨k1 _ _ (up a1), _, _, k1 _ _ (up a3)⟩⟩ st1 st2 hd1 fun g tk hd kg => ⟨rfl, h g tk ?_ fun c o e => ?_⟩
 ·have lv : ys.toList.length = ys.size := by simp
  rw [PU nd _ (by rw [hl, lv]; omega), List.take_of_length_le (by rw [List.length_zip, hl, lv]; omega)] at hd
  exact hd
 ·have lc := Heap.lt_size e
  exact kg c o (MU lc) (MU lc) (Nat.ne_of_lt lc) (MU lc) (MU lc) (k1 _ _ (up (a7 _ _ e)))
end
section
variable {X : Cx} {e f : Expr} {ta : TA} {p p' pos pos' : Pos}
def tDZ (K : PySem.W.Frag) (ta : TA) : TE := fun σ H Q => ta σ H fun vs H1 => o2 vs fun x y => DX x fun a => DX y fun b => ∃ (ks : List Key) (ys : List V), SqT K H1 a (ks.map kV) ∧ SqL K H1 b ys ∧ ks.Nodup ∧ ks.length ≤ 1000 ∧ ∀ q, H1 q = none → Q (.ref q) (upd H1 q (.dK (ks.zip ys)))
theorem dJ {P : Program} {w : World} : ∀ (k : Key) (v : Value), AY (kV k) v → (BT P w).is k v = true
 | .inl i, v, h => by obtain ⟨t, rfl⟩ := h; exact LX P w i t
 | .inr x, v, h => by obtain ⟨t, rfl⟩ := h; exact MC P w x t
theorem WF (hc : X.calm = true) (hgl : Gl X "dict") (hml : X.mg "dict" = none) (hgz : Gl X "zip") (hmz : X.mg "zip" = none) (ha : PA X [e, f] ta)
  (he : starEach [.Call (.Name "zip" p') [e, f] [] pos'] X.env = [(false, eval (.Call (.Name "zip" p') [e, f] [] pos') X.env)] := by rfl)
  (hs : starEach [e, f] X.env = [(false, eval e X.env), (false, eval f X.env)] := by rfl) (hs2 : starEach [f] X.env = [(false, eval f X.env)] := by rfl) :
  PE X (.Call (.Name "dict" p) [.Call (.Name "zip" p') [e, f] [] pos'] [] pos) (tDZ X.K ta) := by
 intro pins s σ H Q I h
 refine wpAny_Call_Name_kw (IM I hgl hml rfl ?_ (by decide) (by decide))
 refine PyProof.Rows.callWith_type1 ?_ he rfl
 rw [he]
 refine Calls.spliced_cons ?_
 refine Call_ (IM I hgz hmz rfl (PyProof.Rows.callWith_type1 (thn (ha pos' pins s σ H _ I h) fun us s1 ⟨vs, H1, I1, r1, q1⟩ => ?_) (by rw [hs, hs2]) (by rw [hs2]; rfl)))
 obtain ⟨x, y, rfl, q1⟩ := o2.ex q1
 obtain ⟨a, rfl, q1⟩ := DX.ex q1
 obtain ⟨b, rfl, ks, ys, hx, hy, nd, sm, q⟩ := DX.ex q1
 cases r1 with
 | cons r rr =>
  cases rr with
  | cons r' rr =>
   cases rr
   cases r
   cases r'
   obtain ⟨its, rv, ph, _⟩ := I1.tuple hx
   obtain ⟨its', rv', ph', hz'⟩ := I1.list hy
   have hl : ks.length = its.toArray.size := by rw [List.size_toArray, ← rv.length, List.length_map]
   refine SV ph ph'.isList (Calls.spliced_nil ?_)
   refine OZ (ks := ks) (I1.ok.hd hc) ph ph'.isList hl nd (by omega) (fun i v e => ?_) fun g tk hd kg => ?_
   ·have e : its[i]? = some v := by simpa using e
    obtain ⟨u, e2, r⟩ := AO.get' rv e
    rw [List.getElem?_map] at e2
    cases e3 : ks[i]? with
    | none => rw [e3] at e2; cases e2
    | some k =>
     rw [e3] at e2
     cases e2
     exact ⟨k, rfl, dJ k v r⟩
   ·have hp : s1.heap.objs.size ≤ s1.heap.objs.size + 5 := Nat.le_add_right _ _
    refine ⟨.ref _, _, I1.laid (t' := tk) (o := .dK (ks.zip ys)) kg hp ⟨?_, beq_eq_false_iff_ne.mpr (Ne.symm (Nat.ne_of_lt (Nat.lt_of_lt_of_le I1.big hp))), _, gL rv', ?_⟩, rfl, q _ (I1.hok.fresh hp)⟩
    ·rw [List.length_zip]; exact Nat.le_trans (Nat.min_le_left _ _) (Nat.le_trans sm (by decide))
    ·simpa using hd
end
section
variable {X : Cx} {e : Expr} {te : TE} {p pos : Pos}
def OE (te : TE) : TE := fun σ H Q => te σ H fun x H1 => DX x fun a => ∃ kvs, Rd H1 a (.dK kvs) ∧ ∀ q, H1 q = none → Q (.ref q) (upd H1 q (.dK kvs))
theorem UW (hgl : Gl X "dict") (hml : X.mg "dict" = none) (ha : PE X e te) (he : starEach [e] X.env = [(false, eval e X.env)] := by rfl) : PE X (.Call (.Name "dict" p) [e] [] pos) (OE te) := by
 intro pins s σ H Q I h
 refine wpAny_Call_Name_kw (IM I hgl hml rfl ?_ (by decide) (by decide))
 refine PyProof.Rows.callWith_type1 ?_ he rfl
 rw [he]
 refine Calls.spliced_cons (thn (ha pins s σ H _ I h) fun u s1 ⟨x, H1, I1, r1, q1⟩ => Calls.spliced_nil ?_)
 obtain ⟨a, rfl, kvs, hq, q⟩ := DX.ex q1
 cases r1
 obtain ⟨z, sm, vs, rel, dd⟩ := UF I1.hok hq
 refine kt_call_dict sm dd (by rw [← Paired.length rel]; exact z) fun h' hd' sb => ?_
 refine ⟨.ref _, _, I1.laid (t' := s1.toks) (o := .dK kvs) (fun b o e => by rw [sb.2 b (Nat.ne_of_lt (Heap.lt_size e))]; exact Heap.get?_push_of_some _ e) (Nat.le_refl _) ⟨z, beq_eq_false_iff_ne.mpr (Ne.symm (Nat.ne_of_lt I1.big)), vs, rel, hd'⟩, rfl, q _ (I1.hok.fresh (Nat.le_refl _))⟩
end
theorem gM {kvs : List (Key × V)} {k : Key} {v : V} (h : kvs.length < sizeLine) : (ES kvs k v).length ≤ sizeLine := by
 unfold ES
 split
 ·rw [List.length_map]; exact Nat.le_of_lt h
 ·rw [List.length_append]; exact h
def XG (js : List Nat) (os : List Str) (wi : TI) (g : TG) (tk tv : TE) : TE := fun σ H Q => wi σ H fun J H1 => ∀ p, H1 p = none →
 ∃ W : Nat → Nat → St → Hp → Prop, (∃ m, W 0 m (stC js os σ) (upd H1 p (.dK []))) ∧ ∀ i m σ H, W i m σ H →
  (J.stop i H ∧ Q (.ref p) H) ∨ (J.go i H ∧ ∀ x H', J.yld i H x H' → g x σ H' fun σ2 H2 => tk σ2 H2 fun y H3 => tv σ2 H3 fun z H4 =>
   ∃ (kvs : List (Key × V)) (k : Key), y = kV k ∧ H4 p = some (.dK kvs) ∧ kvs.length < sizeLine ∧ ∃ m', m' < m ∧ W (i + 1) m' σ2 (upd H4 p (.dK (ES kvs k z))))
section
variable {X : Cx}
theorem aZ {kx vx iter tg : Expr} {scope sc : Scope} {pos : Pos} {wi : TI} {g : TG} {tk tv : TE} {N0 N os : List Str} {js : List Nat}
  (hc : X.calm = true) (hsc : X.env.scope = sc) (hN : X.N = N0) (ok : RI scope sc N0 js os N) (hi : PI X tg iter wi)
  (hg : ∀ s₃ H₃ fp cl, PG (cxC X scope cl N s₃ H₃ fp) tg g) (hk : ∀ s₃ H₃ fp cl, PE (cxC X scope cl N s₃ H₃ fp) kx tk) (hv : ∀ s₃ H₃ fp cl, PE (cxC X scope cl N s₃ H₃ fp) vx tv)
  (hs : ∀ x, foldedSetIterable iter X.env x = pure x := by intro _; rfl) :
  PE X (.DictComp kx vx [⟨tg, iter, [], 0⟩] scope pos) (XG js os wi g tk tv) := by
 intro pins s σ H Q I h
 rw [arm_eval_DictComp]
 have hfree : ∀ y ∈ scope.names, y.2 = .free → ∃ c, X.env.cells.lookup y.1 = some c := fun y hy e => I.ok.has _ (by
  have := ok.free y hy e
  rw [← hsc] at this
  exact this)
 refine wpAny_comprehension_free (use := none) rfl hs (RW hfree) ok.kind ok.names (thn (hi pins s σ H _ I h) fun v s1 h1 => thn h1 fun itv s2 h2 => ?_)
 obtain ⟨it, fp, tn, J, H1, e, I2, T, st2, f2, hW⟩ := h2
 subst e
 refine wpAny_newObj_type (wpAny_newFunctionEnv ok.cell (by intro y hy; simp at hy) (fun h₁ hns₁ hsb₁ => ?_) ok.kind)
 dsimp only at hns₁ hsb₁ ⊢
 have hfr : H1 s2.heap.objs.size = none := I2.fresh
 have I3 := I2.laid (a := s2.heap.objs.size) (o := .dK []) (t' := s2.toks) (fun _ _ q => Heap.get?_push_of_some _ q) (Nat.le_refl _) (SI s2.heap I2.big)
 generalize hs3 : ({ s2 with heap := s2.heap.push { cls := .type "dict", data := .dict #[] }, toks := s2.toks } : Shared) = s₃ at I3
 have eh : s2.heap.push { cls := .type "dict", dict := none, data := .dict #[] } = s₃.heap := by rw [← hs3]
 rw [eh] at hns₁ hsb₁ ⊢
 have k23 : ∀ b o, s2.heap.get? b = some o → s₃.heap.get? b = some o := fun b o q => by rw [← eh]; exact Heap.get?_push_of_some _ q
 have lt2 : ∀ b ∈ fp, b < s2.heap.objs.size := fun b hb => by
  obtain ⟨o, q, _⟩ := T.obj _ _ st2 b hb
  exact Heap.lt_size q
 have sz3 : s2.heap.objs.size ≤ s₃.heap.objs.size := by rw [← eh, Heap.size_push]; exact Nat.le_succ _
 have f3 : ∀ b ∈ fp, LL X pins (upd H1 s2.heap.objs.size (.dK [])) b := fun b hb => ⟨by rw [AH (Nat.ne_of_lt (lt2 b hb))]; exact (f2 b hb).1, (f2 b hb).2⟩
 have k34 : ∀ b o, s₃.heap.get? b = some o → h₁.get? b = some o := fun b o q => hsb₁.extBut b o (Nat.ne_of_lt (Heap.lt_size q)) (Heap.get?_push_of_some _ q)
 have I4 := OP (t' := s₃.toks) hc hsc hN ok I3 f3 (fun b hb => Nat.lt_of_lt_of_le (lt2 b hb) sz3) hns₁ k34
 generalize hX' : cxC X scope (EV X.env.cells scope.names []) N s₃ (upd H1 s2.heap.objs.size (.dK [])) fp = X' at I4
 obtain ⟨W, ⟨m0, w0⟩, turn⟩ := hW _ hfr
 have st4 : tn 0 h₁ := T.keep _ _ _ st2 fun b hb o q => k34 b o (k23 b o q)
 have stat : ∀ {H' : Hp}, (∀ b ∈ fp, H' b = none) → ∀ b ∈ fp, LL X' [] H' b := fun {H'} hn b hb => by
  subst hX'
  refine ⟨hn b hb, Nat.ne_of_lt (Nat.lt_of_lt_of_le (lt2 b hb) sz3), fun z => ?_, .inl hb, fun x c e => ?_, fun p hp => by cases hp⟩
  ·rcases List.mem_cons.mp (I2.stkSub b z) with q | q
   ·exact (f2 b hb).2.1 q
   ·exact (f2 b hb).2.2.1 q
  ·exact (f2 b hb).2.2.2.2.1 x c (GN (cells := X.env.cells) scope.names [] hfree (fun _ _ e => by cases e) _ _ e)
 have ePr : X'.prog = X.prog := by subst hX'; rfl
 have eW : X'.w = X.w := by subst hX'; rfl
 have eK : X'.K = X.K := by subst hX'; rfl
 have eA : X'.A = X.A := by subst hX'; rfl
 have eE : X'.env = compEnvC scope (EV X.env.cells scope.names []) s₃.heap.objs.size X.env := by subst hX'; rfl
 have eC : X'.calm = true := by subst hX'; rfl
 have eX : X'.xe = fun _ _ => False := by subst hX'; rfl
 have hg' : PG X' tg g := by subst hX'; exact hg _ _ _ _
 have hk' : PE X' kx tk := by subst hX'; exact hk _ _ _ _
 have hv' : PE X' vx tv := by subst hX'; exact hv _ _ _ _
 have fin : ∀ {σ' : St} {H' : Hp} {s' : Shared}, Inv X' [] σ' H' s' → (∀ b ∈ fp, H' b = none) → Q (.ref s2.heap.objs.size) H' → compPost (model X.prog X.w) X.A X.xe none (EP X pins σ Q) (.ref s2.heap.objs.size) s₃.heap.objs.size (.ok .next) s' := by
  intro σ' H' s' I' hn q
  obtain ⟨m, hm, _⟩ := id I'.loc
  subst hX'
  refine ⟨m, hm, fun h'' sb => ⟨.ref s2.heap.objs.size, H', ?_, rfl, q⟩⟩
  have fC : H' s₃.heap.objs.size = none := I'.free
  have hok' : HOk X.prog X.w H' h'' := fun b ob e => by
   refine (I'.hok b ob e).stay (fun c w' hc' q' => (sb.2 c ?_).trans q') (fun _ q' => q') fun _ _ q' => q'
   rintro rfl
   rcases hc' with z | z
   ·have e' := e; rw [← z] at e'; rw [fC] at e'; cases e'
   ·rw [fC] at z; cases z
  have u1 : Un (frs X.stack) fp (upd H1 s2.heap.objs.size (.dK [])) H' s₃.heap h'' := by
   have b0 := I'.base
   have ne : ∀ b o, s₃.heap.get? b = some o → b ≠ s₃.heap.objs.size := fun b o e => Nat.ne_of_lt (Heap.lt_size e)
   exact ⟨fun b o e n hb hx => (sb.2 b (ne b o e)).trans (b0.keep b o e n hb hx), fun b o e n hb hx => by
     obtain ⟨sl, z⟩ := b0.slot b o e n hb hx
     exact ⟨sl, (sb.2 b (ne b o e)).trans z⟩, b0.free, fun b o e hx => by
     obtain ⟨o', z⟩ := b0.there b o e hx
     exact ⟨o', (sb.2 b (ne b o e)).trans z⟩, b0.tups, b0.frzs, b0.tbls⟩
  exact I3.call' (s' := { s' with heap := h'' }) (ch := fp) I'.os u1 hok' I'.bare fun b hb => ⟨(f2 b hb).2.2.2.1, (f2 b hb).2.1, (f2 b hb).2.2.2.2.1, (f2 b hb).2.2.2.2.2⟩
 have loop : codeAny (model X.prog X.w) X.A (.compLoop (.DictComp kx vx [⟨tg, iter, [], 0⟩] scope pos) 0 (.ref it) (.ref s2.heap.objs.size) (compEnvC scope (EV X.env.cells scope.names []) s₃.heap.objs.size X.env))
   (compPost (model X.prog X.w) X.A X.xe none (EP X pins σ Q) (.ref s2.heap.objs.size) s₃.heap.objs.size) { s₃ with heap := h₁, toks := s₃.toks } := by
  refine WJ (fun n s' => ∃ i σ' H', Inv X' [] σ' H' s' ∧ tn i s'.heap ∧ (∀ b ∈ fp, H' b = none) ∧ W i n σ' H') ?_ m0 ⟨0, _, _, I4, st4, fun b hb => (f3 b hb).1, w0⟩
  rintro n s5 ⟨i, σ5, H5, I5, st5, fr5, w5⟩
  rw [← ePr, ← eW, ← eA, ← eE]
  rcases turn i n σ5 H5 w5 with ⟨stop, qn⟩ | ⟨go, step⟩
  ·have := T.done X' ePr eW eK eC i [] s5 σ5 H5 X'.xe I5 (stat fr5) st5 stop
   rw [eX] at this
   rw [← ePr, ← eW] at this
   refine thn this fun r s6 ⟨hr, I6⟩ => ?_
   subst hr
   dsimp only
   rw [ePr, eW, eA]
   exact fin I6 fr5 qn
  ·have := T.item X' ePr eW eK eC i [] s5 σ5 H5 X'.xe I5 (stat fr5) st5 go
   rw [eX] at this
   rw [← ePr, ← eW] at this
   refine thn this fun r s6 ⟨u, hr, h6⟩ => ?_
   subst hr
   dsimp only
   refine thn h6 fun _ s7 ⟨x, H7, I7, r7, y7, st7, fr7⟩ => ?_
   have I7' := I7.pinned (stat fr7) (T.obj _ _ st7)
   have g7 := hg' _ s7 σ5 H7 x u _ I7' r7 (step x H7 y7)
   rw [eX] at g7
   refine thn g7 fun _ s8 ⟨σ8, H8, I8, q8⟩ => ?_
   have again : ∀ {σ9 : St} {H9 : Hp} {s9 : Shared}, Inv X' ([] ++ JV fp s7.heap) σ9 H9 s9 → tn (i + 1) s9.heap ∧ ∀ b ∈ fp, H9 b = none := fun {σ9 H9 s9} I9 => by
    refine ⟨T.keep _ _ _ st7 fun b hb o e => (I9.pin (b, o) (List.mem_append_right _ (List.mem_append_right _ (DU hb e)))).1, fun b hb => ?_⟩
    obtain ⟨o, e, d⟩ := T.obj _ _ st7 b hb
    exact (I9.pin (b, o) (List.mem_append_right _ (List.mem_append_right _ (DU hb e)))).2.1
   have k8 := hk' _ s8 σ8 H8 _ I8 q8
   rw [eX] at k8
   refine thn k8 fun y s9 ⟨y9, H9, I9, r9, q9⟩ => ?_
   have v9 := hv' _ s9 σ8 H9 _ I9 q9
   rw [eX] at v9
   refine thn v9 fun z s10 ⟨z10, H10, I10, r10, q10⟩ => ?_
   obtain ⟨kvs, k, ey, hp, hlen, m', hm, w11⟩ := q10
   subst ey
   obtain ⟨hl, hsm', vs, rel, dd⟩ := kO I10.hok hp
   refine wpAny_dictSet_pairs (hsz := by rw [← Paired.length rel]; exact hl) (dJ k y r9) dd fun h' dd' hss => ?_
   have he : ∃ q, h'.get? s2.heap.objs.size = some q := let ⟨q, _, _, hq, _⟩ := dd'; ⟨q, hq⟩
   have I11 := RS (ob := .dK (ES kvs k z10)) (t' := s10.toks + 1) I10 (by rw [hp]; exact True.intro) hss he ⟨gM hlen, hsm', _, rel.put k r10, dd'⟩
   exact ⟨m', hm, i + 1, σ8, _, I11.unpinned, (again I11).1, (again I11).2, w11⟩
 have es : ({ s2 with heap := h₁, toks := s2.toks + ([] : List (Str × Value)).length } : Shared) = { s₃ with heap := h₁, toks := s₃.toks } := by rw [← hs3]; rfl
 rw [show ({ s2 with heap := h₁, toks := s2.toks + ([] : List (Str × Value)).length } : Shared) = { s₃ with heap := h₁, toks := s₃.toks } from es]
 exact codeAny_compStart_dict loop (T.self _ 0 _ _ _ st4 loop)
end
def DKW (J : It) (g : TG) (tk tv : TE) (p : Addr) (Q : VK) (σ : St) (H1 : Hp) : Prop := ∃ W : Nat → Nat → St → Hp → Prop, (∃ m, W 0 m σ H1) ∧ ∀ i m σ H, W i m σ H →
  (J.stop i H ∧ Q (.ref p) H) ∨ (J.go i H ∧ ∀ x H', J.yld i H x H' → g x σ H' fun σ2 H2 => tk σ2 H2 fun y H3 => tv σ2 H3 fun z H4 =>
   ∃ (kvs : List (Key × V)) (k : Key), y = kV k ∧ H4 p = some (.dK kvs) ∧ kvs.length < sizeLine ∧ ∃ m', m' < m ∧ W (i + 1) m' σ2 (upd H4 p (.dK (ES kvs k z))))
theorem HB (js : List Nat) (os : List Str) (wi : TI) (g : TG) (tk tv : TE) (σ : St) (H : Hp) (Q : VK) : XG js os wi g tk tv σ H Q = wi σ H fun J H1 => ∀ p, H1 p = none → DKW J g tk tv p Q (stC js os σ) (upd H1 p (.dK [])) := rfl
theorem iI {K : PySem.W.Frag} {a : Addr} {xs : List V} {g : TG} {tk tv : TE} {p : Addr} {Q : VK} {σ : St} {H : Hp} (Pv : Nat → St → Hp → Prop) (h0 : Pv 0 σ H) (hl : ∀ i σ H, i ≤ xs.length → Pv i σ H → SqT K H a xs)
  (hs : ∀ i x σ H, xs[i]? = some x → Pv i σ H → g x σ H fun σ2 H2 => tk σ2 H2 fun y H3 => tv σ2 H3 fun z H4 => ∃ (kvs : List (Key × V)) (k : Key), y = kV k ∧ H4 p = some (.dK kvs) ∧ kvs.length < sizeLine ∧ Nx xs.length i (Pv (i + 1) σ2 (upd H4 p (.dK (ES kvs k z)))))
  (hd : ∀ σ H, Pv xs.length σ H → Q (.ref p) H) : DKW (Itt K a) g tk tv p Q σ H := by
 refine ⟨fun i m σ H => m = xs.length - i ∧ i ≤ xs.length ∧ Pv i σ H, ⟨xs.length, by simp, Nat.zero_le _, h0⟩, ?_⟩
 rintro i m σ H ⟨rfl, hi, q⟩
 have w := hl i σ H hi q
 by_cases hlt : i < xs.length
 ·refine .inr ⟨⟨xs, xs[i], w, by simp [hlt]⟩, fun x H' y => ?_⟩
  obtain ⟨e, y⟩ := y
  subst e
  exact hs i x σ _ (y xs w) q
 ·have e : i = xs.length := by omega
  subst e
  exact .inl ⟨⟨xs, w, Nat.le_refl _⟩, hd σ H q⟩
def UB (td ty : TE) : TE := fun σ H Q => td σ H fun x H1 => ty σ H1 fun y H2 => DX x fun a => ∃ kvs k v, Rd H2 a (.dK kvs) ∧ y = kV k ∧ GM kvs k = some v ∧ Q v H2
def TK (td ty tv : TE) : TS := fun D σ H => tv σ H fun v H1 => td σ H1 fun x H2 => ty σ H2 fun y H3 => DX x fun a => ∃ kvs k, H3 a = some (.dK kvs) ∧ y = kV k ∧ kvs.length < sizeLine ∧ D.nx σ (upd H3 a (.dK (ES kvs k v)))
def fJ (neg : Bool) : R2 := fun y x H Q => DX x fun a => ∃ kvs k, Rd H a (.dK kvs) ∧ y = kV k ∧ Q (.bl (if neg then !(GM kvs k).isSome else (GM kvs k).isSome)) H
section
variable {X : Cx} {o i e value : Expr} {pos pos' : Pos} {td ty tv : TE}
theorem MM (hu : X.A.units + 1 < cLine) (ho : PE X o td) (hi : PE X i ty) (hs : oH i) : PE X (.Subscript o i pos) (UB td ty) := by
 intro pins s σ H Q I h
 refine hX PySem.F.slot_dict_getitem.lookup hs (thn (ho pins s σ H _ I h) fun u s1 ⟨x, H1, I1, rx, q1⟩ => thn (hi pins s1 σ H1 _ I1 q1) fun iv s2 ⟨y, H2, I2, ry, q2⟩ => ?_)
 obtain ⟨a, rfl, kvs, k, v, hr, rfl, hv, q2⟩ := DX.ex q2
 obtain rfl : u = Value.ref a := rx
 have g : jU H2 a (kV k) (some v) := .inl ⟨kvs, k, hr, rfl, hv.symm⟩
 exact ⟨UA I2 g, aK hu I2 g ry fun w' s3 I3 rw' => ⟨v, H2, I3, rw', q2⟩⟩
theorem XY (hu : X.A.units + 1 < cLine) (ho : PE X o td) (hi : PE X i ty) (hv : PE X value tv) (hs : swapsWith value (some (.Subscript o i pos')) pos.line X.env = pure false := by rfl) : PS X (.Assign [.Subscript o i pos'] value pos) (TK td ty tv) := by
 intro pins s σ H D I h
 refine wpAny_Assign_Subscript (thn (hv pins s σ H _ I h) fun r s1 ⟨v, H1, I1, rv, q1⟩ => thn (ho pins s1 σ H1 _ I1 q1) fun u s2 ⟨x, H2, I2, rx, q2⟩ => thn (hi pins s2 σ H2 _ I2 q2) fun iv s3 ⟨y, H3, I3, ry, q3⟩ => ?_) hs
 obtain ⟨a, rfl, kvs, k, hr, rfl, hl, q3⟩ := DX.ex q3
 obtain rfl : u = Value.ref a := rx
 exact ZO hu I3 (jF.k hr hl) ry rv fun s4 I4 => ⟨σ, _, I4, q3⟩
theorem aJ (hu : X.A.units + 1 < cLine) : OpR X (compareOp .NotIn) (fJ true) := by
 intro pins s σ H y x iv u Q I ry rx h
 obtain ⟨a, rfl, kvs, k, hr, rfl, q⟩ := DX.ex h
 obtain rfl : u = Value.ref a := rx
 exact jM hu I (.inl ⟨kvs, k, hr, rfl, rfl⟩) ry fun s3 I3 => ⟨.bl (!(GM kvs k).isSome), H, I3, rfl, q⟩
end
theorem jC : entryFor table "BaseException.__getattribute__" = some Builtin.«object.__getattribute__» := entryFor_alias (id' := "object.__getattribute__") (by kernel_rfl) (by decide +kernel) (by decide +kernel) (by kernel_rfl)
theorem VR : plainId "BaseException.__getattribute__" = true := by decide +kernel
theorem ZU : builtinKind "BaseException.__getattribute__" = some .slot := by kernel_rfl
theorem WN : splitId "BaseException.__getattribute__" = some ("BaseException", "__getattribute__") := by kernel_rfl
theorem aU (v u : Value) : argsOk "BaseException.__getattribute__" ⟨[v, u], []⟩ := by kernel_rfl
theorem YR (v : Value) : bindSpecial (.builtin "BaseException.__getattribute__") v = pure (.builtin "BaseException.__getattribute__", [v]) := by
 have e : typeOf (.builtin "BaseException.__getattribute__") = pure (.type "wrapper_descriptor") := by kernel_rfl
 unfold bindSpecial
 rw [e, pure_bind]
 rfl
theorem iX : builtinKind "getset_descriptor.__get__" = some .slot := by kernel_rfl
theorem bQ : splitId "getset_descriptor.__get__" = some ("getset_descriptor", "__get__") := by kernel_rfl
theorem iK (v u z : Value) : argsOk "getset_descriptor.__get__" ⟨[v, u, z], []⟩ := by kernel_rfl
theorem cE : plainId "getset_descriptor.__get__" = true := by decide +kernel
theorem UH : plainId "object.__class__" = true := by decide +kernel
theorem fD : entryFor table "object.__class__" = some Builtin.«object.__class__» := entryFor_of_tree (by kernel_rfl)
theorem jE : typeOf (.builtin "object.__class__") = pure (.type "getset_descriptor") := by kernel_rfl
theorem lK : isSubtype (.type "getset_descriptor") (.type "getset_descriptor") = pure true := by kernel_rfl
theorem YW {prog : Program} {w : World} {A : Around} {E : Value → Shared → Prop} {Q : Option Value → Shared → Prop} {s : Shared} {K : PySem.W.Frag} {HE C x : Addr} {ox : Obj} (qC : CP K HE C = true) (k : K.In s.heap) (hx : s.heap.get? x = some ox) (hcls : ox.cls = .ref C)
  (f1 : PySem.W.findIn K (.ref C) "__getattribute__" = some (some (.builtin "BaseException.__getattribute__"))) (f2 : PySem.W.findIn K (.ref C) "__getattr__" = some none) (f3 : PySem.W.findIn K (.ref C) "__class__" = some (some (.builtin "object.__class__")))
  (f4 : PySem.W.specialIn K (.builtin "object.__class__") "__get__" = some (some (.builtin "getset_descriptor.__get__"))) (f5 : PySem.W.takesIn K (.builtin "object.__class__") = some true) (f6 : PySem.W.mroIn K C (.type "object") = some true)
  (h : Q (some (.ref C)) { s with toks := s.toks + 1 }) : wpAny (model prog w) A (getAttr? (.ref x) "__class__") Q E s := by
 obtain ⟨hp, g, d, t, os⟩ := s
 obtain ⟨nm, q, N, bs, hdct, sn, sub, ab, col, dd, k0, k1, k2, k3, k5, _, hC, _, _, _⟩ := CP.obj qC k
 unfold getAttr? getAttrBy? getAttrBy
 repeat (any_goals (first | assumption | (with_reducible refine wpAny_loadPart_at hx ?_; rw [hcls]) | (with_reducible refine (PySem.W.looks_findIn k f1) _ _ _ _ (fun _ _ e => e) ?_) | wp_step))
 refine PySem.W.looks_findIn (h := hp) k f1 _ _ _ _ (fun _ _ e => e) ?_
 show wpAny _ _ (if (onTheHeap (Value.ref C) && Value.builtin "BaseException.__getattribute__" == Value.builtin "object.__getattribute__") = true then _ else getAttrByItsOwn _ _ _ _ _ _) _ _ _
 rw [if_neg (by simp)]
 unfold getAttrByItsOwn hookBefore
 rw [if_pos (by rfl)]
 refine wpAny_bind (PySem.W.looks_findIn (h := hp) k f2 _ _ _ _ (fun _ _ e => e) ?_)
 unfold callGetattribute
 repeat (any_goals (first | assumption | wp_step))
 rw [YR]
 refine wpAny_pure ?_
 show wpAny _ _ (call (Value.builtin "BaseException.__getattribute__") [Value.ref x, Value.str (Str.ofString "__class__") t]) _ _ _
 refine wpAny_call (codeAny_call_builtin VR jC ?_)
 unfold checkBuiltinCall
 rw [ZU, WN]
 dsimp only
 unfold isInstance
 have hB : (Value.ref C :: .ref HE :: veB).contains (.type "BaseException") = true := by rw [List.contains_cons, List.contains_cons]; rfl
 refine wpAny_bind (wpAny_bind ?_)
 repeat (any_goals (first | (with_reducible refine wpAny_loadPart_at hx ?_; rw [hcls]) | wp_step))
 refine wpAny_isSubtype_exc hC ?_
 rw [hB]
 simp only [Bool.not_true, Bool.false_eq_true, if_false]
 refine wpAny_of_eq (a := ()) (aU _ _) ?_
 unfold Builtin.«object.__getattribute__»
 repeat (any_goals (first | (with_reducible refine wpAny_loadPart_at hx ?_; rw [hcls]) | wp_step))
 refine PySem.W.looks_findIn (h := hp) k f3 _ _ _ _ (fun _ _ e => e) ?_
 show wpAny _ _ (Builtin.ObjectAttr.getOf (some (Value.builtin "object.__class__")) >>= _) _ _ _
 unfold Builtin.ObjectAttr.getOf
 refine wpAny_bind (PySem.W.looks_specialIn (h := hp) k f4 _ _ _ _ (fun _ _ e => e) ?_)
 show wpAny _ _ (Builtin.ObjectAttr.dataDescriptor? (some (Value.builtin "object.__class__")) (some (Value.builtin "getset_descriptor.__get__")) >>= _) _ _ _
 unfold Builtin.ObjectAttr.dataDescriptor?
 refine wpAny_bind (wpAny_bind (PySem.W.looks_takesIn (h := hp) k f5 _ _ _ _ (fun _ _ e => e) ?_))
 rw [if_pos rfl]
 refine wpAny_pure (wpAny_bind (wpAny_rule (wpAny_pure ?_)))
 show wpAny _ _ (Builtin.ObjectAttr.bindTo (Value.builtin "getset_descriptor.__get__") (Value.builtin "object.__class__") (Value.ref x) (Value.ref C)) _ _ _
 show wpAny _ _ (holding [Value.builtin "object.__class__"] (call (Value.builtin "getset_descriptor.__get__") [Value.builtin "object.__class__", Value.ref x, Value.ref C]) >>= _) _ _ _
 refine wpAny_bind (wpAny_holding (wpAny_call (codeAny_call_builtin cE PySem.F.entry_gs_get ?_)))
 unfold checkBuiltinCall
 rw [iX, bQ]
 dsimp only
 unfold isInstance
 rw [jE, pure_bind, lK, pure_bind]
 simp only [Bool.not_true, Bool.false_eq_true, if_false]
 refine wpAny_of_eq (a := ()) (iK _ _ _) ?_
 unfold Builtin.«getset_descriptor.__get__» Builtin.Getset_descriptor.descrGet Builtin.Getset_descriptor.descrGetArgs Builtin.Getset_descriptor.descrGetter
 repeat (any_goals (first | (with_reducible refine wpAny_loadPart_at hx ?_; rw [hcls]) | wp_step))
 have eo : (".".intercalate ("object.__class__".cutAt '.').dropLast) = "object" := by kernel_rfl
 rw [eo]
 refine PySem.W.looks_mroIn (h := hp) k f6 _ _ _ _ (fun _ _ e => e) ?_
 simp only [Bool.not_true, Bool.false_eq_true, if_false]
 refine wpAny_pure ?_
 show wpAny _ _ (again (Code.builtin "object.__class__" { pos := [Value.ref x] })) _ _ _
 refine wpAny_pure ⟨plainId_quiet UH _, codeAny_builtin fD ?_⟩
 rw [Around.under_plainId UH _]
 unfold Builtin.«object.__class__»
 repeat (any_goals (first | (with_reducible refine wpAny_loadPart_at hx ?_; rw [hcls]) | wp_step))
 exact h
def fB (K : PySem.W.Frag) (HE C : Addr) : Bool := CP K HE C && (PySem.W.findIn K (.ref C) "__getattribute__" == some (some (.builtin "BaseException.__getattribute__"))) && (PySem.W.findIn K (.ref C) "__getattr__" == some none) && (PySem.W.findIn K (.ref C) "__class__" == some (some (.builtin "object.__class__")))
 && (PySem.W.specialIn K (.builtin "object.__class__") "__get__" == some (some (.builtin "getset_descriptor.__get__"))) && (PySem.W.takesIn K (.builtin "object.__class__") == some true) && (PySem.W.mroIn K C (.type "object") == some true)
theorem MS {K : PySem.W.Frag} {HE C x : Addr} (q : fB K HE C = true) : PySem.W.KitX K (.ref x) (.ref C) fun h => ∃ ox, h.get? x = some ox ∧ ox.cls = .ref C := by
 unfold fB at q
 simp only [Bool.and_eq_true, beq_iff_eq] at q
 obtain ⟨⟨⟨⟨⟨⟨q0, q1⟩, q2⟩, q3⟩, q4⟩, q5⟩, q6⟩ := q
 refine ⟨fun M h k hx => ?_, fun M h k hx => ?_, fun h tp dd its n sl k e => ?_, fun {prog w A E Q s} k hx hq => ?_⟩
 ·obtain ⟨ox, hx, hc⟩ := hx
  intro A Q E s keep hq
  unfold typeOf
  obtain ⟨hp, g, d, t, os⟩ := s
  have hx' : hp.get? x = some ox := keep _ _ hx
  repeat (any_goals (first | (with_reducible refine wpAny_loadPart_at hx' ?_; rw [hc]) | wp_step))
  exact hq
 ·obtain ⟨nm, q, N, bs, hdct, sn, sub, ab, col, dd, k0, k1, k2, k3, k5, _, hC, _, _, _⟩ := CP.obj q0 k
  intro A Q E s keep hq
  obtain ⟨hp, g, d, t, os⟩ := s
  have hC' := keep _ _ hC
  unfold isType
  repeat (any_goals (first | (with_reducible refine wpAny_loadPart_at hC' ?_) | wp_step))
  exact hq
 ·obtain ⟨nm, q, N, bs, hdct, sn, sub, ab, col, dd, k0, k1, k2, k3, k5, _, hC, _, _, _⟩ := CP.obj q0 k
  have ne : C ≠ tp := by
   rintro rfl
   rw [e] at hC
   have z : Value.type "tuple" = Value.type "type" := congrArg Obj.cls (Option.some.inj hC)
   exact absurd z (by decide)
  simpa using ne
 ·obtain ⟨ox, hx, hc⟩ := hx
  exact YW q0 k hx hc q1 q2 q3 q4 q5 q6 hq
def OW (K : PySem.W.Frag) (HE : Addr) : Bool := PySem.W.ktsIn K HE "BaseException" && match K.lookup HE with
 | some ⟨_, _, .cls cd, _⟩ => cd.mro == (.ref HE :: veB)
 | _ => false
theorem OW.obj {K : PySem.W.Frag} {HE : Addr} {h : Heap} (q : OW K HE = true) (k : K.In h) : ∃ nm qn N bs hdct sn sub ab col dd k0 k1 k2 k3 k5 nid, h.get? HE = some (excClassObj nm qn HE N bs veB hdct sn sub ab col dd k0 k1 k2 k3 k5 nid) := by
 unfold OW at q
 simp only [Bool.and_eq_true] at q
 obtain ⟨q1, q3⟩ := q
 obtain ⟨nm, qn, N, bs, bm, hdct, sn, sub, ab, col, dd, k0, k1, k2, k3, k5, nid, e, _, _⟩ := PySem.W.kts_cls k q1
 split at q3
 ·rename_i c0 d0 cd sl lk
  have e2 := k _ _ lk
  rw [e] at e2
  simp only [Option.some.injEq, Obj.mk.injEq, Data.cls.injEq] at e2
  obtain ⟨_, _, rfl, _⟩ := e2
  have q3 : Value.ref HE :: bm = .ref HE :: veB := beq_iff_eq.mp q3
  injection q3 with _ q3
  subst q3
  exact ⟨nm, qn, N, bs, hdct, sn, sub, ab, col, dd, k0, k1, k2, k3, k5, nid, e⟩
 ·cases q3
theorem VP {M : Model} {A : Around} {E : Value → Shared → Prop} {K : PySem.W.Frag} {HE C e : Addr} {s : Shared} {oe : Obj} {Q : Bool → Shared → Prop} (qC : CP K HE C = true) (qH : OW K HE = true) (k : K.In s.heap)
  (he : s.heap.get? e = some oe) (hcls : oe.cls = .ref C) (hq : Q true s) : wpAny M A (excMatches (.ref e) (.ref HE)) Q E s := by
 obtain ⟨nm, q, N, bs, hdct, sn, sub, ab, col, dd, k0, k1, k2, k3, k5, _, hC, _, _, _⟩ := CP.obj qC k
 obtain ⟨nm', q', N', bs', hdct', sn', sub', ab', col', dd', l0, l1, l2, l3, l5, nid, hD⟩ := OW.obj qH k
 obtain ⟨h, g, d, t, os⟩ := s
 have hcB : (Value.ref HE :: veB).contains (.type "BaseException") = true := by rw [List.contains_cons]; rfl
 have hcC : (Value.ref C :: .ref HE :: veB).contains (.ref HE) = true := by
  rw [List.contains_cons, List.contains_cons]; simp
 have f := tc_notTuple
 unfold excMatches
 repeat (first | (with_reducible refine wpAny_loadPart_at he ?_; rw [hcls]) | with_reducible refine wpAny_loadPart_at hD ?_ | (with_reducible refine wpAny_isSubtype_exc hD ?_; rw [hcB]) | (with_reducible refine wpAny_isSubtype_exc hC ?_; rw [hcC]) | wp_step)
 exact hq
abbrev Cx.subP (X : Cx) (a : Addr) (oe : Obj) : Cx := { X.sub a with pn := X.pn ++ [(a, oe)] }
section
variable {X : Cx} {pins : List (Addr × Obj)} {σ : St} {H : Hp} {s : Shared} {a : Addr} {oe : Obj}
theorem Inv.subP (I : Inv X pins σ H s) (he : s.heap.get? a = some oe) (hn : H a = none) (hl : a ≠ X.env.locals) (hf : a ∉ X.fs) (hc : ∀ v, oe.data ≠ .cell v) : Inv (X.subP a oe) pins σ H s :=
 ⟨⟨I.ok.mod, I.ok.kind, I.ok.glob, I.ok.blt, I.ok.above, I.ok.inj, I.ok.has, I.ok.cab, (fun z => by cases z), I.ok.frames, I.ok.stk, I.ok.exf, I.ok.bs, I.ok.bsz, I.ok.noex, I.ok.exfs, I.ok.funs, I.ok.frf⟩, I.os, I.bare, I.base, I.loc, I.cell, I.free, I.freeC, (fun p hp => by
  rw [List.append_assoc, List.mem_append] at hp
  rcases hp with hp | hp
  ·exact I.pin p (List.mem_append_left _ hp)
  ·rcases List.mem_cons.mp hp with rfl | hp
   ·exact ⟨he, hn, hl, hf, hc⟩
   ·exact I.pin p (List.mem_append_right _ hp)), I.hok, I.len⟩
theorem Inv.unsubP (ok : X.Ok) (I : Inv (X.subP a oe) pins σ H s) : Inv X pins σ H s := ⟨ok, I.os, I.bare, I.base, I.loc, I.cell, I.free, I.freeC, (fun p hp => I.pin p (by
  rw [List.append_assoc]
  rcases List.mem_append.mp hp with hp | hp
  ·exact List.mem_append_left _ hp
  ·exact List.mem_append_right _ (List.mem_append_right _ hp))), I.hok, I.len⟩
theorem SP.unsubP (ok : X.Ok) {D : GG} {f : Flow} {s' : Shared} (h : SP (X.subP a oe) pins D f s') : SP X pins D f s' := by
 cases f with
 | next => obtain ⟨σ', H', I, q⟩ := h; exact ⟨σ', H', I.unsubP ok, q⟩
 | brk => obtain ⟨σ', H', I, q⟩ := h; exact ⟨σ', H', I.unsubP ok, q⟩
 | cont => obtain ⟨σ', H', I, q⟩ := h; exact ⟨σ', H', I.unsubP ok, q⟩
 | ret u => obtain ⟨v, σ', H', I, r, q⟩ := h; exact ⟨v, σ', H', I.unsubP ok, r, q⟩
theorem DA.there {P : Program} {w : World} {H : Hp} {h : Heap} {a : Addr} {o : HO} (x : DA P w H h a o) : ∃ u, h.get? a = some u := by
 cases o with
 | lst xs => obtain ⟨_, _, _, _, e⟩ := x; exact ⟨_, e⟩
 | tup xs => obtain ⟨_, _, _, p⟩ := x; obtain ⟨_, e, _⟩ := p; exact ⟨_, e⟩
 | dK kvs => obtain ⟨_, _, _, _, o, _, _, e, _⟩ := x; exact ⟨_, e⟩
 | dT kvs => obtain ⟨_, _, _, _, o, _, _, e, _⟩ := x; exact ⟨_, e⟩
 | set S n => obtain ⟨o, _, _, _, e, _⟩ := x; exact ⟨_, e⟩
 | ins C dx fs => obtain ⟨_, _, _, e, _⟩ := x; exact ⟨_, e⟩
 | own y => obtain ⟨_, e⟩ := x; exact ⟨_, e⟩
 | xd fs => obtain ⟨_, ⟨_, _, _, e, _⟩, _⟩ := x; exact ⟨_, e⟩
 | rng lo hi => obtain ⟨_, _, _, e⟩ := x; exact ⟨_, e⟩
 | frz ob u => obtain ⟨e, _⟩ := x; exact ⟨_, e⟩
 | tbl ps => exact ⟨_, (show h.get? a = some _ from x)⟩
 | met f y => exact ⟨_, (show h.get? a = some _ from x)⟩
 | ext φ => obtain ⟨_, ⟨_, e⟩, _⟩ := x; exact ⟨_, e⟩
theorem UV {C a0 : Value} {B : Heap} (fl : Heap.FlyingW B X.stack a C a0 s.heap) (st : ∀ h2, B.StaysIn h2 → s.heap.UpToSlots h2 → Inv X pins σ H { s with heap := h2 }) :
  H a = none ∧ a ≠ X.env.locals ∧ a ∉ X.fs ∧ ∃ oe, s.heap.get? a = some oe ∧ oe.cls = C ∧ ∀ v, oe.data ≠ .cell v := by
 obtain ⟨f1, f2, f3, oe, vs, T, oT, ts, he, ⟨hc, _⟩, hd, _⟩ := fl
 have J := st (PySem.W.hideAll s.heap [a]) (fun b o q => PySem.W.hideAll_get _ (f1 b o q) (by
   rw [List.mem_singleton]
   rintro rfl
   rw [f2] at q; cases q)) (fun b o q nd => ⟨o.slots, PySem.W.hideAll_get _ q (by
   rw [List.mem_singleton]
   rintro rfl
   rw [he] at q; cases q
   exact nd _ hd)⟩)
 have hna : (PySem.W.hideAll s.heap [a]).get? a = none := PySem.W.hideAll_none _ (List.mem_singleton.mpr rfl)
 refine ⟨?_, ?_, fun z => ?_, oe, he, hc, fun v z => by rw [hd] at z; cases z⟩
 ·cases e : H a with
  | none => rfl
  | some u =>
   obtain ⟨o, q⟩ := (J.hok a u e).there
   rw [hna] at q; cases q
 ·rintro rfl
  obtain ⟨m, ⟨o, _, _, q, _⟩, _⟩ := J.loc
  have q : (PySem.W.hideAll s.heap [X.env.locals]).get? X.env.locals = some o := q
  rw [hna] at q; cases q
 ·have J0 := st s.heap f1 (NI _)
  have : a ∈ frs X.stack := by
   rcases J0.ok.stk with e | ⟨e, _⟩
   ·rw [e]; exact z
   ·rw [e]; unfold frs; rw [List.filterMap_cons]; split
    ·exact z
    ·exact List.mem_cons_of_mem _ z
  obtain ⟨o, q, nd⟩ := FM f3 a this
  rw [he] at q; cases q
  exact nd _ hd
theorem IZ {M : Model} {A : Around} {E : Value → Shared → Prop} {i : Nat} {x : Str} {pos : Pos} {Q : Unit → Shared → Prop} (I : Inv X pins σ H s) (hN : X.N.Nodup) (hi : X.N[i]? = some x) (hk : X.env.kindOf x = some .local)
  (h : ∀ s', Inv X pins (σ.set i none) H s' → Q () s') : wpAny M A (do bindName X.env x Value.none; unbindBehindTheSuite X.env x pos) Q E s := by
 obtain ⟨m, hn, hl⟩ := id I.loc
 have hcls : (X.env.scope.kind == .class || (X.env.scope.kind == .module && X.env.locals != X.env.globals)) = false := by rw [I.ok.kind]; rfl
 have hiσ : i < σ.length := by rw [I.len]; exact (List.getElem?_eq_some_iff.mp hi).1
 have cne := I.cne
 obtain ⟨oL, _, _, hoL, _⟩ := id hn
 refine wpAny_nameGoes_keeps hk hn hcls fun h' v hn' hs => ?_
 have tracked : HOk X.prog X.w H h' := fun b ob e => by
  refine (I.hok b ob e).stay (fun c w' hc q => (hs.2 c ?_).trans q) (fun _ q => q) fun _ _ q => q
  rintro rfl
  rcases hc with rfl | hc
  ·rw [I.free] at e; cases e
  ·rw [I.free] at hc; cases hc
 refine h _ ⟨I.ok, I.os, I.bare, ⟨fun b o e n hb hx => ?_, fun b o e n hb hx => ?_, I.base.free, fun b o e hx => ?_, I.base.tups, I.base.frzs, I.base.tbls⟩, ⟨_, hn', fun j y v' e1 e2 e3 => ?_⟩, fun y c e => ?_, I.free, I.freeC, fun p hp => ?_, tracked, by simpa using I.len⟩
 ·exact (hs.2 b (Nat.ne_of_lt (Nat.lt_of_lt_of_le (Heap.lt_size e) I.ok.above))).trans (I.base.keep b o e n hb hx)
 ·obtain ⟨sl, e1⟩ := I.base.slot b o e n hb hx
  exact ⟨sl, (hs.2 b (Nat.ne_of_lt (Nat.lt_of_lt_of_le (Heap.lt_size e) I.ok.above))).trans e1⟩
 ·obtain ⟨o', e1⟩ := I.base.there b o e hx
  exact ⟨o', (hs.2 b (Nat.ne_of_lt (Nat.lt_of_lt_of_le (Heap.lt_size e) I.ok.above))).trans e1⟩
 ·by_cases hj : j = i
  ·subst hj
   rw [List.getElem?_set_self hiσ] at e2
   cases e2
  ·rw [List.getElem?_set_ne (Ne.symm hj)] at e2
   obtain ⟨u', r', q⟩ := hl j y v' e1 e2 e3
   refine ⟨u', r', ?_⟩
   rcases q with ⟨k, e⟩ | ⟨k, c, e, z⟩
   ·refine .inl ⟨k, ?_⟩
    have : y ≠ x := fun e => hj (NL hN e1 (e ▸ hi))
    simp [this, e]
   ·exact .inr ⟨k, c, e, z.sameBut hs (cne y c e)⟩
 ·obtain ⟨w', z⟩ := I.cell y c e
  exact ⟨w', z.sameBut hs (cne y c e)⟩
 ·obtain ⟨e, n, ne, nf, d⟩ := I.pin p hp
  exact ⟨(hs.2 p.1 ne).trans e, n, ne, nf, d⟩
def fgE (i : Nat) (D : GG) : GG := { nx := fun σ H => D.nx (σ.set i none) H, rt := D.rt, bk := fun σ H => D.bk (σ.set i none) H, ct := fun σ H => D.ct (σ.set i none) H }
def gW (K : PySem.W.Frag) (HE : Addr) (i : Nat) (ts : Addr → Addr → TS) : HX := fun C D σ H => ∃ c, C = .ref c ∧ CP K HE c = true ∧ ∀ a, ts a c (fgE i D) (σ.set i (some (.ref a))) H
theorem pX {HE : Addr} {y x : Str} {np pos : Pos} {b₀ : Stmt} {suite : List Stmt} {DQ : List ExceptHandler} {ts : Addr → Addr → TS} {i : Nat} (hg : Gl X y) (hm : X.mg y = some (.ref HE)) (hd : OW X.K HE = true)
  (hN : X.N.Nodup) (hi : X.N[i]? = some x) (hk : X.env.kindOf x = some .local) (hs : ∀ a c oe, oe.cls = .ref c → PSs (X.subP a oe) (b₀ :: suite) (ts a c)) (hdb : (y == ("__debug__" : Str)) = false := by decide) :
  PH X (.ExceptHandler (some (.Name y np)) (some x) (b₀ :: suite) pos :: DQ) (gW X.K HE i ts) := by
 intro pins s σ H D a C a0 B ok fl st h
 obtain ⟨c, rfl, hc, h⟩ := h
 have I0 := st s.heap fl.1 (NI _)
 obtain ⟨oe, he, hcls⟩ := fl.there
 refine wpAny_handleBy_cons (codeAny_handlers_test (GA (X := X.sub a) (I0.sub a) hg hm ?_ hdb)) (by intro q; cases q)
 refine VP (K := X.K) hc hd I0.kIn he hcls ?_
 refine codeAny_handlers_suite_as (lands_againW fl fun h2 fl2 up2 => ?_)
 obtain ⟨n1, n2, n3, oe2, he2, hc2, nc2⟩ := UV (s := { s with heap := h2 }) fl2 fun h3 st3 up3 => st h3 st3 (up2.trans up3)
 have I2 : Inv (X.subP a oe2) pins σ H { s with heap := h2 } := (st h2 fl2.1 up2).subP he2 n1 n2 n3 nc2
 refine KD (X := X.subP a oe2) (v := .ref a) I2 hN hi (.inl hk) rfl (fun s2 I3 => ?_) (.inr hk)
 refine wpAny_mono (hs a c oe2 hc2 pins _ _ H _ I3 (h a)) (fun f s2 q => ?_) fun _ _ z => z.elim
 have q := SP.unsubP ok q
 cases f with
 | next => obtain ⟨σ', H', I, q⟩ := q; exact IZ I hN hi hk fun s3 I4 => ⟨_, H', I4, q⟩
 | brk => obtain ⟨σ', H', I, q⟩ := q; exact IZ I hN hi hk fun s3 I4 => ⟨_, H', I4, q⟩
 | cont => obtain ⟨σ', H', I, q⟩ := q; exact IZ I hN hi hk fun s3 I4 => ⟨_, H', I4, q⟩
 | ret u => obtain ⟨v, σ', H', I, r, q⟩ := q; exact IZ I hN hi hk fun s3 I4 => ⟨v, _, H', I4, r, q⟩
end
section
variable {X : Cx} {a c HE : Addr} {oe : Obj}
def isE (K : PySem.W.Frag) (H : Hp) (c : Addr) (y : V) (b : Bool) : Prop := match y with
 | .ty n => PySem.W.kitOne K (.ref c) (.type n) = some b
 | .ref d => PySem.W.kitOne K (.ref c) (.ref d) = some b ∨ ∃ ds : List Addr, SqT K H d (ds.map V.ref) ∧ PySem.W.kitAny K (.ref c) (ds.map Value.ref) = some b
 | _ => False
def YO (K : PySem.W.Frag) (HE a c : Addr) : List V → Hp → VK → Prop := fun xs H Q => o2 xs fun x y => x = .ref a ∧ fB K HE c = true ∧ ∃ b, isE K H c y b ∧ Q (.bl b) H
theorem QK : ∀ {ds : List Addr} {us : List Value}, AO (ds.map V.ref) us → us = ds.map Value.ref
 | [], _, .nil => rfl
 | d :: ds, _, .cons r t => by cases r; rw [QK t]; rfl
theorem gX (hp : (a, oe) ∈ X.pn) (hc : oe.cls = .ref c) : EI X (.builtin "isinstance") (YO X.K HE a c) := by
 intro pins s σ H xs us Q I rv h
 obtain ⟨x, y, rfl, rfl, hk, b, hb, q⟩ := o2.ex h
 obtain ⟨u, u', rfl, ru, ru'⟩ := rv.two
 cases (show u = Value.ref a from ru)
 have hx := (I.pin (a, oe) (List.mem_append_left _ hp)).1
 have fin : ∀ tk, EP X pins σ Q (.bool b) { s with toks := tk } := fun tk => ⟨.bl b, H, I.tok _, rfl, q⟩
 cases y with
 | ty n => cases (show u' = Value.type n from ru'); exact PySem.W.kia_one (MS hk) I.kIn ⟨oe, hx, hc⟩ hb (fun z => nomatch z) fin
 | ref d =>
  cases (show u' = Value.ref d from ru')
  rcases hb with hb | ⟨ds, hs, hb⟩
  ·exact PySem.W.kia_one (MS hk) I.kIn ⟨oe, hx, hc⟩ hb (fun z => nomatch z) fin
  ·obtain ⟨its, r, ⟨o, e, e1, n, e2⟩, _⟩ := I.tuple hs
   have := QK r
   subst this
   obtain ⟨cl, dd, da, sl⟩ := o
   cases e1; cases e2
   exact PySem.W.kia_tup (MS hk) I.kIn ⟨oe, hx, hc⟩ e hb (fun z => nomatch z) fin
 | non => exact hb.elim
 | bl _ => exact hb.elim
 | int _ => exact hb.elim
 | str _ => exact hb.elim
 | byt _ => exact hb.elim
 | flt _ => exact hb.elim
end
def exK (K : PySem.W.Frag) (HE : Addr) (cs : List Addr) : Bool := cs.all fun c => fB K HE c && (PySem.W.kitOne K (.ref c) (.type "ValueError") == some true) && cs.all fun d => PySem.W.kitOne K (.ref c) (.ref d) == some (c == d)
theorem exK.k {K : PySem.W.Frag} {HE c : Addr} {cs : List Addr} (h : exK K HE cs = true) (hc : c ∈ cs) : fB K HE c = true := by
 unfold exK at h
 have := List.all_eq_true.mp h c hc
 simp only [Bool.and_eq_true] at this
 exact this.1.1
theorem exK.v {K : PySem.W.Frag} {HE c : Addr} {cs : List Addr} (h : exK K HE cs = true) (hc : c ∈ cs) : PySem.W.kitOne K (.ref c) (.type "ValueError") = some true := by
 unfold exK at h
 have := List.all_eq_true.mp h c hc
 simp only [Bool.and_eq_true, beq_iff_eq] at this
 exact this.1.2
theorem exK.one {K : PySem.W.Frag} {HE c d : Addr} {cs : List Addr} (h : exK K HE cs = true) (hc : c ∈ cs) (hd : d ∈ cs) : PySem.W.kitOne K (.ref c) (.ref d) = some (decide (c = d)) := by
 unfold exK at h
 have := List.all_eq_true.mp h c hc
 simp only [Bool.and_eq_true] at this
 have := List.all_eq_true.mp this.2 d hd
 rw [beq_iff_eq] at this
 rw [this]
 congr 1
theorem exK.any {K : PySem.W.Frag} {HE c : Addr} {cs : List Addr} (h : exK K HE cs = true) (hc : c ∈ cs) : ∀ ds : List Addr, (∀ d ∈ ds, d ∈ cs ∧ c ≠ d) → PySem.W.kitAny K (.ref c) (ds.map Value.ref) = some false
 | [], _ => by rw [List.map_nil, PySem.W.kitAny]
 | d :: ds, hd => by
  obtain ⟨h1, h2⟩ := hd d List.mem_cons_self
  rw [List.map_cons, PySem.W.kitAny, exK.one h hc h1, decide_eq_false h2]
  exact exK.any h hc ds fun e he => hd e (List.mem_cons_of_mem _ he)
theorem BF.downR {P : Program} {w : World} {K : PySem.W.Frag} {mg : Str → Option Value} {base : Heap} {f : Addr} {k : Nat} {fd : FuncData} {ps : List Str} {sp : Sp} (F : BF P w K mg base (CXr P w) k f fd ps sp) : BF P w K mg base CX0 k f fd ps (fun vs H Q _ => sp vs H Q fun _ _ _ => False) :=
 ⟨fun vs H Q E h => F.len vs H Q _ h, fun A outer s H args us vs Q E hr e0 hb r h => codeAny_mono (F.run A outer s H args us vs Q _ hr e0 hb r h) fun r s' q => by
  cases r with
  | error e => obtain ⟨_, _, _, _, _, _, _, _, _, _, _, z⟩ := q; exact z.elim
  | ok fl => cases fl <;> exact q⟩
theorem GP {X : Cx} {K : PySem.W.Frag} {a c HE : Addr} {oe : Obj} (hK : X.K = K) (hp : (a, oe) ∈ X.pn) (hc : oe.cls = .ref c) : EI X (.builtin "isinstance") (YO K HE a c) := by subst hK; exact gX hp hc
theorem iP {X : Cx} {K : PySem.W.Frag} (hK : X.K = K) (hu : X.A.units + 64 < cLine) : OpR X (compareOp .NotEq) (rAl K true) := by subst hK; exact gN hu
theorem bR {l : Addr} {items : Array Value} {n : Nat} {dd : Option Addr} {sl : Array (Option Value)} {t : Tok} :
  Meets (Builtin.«tuple.__mul__» { pos := [.ref l, .int 1 t] }) fun x R s => s.heap.get? l = some { cls := .type "tuple", dict := dd, data := .seq items n, slots := sl } ∧ R (.ok (.ret (.ref l))) s := by
 intro prog w A R s ⟨e, h⟩
 show wpAny _ _ (asIndex (.int 1 t) >>= _) _ _ s
 refine wpAny_bind ?_
 rw [show asIndex (.int 1 t) = pure 1 from rfl]
 refine wpAny_pure ?_
 dsimp only
 rw [if_neg (by decide)]
 refine wpAny_bind (wpAny_tupleItemsOf e rfl ?_)
 try dsimp only
 rw [if_pos (by simp)]
 unfold Builtin.Tuple.tupleIsExact
 refine wpAny_bind (wpAny_bind (wpAny_typeOf (show s.TypeIs (.ref l) "tuple" from ⟨_, e, rfl⟩) (wpAny_pure ?_)))
 rw [if_pos (by decide)]
 refine wpAny_bind (wpAny_rule ?_)
 exact wpAny_pure h
section
variable {X : Cx}
def nL (K : PySem.W.Frag) : R2 := fun x y H Q => GJ y fun k => ∃ ds, Rp K H (.tup ds) x ∧ 1 ≤ k ∧ k < 2 ^ 62 ∧ ds.length * k.toNat ≤ sizeLine ∧ ∀ v H', AI H H' → Rp K H' (.tup (List.replicate k.toNat ds).flatten) v → Q v H'
theorem dL : OpR X (binaryOp .Mult) (nL X.K) := by
 intro pins s σ H x y v u Q I rx ry h
 obtain ⟨k, rfl, ds, hx, h0, h1, hz, q⟩ := GJ.ex h
 by_cases k2 : 2 ≤ k
 ·exact cY pins s σ H x (.int k) v u Q I rx ry ⟨ds, hx, k2, h1, hz, q⟩
 have k1 : k = 1 := by omega
 subst k1
 obtain ⟨a, xs, rfl, ha, la⟩ := BN.mp hx
 cases rx
 obtain ⟨t, rfl⟩ := ry
 obtain ⟨its, r1, p1, _⟩ := I.tuple ha
 obtain ⟨⟨cls, dd, data, sl⟩, e, hc, n, hd⟩ := id p1
 simp only at hc hd
 subst hc hd
 have ef : (List.replicate (Int.toNat 1) ds).flatten = ds := by simp
 rw [ef] at q
 exact wpAny_binaryOp_repeat_ref (T := "tuple") (U := "int") (by decide) ⟨_, e, rfl⟩ (fun s' => typeIs_int s' 1 t) EX F.fills_int_mul F.slot_int_rmul GX F.slot_int_index.lookup
  (call_meets F.slot_int_rmul (typeIs_int s 1 t) F.entry_int_rmul (F.args_int_rmul_2 _ _) (GZ 1 t a _ n dd sl)
   ⟨e, rfl, ⟨_, e, rfl⟩, call_meets F.slot_tuple_mul ⟨_, e, rfl⟩ F.entry_tuple_mul (F.args_tuple_mul_2 _ _) bR ⟨e, ⟨.ref a, H, I, rfl, q _ _ (AI.refl _) hx⟩⟩⟩)
end
theorem atom (s : String) (ns : List Nat) (h : s = String.ofList (ns.map Char.ofNat)) (e : (ns.map Char.ofNat).map Char.toNat = ns) : Str.ofString s = ⟨⟨ns⟩⟩ := by
 rw [h, PySem.W.Fast.ofString_ofList, e]
theorem oP {α : Type} {a b : α} {l m : List α} (h : a = b) (t : l = m) : a :: l = b :: m := by rw [h, t]
theorem tr2 {α β : Type} {C : α → β → Prop} {a a' : α} {b b' : β} (e : a = a') (e' : b = b') (h : C a' b') : C a b := by subst e e'; exact h
theorem jI (P : Params) : ((PySem.W.boot_heap P).isNs mainGlobals, (PySem.W.boot_heap P).objs.size, (PySem.W.boot_heap P).nsMap mainGlobals "__annotations__") = (true, 11, some (.ref 6)) := by kernel_rfl
noncomputable def dR (p q : Program) (loose : List Str) (Xt : Shared → Bool) {α : Type} (Yf : Shared → α) (w : World) (s : Shared) :=
 (PySem.W.staticsOk (importedModules p.main.body) (PySem.W.boot_heap w.params) s.heap && PySem.W.namesBound p s.heap && PySem.W.gensDone s && PySem.W.laidKept (PySem.W.boot_heap w.params) s.heap,
  PySem.W.Fast.tw4187177175401517315 q loose (importedModules p.main.body) Xt true s, Yf s)
def cJ (p q : Program) (loose : List Str) (Xt : Shared → Bool) {α : Type} (Yf : Shared → α) (Ya : World → α) (N : Nat) (w : World) : Prop :=
 (fun os => (PySem.W.Fast.tw14082659384304107361 PySem.W.Fast.tw14364793385576792824 p w 11 (some (.ref 6)) N ⟨PySem.W.boot_heap w.params, Array.mk [], PySem.W.boot_drawn, PySem.W.boot_toks, os⟩ (PySem.W.topStub p)).map (dR p q loose Xt Yf w)) =
  fun _ => some (true, PySem.W.openGood q loose, Ya w)
theorem ZY {p q : Program} {loose : List Str} {Xt : Shared → Bool} {α : Type} {Yf : Shared → α} {Ya : World → α} {N : Nat}
  (e : PySem.W.opening p = PySem.W.plainProg p.main.scope.names) (hN : Nat.ble 600 N = true) (f : ∀ s, fenceModules? p s = some s)
  (run : ∀ w : World, cJ p q loose Xt Yf Ya N w) : PySem.W.LeftO p q loose Xt Yf Ya N := fun w => by
 obtain ⟨⟨h, gs, d, k, os⟩, e1, e2⟩ := Option.map_eq_some_iff.mp (PySem.W.boot_open e hN f w)
 simp only [Prod.mk.injEq] at e2
 obtain ⟨rfl, rfl, rfl, rfl⟩ := e2
 have b := jI w.params
 simp only [Prod.mk.injEq] at b
 obtain ⟨b1, b2, b3⟩ := b
 have r := congrFun (run w) os
 rw [← PySem.W.Fast.te14082659384304107361, ← PySem.W.Fast.te14364793385576792824] at r
 obtain ⟨s₁, r1, r2⟩ := Option.map_eq_some_iff.mp r
 unfold dR at r2
 rw [← PySem.W.Fast.te4187177175401517315] at r2
 simp only [Prod.mk.injEq] at r2
 obtain ⟨r2, r3, r4⟩ := r2
 unfold PySem.W.openEnds
 rw [e1]
 show (PySem.W.topFrom treeTable p w N _).map _ = _
 have t : PySem.W.topFrom treeTable p w N ⟨PySem.W.boot_heap w.params, Array.mk [], PySem.W.boot_drawn, PySem.W.boot_toks, os⟩ = some s₁ := by
  unfold PySem.W.topFrom
  dsimp only
  rw [b1, b2, b3]
  show Option.bind (PySem.W.topRun treeTable p w 11 (some (.ref 6)) N ⟨PySem.W.boot_heap w.params, Array.mk [], PySem.W.boot_drawn, PySem.W.boot_toks, os⟩ (PySem.W.topStub p)) _ = _
  rw [r1]
  show (match PySem.W.staticsOk (importedModules p.main.body) (PySem.W.boot_heap w.params) s₁.heap && PySem.W.namesBound p s₁.heap && PySem.W.gensDone s₁ && PySem.W.laidKept (PySem.W.boot_heap w.params) s₁.heap with | true => some s₁ | false => none) = _
  rw [r2]
 rw [t]
 exact congrArg some (Prod.ext r3 r4)
noncomputable def nm (l : List Str) (i : Nat) : Str := l.getD i Str.empty
noncomputable def de (P : Params) (x : Str) (t : Nat) (v : Value) : DictEntry := ⟨PyData.keyHash P x, .str x t, v⟩
noncomputable def ZW (p : Program) (i : Nat) : Stmt := p.main.body.getD i (.Pass ⟨0, 0, 0, 0⟩)
noncomputable def fnO (p : Program) (x : Str) (i : Nat) (kV doc pm : Value) (an : Option Addr) (cdv ct : Value) : Obj := ⟨.type "function", none, .func (PySem.W.fnOf x x (AN (ZW p i)) (AL (ZW p i)) (AE (ZW p i)) .none kV doc pm an cdv ct), #[]⟩
noncomputable def fnM (p : Program) (x qual : Str) (i j : Nat) (kV doc pm : Value) (an : Option Addr) (cdv ct : Value) : Obj := ⟨.type "function", none, .func (PySem.W.fnOf x qual (AN (CG (ZW p i) j)) (AL (CG (ZW p i) j)) (AE (CG (ZW p i) j)) .none kV doc pm an cdv ct), #[]⟩
end L2
namespace My
open PySem PySem.Spec PyProof.Rows L2
def tmC (c : Char) : Lean.MacroM Lean.Term := do match c with
 | '_' => `(_)
 | 'r' => `((by rfl))
 | 'd' => `((by first | exact Or.inl rfl | exact Or.inr (Or.inl rfl)))
 | 'v' => `((by decide))
 | 'n' => `((fun _ _ => rfl))
 | 'i' => `(rfl)
 | 'o' => `((Or.inl rfl))
 | 'c' => `((by first | exact .inl rfl | exact .inr rfl | assumption))
 | 'a' => `(.nil)
 | 'b' => `((BB _))
 | 'e' => `((by intro _; rfl))
 | 'f' => return ⟨Lean.mkIdent `PySem.F.plainAttrs_list⟩
 | 'g' => return ⟨Lean.mkIdent `T.z_range⟩
 | 'h' => return ⟨Lean.mkIdent `MG⟩
 | 'j' => `(⟨by decide +kernel, by decide +kernel, by decide +kernel, by decide +kernel, by decide +kernel, by decide +kernel⟩)
 | 'k' => return ⟨Lean.mkIdent `VV⟩
 | _ => Lean.Macro.throwUnsupported
def tmT : List (Char × Lean.Name × String) := [('A', `pvD, "_*__rdvv"), ('B', `AA, "_____**r"), ('C', `AC, "_"), ('D', `AF, "____"), ('E', `AD, "_____**"), ('F', `AG, "___*"), ('G', `AJ, "________***"), ('H', `BH, "_______***n"), ('I', `AR, "__*____*io*rc"), ('J', `AT, "____"), ('K', `AS, "_____*i"), ('L', `AV, "________________**r***a**vrr"), ('M', `AX, "__*_*ioc"), ('N', `BI, "____*"), ('O', `CL, "________***"), ('P', `BK, "_____*"), ('Q', `AW, "_______**"), ('R', `AZ, "________****"), ('S', `AU, "_____**r"), ('T', `BP, "________**i"), ('U', `CI, "_____*v"), ('V', `BO, "_"), ('W', `BS, "____*r"), ('X', `BU, "__*__r**v"), ('Y', `CA, "_"), ('Z', `DE, "____*"), ('a', `BR, "______*"), ('b', `CJ, "_________*r***vvrr"), ('c', `DP, "________***b"), ('d', `DG, "_"), ('e', `DZ, "___*e"), ('f', `ID, "____________f*****rrrrr"), ('g', `EA, "______i*rr"), ('h', `DB, "______*"), ('i', `FF, "____________________******a**rrr"), ('j', `DI, "_____**"), ('k', `HL, "______**rrr"), ('l', `IG, "____*"), ('m', `FH, "_________________******a*r"), ('n', `JR, "________*i***e"), ('o', `NH, "____"), ('p', `FQ, "_______**"), ('q', `KK, "_________________***r**a**vrr"), ('r', `JE, "______rg*r"), ('s', `XT, "______h*"), ('t', `KS, "____*"), ('u', `IT, "_________*r***vvrr"), ('v', `RP, "______*_____****iiij****e"), ('w', `MT, "_"), ('x', `WY, "_______**"), ('y', `QZ, "____*"), ('z', `JX, "__________**k"), ('!', `RQ, "_______**"), ('#', `VF, "_____*"), ('$', `SE, "____*"), ('%', `MR, "________***"), ('&', `dA, "_______**"), ('\'', `VX, "____*")]
def tmK (st : List Lean.Term) (c : Char) : Lean.MacroM (List Lean.Term) := do
 if c.isDigit then return ⟨Lean.Syntax.mkNumLit (toString c)⟩ :: st
 if c == '_' then return (← `(_)) :: st
 let some (f, t) := tmT.lookup c | Lean.Macro.throwUnsupported
 let m := (t.toList.filter (· == '*')).length
 let (as, _) ← t.toList.foldlM (init := ((#[] : Array Lean.Term), (st.take m).reverse)) fun (as, ks) d => do
  if d == '*' then match ks with
   | k :: r => return (as.push k, r)
   | [] => Lean.Macro.throwUnsupported
  else return (as.push (← tmC d), ks)
 return Lean.Syntax.mkApp (← `(@$(Lean.mkIdent f))) as :: st.drop m
def tmD (x : Lean.Syntax) : Lean.MacroM Lean.Term := do
 let st ← x.getArgs.toList.foldlM (init := ([] : List Lean.Term)) fun st c => match c.isInterpolatedStrLit? with
  | some w => w.toList.foldlM tmK st
  | none => return ⟨c⟩ :: st
 match st with
  | [t] => return t
  | _ => Lean.Macro.throwUnsupported
local macro_rules | `(s! $x) => tmD x
def top (i : Nat) : Stmt := PySem.Challenge.pw_turtlehouse_k26_too_long.main.body.getD i (.Pass ⟨0, 0, 0, 0⟩)
abbrev LQ : Stmt := top 16
theorem iM : AQ ["one", "other"] ["one", "other"] (AE LQ) := ⟨rfl, rfl, rfl, by decide +kernel, rfl, by decide +kernel, by decide +kernel⟩
abbrev IS : Stmt := top 17
theorem dF : AQ ["one", "other"] ["one", "other"] (AE IS) := ⟨rfl, rfl, rfl, by decide +kernel, rfl, by decide +kernel, by decide +kernel⟩
abbrev JB : Stmt := top 18
theorem fT : AQ ["number", "factor"] ["number", "factor"] (AE JB) := ⟨rfl, rfl, rfl, by decide +kernel, rfl, by decide +kernel, by decide +kernel⟩
abbrev IR : Stmt := top 19
theorem IC : AQ ["place", "heading", "steps", "x", "y", "east", "north"] ["place", "heading", "steps"] (AE IR) := ⟨rfl, rfl, rfl, by decide +kernel, rfl, by decide +kernel, by decide +kernel⟩
abbrev EL : Stmt := CG (top 22) 0
theorem QW : AQ ["self"] ["self"] (AE EL) := ⟨rfl, rfl, rfl, by decide +kernel, rfl, by decide +kernel, by decide +kernel⟩
abbrev DL : Stmt := CG (top 22) 1
theorem NB : AQ ["self", "spot"] ["self", "spot"] (AE DL) := ⟨rfl, rfl, rfl, by decide +kernel, rfl, by decide +kernel, by decide +kernel⟩
abbrev FO : Stmt := CG (top 22) 2
theorem NO : AQ ["self", "steps", "start"] ["self", "steps"] (AE FO) := ⟨rfl, rfl, rfl, by decide +kernel, rfl, by decide +kernel, by decide +kernel⟩
abbrev EJ : Stmt := CG (top 22) 3
theorem QT : AQ ["self", "eighths"] ["self", "eighths"] (AE EJ) := ⟨rfl, rfl, rfl, by decide +kernel, rfl, by decide +kernel, by decide +kernel⟩
abbrev EH : Stmt := CG (top 22) 4
theorem HK : AQ ["self", "number", "spot", "heading"] ["self", "number"] (AE EH) := ⟨rfl, rfl, rfl, by decide +kernel, rfl, by decide +kernel, by decide +kernel⟩
abbrev FA : Stmt := CG (top 22) 5
theorem LS : AQ ["self", "statement", "first"] ["self", "statement"] (AE FA) := ⟨rfl, rfl, rfl, by decide +kernel, rfl, by decide +kernel, by decide +kernel⟩
abbrev FT : Stmt := CG (top 22) 6
abbrev IY : Stmt := top 26
theorem GK : AQ ["amount", "sources", "value", "factor", "source", "more"] ["amount", "sources"] (AE IY) := ⟨rfl, rfl, rfl, by decide +kernel, rfl, by decide +kernel, by decide +kernel⟩
abbrev DV : Stmt := CG (top 27) 0
theorem PD : AQ ["self", "body", "sources"] ["self", "body", "sources"] (AE DV) := ⟨rfl, rfl, rfl, by decide +kernel, rfl, by decide +kernel, by decide +kernel⟩
abbrev CT : Stmt := CG (top 27) 1
theorem LI : AQ ["self"] ["self"] (AE CT) := ⟨rfl, rfl, rfl, by decide +kernel, rfl, by decide +kernel, by decide +kernel⟩
abbrev CF : Stmt := CG (top 27) 2
theorem JU : AQ ["self"] ["self"] (AE CF) := ⟨rfl, rfl, rfl, by decide +kernel, rfl, by decide +kernel, by decide +kernel⟩
abbrev BZ : Stmt := CG (top 27) 3
theorem JH : AQ ["self"] ["self"] (AE BZ) := ⟨rfl, rfl, rfl, by decide +kernel, rfl, by decide +kernel, by decide +kernel⟩
abbrev BL : Stmt := CG (top 27) 4
theorem GY : AQ ["self"] ["self"] (AE BL) := ⟨rfl, rfl, rfl, by decide +kernel, rfl, by decide +kernel, by decide +kernel⟩
abbrev DW : Stmt := top 28
theorem JN : AQ ["body", "sources", "rounds", "level"] ["body", "sources", "rounds"] (AE DW) := ⟨rfl, rfl, rfl, by decide +kernel, rfl, by decide +kernel, by decide +kernel⟩
abbrev DR : Stmt := CG (top 29) 0
theorem HI : AQ ["self", "program", "words", "body"] ["self", "program"] (AE DR) := ⟨rfl, rfl, rfl, by decide +kernel, rfl, by decide +kernel, by decide +kernel⟩
abbrev DH : Stmt := CG (top 29) 1
theorem OT : AQ ["self"] ["self"] (AE DH) := ⟨rfl, rfl, rfl, by decide +kernel, rfl, by decide +kernel, by decide +kernel⟩
abbrev DM : Stmt := CG (top 29) 2
theorem IL : AQ ["self", "level"] ["self"] (AE DM) := ⟨rfl, rfl, rfl, by decide +kernel, rfl, by decide +kernel, by decide +kernel⟩
abbrev DD : Stmt := CG (top 29) 3
theorem FD : AQ ["self", "statement", "sources", "first", "chosen", "handed"] ["self", "statement", "sources"] (AE DD) := ⟨rfl, rfl, rfl, by decide +kernel, rfl, by decide +kernel, by decide +kernel⟩
abbrev EZ : Stmt := CG (top 29) 4
theorem SL : AQ ["self", "statement"] ["self", "statement"] (AE EZ) := ⟨rfl, rfl, rfl, by decide +kernel, rfl, by decide +kernel, by decide +kernel⟩
abbrev GR : Stmt := top 30
theorem IU : AQ ["program", "most", "walk", "deeds"] ["program", "most"] (AE GR) := ⟨rfl, rfl, rfl, by decide +kernel, rfl, by decide +kernel, by decide +kernel⟩
abbrev DJ : Stmt := top 33
theorem DS : AQ ["start", "end", "east", "easting", "north", "northing"] ["start", "end"] (AE DJ) := ⟨rfl, rfl, rfl, by decide +kernel, rfl, by decide +kernel, by decide +kernel⟩
abbrev DK : Stmt := top 34
theorem IQ : AQ ["heading", "wanted", "eighths"] ["heading", "wanted"] (AE DK) := ⟨rfl, rfl, rfl, by decide +kernel, rfl, by decide +kernel, by decide +kernel⟩
abbrev JA : Stmt := top 35
theorem IP : AQ ["start", "heading", "end", "statements", "wanted", "steps"] ["start", "heading", "end"] (AE JA) := ⟨rfl, rfl, rfl, by decide +kernel, rfl, by decide +kernel, by decide +kernel⟩
abbrev EG : Stmt := top 36
theorem SH : AQ ["statements"] ["statements"] (AE EG) := ⟨rfl, rfl, rfl, by decide +kernel, rfl, by decide +kernel, by decide +kernel⟩
abbrev FP : Stmt := top 37
theorem FU : AQ ["hand", "number", "spot", "heading", "statements", "now"] ["hand", "number"] (AE FP) := ⟨rfl, rfl, rfl, by decide +kernel, rfl, by decide +kernel, by decide +kernel⟩
abbrev HJ : Stmt := top 38
theorem IA : AQ ["program", "most", "walk", "hand", "body", "act"] ["program", "most"] (AE HJ) := ⟨rfl, rfl, rfl, by decide +kernel, rfl, by decide +kernel, by decide +kernel⟩
abbrev JD : Stmt := top 40
theorem ND : AQ ["_law_script", "_law_k", "_law_number"] ["_law_script", "_law_k"] (AE JD) := ⟨rfl, rfl, rfl, by decide +kernel, rfl, by decide +kernel, by decide +kernel⟩
abbrev GO : Stmt := top 41
theorem JF : AQ ["_law_cell_here", "_law_k", "_law_number"] ["_law_cell_here", "_law_k"] (AE GO) := ⟨rfl, rfl, rfl, by decide +kernel, rfl, by decide +kernel, by decide +kernel⟩
abbrev JO : Stmt := top 42
theorem KY : AQ ["_law_cell_here", "_law_most", "_law_many", "_law_found", "_law_rest", "_law_k"] ["_law_cell_here", "_law_most", "_law_many"] (AE JO) := ⟨rfl, rfl, rfl, by decide +kernel, rfl, by decide +kernel, by decide +kernel⟩
abbrev EW : Stmt := top 43
theorem CY : AQ ["_law_body", "_law_most", "_law_found", "_law_program", "error", "_law_some", "_law_others"] ["_law_body", "_law_most"] (AE EW) := ⟨rfl, rfl, rfl, by decide +kernel, rfl, by decide +kernel, by decide +kernel⟩
abbrev EE : Stmt := top 44
theorem BQ : AQ ["_law_row_here", "_law_body", "_law_deeds", "_law_k", "_law_inner", "_law_many", "_law_due", "_law_again"] ["_law_row_here"] (AE EE) := ⟨rfl, rfl, rfl, by decide +kernel, rfl, by decide +kernel, by decide +kernel⟩
abbrev EY : Stmt := top 45
theorem GB : AQ ["_law_many", "_law_body", "_law_due", "_law_far"] ["_law_many"] (AE EY) := ⟨rfl, rfl, rfl, by decide +kernel, rfl, by decide +kernel, by decide +kernel⟩
abbrev FB : Stmt := top 46
theorem EK : AQ ["_law_row_here", "_law_heading", "_law_more", "_law_first", "_law_body"] ["_law_row_here"] (AE FB) := ⟨rfl, rfl, rfl, by decide +kernel, rfl, by decide +kernel, by decide +kernel⟩
abbrev QH : Stmt := top 47
theorem NF : AQ ["_law_script", "_law_row_here", "_law_many", "_law_k", "_law_some"] ["_law_script"] (AE QH) := ⟨rfl, rfl, rfl, by decide +kernel, rfl, by decide +kernel, by decide +kernel⟩
structure Own (K : PySem.W.Frag) (mg : Str → Option Value) (x : Str) (st : Stmt) (ps : List Str) (f : Addr) (fd : FuncData) : Prop where
 F : Fun K x x st f fd
 b : FY K fd ps []
 m : mg x = some (.ref f)
structure LA (K : PySem.W.Frag) (C : Addr) (x qx : Str) (st : Stmt) (ps : List Str) (f : Addr) (fd : FuncData) : Prop where
 F : Fun K x qx st f fd
 b : FY K fd ps []
 mt : kL K C x f
structure lI (K : PySem.W.Frag) (C : Addr) (x qx : Str) (st : Stmt) (ps : List Str) (f : Addr) (fd : FuncData) : Prop where
 F : Fun K x qx st f fd
 b : FY K fd ps []
 mki : Mk K C f
def KA : D := .int (8)
def XA : D := .int (0)
def HD : D := .int (1)
def SB : D := .int (2)
def HA : D := .int (7)
def LZ : D := .tup [.tup [.int (0), .int (0)], .tup [.int (0), .int (0)]]
def KU : D := .tup [.tup [.tup [.int (1), .int (0)], .tup [.int (0), .int (0)]], .tup [.tup [.int (0), .int (1)], .tup [.int (0), .int (1)]], .tup [.tup [.int (0), .int (0)], .tup [.int (1), .int (0)]], .tup [.tup [.int (0), .int (-1)], .tup [.int (0), .int (1)]], .tup [.tup [.int (-1), .int (0)], .tup [.int (0), .int (0)]], .tup [.tup [.int (0), .int (-1)], .tup [.int (0), .int (-1)]], .tup [.tup [.int (0), .int (0)], .tup [.int (-1), .int (0)]], .tup [.tup [.int (0), .int (1)], .tup [.int (0), .int (-1)]]]
def WT : D := .int (8)
def FC : D := .int (1000000)
def LP : D := .tup [.str "n0", .str "n1", .str "n2", .str "n3"]
def HQ : D := .int (100)
set_option genInjectivity false in
set_option genSizeOf false in
structure Adr where
 a_plus : Addr
 d_plus : FuncData
 a_minus : Addr
 d_minus : FuncData
 a_times : Addr
 d_times : FuncData
 a_moved : Addr
 d_moved : FuncData
 a_Hand_init : Addr
 d_Hand_init : FuncData
 a_Hand_cometo : Addr
 d_Hand_cometo : FuncData
 a_Hand_go : Addr
 d_Hand_go : FuncData
 a_Hand_turn : Addr
 d_Hand_turn : FuncData
 a_Hand_back : Addr
 d_Hand_back : FuncData
 a_Hand_act : Addr
 d_Hand_act : FuncData
 a_Hand_end : Addr
 d_Hand_end : FuncData
 a_worth : Addr
 d_worth : FuncData
 a_Level_init : Addr
 d_Level_init : FuncData
 a_Level_isatend : Addr
 d_Level_isatend : FuncData
 a_Level_isthrough : Addr
 d_Level_isthrough : FuncData
 a_Level_beginround : Addr
 d_Level_beginround : FuncData
 a_Level_nextstatement : Addr
 d_Level_nextstatement : FuncData
 a_againlevel : Addr
 d_againlevel : FuncData
 a_Walk_init : Addr
 d_Walk_init : FuncData
 a_Walk_isdone : Addr
 d_Walk_isdone : FuncData
 a_Walk_dodeed : Addr
 d_Walk_dodeed : FuncData
 a_Walk_begin : Addr
 d_Walk_begin : FuncData
 a_Walk_act : Addr
 d_Walk_act : FuncData
 a_walked : Addr
 d_walked : FuncData
 a_legsbetween : Addr
 d_legsbetween : FuncData
 a_turnbetween : Addr
 d_turnbetween : FuncData
 a_wayto : Addr
 d_wayto : FuncData
 a_withpenup : Addr
 d_withpenup : FuncData
 a_wayback : Addr
 d_wayback : FuncData
 a_putin : Addr
 d_putin : FuncData
 a_Lcell : Addr
 d_Lcell : FuncData
 a_Lmixed : Addr
 d_Lmixed : FuncData
 a_Lrow : Addr
 d_Lrow : FuncData
 a_Lrefused : Addr
 d_Lrefused : FuncData
 a_Lbydeeds : Addr
 d_Lbydeeds : FuncData
 a_Lbybacks : Addr
 d_Lbybacks : FuncData
 a_Lbysteps : Addr
 d_Lbysteps : FuncData
 a_law : Addr
 d_law : FuncData
 c_Hand : Addr
 c_Level : Addr
 c_Walk : Addr
 u_ROUND : Value
 v_ROUND : V
 u_EAST : Value
 v_EAST : V
 u_NORTH_EAST : Value
 v_NORTH_EAST : V
 u_NORTH : Value
 v_NORTH : V
 u_SOUTH_EAST : Value
 v_SOUTH_EAST : V
 u_BEGINNING : Value
 v_BEGINNING : V
 u_STEPS : Value
 v_STEPS : V
 u_INKS : Value
 v_INKS : V
 u_MOST_AMOUNT : Value
 v_MOST_AMOUNT : V
 u_NUMBERS : Value
 v_NUMBERS : V
 u_MOST_BACKS : Value
 v_MOST_BACKS : V
 c_HouseError : Addr
 c_NoProgram : Addr
 c_NoText : Addr
 c_NoMark : Addr
 c_TooGreat : Addr
 c_TooLong : Addr
 c_NotWhole : Addr
local macro_rules | `(tactic| walk_at "rd") => `(tactic| ((try simp only [L2.start, L2.stC, List.map_cons, List.map_nil, List.length_cons, List.length_nil, List.replicate_succ, List.replicate_zero, List.nil_append, List.cons_append, Nat.reduceAdd, Nat.reduceSub, Nat.zero_add, Nat.sub_self, Nat.add_one_sub_one]); (try dsimp only [gJ, RH, eT, cZ, LB, PY, PZ, cR, gD, dO, ipI, NV, TF, NZ, rIn, gY, bX, gA, TQ, WH, NP, tOp, tUn, rI, rI0, rU, aQ, tC, cK, PM, eO, UZ, UK, PQ, WK, cW, eU, tCB, dP, gI, tOr, UU, tB, tIf, cL, RJ, eZ, UD, gR, L2.start, bJ, cA, MJ, UE, UI, TU, dH, KG, L2.stC, tBM, KO, List.getElem?_cons_zero, List.getElem?_cons_succ, List.set_cons_zero, List.set_cons_succ, List.map_cons, List.map_nil, List.length_cons, List.length_nil, List.replicate_succ, List.replicate_zero, List.nil_append, List.cons_append, Nat.reduceAdd, Nat.reduceSub, Nat.zero_add, UJ, US, tBD, MQ, UX, SW, IJ, rID, OL, rUD, gT, fW, KQ, PR, PK, TC, NJ, QB, OO, KP, TY, YO, gW, fgE, HM, JC, OU, OI, UB, TK, fJ, tDZ, OE, HB, MW, IF, tHc, MZ, UT, eQ, eL, fZ, UQ, cN, IB, DX, GJ, oBl, QY, o0, o1, o2, oC]); try simp only [gJ, UJ, US, tBD, MQ, UX, SW, IJ, rID, OL, rUD, gT, fW, KQ, PR, PK, TC, NJ, QB, OO, KP, TY, YO, gW, fgE, HM, JC, OU, OI, UB, TK, fJ, tDZ, OE, HB, MW, IF, tHc, MZ, UT, eQ, eL, fZ, UQ, cN, IB, DX, GJ, oBl, QY, o0, o1, o2, oC, RH, eT, cZ, LB, PY, PZ, cR, gD, dO, ipI, NV, TF, NZ, rIn, gY, bX, gA, TQ, WH, NP, tOp, tUn, rI, rI0, rU, aQ, tC, cK, PM, eO, UZ, UK, PQ, WK, cW, eU, tCB, dP, gI, tOr, UU, tB, tIf, cL, RJ, eZ, UD, gR, L2.start, bJ, cA, MJ, UE, UI, TU, dH, KG, L2.stC, tBM, KO, tyV, List.getElem?_cons_zero, List.getElem?_cons_succ, List.set_cons_zero, List.set_cons_succ, List.map_cons, List.map_nil, List.length_cons, List.length_nil, List.length_map, List.replicate_succ, List.replicate_zero, List.append_nil, List.nil_append, List.cons_append, Option.some.injEq, Option.join_some, V.int.injEq, V.bl.injEq, V.ref.injEq, V.str.injEq, List.cons.injEq, exists_and_left, exists_and_right, exists_eq_left, exists_eq_left', exists_eq, exists_eq', and_true, true_and, and_self, and_assoc, decide_eq_true_eq, Nat.reduceAdd, Nat.reduceSub, Nat.add_one_sub_one, Nat.sub_self, Nat.zero_add, reduceCtorEq, eq_self, not_true_eq_false, not_false_eq_true, false_and, and_false, exists_false, false_or, or_false, if_true, if_false, ite_true, ite_false, Bool.false_eq_true, Bool.not_true, Bool.not_false, Bool.not_eq_true', decide_eq_false_iff_not]))
local macro_rules | `(tactic| walk_at "rh") => `(tactic| ((try refine jH ?_); walk_at "rd"))
local macro_rules | `(tactic| walk_at "ro") => `(tactic| ((try simp only [L2.start, L2.stC, List.map_cons, List.map_nil, List.length_cons, List.length_nil, List.replicate_succ, List.replicate_zero, List.nil_append, List.cons_append, Nat.reduceAdd, Nat.reduceSub, Nat.zero_add, Nat.sub_self, Nat.add_one_sub_one]); (try dsimp only [RH, eT, cZ, LB, PY, PZ, cR, gD, dO, ipI, NV, TF, NZ, rIn, gY, bX, gA, TQ, WH, NP, tOp, tUn, rI, rI0, rU, aQ, tC, cK, PM, eO, UZ, UK, PQ, WK, cW, eU, tCB, dP, gI, tOr, UU, tB, tIf, cL, RJ, eZ, UD, gR, L2.start, bJ, cA, MJ, UE, UI, TU, dH, KG, L2.stC, tBM, KO, List.getElem?_cons_zero, List.getElem?_cons_succ, List.set_cons_zero, List.set_cons_succ, List.map_cons, List.map_nil, List.length_cons, List.length_nil, List.replicate_succ, List.replicate_zero, List.nil_append, List.cons_append, Nat.reduceAdd, Nat.reduceSub, Nat.zero_add, UJ, US, tBD, MQ, UX, SW, IJ, rID, OL, rUD, gT, fW, KQ, PR, PK, TC, NJ, QB, OO, KP, TY, YO, gW, fgE, HM, JC, OU, OI, UB, TK, fJ, tDZ, OE, HB, MW, IF, tHc, MZ, UT, eQ, eL, fZ, UQ, cN, IB, DX, GJ, oBl, QY, o0, o1, o2, oC]); try simp only [AB, YE, HO.ins.injEq, UJ, US, tBD, MQ, UX, SW, IJ, rID, OL, rUD, gT, fW, KQ, PR, PK, TC, NJ, QB, OO, KP, TY, YO, gW, fgE, HM, JC, OU, OI, UB, TK, fJ, tDZ, OE, HB, MW, IF, tHc, MZ, UT, eQ, eL, fZ, UQ, cN, IB, DX, GJ, oBl, QY, o0, o1, o2, oC, RH, eT, cZ, LB, PY, PZ, cR, gD, dO, ipI, NV, TF, NZ, rIn, gY, bX, gA, TQ, WH, NP, tOp, tUn, rI, rI0, rU, aQ, tC, cK, PM, eO, UZ, UK, PQ, WK, cW, eU, tCB, dP, gI, tOr, UU, tB, tIf, cL, RJ, eZ, UD, gR, L2.start, bJ, cA, MJ, UE, UI, TU, dH, KG, L2.stC, tBM, KO, tyV, List.getElem?_cons_zero, List.getElem?_cons_succ, List.set_cons_zero, List.set_cons_succ, List.map_cons, List.map_nil, List.length_cons, List.length_nil, List.length_map, List.replicate_succ, List.replicate_zero, List.append_nil, List.nil_append, List.cons_append, Option.some.injEq, Option.join_some, V.int.injEq, V.bl.injEq, V.ref.injEq, V.str.injEq, List.cons.injEq, exists_and_left, exists_and_right, exists_eq_left, exists_eq_left', exists_eq, exists_eq', and_true, true_and, and_self, and_assoc, decide_eq_true_eq, Nat.reduceAdd, Nat.reduceSub, Nat.add_one_sub_one, Nat.sub_self, Nat.zero_add, reduceCtorEq, eq_self, not_true_eq_false, not_false_eq_true, false_and, and_false, exists_false, false_or, or_false, if_true, if_false, ite_true, ite_false, Bool.false_eq_true, Bool.not_true, Bool.not_false, Bool.not_eq_true', decide_eq_false_iff_not]))
theorem kk {k : Int} (h0 : 0 ≤ k) (h1 : k ≤ 100) : 0 ≤ k * k ∧ k * k ≤ 10000 := by
 have a : k * k ≤ 100 * 100 := Int.mul_le_mul h1 h1 h0 (by decide)
 have a0 : 0 ≤ k * k := Int.mul_nonneg h0 h0
 exact ⟨a0, a⟩
theorem zk {k z : Int} (h0 : 0 ≤ k) (h1 : k ≤ 100) (z0 : 0 ≤ z) (z1 : z < 10 ^ 40) : 0 ≤ z * (48271 + k) ∧ z * (48271 + k) ≤ 10 ^ 40 * 48371 := by
 have b : z * (48271 + k) ≤ 10 ^ 40 * 48371 := Int.mul_le_mul (by omega) (by omega) (by omega) (by decide)
 exact ⟨Int.mul_nonneg z0 (by omega), b⟩
structure Pl where
 a : Int
 b : Int
 c : Int
 d : Int
def HW (h : Int) : Pl := if h % 8 = 0 then ⟨1, 0, 0, 0⟩ else if h % 8 = 1 then ⟨0, 1, 0, 1⟩ else if h % 8 = 2 then ⟨0, 0, 1, 0⟩ else if h % 8 = 3 then ⟨0, -1, 0, 1⟩ else if h % 8 = 4 then ⟨-1, 0, 0, 0⟩ else if h % 8 = 5 then ⟨0, -1, 0, -1⟩ else if h % 8 = 6 then ⟨0, 0, -1, 0⟩ else ⟨0, 1, 0, -1⟩
def mv (p : Pl) (h n : Int) : Pl := ⟨p.a + (HW h).a * n, p.b + (HW h).b * n, p.c + (HW h).c * n, p.d + (HW h).d * n⟩
abbrev Pl.D (p : Pl) : L2.D := plc p.a p.b p.c p.d
theorem pH (h : Int) : h % 8 = 0 ∨ h % 8 = 1 ∨ h % 8 = 2 ∨ h % 8 = 3 ∨ h % 8 = 4 ∨ h % 8 = 5 ∨ h % 8 = 6 ∨ h % 8 = 7 := by omega
theorem iJ (h : Int) : (match KU with | .tup ds => ds.getD (h % 8).toNat .non | _ => .non) = .tup [num (HW h).a (HW h).b, num (HW h).c (HW h).d] := by
 rcases pH h with e | e | e | e | e | e | e | e <;> simp only [HW, e] <;> rfl
structure Txt (K : PySem.W.Frag) (mg : Str → Option Value) (t : Adr) : Prop where
 plus : Own K mg "plus" LQ ["one", "other"] t.a_plus t.d_plus
 minus : Own K mg "minus" IS ["one", "other"] t.a_minus t.d_minus
 times : Own K mg "times" JB ["number", "factor"] t.a_times t.d_times
 moved : Own K mg "moved" IR ["place", "heading", "steps"] t.a_moved t.d_moved
 Hand_init : lI K t.c_Hand "__init__" "Hand.__init__" EL ["self"] t.a_Hand_init t.d_Hand_init
 Hand_cometo : LA K t.c_Hand "come_to" "Hand.come_to" DL ["self", "spot"] t.a_Hand_cometo t.d_Hand_cometo
 Hand_go : LA K t.c_Hand "go" "Hand.go" FO ["self", "steps"] t.a_Hand_go t.d_Hand_go
 Hand_turn : LA K t.c_Hand "turn" "Hand.turn" EJ ["self", "eighths"] t.a_Hand_turn t.d_Hand_turn
 Hand_back : LA K t.c_Hand "back" "Hand.back" EH ["self", "number"] t.a_Hand_back t.d_Hand_back
 Hand_act : LA K t.c_Hand "act" "Hand.act" FA ["self", "statement"] t.a_Hand_act t.d_Hand_act
 Hand_end : LA K t.c_Hand "end" "Hand.end" FT ["self"] t.a_Hand_end t.d_Hand_end
 worth : Own K mg "worth" IY ["amount", "sources"] t.a_worth t.d_worth
 Level_init : lI K t.c_Level "__init__" "Level.__init__" DV ["self", "body", "sources"] t.a_Level_init t.d_Level_init
 Level_isatend : LA K t.c_Level "is_at_end" "Level.is_at_end" CT ["self"] t.a_Level_isatend t.d_Level_isatend
 Level_isthrough : LA K t.c_Level "is_through" "Level.is_through" CF ["self"] t.a_Level_isthrough t.d_Level_isthrough
 Level_beginround : LA K t.c_Level "begin_round" "Level.begin_round" BZ ["self"] t.a_Level_beginround t.d_Level_beginround
 Level_nextstatement : LA K t.c_Level "next_statement" "Level.next_statement" BL ["self"] t.a_Level_nextstatement t.d_Level_nextstatement
 againlevel : Own K mg "again_level" DW ["body", "sources", "rounds"] t.a_againlevel t.d_againlevel
 Walk_init : lI K t.c_Walk "__init__" "Walk.__init__" DR ["self", "program"] t.a_Walk_init t.d_Walk_init
 Walk_isdone : LA K t.c_Walk "is_done" "Walk.is_done" DH ["self"] t.a_Walk_isdone t.d_Walk_isdone
 Walk_dodeed : LA K t.c_Walk "do_deed" "Walk.do_deed" DM ["self"] t.a_Walk_dodeed t.d_Walk_dodeed
 Walk_begin : LA K t.c_Walk "begin" "Walk.begin" DD ["self", "statement", "sources"] t.a_Walk_begin t.d_Walk_begin
 Walk_act : LA K t.c_Walk "act" "Walk.act" EZ ["self", "statement"] t.a_Walk_act t.d_Walk_act
 walked : Own K mg "walked" GR ["program", "most"] t.a_walked t.d_walked
 legsbetween : Own K mg "legs_between" DJ ["start", "end"] t.a_legsbetween t.d_legsbetween
 turnbetween : Own K mg "turn_between" DK ["heading", "wanted"] t.a_turnbetween t.d_turnbetween
 wayto : Own K mg "way_to" JA ["start", "heading", "end"] t.a_wayto t.d_wayto
 withpenup : Own K mg "with_pen_up" EG ["statements"] t.a_withpenup t.d_withpenup
 wayback : Own K mg "way_back" FP ["hand", "number"] t.a_wayback t.d_wayback
 putin : Own K mg "put_in" HJ ["program", "most"] t.a_putin t.d_putin
 Lcell : Own K mg "_law_cell" JD ["_law_script", "_law_k"] t.a_Lcell t.d_Lcell
 Lmixed : Own K mg "_law_mixed" GO ["_law_cell_here", "_law_k"] t.a_Lmixed t.d_Lmixed
 Lrow : Own K mg "_law_row" JO ["_law_cell_here", "_law_most", "_law_many"] t.a_Lrow t.d_Lrow
 Lrefused : Own K mg "_law_refused" EW ["_law_body", "_law_most"] t.a_Lrefused t.d_Lrefused
 Lbydeeds : Own K mg "_law_by_deeds" EE ["_law_row_here"] t.a_Lbydeeds t.d_Lbydeeds
 Lbybacks : Own K mg "_law_by_backs" EY ["_law_many"] t.a_Lbybacks t.d_Lbybacks
 Lbysteps : Own K mg "_law_by_steps" FB ["_law_row_here"] t.a_Lbysteps t.d_Lbysteps
 law : Own K mg "law" QH ["_law_script"] t.a_law t.d_law
 cl_Hand : Cls K t.c_Hand
 mg_Hand : mg "Hand" = some (.ref t.c_Hand)
 n_Hand_spot : BY K t.c_Hand "spot"
 n_Hand_heading : BY K t.c_Hand "heading"
 n_Hand_down : BY K t.c_Hand "down"
 n_Hand_ink : BY K t.c_Hand "ink"
 n_Hand_turned : BY K t.c_Hand "turned"
 n_Hand_marks : BY K t.c_Hand "marks"
 n_Hand_strokes : BY K t.c_Hand "strokes"
 n_Hand_corners : BY K t.c_Hand "corners"
 cl_Level : Cls K t.c_Level
 mg_Level : mg "Level" = some (.ref t.c_Level)
 n_Level_body : BY K t.c_Level "body"
 n_Level_sources : BY K t.c_Level "sources"
 n_Level_at : BY K t.c_Level "at"
 n_Level_begun : BY K t.c_Level "begun"
 n_Level_rounds : BY K t.c_Level "rounds"
 cl_Walk : Cls K t.c_Walk
 mg_Walk : mg "Walk" = some (.ref t.c_Walk)
 n_Walk_bodies : BY K t.c_Walk "bodies"
 n_Walk_levels : BY K t.c_Walk "levels"
 n_Walk_hand : BY K t.c_Walk "hand"
 n_Walk_acts : BY K t.c_Walk "acts"
 z_ValueError : mg "ValueError" = none
 z_dict : mg "dict" = none
 z_int : mg "int" = none
 z_isinstance : mg "isinstance" = none
 z_len : mg "len" = none
 z_max : mg "max" = none
 z_min : mg "min" = none
 z_range : mg "range" = none
 z_tuple : mg "tuple" = none
 z_zip : mg "zip" = none
 g_ROUND : mg "ROUND" = some t.u_ROUND
 r_ROUND : AY t.v_ROUND t.u_ROUND
 k_ROUND : ∀ H, Rp K H KA t.v_ROUND
 g_EAST : mg "EAST" = some t.u_EAST
 r_EAST : AY t.v_EAST t.u_EAST
 k_EAST : ∀ H, Rp K H XA t.v_EAST
 g_NORTH_EAST : mg "NORTH_EAST" = some t.u_NORTH_EAST
 r_NORTH_EAST : AY t.v_NORTH_EAST t.u_NORTH_EAST
 k_NORTH_EAST : ∀ H, Rp K H HD t.v_NORTH_EAST
 g_NORTH : mg "NORTH" = some t.u_NORTH
 r_NORTH : AY t.v_NORTH t.u_NORTH
 k_NORTH : ∀ H, Rp K H SB t.v_NORTH
 g_SOUTH_EAST : mg "SOUTH_EAST" = some t.u_SOUTH_EAST
 r_SOUTH_EAST : AY t.v_SOUTH_EAST t.u_SOUTH_EAST
 k_SOUTH_EAST : ∀ H, Rp K H HA t.v_SOUTH_EAST
 g_BEGINNING : mg "BEGINNING" = some t.u_BEGINNING
 r_BEGINNING : AY t.v_BEGINNING t.u_BEGINNING
 k_BEGINNING : ∀ H, Rp K H LZ t.v_BEGINNING
 g_STEPS : mg "STEPS" = some t.u_STEPS
 r_STEPS : AY t.v_STEPS t.u_STEPS
 k_STEPS : ∀ H, Rp K H KU t.v_STEPS
 g_INKS : mg "INKS" = some t.u_INKS
 r_INKS : AY t.v_INKS t.u_INKS
 k_INKS : ∀ H, Rp K H WT t.v_INKS
 g_MOST_AMOUNT : mg "MOST_AMOUNT" = some t.u_MOST_AMOUNT
 r_MOST_AMOUNT : AY t.v_MOST_AMOUNT t.u_MOST_AMOUNT
 k_MOST_AMOUNT : ∀ H, Rp K H FC t.v_MOST_AMOUNT
 g_NUMBERS : mg "NUMBERS" = some t.u_NUMBERS
 r_NUMBERS : AY t.v_NUMBERS t.u_NUMBERS
 k_NUMBERS : ∀ H, Rp K H LP t.v_NUMBERS
 g_MOST_BACKS : mg "MOST_BACKS" = some t.u_MOST_BACKS
 r_MOST_BACKS : AY t.v_MOST_BACKS t.u_MOST_BACKS
 k_MOST_BACKS : ∀ H, Rp K H HQ t.v_MOST_BACKS
 mg_NoProgram : mg "NoProgram" = some (.ref t.c_NoProgram)
 x_NoProgram : CP K t.c_HouseError t.c_NoProgram = true
 mg_NoText : mg "NoText" = some (.ref t.c_NoText)
 x_NoText : CP K t.c_HouseError t.c_NoText = true
 mg_NoMark : mg "NoMark" = some (.ref t.c_NoMark)
 x_NoMark : CP K t.c_HouseError t.c_NoMark = true
 mg_TooGreat : mg "TooGreat" = some (.ref t.c_TooGreat)
 x_TooGreat : CP K t.c_HouseError t.c_TooGreat = true
 mg_TooLong : mg "TooLong" = some (.ref t.c_TooLong)
 x_TooLong : CP K t.c_HouseError t.c_TooLong = true
 mg_NotWhole : mg "NotWhole" = some (.ref t.c_NotWhole)
 x_NotWhole : CP K t.c_HouseError t.c_NotWhole = true
 mg_HouseError : mg "HouseError" = some (.ref t.c_HouseError)
 xH : OW K t.c_HouseError = true
 xK : exK K t.c_HouseError [t.c_NoProgram, t.c_NoText, t.c_NoMark, t.c_TooGreat, t.c_TooLong, t.c_NotWhole] = true
 nx : [t.c_NoProgram, t.c_NoText, t.c_NoMark, t.c_TooGreat, t.c_TooLong, t.c_NotWhole].Nodup
section
variable {P : Program} {w : World} {K : PySem.W.Frag} {mg : Str → Option Value} {base : Heap} {t : Adr}
def fR (K : PySem.W.Frag) : Sp := fun vs H Q _ => ∃ (a : Addr) (ns : List Int) (k : Int), vs = [.ref a, .int k] ∧ SqL K H a (ns.map V.int) ∧ ns.length ≤ 63 ∧ 0 ≤ k ∧ k ≤ 100 ∧ ∀ z, Q (.int z) H
theorem TB (T : Txt K mg t) : BF P w K mg base CX0 1 t.a_Lcell t.d_Lcell ["_law_script", "_law_k"] (fR K) := by
 refine T.Lcell.F.ok ND (fun vs H Q E h => ?_) (fun cdv A outer s H vs Q E hr h => ?_)
 ·obtain ⟨a, ns, k, rfl, _⟩ := h; rfl
 ·obtain ⟨a, ns, k, rfl, hS, hl, k0, k1, q⟩ := h
  have hk := kk k0 k1
  refine ⟨_, s!"{cI}1A{CK}{T.z_len}{PySem.boot_len}0ACBb{BB _}R{CO}0A1AHNFYO2{ND.nd}{BV}{CC}{CC}1A1AGDGDGI{JS}{CK}{T.z_len}{PySem.boot_len}0ACBbD{BB _}R2{ND.nd}{BV}2A{CC}{CB}{CO}0A{CB}{CC}1ADG{CK}{T.z_len}{PySem.boot_len}0ACBbGH{HS}DDGG{BV}D1AGGGIFYO{CB}{CC}2A2AGDGNFEEE", ?_⟩
  walk_at "rd"
  refine ⟨_, .inl hS, ?_⟩
  walk_at "rd"
  split
  ·rename_i c
   obtain ⟨z, _, hz⟩ := SU k0 c
   exact ⟨_, hS, _, hz, q z⟩
  ·rename_i c
   refine ⟨FG (by omega) (by omega), IV (by decide) (by decide), _, .inl hS, ?_⟩
   walk_at "rd"
   split
   ·rename_i d
    refine ⟨IV (by decide) (by decide), _, .inl hS, ?_⟩
    walk_at "rd"
    have hp : (0 : Int) < ns.length := by omega
    obtain ⟨z, _, hz⟩ := SU (ns := ns) (Int.emod_nonneg (k * 7) (by omega)) (Int.emod_lt_of_pos (k * 7) hp)
    refine ⟨hp, _, hS, _, hz, ?_⟩
    walk_at "rd"
    refine ⟨⟨by decide, by decide, by decide⟩, by decide, IV (by omega) (by omega), ?_⟩
    have h1 := zk k0 k1 (Int.emod_nonneg z (by decide : (10 : Int) ^ 40 ≠ 0)) (Int.emod_lt_of_pos z (by decide : (0 : Int) < 10 ^ 40))
    have e40 : (10 : Int) ^ Int.toNat 40 = 10 ^ 40 := rfl
    rw [e40]
    generalize z % 10 ^ 40 * (48271 + k) = y at h1 ⊢
    refine ⟨WS 200 200 (by omega) (by omega) (by decide), by decide, q _⟩
   ·exact ⟨FG (by omega) (by omega), by decide, q _⟩
def ZQ : Sp := fun vs H Q _ => ∃ (c k : Int), vs = [.int c, .int k] ∧ 0 ≤ k ∧ k ≤ 100 ∧ ∀ z, Q (.int z) H
theorem aC (T : Txt K mg t) : BF P w K mg base CX0 1 t.a_Lmixed t.d_Lmixed ["_law_cell_here", "_law_k"] ZQ := by
 refine T.Lmixed.F.ok JF (fun vs H Q E h => ?_) (fun cdv A outer s H vs Q E hr h => ?_)
 ·obtain ⟨c, k, rfl, _⟩ := h; rfl
 ·obtain ⟨c, k, rfl, k0, k1, q⟩ := h
  have hk := kk k0 k1
  have md : ∀ x : Int, 0 ≤ x % 2305843009213693951 ∧ x % 2305843009213693951 < 2305843009213693951 := fun x => ⟨Int.emod_nonneg x (by decide), Int.emod_lt_of_pos x (by decide)⟩
  refine ⟨_, s!"2{JF.nd}{CB}{BV}{BV}0A{CC}{CC}1A1AGDGGDGDGI2{JF.nd}{CB}{CC}2A2AGDGI2{JF.nd}{CB}{CC}{BV}{BV}2A{CC}1ADGGDGDGDGI{IX}{CB}{CC}2A2AGDGDGNFEEE", ?_⟩
  walk_at "rd"
  refine ⟨FG (by omega) (by omega), IV (by decide) (by decide), by decide, ?_⟩
  have h1 := md (c + k * k * 40503 + 12345)
  generalize (c + k * k * 40503 + 12345) % 2305843009213693951 = x1 at h1 ⊢
  refine ⟨FG (by omega) (by omega), by decide, ?_⟩
  have h2 := md (x1 * x1)
  generalize x1 * x1 % 2305843009213693951 = x2 at h2 ⊢
  refine ⟨FG (by omega) (by omega), IV (by decide) (by decide), by decide, ?_⟩
  have h3 := md ((x2 + k * 7919 + 1) * 48271)
  generalize (x2 + k * 7919 + 1) * 48271 % 2305843009213693951 = x3 at h3 ⊢
  refine ⟨FG (by omega) (by omega), by decide, by decide, by decide, q _⟩
def kB : Sp := fun vs H Q _ => ∃ (c most many : Int), vs = [.int c, .int most, .int many] ∧ 0 < most ∧ most < 2 ^ 100 ∧ 0 ≤ many ∧ many ≤ 60 ∧
 ∀ (l : Addr) (xs : List Int) (H' : Hp), AI H H' → H l = none → H' l = some (.lst (xs.map V.int)) → xs.length = many.toNat → (∀ x ∈ xs, 0 ≤ x ∧ x < most) → Q (.ref l) H'
def mW (c m n : Int) (l : Addr) (H : Hp) (i : Nat) (σ : L2.St) (H2 : Hp) : Prop := ∃ (xs : List Int) (r : Int) (kv : Option V), σ = [some (.int c), some (.int m), some (.int n), some (.ref l), some (.int r), kv] ∧ H2 = upd H l (.lst (xs.map V.int)) ∧ xs.length = i ∧ ∀ x ∈ xs, 0 ≤ x ∧ x < m
def iV (c m : Int) (p : Addr) (H : Hp) (i : Nat) (σ : L2.St) (H2 : Hp) : Prop := ∃ (ys : List Int) (kv : Option V), σ = [some (.int m), some (.int c), kv] ∧ AI H H2 ∧ H2 p = some (.lst (ys.map V.int)) ∧ ys.length = i ∧ ∀ x ∈ ys, 0 ≤ x ∧ x < m
theorem YK (T : Txt K mg t) : BF P w K mg base CX0 2 t.a_Lrow t.d_Lrow ["_law_cell_here", "_law_most", "_law_many"] kB := by
 refine T.Lrow.F.ok KY (fun vs H Q E h => ?_) (fun cdv A outer s H vs Q E hr h => ?_)
 ·obtain ⟨c, m, n, rfl, _⟩ := h; rfl
 ·obtain ⟨c, m, n, rfl, m0, m1, n0, n1, q⟩ := h
  have md : ∀ x : Int, 0 ≤ x % m ∧ x % m < m := fun x => ⟨Int.emod_nonneg x (by omega), Int.emod_lt_of_pos x m0⟩
  refine ⟨_, s!"3{KY.nd}CZI4{KY.nd}0AI{PassesOwn.never}2ACBr5{KY.nd}M{PySem.F.slot_list_append}{PySem.F.type_list_append}{DT}3A{CB}4A1AGCBfW4{KY.nd}{IX}4A1AGIFEn{JS}4AD{BB _}R3ANFYO{AE JO}{["_law_cell_here", "_law_most", "_law_many", "_law_found", "_law_rest", "_law_k"]}{["_law_most", "_law_cell_here", "_law_k"]}{["_law_k"]}{[1, 0]}2ACBr{fun _ _ _ _ => s!"2{show List.Nodup (["_law_most", "_law_cell_here", "_law_k"] : List Str) by decide +kernel}M"}{fun _ _ _ _ => s!"w"}{fun _ _ _ _ => s!"{CB}{aC T}{hr.mono (by decide)}{T.Lmixed.m}{T.Lmixed.F.kp}{T.Lmixed.b}{CM}1A2ACBBL0AG"}vNFEEEE", ?_⟩
  walk_at "rd"
  refine ⟨Nat.zero_le _, fun l hl => ⟨by omega, by omega, ?_⟩⟩
  refine NG (mW c m n l H) ⟨[], c, none, rfl, rfl, rfl, by intro x hx; cases hx⟩ ?_ ?_
  ·rintro i σ H2 hi ⟨xs, r, kv, rfl, rfl, hx, hb⟩
   walk_at "rd"
   refine ⟨.inl ⟨_, SqL.of AB⟩, m0, ?_⟩
   refine ⟨_, AB, QG (by rw [List.length_map]; omega), m0, m1, xs ++ [r % m], _, _, rfl, ?_, ?_, ?_⟩
   ·rw [YE, List.map_append]; rfl
   ·rw [List.length_append, hx]; rfl
   ·intro x h
    rcases List.mem_append.mp h with h | h
    ·exact hb x h
    ·rw [List.mem_singleton.mp h]; exact md r
  ·rintro σ H2 ⟨xs, r, kv, rfl, rfl, hx, hb⟩
   walk_at "rd"
   split
   ·exact q l xs _ (AI.upd hl) hl AB hx hb
   ·refine ⟨by omega, by omega, fun p hp => ?_⟩
    have hne : p ≠ l := fun e => by rw [e, AB] at hp; cases hp
    have hp0 : H p = none := by rw [AH hne] at hp; exact hp
    refine SY (iV c m p H) ⟨[], none, rfl, (AI.upd hl).upd2 hp0, AB, rfl, by intro x hx; cases hx⟩ ?_ ?_
    ·rintro i σ H2 hi ⟨ys, kv, rfl, sm, hy, hlen, hby⟩
     walk_at "rd"
     refine ⟨_, _, rfl, by omega, by omega, fun z => ?_⟩
     walk_at "rd"
     refine ⟨m0, _, hy, QG (by rw [List.length_map]; omega), nx hi ⟨ys ++ [z % m], _, rfl, sm.upd2 hp0, ?_, ?_, ?_⟩⟩
     ·rw [AB, List.map_append]; rfl
     ·rw [List.length_append, hlen]; rfl
     ·intro x h
      rcases List.mem_append.mp h with h | h
      ·exact hby x h
      ·rw [List.mem_singleton.mp h]; exact md z
    ·rintro σ H2 ⟨ys, kv, rfl, sm, hy, hlen, hby⟩
     exact q p ys _ sm hp0 hy hlen hby
def jK (K : PySem.W.Frag) : Sp := fun vs H Q _ => ∃ (x y : V) (a b c d : Int), vs = [x, y] ∧ Rp K H (num a b) x ∧ Rp K H (num c d) y ∧ ∀ v H', AI H H' → Rp K H' (num (a + c) (b + d)) v → Q v H'
theorem XI (T : Txt K mg t) : BF P w K mg base CX0 1 t.a_plus t.d_plus ["one", "other"] (jK K) := by
 refine T.plus.F.ok iM (fun vs H Q E h => ?_) (fun cdv A outer s H vs Q E hr h => ?_)
 ·obtain ⟨x, y, a, b, c, d, rfl, _⟩ := h; rfl
 ·obtain ⟨x, y, a, b, c, d, rfl, hx, hy, q⟩ := h
  obtain ⟨p, rfl, hp⟩ := KZ.mp hx
  obtain ⟨p', rfl, hp'⟩ := KZ.mp hy
  refine ⟨_, s!"{BV}{BA}0ADH{BA}1ADHG{BV}{BA}0ADH{BA}1ADHGCBBPNF", ?_⟩
  walk_at "rd"
  refine ⟨_, hp, _, rfl, ?_⟩
  walk_at "rd"
  refine ⟨_, hp', _, rfl, ?_⟩
  walk_at "rd"
  refine ⟨_, hp, _, rfl, ?_⟩
  walk_at "rd"
  refine ⟨_, hp', _, rfl, ?_⟩
  walk_at "rd"
  exact ⟨by decide, fun p hp => q _ _ (AI.upd hp) (KZ.mpr ⟨p, rfl, SqT.of AB⟩)⟩
def dD (K : PySem.W.Frag) : Sp := fun vs H Q _ => ∃ (x : V) (a b f : Int), vs = [x, .int f] ∧ Rp K H (num a b) x ∧ (-(2 ^ 60) ≤ f ∧ f ≤ 2 ^ 60) ∧ ∀ v H', AI H H' → Rp K H' (num (a * f) (b * f)) v → Q v H'
theorem VA (T : Txt K mg t) : BF P w K mg base CX0 1 t.a_times t.d_times ["number", "factor"] (dD K) := by
 refine T.times.F.ok fT (fun vs H Q E h => ?_) (fun cdv A outer s H vs Q E hr h => ?_)
 ·obtain ⟨x, a, b, f, rfl, _⟩ := h; rfl
 ·obtain ⟨x, a, b, f, rfl, hx, hf, q⟩ := h
  obtain ⟨p, rfl, hp⟩ := KZ.mp hx
  have mo : ∀ z, IntMulOk z f := fun z => IV (by have := hf.1; omega) (by have := hf.2; omega)
  refine ⟨_, s!"{CC}{BA}0ADH1AG{CC}{BA}0ADH1AGCBBPNF", ?_⟩
  walk_at "rd"
  refine ⟨_, hp, _, rfl, ?_⟩
  walk_at "rd"
  refine ⟨mo _, _, hp, _, rfl, ?_⟩
  walk_at "rd"
  exact ⟨mo _, by decide, fun p hp => q _ _ (AI.upd hp) (KZ.mpr ⟨p, rfl, SqT.of AB⟩)⟩
def gZ (K : PySem.W.Frag) : Sp := fun vs H Q _ => ∃ (x : V) (p : Pl) (h n : Int), vs = [x, .int h, .int n] ∧ Rp K H p.D x ∧ (-(2 ^ 60) ≤ n ∧ n ≤ 2 ^ 60) ∧ ∀ v H', AI H H' → Rp K H' (mv p h n).D v → Q v H'
theorem gU (T : Txt K mg t) : BF P w K mg base CX0 2 t.a_moved t.d_moved ["place", "heading", "steps"] (gZ K) := by
 refine T.moved.F.ok IC (fun vs H Q E h => ?_) (fun cdv A outer s H vs Q E hr h => ?_)
 ·obtain ⟨x, p, h, n, rfl, _⟩ := h; rfl
 ·obtain ⟨x, p, h, n, rfl, hx, hn, q⟩ := h
  obtain ⟨a0, x1, y1, rfl, hs, hx1, hy1⟩ := CN.mp hx
  refine ⟨_, s!"0A3{IC.nd}M4{IC.nd}MdSSgk{BA}_{T.g_STEPS}{T.r_STEPS}X{CB}1A_{T.g_ROUND}{T.r_ROUND}XGH5{IC.nd}M6{IC.nd}MdSSgk{XI T}{hr.mono (by decide)}{T.plus.m}{T.plus.F.kp}{T.plus.b}{CM}3A{VA T}{hr.mono (by decide)}{T.times.m}{T.times.F.kp}{T.times.b}{CM}5A2ACBBLCBBL{XI T}{hr.mono (by decide)}{T.plus.m}{T.plus.F.kp}{T.plus.b}{CM}4A{VA T}{hr.mono (by decide)}{T.times.m}{T.times.F.kp}{T.times.b}{CM}6A2ACBBLCBBLCBBPNFEE", ?_⟩
  walk_at "rd"
  refine ⟨_, hs, rfl, ?_⟩
  have eR : t.v_ROUND = .int 8 := by have := T.k_ROUND H; rw [KA, Rp] at this; exact this
  have hS := T.k_STEPS H
  rw [KU, Rp] at hS
  obtain ⟨aS, xs, eS, hsS, hlS⟩ := hS
  rw [eR, eS]
  walk_at "rd"
  obtain ⟨v, hv, rv⟩ := hlS.atI (Int.emod_nonneg h (by decide : (8 : Int) ≠ 0)) (Int.emod_lt_of_pos h (by decide : (0 : Int) < 8))
  have hd := iJ h
  rw [KU] at hd
  dsimp only at hd
  rw [hd] at rv
  obtain ⟨a1, x2, y2, rfl, hs2, hx2, hy2⟩ := CN.mp rv
  refine ⟨by decide, _, hsS, _, hv, ?_⟩
  walk_at "rd"
  refine ⟨_, hs2, rfl, ?_⟩
  walk_at "rd"
  refine ⟨x2, _, _, n, rfl, hx2, hn, fun v1 H1 s1 hv1 => ?_⟩
  refine ⟨x1, v1, _, _, _, _, rfl, hx1.same s1, hv1, fun v2 H2 s2 hv2 => ?_⟩
  walk_at "rd"
  have s12 := s1.trans s2
  refine ⟨y2, _, _, n, rfl, hy2.same s12, hn, fun v3 H3 s3 hv3 => ?_⟩
  refine ⟨y1, v3, _, _, _, _, rfl, hy1.same (s12.trans s3), hv3, fun v4 H4 s4 hv4 => ?_⟩
  walk_at "rd"
  have s14 := (s12.trans s3).trans s4
  refine ⟨by decide, fun z hz => q _ _ (s14.upd2 (s14.free hz)) ?_⟩
  refine CN.mpr ⟨z, v2, v4, rfl, SqT.of AB, ?_, ?_⟩
  ·exact hv2.same ((s3.trans s4).trans (AI.upd hz))
  ·exact hv4.same (AI.upd hz)
end
section
variable {κ α : Type} [DecidableEq κ]
def lkA (l : List (κ × α)) (k : κ) : Option α := (l.find? fun z => decide (z.1 = k)).map (·.2)
def ptA (l : List (κ × α)) (k : κ) (x : α) : List (κ × α) := if (l.any fun z => decide (z.1 = k)) = true then l.map (fun z => if z.1 = k then (z.1, x) else z) else l ++ [(k, x)]
def As (f : κ → Key) (R : α → V → Prop) : List (κ × α) → List (Key × V) → Prop := Paired fun a b => b.1 = f a.1 ∧ R a.2 b.2
theorem As.get {f : κ → Key} (inj : ∀ a b, f a = f b → a = b) {R : α → V → Prop} {k : κ} : ∀ {l : List (κ × α)} {kvs : List (Key × V)}, As f R l kvs → (lkA l k = none → GM kvs (f k) = none) ∧ ∀ z, lkA l k = some z → ∃ v, GM kvs (f k) = some v ∧ R z v
 | _, _, .nil => ⟨fun _ => rfl, fun z e => by simp [lkA] at e⟩
 | (k', x) :: l, (j, v) :: kvs, .cons ⟨e, r⟩ t => by
  have e : j = f k' := e
  subst e
  have ih := As.get inj (k := k) t
  by_cases h : k' = k
  ·subst h
   refine ⟨fun e => by simp [lkA] at e, fun z e => ⟨v, by simp [GM], ?_⟩⟩
   simp [lkA] at e
   subst e
   exact r
  ·have h2 : ¬ f k' = f k := fun z => h (inj _ _ z)
   have e1 : lkA ((k', x) :: l) k = lkA l k := by simp [lkA, h]
   have e2 : GM ((f k', v) :: kvs) (f k) = GM kvs (f k) := by simp [GM, h2]
   rw [e1, e2]
   exact ih
theorem As.any {f : κ → Key} (inj : ∀ a b, f a = f b → a = b) {R : α → V → Prop} {k : κ} : ∀ {l : List (κ × α)} {kvs : List (Key × V)}, As f R l kvs → (kvs.any fun z => decide (z.1 = f k)) = (l.any fun z => decide (z.1 = k))
 | _, _, .nil => rfl
 | (k', x) :: l, (j, v) :: kvs, .cons ⟨e, r⟩ t => by
  have e : j = f k' := e
  subst e
  rw [List.any_cons, List.any_cons, As.any inj t]
  have : (f k' = f k) ↔ (k' = k) := ⟨inj _ _, fun z => by rw [z]⟩
  simp [this]
theorem As.app {f : κ → Key} {R : α → V → Prop} : ∀ {l l' : List (κ × α)} {kvs kvs' : List (Key × V)}, As f R l kvs → As f R l' kvs' → As f R (l ++ l') (kvs ++ kvs')
 | _, _, _, _, .nil, h => h
 | _ :: _, _, _ :: _, _, .cons r t, h => .cons r (As.app t h)
theorem As.map {f : κ → Key} (inj : ∀ a b, f a = f b → a = b) {R : α → V → Prop} {k : κ} {x : α} {v : V} (r : R x v) : ∀ {l : List (κ × α)} {kvs : List (Key × V)}, As f R l kvs → As f R (l.map fun z => if z.1 = k then (z.1, x) else z) (kvs.map fun z => if z.1 = f k then (z.1, v) else z)
 | _, _, .nil => .nil
 | (k', y) :: l, (j, u) :: kvs, .cons ⟨e, q⟩ t => by
  have e : j = f k' := e
  subst e
  refine .cons ?_ (As.map inj r t)
  by_cases h : k' = k
  ·subst h
   simp
   exact r
  ·have h2 : ¬ f k' = f k := fun z => h (inj _ _ z)
   simp [h, h2]
   exact q
theorem As.put {f : κ → Key} (inj : ∀ a b, f a = f b → a = b) {R : α → V → Prop} {l : List (κ × α)} {kvs : List (Key × V)} (h : As f R l kvs) {k : κ} {x : α} {v : V} (r : R x v) : As f R (ptA l k x) (ES kvs (f k) v) := by
 unfold ptA ES
 rw [As.any inj h]
 by_cases c : (l.any fun z => decide (z.1 = k)) = true
 ·rw [if_pos c, if_pos c]; exact As.map inj r h
 ·rw [if_neg c, if_neg c]; exact As.app h (.cons ⟨rfl, r⟩ .nil)
theorem As.mono {f : κ → Key} {R R' : α → V → Prop} (m : ∀ a v, R a v → R' a v) : ∀ {l : List (κ × α)} {kvs : List (Key × V)}, As f R l kvs → As f R' l kvs
 | _, _, .nil => .nil
 | _ :: _, _ :: _, .cons r t => .cons ⟨r.1, m _ _ r.2⟩ (As.mono m t)
theorem As.length {f : κ → Key} {R : α → V → Prop} : ∀ {l : List (κ × α)} {kvs : List (Key × V)}, As f R l kvs → l.length = kvs.length
 | _, _, .nil => rfl
 | _ :: _, _ :: _, .cons _ t => congrArg (· + 1) (As.length t)
theorem QN (l : List (κ × α)) (k : κ) (x : α) : (ptA l k x).length ≤ l.length + 1 := by
 unfold ptA
 split
 ·rw [List.length_map]; exact Nat.le_succ _
 ·rw [List.length_append]; exact Nat.le_refl _
end
theorem QS : ∀ a b : Int, (Sum.inl a : Key) = Sum.inl b → a = b := fun _ _ e => Sum.inl.inj e
theorem MF : ∀ a b : Str, (Sum.inr a : Key) = Sum.inr b → a = b := fun _ _ e => Sum.inr.inj e
inductive Ac where
 | go (n : Int) | turn (n : Int) | ink (n : Int) | up | down | mark (n : Int) | back (n : Int)
def Ac.D : Ac → L2.D
 | .go n => .tup [.str "go", .int n]
 | .turn n => .tup [.str "turn", .int n]
 | .ink n => .tup [.str "ink", .int n]
 | .up => .tup [.str "up"]
 | .down => .tup [.str "down"]
 | .mark n => .tup [.str "mark", .int n]
 | .back n => .tup [.str "back", .int n]
structure Hd where
 p : Pl
 h : Int
 dn : Bool
 ink : Int
 tu : Int
 st : List (Int × Pl × Pl)
 co : List Pl
 ms : List (Int × (Pl × Int))
def skD (x : Int × Pl × Pl) : L2.D := .tup [.int x.1, x.2.1.D, x.2.2.D]
def Hd.come (x : Hd) (q : Pl) : Hd := { x with p := q, co := x.co ++ [q] }
def stp (x : Hd) : Ac → Option Hd
 | .go n => some { x with p := mv x.p x.h n, st := if x.dn = true ∧ n ≠ 0 then x.st ++ [(x.ink, x.p, mv x.p x.h n)] else x.st, co := x.co ++ [mv x.p x.h n] }
 | .turn n => some { x with h := (x.h + n) % 8, tu := x.tu + n }
 | .ink n => some { x with ink := n % 8 }
 | .up => some { x with dn := false }
 | .down => some { x with dn := true }
 | .mark n => some { x with ms := ptA x.ms n (x.p, x.h) }
 | .back n => (lkA x.ms n).map fun z => { x with p := z.1, h := z.2, co := x.co ++ [z.1] }
def p0 : Pl := ⟨0, 0, 0, 0⟩
def hd0 : Hd := ⟨p0, 0, true, 0, 0, [], [p0], []⟩
structure Ha where
 (p ls lc lm : Addr)
abbrev Ha.l (a : Ha) : List Addr := [a.p, a.ls, a.lc, a.lm]
def hf (vp : V) (x : Hd) (a : Ha) : List (Str × V) := [("spot", vp), ("heading", .int x.h), ("down", .bl x.dn), ("ink", .int x.ink), ("turned", .int x.tu), ("marks", .ref a.lm), ("strokes", .ref a.ls), ("corners", .ref a.lc)]
abbrev MkR (K : PySem.W.Frag) (H : Hp) : (Pl × Int) → V → Prop := fun z v => Rp K H (.tup [z.1.D, .int z.2]) v
structure CH (K : PySem.W.Frag) (C : Addr) (H : Hp) (a : Ha) (x : Hd) : Prop where
 ob : ∃ dx vp, H a.p = some (.ins C dx (hf vp x a)) ∧ Rp K H x.p.D vp
 st : ∃ vs, H a.ls = some (.lst vs) ∧ RpL K H (x.st.map skD) vs
 co : ∃ vs, H a.lc = some (.lst vs) ∧ RpL K H (x.co.map Pl.D) vs
 ms : ∃ kvs, H a.lm = some (.dK kvs) ∧ As .inl (MkR K H) x.ms kvs
 ne : a.ls ≠ a.lc
theorem SJ {H : Hp} {a : Addr} {kvs : List (Key × V)} (h : H a = some (.dK kvs)) : ∀ u, H a = some u → ¬ ((∃ xs, u = .tup xs) ∨ ∃ o1 o2, u = .frz o1 o2) := by
 intro u e
 rw [h] at e; cases e
 rintro (⟨_, z⟩ | ⟨_, _, z⟩) <;> cases z
section
variable {P : Program} {w : World} {K : PySem.W.Frag} {mg : Str → Option Value} {base : Heap} {t : Adr}
theorem CD {K : PySem.W.Frag} {H : Hp} {d : L2.D} {ds : List L2.D} {v : V} {r : List V} (h1 : Rp K H d v) (h2 : RpL K H ds r) : RpL K H (d :: ds) (v :: r) := by rw [RpL]; exact ⟨_, _, rfl, h1, h2⟩
theorem l8 : (8 : Nat) < 1000 := by decide
theorem DO {n : Nat} (h : n ≤ 5000) : n < sizeLine := Nat.lt_of_le_of_lt h (by decide)
theorem UY (T : Txt K mg t) (H : Hp) : Rp K H p0.D t.v_BEGINNING := T.k_BEGINNING H
def cX (K : PySem.W.Frag) (C : Addr) : Sp := fun vs H Q _ => ∃ (p dx : Addr), vs = [.ref p] ∧ H p = some (.ins C dx []) ∧ ∀ (a : Ha) (H' : Hp), a.p = p → H a.ls = none → H a.lc = none → H a.lm = none → But [p] H H' → CH K C H' a hd0 → Q .non H'
theorem KC (T : Txt K mg t) : BF P w K mg base CX0 1 t.a_Hand_init t.d_Hand_init ["self"] (cX K t.c_Hand) := by
 refine T.Hand_init.F.ok QW (fun vs H Q E h => ?_) (fun cdv A outer s H vs Q E hr h => ?_)
 ·obtain ⟨p, dx, rfl, _⟩ := h; rfl
 ·obtain ⟨p, dx, rfl, hp, q⟩ := h
  refine ⟨_, s!"0A_{T.g_BEGINNING}{T.r_BEGINNING}XT0ADT0AoT0ADT0ADT0A{@UL _ _}T0ACZT0A_{T.g_BEGINNING}{T.r_BEGINNING}XCBZTFEEEEEEE", ?_⟩
  walk_at "ro"
  refine ⟨_, _, _, hp, T.cl_Hand, T.n_Hand_spot, by decide, ?_⟩
  refine ⟨T.cl_Hand, T.n_Hand_heading, (show (1 : Nat) < 1000 by decide), T.cl_Hand, T.n_Hand_down, (show (2 : Nat) < 1000 by decide), T.cl_Hand, T.n_Hand_ink, (show (3 : Nat) < 1000 by decide), T.cl_Hand, T.n_Hand_turned, (show (4 : Nat) < 1000 by decide), ?_⟩
  have g1 : ∀ o, (upd H p o) p = some o := fun o => AB
  have b1 : ∀ o, But [p] H (upd H p o) := fun o => (But.refl _ H).upd (.inr (by simp))
  generalize e1 : BE (Str.ofString "turned") (V.int 0) _ = f1
  have g1 := g1 (.ins t.c_Hand dx f1)
  have b1 := b1 (.ins t.c_Hand dx f1)
  generalize upd H p (.ins t.c_Hand dx f1) = G1 at g1 b1 ⊢
  intro lm hlm
  have nm := AK g1 hlm
  have fm := b1.free (by simp [g1]) hlm
  refine ⟨_, _, _, by rw [AH nm]; exact g1, T.cl_Hand, T.n_Hand_marks, by rw [← e1]; exact (show (5 : Nat) < 1000 by decide), by decide, ?_⟩
  have b2 : But [p] H (upd (upd G1 lm (.dK [])) p (.ins t.c_Hand dx (BE (Str.ofString "marks") (.ref lm) f1))) := (b1.upd (.inl fm)).upd (.inr (by simp))
  have g2 : (upd (upd G1 lm (.dK [])) p (.ins t.c_Hand dx (BE (Str.ofString "marks") (.ref lm) f1))) p = some (.ins t.c_Hand dx (BE (Str.ofString "marks") (.ref lm) f1)) := AB
  have m2 : (upd (upd G1 lm (.dK [])) p (.ins t.c_Hand dx (BE (Str.ofString "marks") (.ref lm) f1))) lm = some (.dK []) := by rw [AH nm.symm, AB]
  generalize upd (upd G1 lm (.dK [])) p (.ins t.c_Hand dx (BE (Str.ofString "marks") (.ref lm) f1)) = G2 at g2 b2 m2 ⊢
  intro ls hls
  have ns := AK g2 hls
  refine ⟨_, _, _, by rw [AH ns]; exact g2, T.cl_Hand, T.n_Hand_strokes, by rw [← e1]; exact (show (6 : Nat) < 1000 by decide), ?_⟩
  have fs := b2.free (by simp [g2]) hls
  have b3 : But [p] H (upd (upd G2 ls (.lst [])) p (.ins t.c_Hand dx (BE (Str.ofString "strokes") (.ref ls) (BE (Str.ofString "marks") (.ref lm) f1)))) := (b2.upd (.inl fs)).upd (.inr (by simp))
  have g3 : (upd (upd G2 ls (.lst [])) p (.ins t.c_Hand dx (BE (Str.ofString "strokes") (.ref ls) (BE (Str.ofString "marks") (.ref lm) f1)))) p = some (.ins t.c_Hand dx (BE (Str.ofString "strokes") (.ref ls) (BE (Str.ofString "marks") (.ref lm) f1))) := AB
  have l3 : (upd (upd G2 ls (.lst [])) p (.ins t.c_Hand dx (BE (Str.ofString "strokes") (.ref ls) (BE (Str.ofString "marks") (.ref lm) f1)))) ls = some (.lst []) := by rw [AH ns.symm, AB]
  have m3 : (upd (upd G2 ls (.lst [])) p (.ins t.c_Hand dx (BE (Str.ofString "strokes") (.ref ls) (BE (Str.ofString "marks") (.ref lm) f1)))) lm = some (.dK []) := by rw [AH nm.symm, AH (AK m2 hls)]; exact m2
  generalize upd (upd G2 ls (.lst [])) p (.ins t.c_Hand dx (BE (Str.ofString "strokes") (.ref ls) (BE (Str.ofString "marks") (.ref lm) f1))) = G3 at g3 b3 l3 m3 ⊢
  walk_at "ro"
  refine ⟨by decide, fun lc hlc => ?_⟩
  have nc := AK g3 hlc
  have ncl := AK l3 hlc
  refine ⟨_, _, _, by rw [AH nc]; exact g3, T.cl_Hand, T.n_Hand_corners, by rw [← e1]; exact (show (7 : Nat) < 1000 by decide), ?_⟩
  have fc := b3.free (by simp [g3]) hlc
  refine q ⟨p, ls, lc, lm⟩ _ rfl fs fc fm ((b3.upd (.inl fc)).upd (.inr (by simp))) ⟨⟨dx, t.v_BEGINNING, ?_, UY T _⟩, ⟨[], ?_, RpL.nil⟩, ⟨[t.v_BEGINNING], ?_, RpL.one (UY T _)⟩, ⟨[], ?_, .nil⟩, ncl⟩
  ·rw [AB, ← e1]; rfl
  ·rw [AH ns.symm, AH ncl]; exact l3
  ·rw [AH nc.symm, AB]
  ·rw [AH nm.symm, AH (AK m3 hlc)]; exact m3
theorem CH.same {C : Addr} {a : Ha} {H H' : Hp} {x : Hd} (h : CH K C H a x) (s : AI H H') : CH K C H' a x := by
 obtain ⟨⟨dx, vp, hp, rp⟩, ⟨vs1, hs, rs⟩, ⟨vs2, hc, rc⟩, ⟨kvs, hm, rm⟩, ne⟩ := h
 exact ⟨⟨dx, vp, s _ _ hp, rp.same s⟩, ⟨vs1, s _ _ hs, rs.same s⟩, ⟨vs2, s _ _ hc, rc.same s⟩, ⟨kvs, s _ _ hm, rm.mono fun z v r => Rp.same s r⟩, ne⟩
theorem CH.off {C : Addr} {a : Ha} {l : List Addr} {H H' : Hp} {x : Hd} (h : CH K C H a x) (b : But l H H') (st : AM H H') (n : ∀ c ∈ a.l, c ∉ l) : CH K C H' a x := by
 obtain ⟨⟨dx, vp, hp, rp⟩, ⟨vs1, hs, rs⟩, ⟨vs2, hc, rc⟩, ⟨kvs, hm, rm⟩, ne⟩ := h
 exact ⟨⟨dx, vp, b _ _ hp (n _ (by simp)), rp.t st⟩, ⟨vs1, b _ _ hs (n _ (by simp)), rs.t st⟩, ⟨vs2, b _ _ hc (n _ (by simp)), rc.t st⟩, ⟨kvs, b _ _ hm (n _ (by simp)), rm.mono fun z v r => Rp.t st r⟩, ne⟩
theorem CH.put {C dx : Addr} {a : Ha} {vp : V} {H : Hp} {x y : Hd} {fs : List (Str × V)} (h : CH K C H a x) (hp : H a.p = some (.ins C dx (hf vp x a))) (rp : Rp K H y.p.D vp) (e : fs = hf vp y a) (e1 : y.st = x.st) (e2 : y.co = x.co) (e3 : y.ms = x.ms) :
  But a.l H (upd H a.p (.ins C dx fs)) ∧ AM H (upd H a.p (.ins C dx fs)) ∧ CH K C (upd H a.p (.ins C dx fs)) a y := by
 subst e
 obtain ⟨_, ⟨vs1, hs, rs⟩, ⟨vs2, hc, rc⟩, ⟨kvs, hm, rm⟩, ne⟩ := h
 have st : AM H (upd H a.p (.ins C dx (hf vp y a))) := (AM.refl H).upd (GH hp)
 have n1 := GI hp hs
 have n2 := GI hp hc
 have n3 : a.p ≠ a.lm := BJ hp hm (by intro z; cases z)
 refine ⟨(But.refl _ H).upd (.inr (by simp)), st, ⟨dx, vp, AB, rp.t st⟩, ⟨vs1, by rw [AH n1.symm]; exact hs, ?_⟩, ⟨vs2, by rw [AH n2.symm]; exact hc, ?_⟩, ⟨kvs, by rw [AH n3.symm]; exact hm, ?_⟩, ne⟩
 ·rw [e1]; exact rs.t st
 ·rw [e2]; exact rc.t st
 ·rw [e3]; exact rm.mono fun z v r => Rp.t st r
def fU (K : PySem.W.Frag) (C : Addr) : Sp := fun vs H Q _ => ∃ (a : Ha) (v : V) (x : Hd) (q : Pl), vs = [.ref a.p, v] ∧ CH K C H a x ∧ Rp K H q.D v ∧ x.co.length ≤ 5000 ∧ ∀ H', But a.l H H' → AM H H' → CH K C H' a (x.come q) → Q .non H'
theorem IK (T : Txt K mg t) : BF P w K mg base CX0 1 t.a_Hand_cometo t.d_Hand_cometo ["self", "spot"] (fU K t.c_Hand) := by
 refine T.Hand_cometo.F.ok NB (fun vs H Q E h => ?_) (fun cdv A outer s H vs Q E hr h => ?_)
 ·obtain ⟨a, v, x, y, rfl, _⟩ := h; rfl
 ·obtain ⟨a, v, x, y, rfl, hA, hv, hc, q⟩ := h
  obtain ⟨⟨dx, vp, hp, rp⟩, ⟨vs1, hs, rs⟩, ⟨vs2, hc2, rc⟩, ⟨kvs, hm, rm⟩, ne⟩ := id hA
  have n1 := GI hp hs
  have n2 := GI hp hc2
  have n3 : a.p ≠ a.lm := BJ hp hm (by intro z; cases z)
  have n4 : a.lc ≠ a.lm := BJ hc2 hm (by intro z; cases z)
  refine ⟨_, s!"0A1AT{PySem.F.slot_list_append}{PySem.F.type_list_append}{DT}0AK1ACBfWFE", ?_⟩
  walk_at "ro"
  refine ⟨_, _, _, hp, T.cl_Hand, T.n_Hand_spot, l8, ?_⟩
  walk_at "ro"
  refine ⟨T.cl_Hand, T.n_Hand_corners, .ref a.lc, rfl, .inl ⟨vs2, ?_⟩, vs2, ?_, ?_, ?_⟩
  ·exact SqL.of (by rw [AH n2.symm]; exact hc2)
  ·rw [AH n2.symm]; exact hc2
  ·refine DO ?_; rw [rc.length, List.length_map]; exact hc
  ·have st : AM H (upd (upd H a.p (.ins t.c_Hand dx (BE (Str.ofString "spot") v (hf vp x a)))) a.lc (.lst (vs2 ++ [v]))) := ((AM.refl H).upd (GH hp)).upd (CS hc2)
   have bt : But a.l H (upd (upd H a.p (.ins t.c_Hand dx (BE (Str.ofString "spot") v (hf vp x a)))) a.lc (.lst (vs2 ++ [v]))) := ((But.refl _ H).upd (.inr (by simp))).upd (.inr (by simp))
   refine q _ bt st ⟨⟨dx, v, ?_, hv.t st⟩, ⟨vs1, ?_, rs.t st⟩, ⟨vs2 ++ [v], AB, ?_⟩, ⟨kvs, ?_, rm.mono fun z v r => Rp.t st r⟩, ne⟩
   ·rw [AH n2, AB]; rfl
   ·rw [AH ne, AH n1.symm]; exact hs
   ·show RpL K _ ((x.co ++ [y]).map Pl.D) _
    rw [List.map_append]
    exact (rc.t st).app (RpL.one (hv.t st))
   ·rw [AH n4.symm, AH n3.symm]; exact hm
end
theorem WA : (Str.ofString "go" = Str.ofString "again") = False := eq_false (by decide +kernel)
theorem jS : (Str.ofString "go" = Str.ofString "if") = False := eq_false (by decide +kernel)
theorem jG : (Str.ofString "go" = Str.ofString "do") = False := eq_false (by decide +kernel)
theorem ZV : (Str.ofString "turn" = Str.ofString "go") = False := eq_false (by decide +kernel)
theorem RA : (Str.ofString "turn" = Str.ofString "again") = False := eq_false (by decide +kernel)
theorem aW : (Str.ofString "turn" = Str.ofString "if") = False := eq_false (by decide +kernel)
theorem aA : (Str.ofString "turn" = Str.ofString "do") = False := eq_false (by decide +kernel)
theorem dW : (Str.ofString "ink" = Str.ofString "go") = False := eq_false (by decide +kernel)
theorem VU : (Str.ofString "ink" = Str.ofString "turn") = False := eq_false (by decide +kernel)
theorem UG : (Str.ofString "ink" = Str.ofString "again") = False := eq_false (by decide +kernel)
theorem cU : (Str.ofString "ink" = Str.ofString "if") = False := eq_false (by decide +kernel)
theorem fY : (Str.ofString "ink" = Str.ofString "do") = False := eq_false (by decide +kernel)
theorem iY : (Str.ofString "up" = Str.ofString "go") = False := eq_false (by decide +kernel)
theorem aE : (Str.ofString "up" = Str.ofString "turn") = False := eq_false (by decide +kernel)
theorem fQ : (Str.ofString "up" = Str.ofString "ink") = False := eq_false (by decide +kernel)
theorem aL : (Str.ofString "up" = Str.ofString "down") = False := eq_false (by decide +kernel)
theorem aB : (Str.ofString "up" = Str.ofString "mark") = False := eq_false (by decide +kernel)
theorem YM : (Str.ofString "up" = Str.ofString "back") = False := eq_false (by decide +kernel)
theorem VQ : (Str.ofString "up" = Str.ofString "again") = False := eq_false (by decide +kernel)
theorem iO : (Str.ofString "up" = Str.ofString "if") = False := eq_false (by decide +kernel)
theorem iU : (Str.ofString "up" = Str.ofString "do") = False := eq_false (by decide +kernel)
theorem aD : (Str.ofString "down" = Str.ofString "go") = False := eq_false (by decide +kernel)
theorem UM : (Str.ofString "down" = Str.ofString "turn") = False := eq_false (by decide +kernel)
theorem WW : (Str.ofString "down" = Str.ofString "ink") = False := eq_false (by decide +kernel)
theorem TV : (Str.ofString "down" = Str.ofString "mark") = False := eq_false (by decide +kernel)
theorem TW : (Str.ofString "down" = Str.ofString "back") = False := eq_false (by decide +kernel)
theorem RZ : (Str.ofString "down" = Str.ofString "again") = False := eq_false (by decide +kernel)
theorem ZF : (Str.ofString "down" = Str.ofString "if") = False := eq_false (by decide +kernel)
theorem YL : (Str.ofString "down" = Str.ofString "do") = False := eq_false (by decide +kernel)
theorem aM : (Str.ofString "mark" = Str.ofString "go") = False := eq_false (by decide +kernel)
theorem TN : (Str.ofString "mark" = Str.ofString "turn") = False := eq_false (by decide +kernel)
theorem VM : (Str.ofString "mark" = Str.ofString "ink") = False := eq_false (by decide +kernel)
theorem QR : (Str.ofString "mark" = Str.ofString "again") = False := eq_false (by decide +kernel)
theorem ZX : (Str.ofString "mark" = Str.ofString "if") = False := eq_false (by decide +kernel)
theorem ZN : (Str.ofString "mark" = Str.ofString "do") = False := eq_false (by decide +kernel)
theorem ZL : (Str.ofString "back" = Str.ofString "go") = False := eq_false (by decide +kernel)
theorem SK : (Str.ofString "back" = Str.ofString "turn") = False := eq_false (by decide +kernel)
theorem WI : (Str.ofString "back" = Str.ofString "ink") = False := eq_false (by decide +kernel)
theorem TJ : (Str.ofString "back" = Str.ofString "mark") = False := eq_false (by decide +kernel)
theorem QU : (Str.ofString "back" = Str.ofString "again") = False := eq_false (by decide +kernel)
theorem aI : (Str.ofString "back" = Str.ofString "if") = False := eq_false (by decide +kernel)
theorem YY : (Str.ofString "back" = Str.ofString "do") = False := eq_false (by decide +kernel)
theorem VH : (Str.ofString "if" = Str.ofString "again") = False := eq_false (by decide +kernel)
theorem VN : (Str.ofString "do" = Str.ofString "again") = False := eq_false (by decide +kernel)
theorem iC : (Str.ofString "do" = Str.ofString "if") = False := eq_false (by decide +kernel)
local macro_rules | `(tactic| walk_at "ws") => `(tactic| try simp only [WA, jS, jG, ZV, RA, aW, aA, dW, VU, UG, cU, fY, iY, aE, fQ, aL, aB, YM, VQ, iO, iU, aD, UM, WW, TV, TW, RZ, ZF, YL, aM, TN, VM, QR, ZX, ZN, ZL, SK, WI, TJ, QU, aI, YY, VH, VN, iC, if_true, if_false, decide_true, decide_false, Bool.false_eq_true, eq_self])
def Ac.ok : Ac → Prop
 | .go n => -1000000 ≤ n ∧ n ≤ 1000000
 | .turn n => -1000000 ≤ n ∧ n ≤ 1000000
 | .ink n => -1000000 ≤ n ∧ n ≤ 1000000
 | _ => True
theorem rp2 {K : PySem.W.Frag} {H : Hp} {x : Str} {n : Int} {v : V} (h : Rp K H (.tup [.str x, .int n]) v) : ∃ a, v = .ref a ∧ SqT K H a [.str x, .int n] := by
 obtain ⟨a, y, z, rfl, hs, hy, hz⟩ := CN.mp h
 have hy : y = .str x := by rw [Rp] at hy; exact hy
 have hz : z = .int n := by rw [Rp] at hz; exact hz
 subst hy; subst hz
 exact ⟨a, rfl, hs⟩
theorem rp1 {K : PySem.W.Frag} {H : Hp} {x : Str} {v : V} (h : Rp K H (.tup [.str x]) v) : ∃ a, v = .ref a ∧ SqT K H a [.str x] := by
 rw [Rp] at h
 obtain ⟨a, xs, rfl, hs, hl⟩ := h
 rw [RpL] at hl
 obtain ⟨y, r, rfl, hy, hr⟩ := hl
 rw [RpL] at hr
 rw [Rp] at hy
 subst hr; subst hy
 exact ⟨a, rfl, hs⟩
def Ac.xs : Ac → List V
 | .go n => [.str "go", .int n]
 | .turn n => [.str "turn", .int n]
 | .ink n => [.str "ink", .int n]
 | .up => [.str "up"]
 | .down => [.str "down"]
 | .mark n => [.str "mark", .int n]
 | .back n => [.str "back", .int n]
theorem oM {K : PySem.W.Frag} {H : Hp} {s : Ac} {v : V} (h : Rp K H s.D v) : ∃ a, v = .ref a ∧ SqT K H a s.xs := by
 cases s with
 | go n => exact rp2 h
 | turn n => exact rp2 h
 | ink n => exact rp2 h
 | mark n => exact rp2 h
 | back n => exact rp2 h
 | up => exact rp1 h
 | down => exact rp1 h
section
variable {P : Program} {w : World} {K : PySem.W.Frag} {mg : Str → Option Value} {base : Heap} {t : Adr}
def mO (K : PySem.W.Frag) (C : Addr) : Sp := fun vs H Q _ => ∃ (a : Ha) (x y : Hd) (n : Int), vs = [.ref a.p, .int n] ∧ CH K C H a x ∧ (-(2 ^ 60) ≤ n ∧ n ≤ 2 ^ 60) ∧ x.co.length ≤ 5000 ∧ x.st.length ≤ 5000 ∧ stp x (.go n) = some y ∧ ∀ H', But a.l H H' → AM H H' → CH K C H' a y → Q .non H'
theorem WG (T : Txt K mg t) : BF P w K mg base CX0 3 t.a_Hand_go t.d_Hand_go ["self", "steps"] (mO K t.c_Hand) := by
 refine T.Hand_go.F.ok NO (fun vs H Q E h => ?_) (fun cdv A outer s H vs Q E hr h => ?_)
 ·obtain ⟨a, x, y, n, rfl, _⟩ := h; rfl
 ·obtain ⟨a, x, y, n, rfl, hA, hn, hc, hst, ey, q⟩ := h
  obtain ⟨⟨dx, vp, hp, rp⟩, _, _, _, _⟩ := id hA
  refine ⟨_, s!"2{NO.nd}0AKI0A{T.cl_Hand}{T.Hand_cometo.mt}{IK T}{hr.mono (by decide)}{T.Hand_cometo.b}{CM}{gU T}{hr.mono (by decide)}{T.moved.m}{T.moved.F.kp}{T.moved.b}{CM}2A0AK1ACBBBLCBiW{@PW.pt _ _ _ s!"0AKe{JT}1AD{BB _}Ryx"}{PySem.F.slot_list_append}{PySem.F.type_list_append}{DT}0AK0AK2A0AKCBBBPCQfWFYOFEE", ?_⟩
  walk_at "ro"
  refine ⟨_, _, _, hp, T.cl_Hand, T.n_Hand_spot, vp, rfl, ?_⟩
  walk_at "ro"
  refine ⟨_, _, hp, rfl, _, _, _, hp, T.cl_Hand, T.n_Hand_heading, _, rfl, ?_⟩
  refine ⟨vp, x.p, x.h, n, rfl, rp, hn, fun v H1 s1 r1 => ?_⟩
  refine ⟨a, v, x, _, rfl, hA.same s1, r1, hc, fun H2 b2 t2 hB => ?_⟩
  walk_at "ro"
  have b02 : But a.l H H2 := s1.but.trans b2
  have t02 : AM H H2 := s1.t.trans t2
  obtain ⟨⟨dx2, vp2, hp2, rp2⟩, ⟨vs1, hs2, rs2⟩, ⟨vs2, hc2, rc2⟩, ⟨kvs, hm2, rm2⟩, ne2⟩ := id hB
  have ns := GI hp2 hs2
  refine ⟨_, _, _, hp2, T.cl_Hand, T.n_Hand_down, _, rfl, ?_⟩
  walk_at "ro"
  rw [show (x.come (mv x.p x.h n)).dn = x.dn from rfl]
  have ey := Option.some.inj ey
  by_cases hd : x.dn = true
  ·rw [if_pos hd]
   by_cases h0 : n = 0
   ·rw [if_neg (not_not_intro h0)]
    refine q H2 b02 t02 ?_
    have e : y = x.come (mv x.p x.h n) := by rw [← ey]; simp [Hd.come, h0]
    rw [e]; exact hB
   ·rw [if_pos h0]
    refine ⟨_, _, _, hp2, T.cl_Hand, T.n_Hand_strokes, .ref a.ls, rfl, .inl ⟨_, SqL.of hs2⟩, _, _, _, hp2, T.cl_Hand, T.n_Hand_ink, _, rfl, _, _, _, hp2, T.cl_Hand, T.n_Hand_spot, vp2, rfl, by decide, fun tp htp => ?_⟩
    walk_at "ro"
    have ntl := AK hs2 htp
    have ntp := AK hp2 htp
    have ntc := AK hc2 htp
    have ntm := AK hm2 htp
    have nml : a.lm ≠ a.ls := BJ hm2 hs2 (by intro z; cases z)
    refine ⟨_, by rw [AH ntl]; exact hs2, by refine DO ?_; rw [rs2.length, List.length_map]; exact hst, ?_⟩
    have sU := AI.upd (o := .tup [.int (x.come (mv x.p x.h n)).ink, vp, vp2]) htp
    have tU : AM H2 (upd (upd H2 tp (.tup [.int (x.come (mv x.p x.h n)).ink, vp, vp2])) a.ls (.lst (vs1 ++ [.ref tp]))) := sU.t.upd (CS hs2)
    have bU : But a.l H (upd (upd H2 tp (.tup [.int (x.come (mv x.p x.h n)).ink, vp, vp2])) a.ls (.lst (vs1 ++ [.ref tp]))) := (b02.upd (.inl (b02.free (by simp [hp2, hs2, hc2, hm2]) htp))).upd (.inr (by simp))
    refine q _ bU (t02.trans tU) ?_
    have e : y = { x.come (mv x.p x.h n) with st := x.st ++ [(x.ink, x.p, mv x.p x.h n)] } := by rw [← ey]; simp [Hd.come, h0, hd]
    rw [e]
    refine ⟨⟨dx2, vp2, by rw [AH ns, AH ntp]; exact hp2, rp2.t tU⟩, ⟨_, AB, ?_⟩, ⟨vs2, by rw [AH ne2.symm, AH ntc]; exact hc2, rc2.t tU⟩, ⟨kvs, by rw [AH nml, AH ntm]; exact hm2, rm2.mono fun z v r => Rp.t tU r⟩, ne2⟩
    show RpL K _ ((x.st ++ [(x.ink, x.p, mv x.p x.h n)]).map skD) _
    rw [List.map_append]
    refine (rs2.t tU).app (RpL.one ?_)
    rw [skD, Rp]
    refine ⟨tp, [.int x.ink, vp, vp2], rfl, SqT.of ?_, ?_⟩
    ·rw [AH ntl.symm, AB]; rfl
    ·exact CD (by rw [Rp]) (CD ((rp.t t02).t tU) (CD (rp2.t tU) RpL.nil))
  ·rw [if_neg hd]
   refine q H2 b02 t02 ?_
   have e : y = x.come (mv x.p x.h n) := by rw [← ey]; simp [Hd.come, hd]
   rw [e]; exact hB
def fO (K : PySem.W.Frag) (C : Addr) : Sp := fun vs H Q _ => ∃ (a : Ha) (x y : Hd) (n : Int), vs = [.ref a.p, .int n] ∧ CH K C H a x ∧ stp x (.turn n) = some y ∧ ∀ H', But a.l H H' → AM H H' → CH K C H' a y → Q .non H'
theorem RE (T : Txt K mg t) : BF P w K mg base CX0 1 t.a_Hand_turn t.d_Hand_turn ["self", "eighths"] (fO K t.c_Hand) := by
 refine T.Hand_turn.F.ok QT (fun vs H Q E h => ?_) (fun cdv A outer s H vs Q E hr h => ?_)
 ·obtain ⟨a, x, y, n, rfl, _⟩ := h; rfl
 ·obtain ⟨a, x, y, n, rfl, hA, ey, q⟩ := h
  obtain ⟨⟨dx, vp, hp, rp⟩, _, _, _, _⟩ := id hA
  have eR : t.v_ROUND = .int 8 := by have := T.k_ROUND H; rw [KA, Rp] at this; exact this
  refine ⟨_, s!"0A{CB}{BV}0AK1AG_{T.g_ROUND}{T.r_ROUND}XGT0A1AzFE", ?_⟩
  walk_at "ro"
  refine ⟨_, _, _, hp, T.cl_Hand, T.n_Hand_heading, _, rfl, ?_⟩
  rw [eR]
  walk_at "ro"
  refine ⟨by decide, _, _, _, hp, T.cl_Hand, T.n_Hand_heading, l8, ?_⟩
  walk_at "ro"
  refine ⟨T.cl_Hand, T.n_Hand_turned, _, rfl, x.tu, rfl, l8, ?_⟩
  have ey := Option.some.inj ey
  subst ey
  obtain ⟨b, s1, h1⟩ := hA.put (y := { x with h := (x.h + n) % 8, tu := x.tu + n }) hp rp (fs := BE (Str.ofString "turned") (V.int (x.tu + n)) (BE (Str.ofString "heading") (V.int ((x.h + n) % 8)) (hf vp x a))) rfl rfl rfl rfl
  exact q _ b s1 h1
def lO (K : PySem.W.Frag) (t : Adr) (a : Ha) (H : Hp) (Q : VK) (E : XK) : Option Hd → Prop
 | some y => ∀ H', But a.l H H' → AM H H' → CH K t.c_Hand H' a y → Q .non H'
 | none => ∀ H', But a.l H H' → AM H H' → E (.ref t.c_NoMark) none H'
def bP (K : PySem.W.Frag) (t : Adr) : Sp := fun vs H Q E => ∃ (a : Ha) (x : Hd) (n : Int), vs = [.ref a.p, .int n] ∧ CH K t.c_Hand H a x ∧ x.co.length ≤ 5000 ∧ lO K t a H Q E (stp x (.back n))
theorem SC (T : Txt K mg t) : BF P w K mg base (CXr P w) 2 t.a_Hand_back t.d_Hand_back ["self", "number"] (bP K t) := by
 refine T.Hand_back.F.okR HK (fun vs H Q E h => ?_) (fun cdv A outer s H vs Q E hr h => ?_)
 ·obtain ⟨a, x, n, rfl, _⟩ := h; rfl
 ·obtain ⟨a, x, n, rfl, hA, hc, q⟩ := h
  obtain ⟨⟨dx, vp, hp, rp⟩, ⟨vs1, hs, rs⟩, ⟨vs2, hc2, rc⟩, ⟨kvs, hm, rm⟩, ne⟩ := id hA
  refine ⟨_, s!"{aJ (OC hr)}1A0AK{by with_unfolding_all rfl}R{IH UN rfl T.x_NoMark (by rfl) T.mg_NoMark s!"JCB"}FYO{MM (OC hr) s!"0AK" s!"1A" (fun _ _ => rfl)}2{HK.nd}M3{HK.nd}MdSSgk0A3AT0A{T.cl_Hand}{T.Hand_cometo.mt}{BF.upR (IK T)}{hr.mono (by decide)}{T.Hand_cometo.b}{CQ}2ACBiWFEEE", ?_⟩
  walk_at "ro"
  refine ⟨_, _, _, hp, T.cl_Hand, T.n_Hand_marks, _, rfl, ?_⟩
  dsimp only
  refine ⟨kvs, .inl hm, .inl n, rfl, ?_⟩
  have gt := As.get QS (k := n) rm
  cases e : lkA x.ms n with
  | none =>
   rw [gt.1 e]
   simp only [stp, e] at q
   rw [if_pos (by rfl)]
   exact ⟨by decide, q H (But.refl _ _) (AM.refl _)⟩
  | some z =>
   obtain ⟨v, ev, rv⟩ := gt.2 z e
   simp only [stp, e] at q
   rw [ev]
   rw [if_neg (by simp)]
   refine ⟨_, _, _, hp, T.cl_Hand, T.n_Hand_marks, _, rfl, ?_⟩
   dsimp only
   refine ⟨kvs, .inl hm, .inl n, rfl, v, ev, ?_⟩
   obtain ⟨pm, xp, xh, rfl, hpm, rxp, rxh⟩ := CN.mp rv
   have rxh : xh = .int z.2 := by rw [Rp] at rxh; exact rxh
   subst rxh
   walk_at "ro"
   refine ⟨_, hpm, rfl, ?_⟩
   walk_at "ro"
   refine ⟨_, _, _, hp, T.cl_Hand, T.n_Hand_heading, l8, ?_⟩
   obtain ⟨b, s1, h1⟩ := hA.put (y := { x with h := z.2 }) hp rp (fs := BE (Str.ofString "heading") (V.int z.2) (hf vp x a)) rfl rfl rfl rfl
   walk_at "ro"
   refine ⟨rfl, a, xp, { x with h := z.2 }, z.1, rfl, h1, rxp.t s1, hc, fun H2 b2 t2 hB => ?_⟩
   exact q H2 (b.trans b2) (s1.trans t2) hB
def iR (K : PySem.W.Frag) (t : Adr) : Sp := fun vs H Q E => ∃ (a : Ha) (x : Hd) (s : Ac) (v : V), vs = [.ref a.p, v] ∧ CH K t.c_Hand H a x ∧ Rp K H s.D v ∧ s.ok ∧ x.co.length ≤ 5000 ∧ x.st.length ≤ 5000 ∧ x.ms.length ≤ 5000 ∧ lO K t a H Q E (stp x s)
theorem LV (T : Txt K mg t) : BF P w K mg base (CXr P w) 4 t.a_Hand_act t.d_Hand_act ["self", "statement"] (iR K t) := by
 refine T.Hand_act.F.okR LS (fun vs H Q E h => ?_) (fun cdv A outer s H vs Q E hr h => ?_)
 ·obtain ⟨a, x, s, v, rfl, _⟩ := h; rfl
 ·obtain ⟨a, x, s1, v, rfl, hA, hv, ho, hc, hst, hms, q⟩ := h
  obtain ⟨⟨dx, vp, hp, rp⟩, _, _, ⟨kvs, hm, rm⟩, _⟩ := id hA
  obtain ⟨a1, rfl, hs⟩ := oM hv
  have eI : t.v_INKS = .int 8 := by have := T.k_INKS H; rw [WT, Rp] at this; exact this
  refine ⟨_, s!"2{LS.nd}{BA}1ADHI{CZ}2AJ{BB _}R0A{T.cl_Hand}{T.Hand_go.mt}{BF.upR (WG T)}{hr.mono (by decide)}{T.Hand_go.b}{CQ}{BA}1ADHCBiWF{CZ}2AJ{BB _}R0A{T.cl_Hand}{T.Hand_turn.mt}{BF.upR (RE T)}{hr.mono (by decide)}{T.Hand_turn.b}{CQ}{BA}1ADHCBiWF{CZ}2AJ{BB _}R0A{CB}{BA}1ADH_{T.g_INKS}{T.r_INKS}XGTF{CZ}2AJ{BB _}R{XY (OC hr) s!"0AK" s!"{BA}1ADH" s!"0AK0AKCBBP"}F{CZ}2AJ{BB _}R0A{T.cl_Hand}{T.Hand_back.mt}{SC T}{hr.mono (by decide)}{T.Hand_back.b}{CQ}{BA}1ADHCBiWF0A{CZ}2AJcTFOFOFOFOFOFE", ?_⟩
  walk_at "ro"
  cases s1 with
  | go n =>
   refine ⟨_, hs, _, rfl, ?_⟩
   walk_at "ro"
   walk_at "ws"
   exact ⟨_, _, hp, rfl, _, hs, _, rfl, a, x, _, n, rfl, hA, ⟨by have := ho.1; omega, by have := ho.2; omega⟩, hc, hst, rfl, q⟩
  | turn n =>
   refine ⟨_, hs, _, rfl, ?_⟩
   walk_at "ro"
   walk_at "ws"
   exact ⟨_, _, hp, rfl, _, hs, _, rfl, a, x, _, n, rfl, hA, rfl, q⟩
  | ink n =>
   refine ⟨_, hs, _, rfl, ?_⟩
   walk_at "ro"
   walk_at "ws"
   refine ⟨_, hs, _, rfl, ?_⟩
   rw [eI]
   walk_at "ro"
   refine ⟨by decide, _, _, _, hp, T.cl_Hand, T.n_Hand_ink, l8, ?_⟩
   obtain ⟨b, s1, h1⟩ := hA.put (y := { x with ink := n % 8 }) hp rp (fs := BE (Str.ofString "ink") (V.int (n % 8)) (hf vp x a)) rfl rfl rfl rfl
   exact q _ b s1 h1
  | mark n =>
   refine ⟨_, hs, _, rfl, ?_⟩
   walk_at "ro"
   walk_at "ws"
   refine ⟨_, _, _, hp, T.cl_Hand, T.n_Hand_spot, _, rfl, _, _, _, hp, T.cl_Hand, T.n_Hand_heading, _, rfl, by decide, fun tp htp => ?_⟩
   have sU := AI.upd (o := .tup [vp, .int x.h]) htp
   have ntm := AK hm htp
   walk_at "ro"
   refine ⟨_, _, _, sU _ _ hp, T.cl_Hand, T.n_Hand_marks, _, rfl, _, sU.tup hs, _, rfl, ?_⟩
   dsimp only
   refine ⟨kvs, sU _ _ hm, .inl n, rfl, by rw [← rm.length]; exact DO hms, ?_⟩
   have tU : AM H (upd (upd H tp (.tup [vp, .int x.h])) a.lm (.dK (ES kvs (.inl n) (.ref tp)))) := sU.t.upd (SJ hm)
   have bU : But a.l H (upd (upd H tp (.tup [vp, .int x.h])) a.lm (.dK (ES kvs (.inl n) (.ref tp)))) := sU.but.upd (.inr (by simp))
   obtain ⟨⟨dx', vp', hp', rp'⟩, ⟨vs1, hs', rs⟩, ⟨vs2, hc', rc⟩, _, ne⟩ := id hA
   have n1 : a.p ≠ a.lm := BJ hp' hm (by intro z; cases z)
   have n2 : a.ls ≠ a.lm := BJ hs' hm (by intro z; cases z)
   have n3 : a.lc ≠ a.lm := BJ hc' hm (by intro z; cases z)
   refine q _ bU tU ⟨⟨dx', vp', by rw [AH n1]; exact sU _ _ hp', rp'.t tU⟩, ⟨vs1, by rw [AH n2]; exact sU _ _ hs', rs.t tU⟩, ⟨vs2, by rw [AH n3]; exact sU _ _ hc', rc.t tU⟩, ⟨_, AB, As.put QS (rm.mono fun z v r => Rp.t tU r) ?_⟩, ne⟩
   exact CN.mpr ⟨tp, vp, .int x.h, rfl, SqT.of (by rw [AH ntm.symm, AB]), rp.t tU, by rw [Rp]⟩
  | back n =>
   refine ⟨_, hs, _, rfl, ?_⟩
   walk_at "ro"
   walk_at "ws"
   exact ⟨_, _, hp, rfl, _, hs, _, rfl, a, x, n, rfl, hA, hc, q⟩
  | up =>
   refine ⟨_, hs, _, rfl, ?_⟩
   walk_at "ro"
   walk_at "ws"
   refine ⟨_, _, _, hp, T.cl_Hand, T.n_Hand_down, l8, ?_⟩
   obtain ⟨b, s1, h1⟩ := hA.put (y := { x with dn := false }) hp rp (fs := BE (Str.ofString "down") (V.bl false) (hf vp x a)) rfl rfl rfl rfl
   exact q _ b s1 h1
  | down =>
   refine ⟨_, hs, _, rfl, ?_⟩
   walk_at "ro"
   walk_at "ws"
   refine ⟨_, _, _, hp, T.cl_Hand, T.n_Hand_down, l8, ?_⟩
   obtain ⟨b, s1, h1⟩ := hA.put (y := { x with dn := true }) hp rp (fs := BE (Str.ofString "down") (V.bl true) (hf vp x a)) rfl rfl rfl rfl
   exact q _ b s1 h1
end
inductive Am where
 | int (i : Int) | src (f : Int) (s : Str) (m : Int)
def Am.D : Am → L2.D
 | .int i => .int i
 | .src f s m => .tup [.int f, .str s, .int m]
abbrev En := List (Str × Int)
def Am.val (e : En) : Am → Int
 | .int i => i
 | .src f s m => f * (lkA e s).getD 0 + m
def wth (e : En) (a : Am) : Option Int := if -1000000 ≤ a.val e ∧ a.val e ≤ 1000000 then some (a.val e) else none
def SN (e : En) : Am → Prop
 | .int _ => True
 | .src f s _ => (-1000000 ≤ f ∧ f ≤ 1000000) ∧ ∃ i, lkA e s = some i
inductive Stm where
 | go (a : Am) | turn (a : Am) | ink (a : Am) | up | down | mark (n : Int) | back (n : Int)
 | again (a : Am) (b : List Stm) | ifs (a : Am) (b c : List Stm) | dow (w : Str) (as : List Am)
mutual
def Stm.D : Stm → L2.D
 | .go a => .tup [.str "go", a.D]
 | .turn a => .tup [.str "turn", a.D]
 | .ink a => .tup [.str "ink", a.D]
 | .up => .tup [.str "up"]
 | .down => .tup [.str "down"]
 | .mark n => .tup [.str "mark", .int n]
 | .back n => .tup [.str "back", .int n]
 | .again a b => .tup [.str "again", a.D, .tup (Stm.Ds b)]
 | .ifs a b c => .tup [.str "if", a.D, .tup (Stm.Ds b), .tup (Stm.Ds c)]
 | .dow w as => .tup [.str "do", .str w, .tup (as.map Am.D)]
def Stm.Ds : List Stm → List L2.D
 | [] => []
 | s :: r => s.D :: Stm.Ds r
end
theorem JZ : ∀ l : List Stm, Stm.Ds l = l.map Stm.D
 | [] => by rw [Stm.Ds]; rfl
 | s :: r => by rw [Stm.Ds, JZ r]; rfl
abbrev bD (b : List Stm) : L2.D := .tup (b.map Stm.D)
abbrev EnR (H : Hp) (d : Addr) (e : En) : Prop := ∃ kvs, H d = some (.dK kvs) ∧ As .inr (fun (i : Int) v => v = V.int i) e kvs
def lf (vb : V) (d : Addr) (i : Nat) (b r : Int) : List (Str × V) := [("body", vb), ("sources", .ref d), ("at", .int i), ("begun", .int b), ("rounds", .int r)]
structure Lv where
 body : List Stm
 en : En
 i : Nat
 bg : Int
 rd : Int
 own : Bool
structure La where
 (p d : Addr)
structure BC (K : PySem.W.Frag) (C : Addr) (H : Hp) (a : La) (v : Lv) : Prop where
 ob : ∃ dx vb, H a.p = some (.ins C dx (lf vb a.d v.i v.bg v.rd)) ∧ Rp K H (bD v.body) vb
 en : EnR H a.d v.en
theorem EnR.same {H H' : Hp} {d : Addr} {e : En} (h : EnR H d e) (s : AI H H') : EnR H' d e := let ⟨kvs, a, b⟩ := h; ⟨kvs, s _ _ a, b⟩
theorem BC.same {K : PySem.W.Frag} {C : Addr} {H H' : Hp} {a : La} {v : Lv} (h : BC K C H a v) (s : AI H H') : BC K C H' a v := by
 obtain ⟨⟨dx, vb, h1, h2⟩, h3⟩ := h
 exact ⟨⟨dx, vb, s _ _ h1, h2.same s⟩, h3.same s⟩
theorem BC.off {K : PySem.W.Frag} {C : Addr} {l : List Addr} {H H' : Hp} {a : La} {v : Lv} (h : BC K C H a v) (b : But l H H') (st : AM H H') (n1 : a.p ∉ l) (n2 : a.d ∉ l) : BC K C H' a v := by
 obtain ⟨⟨dx, vb, h1, h2⟩, ⟨kvs, h3, h4⟩⟩ := h
 exact ⟨⟨dx, vb, b _ _ h1 n1, h2.t st⟩, ⟨kvs, b _ _ h3 n2, h4⟩⟩
theorem MI {K : PySem.W.Frag} {H : Hp} {body : List Stm} {v : V} (h : Rp K H (bD body) v) : ∃ a xs, v = .ref a ∧ SqT K H a xs ∧ RpL K H (body.map Stm.D) xs ∧ xs.length = body.length := by
 rw [Rp] at h
 obtain ⟨a, xs, rfl, hs, hl⟩ := h
 exact ⟨a, xs, rfl, hs, hl, by rw [hl.length, List.length_map]⟩
theorem jA {K : PySem.W.Frag} {H : Hp} {body : List Stm} {xs : List V} {i : Nat} {s : Stm} (h : RpL K H (body.map Stm.D) xs) (hs : body[i]? = some s) : ∃ x, xs[i]? = some x ∧ Rp K H s.D x := by
 have hi : i < body.length := (List.getElem?_eq_some_iff.mp hs).1
 obtain ⟨v, e, r⟩ := h.at (j := i) (by rw [List.length_map]; exact hi)
 rw [List.getD_eq_getElem?_getD, List.getElem?_map, hs] at r
 exact ⟨v, e, r⟩
section
variable {P : Program} {w : World} {K : PySem.W.Frag} {mg : Str → Option Value} {base : Heap} {t : Adr}
theorem OV {K : PySem.W.Frag} : PySem.W.kitOne K (.type "int") (.type "tuple") = some false := mJ (by decide +kernel) (by decide +kernel) (by decide +kernel)
def bV (K : PySem.W.Frag) (t : Adr) : Sp := fun vs H Q E => ∃ (va : V) (d : Addr) (a : Am) (e : En), vs = [va, .ref d] ∧ Rp K H a.D va ∧ EnR H d e ∧ SN e a ∧ (∀ n, wth e a = some n → Q (.int n) H) ∧ (wth e a = none → E (.ref t.c_TooGreat) none H)
theorem KH (T : Txt K mg t) : BF P w K mg base (CXr P w) 1 t.a_worth t.d_worth ["amount", "sources"] (bV K t) := by
 refine T.worth.F.okR GK (fun vs H Q E h => ?_) (fun cdv A outer s H vs Q E hr h => ?_)
 ·obtain ⟨va, d, a, e, rfl, _⟩ := h; rfl
 ·obtain ⟨va, d, a, e, rfl, ra, ⟨kvs, hk, rk⟩, ha, q1, q2⟩ := h
  have eM : t.v_MOST_AMOUNT = .int 1000000 := by have := T.k_MOST_AMOUNT H; rw [FC, Rp] at this; exact this
  refine ⟨_, s!"2{GK.nd}0AI{WL (c := .type "tuple")}{T.z_isinstance}{boot_isinstance}0A{@XO _ _ (.ty "tuple") _ _ (by rfl) T.z_tuple boot_tuple rfl (by decide) (by decide)}CBBbe0A3{GK.nd}M4{GK.nd}M5{GK.nd}MdSSSgk2{GK.nd}{BV}{CC}3A{MM (OC hr) s!"1A" s!"4A" (fun _ _ => rfl)}G5AGIFEYO{@SR _ _ _ _ _ _ _ _ _ _ _ _ OB OB s!"_{T.g_MOST_AMOUNT}{T.r_MOST_AMOUNT}Xs" s!"2A" s!"_{T.g_MOST_AMOUNT}{T.r_MOST_AMOUNT}X" (by with_unfolding_all rfl)}l{IH UN rfl T.x_TooGreat (by rfl) T.mg_TooGreat s!"JCB"}FYO2ANFEEE", ?_⟩
  walk_at "ro"
  have fin : ∀ n : Int, n = a.val e → (if -1000000 ≤ n then (if ¬ n ≤ 1000000 then 1 ≤ sizeLine ∧ E (.ref t.c_TooGreat) none H else Q (.int n) H) else 1 ≤ sizeLine ∧ E (.ref t.c_TooGreat) none H) := by
   rintro n rfl
   unfold wth at q1 q2
   by_cases c1 : -1000000 ≤ a.val e
   ·rw [if_pos c1]
    by_cases c2 : a.val e ≤ 1000000
    ·rw [if_neg (not_not_intro c2)]; exact q1 _ (by rw [if_pos ⟨c1, c2⟩])
    ·rw [if_pos c2]; exact ⟨by decide, q2 (by rw [if_neg (fun z => c2 z.2)])⟩
   ·rw [if_neg c1]; exact ⟨by decide, q2 (by rw [if_neg (fun z => c1 z.1)])⟩
  cases a with
  | int i =>
   have ra : va = .int i := by rw [Am.D, Rp] at ra; exact ra
   subst ra
   refine ⟨rfl, ⟨_, rfl⟩, _, .inl (.int i), _, OV, ?_⟩
   walk_at "ro"
   rw [eM]
   walk_at "ro"
   exact fin i rfl
  | src f s0 m =>
   rw [Am.D, Rp] at ra
   obtain ⟨pa, xs, rfl, hpa, rl⟩ := ra
   refine ⟨rfl, ⟨_, rfl⟩, _, .inr ⟨pa, rfl, ⟨_, hpa⟩, rfl⟩, _, ME, ?_⟩
   walk_at "ro"
   obtain ⟨x0, x1, x2, rfl, e0, e1, e2⟩ : ∃ x0 x1 x2, xs = [x0, x1, x2] ∧ x0 = .int f ∧ x1 = .str s0 ∧ x2 = .int m := by
    rw [RpL] at rl
    obtain ⟨x0, r0, rfl, a0, rl⟩ := rl
    rw [RpL] at rl
    obtain ⟨x1, r1, rfl, a1, rl⟩ := rl
    rw [RpL] at rl
    obtain ⟨x2, r2, rfl, a2, rl⟩ := rl
    rw [RpL] at rl
    subst rl
    rw [Rp] at a0; rw [Rp] at a1; rw [Rp] at a2
    exact ⟨_, _, _, rfl, a0, a1, a2⟩
   subst e0 e1 e2
   obtain ⟨⟨f0, f1⟩, i, hi⟩ := ha
   obtain ⟨v, ev, rv⟩ := (As.get MF (k := s0) rk).2 i hi
   subst rv
   refine ⟨_, hpa, rfl, ?_⟩
   dsimp only
   refine ⟨kvs, .inl hk, .inr s0, rfl, _, ev, ?_⟩
   walk_at "ro"
   rw [eM]
   walk_at "ro"
   have ev2 : f * i + m = (Am.src f s0 m).val e := by rw [Am.val, hi]; rfl
   exact ⟨FG (by omega) (by omega), fin _ ev2⟩
def eD (C : Addr) : Sp := fun vs H Q _ => ∃ (p dx d : Addr) (vb : V), vs = [.ref p, vb, .ref d] ∧ H p = some (.ins C dx []) ∧ ∀ H', H' = upd H p (.ins C dx (lf vb d 0 0 0)) → Q .non H'
theorem FE (T : Txt K mg t) : BF P w K mg base CX0 1 t.a_Level_init t.d_Level_init ["self", "body", "sources"] (eD t.c_Level) := by
 refine T.Level_init.F.ok PD (fun vs H Q E h => ?_) (fun cdv A outer s H vs Q E hr h => ?_)
 ·obtain ⟨p, dx, d, vb, rfl, _⟩ := h; rfl
 ·obtain ⟨p, dx, d, vb, rfl, hp, q⟩ := h
  refine ⟨_, s!"0A1AT0A2AT0ADT0ADT0ADTFEEEE", ?_⟩
  walk_at "ro"
  refine ⟨_, _, _, hp, T.cl_Level, T.n_Level_body, by decide, ?_⟩
  refine ⟨T.cl_Level, T.n_Level_sources, (show (1 : Nat) < 1000 by decide), T.cl_Level, T.n_Level_at, (show (2 : Nat) < 1000 by decide), T.cl_Level, T.n_Level_begun, (show (3 : Nat) < 1000 by decide), T.cl_Level, T.n_Level_rounds, (show (4 : Nat) < 1000 by decide), ?_⟩
  exact q _ rfl
def YX (K : PySem.W.Frag) (C : Addr) : Sp := fun vs H Q _ => ∃ (a : La) (v : Lv), vs = [.ref a.p] ∧ BC K C H a v ∧ Q (.bl (decide (v.i = v.body.length))) H
theorem l5 : (5 : Nat) < 1000 := by decide
theorem GW (T : Txt K mg t) : BF P w K mg base CX0 1 t.a_Level_isatend t.d_Level_isatend ["self"] (YX K t.c_Level) := by
 refine T.Level_isatend.F.ok LI (fun vs H Q E h => ?_) (fun cdv A outer s H vs Q E hr h => ?_)
 ·obtain ⟨a, v, rfl, _⟩ := h; rfl
 ·obtain ⟨a, v, rfl, ⟨⟨dx, vb, hp, rb⟩, _⟩, q⟩ := h
  obtain ⟨b, xs, rfl, hs, hl, hn⟩ := MI rb
  refine ⟨_, s!"{CZ}0AK{CK}{T.z_len}{PySem.boot_len}0AKCBbcNF", ?_⟩
  walk_at "ro"
  refine ⟨_, _, _, hp, T.cl_Level, T.n_Level_at, _, rfl, _, _, _, hp, T.cl_Level, T.n_Level_body, _, rfl, ?_⟩
  dsimp only
  refine ⟨_, .inr hs, ?_⟩
  rw [hn]
  have e : (decide ((v.i : Int) = (v.body.length : Int))) = decide (v.i = v.body.length) := decide_eq_decide.mpr (by omega)
  rw [e]
  exact q
def Lv.thr (v : Lv) : Bool := decide (v.i = v.body.length) && decide (v.rd ≤ v.bg)
def jV (K : PySem.W.Frag) (C : Addr) : Sp := fun vs H Q _ => ∃ (a : La) (v : Lv), vs = [.ref a.p] ∧ BC K C H a v ∧ Q (.bl v.thr) H
theorem JP (T : Txt K mg t) : BF P w K mg base CX0 2 t.a_Level_isthrough t.d_Level_isthrough ["self"] (jV K t.c_Level) := by
 refine T.Level_isthrough.F.ok JU (fun vs H Q E h => ?_) (fun cdv A outer s H vs Q E hr h => ?_)
 ·obtain ⟨a, v, rfl, _⟩ := h; rfl
 ·obtain ⟨a, v, rfl, hL, q⟩ := h
  obtain ⟨⟨dx, vb, hp, rb⟩, _⟩ := id hL
  refine ⟨_, s!"0A{T.cl_Level}{T.Level_isatend.mt}{GW T}{hr.mono (by decide)}{T.Level_isatend.b}{CM}m{mZ}0AK0AKc#!NF", ?_⟩
  walk_at "ro"
  refine ⟨_, _, hp, rfl, a, v, rfl, hL, ?_⟩
  walk_at "ro"
  by_cases c : v.i = v.body.length
  ·rw [if_pos c]
   refine ⟨_, _, _, hp, T.cl_Level, T.n_Level_begun, _, rfl, _, _, _, hp, T.cl_Level, T.n_Level_rounds, _, rfl, ?_⟩
   dsimp only
   rw [Lv.thr, decide_eq_true c, Bool.true_and] at q
   exact q
  ·rw [if_neg c]
   rw [Lv.thr, decide_eq_false c, Bool.false_and] at q
   exact q
def Lv.round (v : Lv) : Lv := { v with en := ptA v.en "count" v.bg, bg := v.bg + 1, i := 0 }
def aP (K : PySem.W.Frag) (C : Addr) : Sp := fun vs H Q _ => ∃ (a : La) (v : Lv), vs = [.ref a.p] ∧ BC K C H a v ∧ v.en.length ≤ 5000 ∧ ∀ H', But [a.p, a.d] H H' → AM H H' → BC K C H' a v.round → Q .non H'
theorem JJ (T : Txt K mg t) : BF P w K mg base CX0 1 t.a_Level_beginround t.d_Level_beginround ["self"] (aP K t.c_Level) := by
 refine T.Level_beginround.F.ok JH (fun vs H Q E h => ?_) (fun cdv A outer s H vs Q E hr h => ?_)
 ·obtain ⟨a, v, rfl, _⟩ := h; rfl
 ·obtain ⟨a, v, rfl, hL, hen, q⟩ := h
  obtain ⟨⟨dx, vb, hp, rb⟩, ⟨kvs, hk, rk⟩⟩ := id hL
  have npd : a.p ≠ a.d := BJ hp hk (by intro z; cases z)
  refine ⟨_, s!"{XY (OC hr) s!"0AK" s!"J" s!"0AK"}0ADz0ADTFEE", ?_⟩
  walk_at "ro"
  refine ⟨_, _, _, hp, T.cl_Level, T.n_Level_begun, _, rfl, _, _, _, hp, T.cl_Level, T.n_Level_sources, _, rfl, ?_⟩
  dsimp only
  refine ⟨kvs, hk, .inr "count", rfl, by rw [← rk.length]; exact DO hen, ?_⟩
  have b1 : But [a.p, a.d] H (upd H a.d (.dK (ES kvs (.inr "count") (.int v.bg)))) := (But.refl _ H).upd (.inr (by simp))
  have t1 : AM H (upd H a.d (.dK (ES kvs (.inr "count") (.int v.bg)))) := (AM.refl H).upd (SJ hk)
  have hp1 : (upd H a.d (.dK (ES kvs (.inr "count") (.int v.bg)))) a.p = some (.ins t.c_Level dx (lf vb a.d v.i v.bg v.rd)) := by rw [AH npd]; exact hp
  have hd1 : (upd H a.d (.dK (ES kvs (.inr "count") (.int v.bg)))) a.d = some (.dK (ES kvs (.inr "count") (.int v.bg))) := AB
  generalize upd H a.d (.dK (ES kvs (.inr "count") (.int v.bg))) = G at *
  walk_at "ro"
  refine ⟨_, _, _, hp1, T.cl_Level, T.n_Level_begun, _, rfl, ?_⟩
  refine ⟨v.bg, rfl, _, _, hp1, l5, T.cl_Level, T.n_Level_at, l5, ?_⟩
  have t2 : AM G (upd G a.p (.ins t.c_Level dx (BE (Str.ofString "at") (V.int 0) (BE (Str.ofString "begun") (V.int (v.bg + 1)) (lf vb a.d v.i v.bg v.rd))))) := (AM.refl G).upd (GH hp1)
  refine q _ (b1.upd (.inr (by simp))) (t1.trans t2) ⟨⟨dx, vb, AB, (rb.t t1).t t2⟩, ⟨_, by rw [AH npd.symm]; exact hd1, As.put MF rk rfl⟩⟩
def fP (K : PySem.W.Frag) (C : Addr) : Sp := fun vs H Q _ => ∃ (a : La) (v : Lv) (s1 : Stm), vs = [.ref a.p] ∧ BC K C H a v ∧ v.body[v.i]? = some s1 ∧ ∀ u H', But [a.p] H H' → AM H H' → BC K C H' a { v with i := v.i + 1 } → Rp K H' s1.D u → Q u H'
theorem HN (T : Txt K mg t) : BF P w K mg base CX0 1 t.a_Level_nextstatement t.d_Level_nextstatement ["self"] (fP K t.c_Level) := by
 refine T.Level_nextstatement.F.ok GY (fun vs H Q E h => ?_) (fun cdv A outer s H vs Q E hr h => ?_)
 ·obtain ⟨a, v, s1, rfl, _⟩ := h; rfl
 ·obtain ⟨a, v, s1, rfl, hL, hs1, q⟩ := h
  obtain ⟨⟨dx, vb, hp, rb⟩, ⟨kvs, hk, rk⟩⟩ := id hL
  have npd : a.p ≠ a.d := BJ hp hk (by intro z; cases z)
  obtain ⟨b, xs, rfl, hs, hl, hn⟩ := MI rb
  obtain ⟨x, hx, rx⟩ := jA hl hs1
  refine ⟨_, s!"0ADz{BA}0AK{HH}0AKDGHNFE", ?_⟩
  walk_at "ro"
  refine ⟨_, _, _, hp, T.cl_Level, T.n_Level_at, _, rfl, ?_⟩
  refine ⟨v.i, rfl, _, _, hp, l5, ?_⟩
  walk_at "ro"
  refine ⟨T.cl_Level, T.n_Level_body, _, rfl, T.cl_Level, T.n_Level_at, _, rfl, ?_⟩
  dsimp only
  have st : AM H (upd H a.p (.ins t.c_Level dx (BE (Str.ofString "at") (V.int ((v.i : Int) + 1)) (lf (.ref b) a.d v.i v.bg v.rd)))) := (AM.refl H).upd (GH hp)
  refine ⟨xs, st.tup hs, x, by rw [show ((v.i : Int) + 1 - 1) = (v.i : Int) by omega]; exact DF hx, ?_⟩
  refine q x _ ((But.refl _ H).upd (.inr (by simp))) st ⟨⟨dx, .ref b, AB, rb.t st⟩, ⟨kvs, by rw [AH npd.symm]; exact hk, rk⟩⟩ (rx.t st)
def cB (K : PySem.W.Frag) (t : Adr) : Sp := fun vs H Q _ => ∃ (vb : V) (d : Addr) (body : List Stm) (e : En) (n : Int), vs = [vb, .ref d, .int n] ∧ Rp K H (bD body) vb ∧ EnR H d e ∧ ∀ (a : La) H', H a.p = none → H a.d = none → AI H H' → BC K t.c_Level H' a ⟨body, e, body.length, 0, n, true⟩ → Q (.ref a.p) H'
theorem PB (T : Txt K mg t) : BF P w K mg base CX0 3 t.a_againlevel t.d_againlevel ["body", "sources", "rounds"] (cB K t) := by
 refine T.againlevel.F.ok JN (fun vs H Q E h => ?_) (fun cdv A outer s H vs Q E hr h => ?_)
 ·obtain ⟨vb, d, body, e, n, rfl, _⟩ := h; rfl
 ·obtain ⟨vb, d, body, e, n, rfl, rb, ⟨kvs, hk, rk⟩, q⟩ := h
  obtain ⟨b, xs, rfl, hs, hl, hn⟩ := MI rb
  refine ⟨_, s!"3{JN.nd}{T.Level_init.mki}{FE T}{hr.mono (by decide)}{T.mg_Level}{T.Level_init.b}{CM}0A{UW (by rfl) T.z_dict s!"1A"}CBBqI3A2AT3A{CK}{T.z_len}{PySem.boot_len}0ACBbT3ANFEEE", ?_⟩
  walk_at "ro"
  refine ⟨kvs, .inl hk, fun d2 hd2 x dx hx hdx nx => ⟨x, dx, d2, .ref b, rfl, AB, fun H2 e2 => ⟨rfl, ?_⟩⟩⟩
  have fx : H x = none := (un hx).2
  have fdx : H dx = none := (un hdx).2
  have nx2 : x ≠ d2 := (un hx).1
  have ndx2 : dx ≠ d2 := (un hdx).1
  have hx2 : H2 x = some (.ins t.c_Level dx (lf (.ref b) d2 0 0 0)) := by rw [e2, AB]
  have hd : H2 d2 = some (.dK kvs) := by rw [e2, AH nx2.symm, AH nx2.symm, AH ndx2.symm, AB]
  have s2 : AI H H2 := fun c o e => by
   have n1 := AK e fx
   have n2 := AK e fdx
   have n3 := AK e hd2
   rw [e2, AH n1, AH n1, AH n2, AH n3]; exact e
  clear e2
  have t3 : ∀ o, AM H2 (upd H2 x o) := fun o => (AM.refl H2).upd (GH hx2)
  refine ⟨_, _, _, hx2, T.cl_Level, T.n_Level_rounds, l5, xs, .inr ((t3 _).tup (s2.tup hs)), T.cl_Level, T.n_Level_at, l5, ?_⟩
  refine q ⟨x, d2⟩ _ fx hd2 (fun c o e => by rw [AH (AK e fx)]; exact s2 _ _ e) ⟨⟨dx, .ref b, ?_, (rb.same s2).t (t3 _)⟩, ⟨kvs, by rw [AH nx2.symm]; exact hd, rk⟩⟩
  rw [AB, hn]
  rfl
end
structure Wd where
 name : Str
 many : Int
 body : List Stm
def Wd.D (x : Wd) : L2.D := .tup [.str x.name, .int x.many, bD x.body]
def pD (ws : List Wd) (body : List Stm) : L2.D := .tup [.tup (ws.map Wd.D), bD body]
abbrev Tb := List (Str × List Stm)
def BX : List Wd → Tb := List.foldl (fun l x => ptA l x.name x.body) []
structure Wa where
 (pw db ll la : Addr)
 ha : Ha
structure Ms where
 lv : List Lv
 hd : Hd
 ac : List Ac
def wf (a : Wa) : List (Str × V) := [("bodies", .ref a.db), ("levels", .ref a.ll), ("hand", .ref a.ha.p), ("acts", .ref a.la)]
def jJ : List La → List Lv → Prop
 | x :: xs, v :: vs => (v.own = true → ∀ y ∈ xs, y.d ≠ x.d) ∧ jJ xs vs
 | _, _ => True
abbrev TbR (K : PySem.W.Frag) (H : Hp) : List Stm → V → Prop := fun b v => Rp K H (bD b) v
structure BW (K : PySem.W.Frag) (t : Adr) (H : Hp) (a : Wa) (ws : Tb) (las : List La) (m : Ms) : Prop where
 wo : ∃ dx, H a.pw = some (.ins t.c_Walk dx (wf a))
 bo : ∃ kvs, H a.db = some (.dK kvs) ∧ As .inr (TbR K H) ws kvs
 le : H a.ll = some (.lst (las.map fun x => V.ref x.p).reverse)
 lv : Paired (BC K t.c_Level H) las m.lv
 ha : CH K t.c_Hand H a.ha m.hd
 ac : ∃ vs, H a.la = some (.lst vs) ∧ RpL K H (m.ac.map Ac.D) vs
 ap : a.pw ≠ a.ha.p ∧ a.ll ≠ a.la ∧ a.ll ≠ a.ha.ls ∧ a.ll ≠ a.ha.lc ∧ a.la ≠ a.ha.ls ∧ a.la ≠ a.ha.lc ∧ a.db ≠ a.ha.lm
 lp : ∀ x ∈ las, x.p ≠ a.pw ∧ x.p ≠ a.ha.p ∧ x.d ≠ a.db ∧ x.d ≠ a.ha.lm
 nd : (las.map (·.p)).Nodup
 od : jJ las m.lv
def oJ (K : PySem.W.Frag) (p : Addr) (ws : List Wd) (H : Hp) (i : Nat) (σ : L2.St) (H2 : Hp) : Prop := ∃ (kvs : List (Key × V)) (o1 o2 o3 : Option V), σ = [o1, o2, o3] ∧ AI H H2 ∧ H2 p = some (.dK kvs) ∧ As .inr (TbR K H2) (BX (ws.take i)) kvs
theorem YZ {ws : List Wd} {i : Nat} {x : Wd} (h : ws[i]? = some x) : BX (ws.take (i + 1)) = ptA (BX (ws.take i)) x.name x.body := by
 unfold BX
 rw [List.take_add_one, h, List.foldl_append]; rfl
theorem gP (ws : List Wd) : (BX ws).length ≤ ws.length := by
 have key : ∀ (l : List Wd) (b : Tb), (l.foldl (fun l x => ptA l x.name x.body) b).length ≤ b.length + l.length := by
  intro l
  induction l with
  | nil => intro b; simp
  | cons x l ih =>
   intro b
   rw [List.foldl_cons, List.length_cons]
   have := ih (ptA b x.name x.body)
   have := QN b x.name x.body
   omega
 have := key ws []
 simpa [BX] using this
theorem pI {K : PySem.W.Frag} {H : Hp} {ws : List Wd} {xs : List V} {i : Nat} {x : V} (h : RpL K H (ws.map Wd.D) xs) (hx : xs[i]? = some x) : ∃ (z : Wd) (p : Addr) (vb : V), ws[i]? = some z ∧ x = .ref p ∧ SqT K H p [.str z.name, .int z.many, vb] ∧ Rp K H (bD z.body) vb := by
 have hi : i < xs.length := (List.getElem?_eq_some_iff.mp hx).1
 have hb : i < ws.length := by rw [h.length, List.length_map] at hi; exact hi
 obtain ⟨v, e, r⟩ := h.at (j := i) (by rw [List.length_map]; exact hb)
 rw [hx] at e; cases e
 rw [List.getD_eq_getElem?_getD, List.getElem?_map, List.getElem?_eq_getElem hb] at r
 have r : Rp K H (ws[i]).D x := r
 rw [Wd.D, Rp] at r
 obtain ⟨p, ys, rfl, hp, ry⟩ := r
 rw [RpL] at ry
 obtain ⟨y0, r0, rfl, a0, ry⟩ := ry
 rw [RpL] at ry
 obtain ⟨y1, r1, rfl, a1, ry⟩ := ry
 rw [RpL] at ry
 obtain ⟨y2, r2, rfl, a2, ry⟩ := ry
 rw [RpL] at ry
 subst ry
 rw [Rp] at a0; rw [Rp] at a1
 subst a0 a1
 exact ⟨_, p, y2, List.getElem?_eq_getElem hb, rfl, hp, a2⟩
section
variable {P : Program} {w : World} {K : PySem.W.Frag} {mg : Str → Option Value} {base : Heap} {t : Adr}
def dZ (K : PySem.W.Frag) (t : Adr) : Sp := fun vs H Q _ => ∃ (p dx : Addr) (v : V) (ws : List Wd) (body : List Stm), vs = [.ref p, v] ∧ H p = some (.ins t.c_Walk dx []) ∧ Rp K H (pD ws body) v ∧ ws.length ≤ 1000 ∧
 ∀ (a : Wa) (x : La) (H' : Hp), a.pw = p → H a.db = none → H a.ll = none → H a.ha.p = none → H a.la = none → H x.p = none → H x.d = none → H a.ha.ls = none → H a.ha.lc = none → H a.ha.lm = none → But [p] H H' → BW K t H' a (BX ws) [x] ⟨[⟨body, [], 0, 0, 0, true⟩], hd0, []⟩ → Q .non H'
theorem RY (T : Txt K mg t) : BF P w K mg base CX0 3 t.a_Walk_init t.d_Walk_init ["self", "program"] (dZ K t) := by
 refine T.Walk_init.F.ok HI (fun vs H Q E h => ?_) (fun cdv A outer s H vs Q E hr h => ?_)
 ·obtain ⟨p, dx, v, ws, body, rfl, _⟩ := h; rfl
 ·obtain ⟨p, dx, v, ws, body, rfl, hp, rv, hws, q⟩ := h
  obtain ⟨a0, x1, vb, rfl, hs, hx1, rb⟩ := CN.mp rv
  obtain ⟨a1, xs1, rfl, hs1, rl1⟩ := BN.mp hx1
  refine ⟨_, s!"1A2{HI.nd}M3{HI.nd}MdSSgk0A{aZ (sc := AE DR) (N0 := ["self", "program", "words", "body"]) (N := ["name", "many", "inner"]) (js := []) (os := ["name", "many", "inner"]) rfl rfl rfl ⟨by decide +kernel, by decide +kernel, by decide +kernel, by decide +kernel, by decide +kernel, by decide +kernel⟩ s!"2A$" (fun _ _ _ _ => (@iF _ (K) _ _ _ _ (3) rfl rfl s!"0{show List.Nodup (["name", "many", "inner"] : List Str) by decide +kernel}M1{show List.Nodup (["name", "many", "inner"] : List Str) by decide +kernel}M2{show List.Nodup (["name", "many", "inner"] : List Str) by decide +kernel}MdSSS" (by rfl) (by rfl))) (fun _ _ _ _ => s!"0A") (fun _ _ _ _ => s!"2A")}T0A{T.Level_init.mki}{FE T}{hr.mono (by decide)}{T.mg_Level}{T.Level_init.b}{CM}3A{@UL _ _}CBBqCBZT0A{@TD _ _ _ _ _ _ _ _ _ _ _ _ _ _ T.Hand_init.mki (KC T) (hr.mono (by decide)) (by rfl) T.mg_Hand T.Hand_init.b .nil CM (by decide)}T0ACZTFEEEE", ?_⟩
  walk_at "ro"
  refine ⟨_, hs, rfl, ?_⟩
  walk_at "ro"
  refine ⟨⟨_, hs1⟩, fun d0 hd0 => ?_⟩
  refine iI (xs := xs1) (oJ K d0 ws H) ⟨[], none, none, none, rfl, AI.upd hd0, AB, .nil⟩ (fun i σ H2 _ z => by obtain ⟨_, _, _, _, rfl, s2, _⟩ := z; exact s2.tup hs1) ?_ ?_
  ·rintro i x σ H2 hx ⟨kvs, o1, o2, o3, rfl, s2, h2, r2⟩
   obtain ⟨z, pz, vz, hz, rfl, hpz, rz⟩ := pI (rl1.same s2) hx
   have hi : i < xs1.length := (List.getElem?_eq_some_iff.mp hx).1
   walk_at "rd"
   refine ⟨_, hpz, rfl, ?_⟩
   walk_at "rd"
   have lz := gP (ws.take i)
   have lw : xs1.length = ws.length := by rw [rl1.length, List.length_map]
   refine ⟨kvs, .inr z.name, rfl, h2, DO (by rw [← r2.length]; rw [List.length_take] at lz; omega), nx hi ⟨_, _, _, _, rfl, s2.upd2 hd0, AB, ?_⟩⟩
   have t2 : AM H2 (upd H2 d0 (.dK (ES kvs (.inr z.name) vz))) := (AM.refl H2).upd (SJ h2)
   rw [YZ hz]
   exact As.put MF (r2.mono fun b v r => Rp.t t2 r) (rz.t t2)
  rintro σ H2 ⟨kvs, o1, o2, o3, rfl, s2, h2, r2⟩
  have lw : xs1.length = ws.length := by rw [rl1.length, List.length_map]
  rw [List.take_of_length_le (by omega)] at r2
  have hp2 := s2 _ _ hp
  have rb2 := rb.same s2
  have nd0 := AK hp hd0
  refine ⟨_, _, _, hp2, T.cl_Walk, T.n_Walk_bodies, by decide, ?_⟩
  have b1 : But [p] H (upd H2 p (.ins t.c_Walk dx (BE (Str.ofString "bodies") (.ref d0) []))) := s2.but.upd (.inr (by simp))
  have g1 : (upd H2 p (.ins t.c_Walk dx (BE (Str.ofString "bodies") (.ref d0) []))) p = some (.ins t.c_Walk dx (BE (Str.ofString "bodies") (.ref d0) [])) := AB
  have k1 : (upd H2 p (.ins t.c_Walk dx (BE (Str.ofString "bodies") (.ref d0) []))) d0 = some (.dK kvs) := by rw [AH nd0.symm]; exact h2
  have t1 : AM H2 (upd H2 p (.ins t.c_Walk dx (BE (Str.ofString "bodies") (.ref d0) []))) := (AM.refl H2).upd (GH hp2)
  have r1 : As .inr (TbR K (upd H2 p (.ins t.c_Walk dx (BE (Str.ofString "bodies") (.ref d0) [])))) (BX ws) kvs := r2.mono fun b v r => Rp.t t1 r
  have rb1 := rb2.t t1
  generalize upd H2 p (.ins t.c_Walk dx (BE (Str.ofString "bodies") (.ref d0) [])) = G1 at b1 g1 k1 t1 r1 rb1 ⊢
  clear t1 r2 rb2 hp2 h2 s2
  intro d1 hd1 pl dxl hpl hdxl nel
  refine ⟨pl, dxl, d1, vb, rfl, AB, fun G3 e3 => ?_⟩
  have fpl1 : G1 pl = none := (un hpl).2
  have npd1 : pl ≠ d1 := (un hpl).1
  have fdx1 : G1 dxl = none := (un hdxl).2
  have ndx1 : dxl ≠ d1 := (un hdxl).1
  have s3 : AI G1 G3 := fun c o e => by
   have n1 := AK e fpl1
   have n2 := AK e fdx1
   have n3 := AK e hd1
   rw [e3, AH n1, AH n1, AH n2, AH n3]; exact e
  have l3 : G3 pl = some (.ins t.c_Level dxl (lf vb d1 0 0 0)) := by rw [e3, AB]
  have e3d : G3 d1 = some (.dK []) := by rw [e3, AH npd1.symm, AH npd1.symm, AH ndx1.symm, AB]
  have b3 : But [p] H G3 := b1.trans s3.but
  have fd1 : H d1 = none := b1.free (by simp [g1]) hd1
  have fpl : H pl = none := b1.free (by simp [g1]) fpl1
  have g3 := s3 _ _ g1
  have k3 := s3 _ _ k1
  have r3 : As .inr (TbR K G3) (BX ws) kvs := r1.mono fun b v r => Rp.same s3 r
  have rb3 := rb1.same s3
  have npl := AK g1 fpl1
  have nd1' := AK k1 hd1
  clear e3 hpl hdxl s3 r1 rb1
  refine ⟨rfl, by decide, fun ll hll => ?_⟩
  have nll := AK g3 hll
  refine ⟨_, _, _, by rw [AH nll]; exact g3, T.cl_Walk, T.n_Walk_levels, by exact (show (1 : Nat) < 1000 by decide), ?_⟩
  have fll : H ll = none := b3.free (by simp [g3]) hll
  have c4 : ∀ c o, c ≠ p → G3 c = some o → (upd (upd G3 ll (.lst [.ref pl])) p (.ins t.c_Walk dx (BE (Str.ofString "levels") (.ref ll) (BE (Str.ofString "bodies") (.ref d0) [])))) c = some o := fun c o n e => by rw [AH n, AH (AK e hll)]; exact e
  have b4 : But [p] H (upd (upd G3 ll (.lst [.ref pl])) p (.ins t.c_Walk dx (BE (Str.ofString "levels") (.ref ll) (BE (Str.ofString "bodies") (.ref d0) [])))) := (b3.upd (.inl fll)).upd (.inr (by simp))
  have g4 : (upd (upd G3 ll (.lst [.ref pl])) p (.ins t.c_Walk dx (BE (Str.ofString "levels") (.ref ll) (BE (Str.ofString "bodies") (.ref d0) [])))) p = some (.ins t.c_Walk dx (BE (Str.ofString "levels") (.ref ll) (BE (Str.ofString "bodies") (.ref d0) []))) := AB
  have l4 := c4 _ _ npl.symm l3
  have d4 := c4 _ _ (BJ g3 e3d (by intro z; cases z)).symm e3d
  have k4 := c4 _ _ nd0.symm k3
  have m4 : (upd (upd G3 ll (.lst [.ref pl])) p (.ins t.c_Walk dx (BE (Str.ofString "levels") (.ref ll) (BE (Str.ofString "bodies") (.ref d0) [])))) ll = some (.lst [.ref pl]) := by rw [AH nll.symm, AB]
  have t4 : AM G3 (upd (upd G3 ll (.lst [.ref pl])) p (.ins t.c_Walk dx (BE (Str.ofString "levels") (.ref ll) (BE (Str.ofString "bodies") (.ref d0) [])))) := fun c o e k => c4 c o (by rintro rfl; exact GH g3 o e k) e
  have r4 : As .inr (TbR K (upd (upd G3 ll (.lst [.ref pl])) p (.ins t.c_Walk dx (BE (Str.ofString "levels") (.ref ll) (BE (Str.ofString "bodies") (.ref d0) []))))) (BX ws) kvs := r3.mono fun b v r => Rp.t t4 r
  have rb4 := rb3.t t4
  generalize upd (upd G3 ll (.lst [.ref pl])) p (.ins t.c_Walk dx (BE (Str.ofString "levels") (.ref ll) (BE (Str.ofString "bodies") (.ref d0) []))) = G4 at b4 g4 l4 d4 k4 m4 r4 rb4 ⊢
  clear c4 t4 r3 rb3 g3 l3 k3 e3d b3 hll
  intro ph dxh hph hdxh neh
  have c5 : AI G4 (upd (upd G4 dxh (.own ph)) ph (.ins t.c_Hand dxh [])) := fun b o e => by rw [AH (AK e hph), AH (AK e hdxh)]; exact e
  refine ⟨ph, dxh, rfl, AB, fun ha G6 eha hls hlc hlm b6 hA => ?_⟩
  subst eha
  have k6 : AI G4 G6 := fun b o e => b6 b o (c5 b o e) (by simp only [List.mem_singleton]; exact AK e hph)
  have fr : ∀ {b}, (upd (upd G4 dxh (.own ha.p)) ha.p (.ins t.c_Hand dxh [])) b = none → G4 b = none := fun {b} e => (un (un e).2).2
  have b7 : But [p] H G6 := b4.trans k6.but
  have fH : ∀ {b}, G4 b = none → H b = none := fun {b} e => b4.free (by simp [g4]) e
  refine ⟨rfl, ?_⟩
  walk_at "ro"
  have g6 := k6 p _ g4
  obtain ⟨⟨dh, vp, hp6, rp6⟩, ⟨vs1, hs6, rs6⟩, ⟨vs2, hc6, rc6⟩, ⟨kv6, hm6, rm6⟩, ne6⟩ := id hA
  refine ⟨_, _, _, g6, T.cl_Walk, T.n_Walk_hand, (show (2 : Nat) < 1000 by decide), by decide, fun la hla => ?_⟩
  have nla := (un hla).1
  have fla6 := (un hla).2
  have fla4 : G4 la = none := by
   cases e : G4 la with
   | none => rfl
   | some o => rw [k6 _ _ e] at fla6; cases fla6
  refine ⟨_, _, _, by rw [AH nla.symm, AB], T.cl_Walk, T.n_Walk_acts, by exact (show (3 : Nat) < 1000 by decide), ?_⟩
  generalize eF : (upd (upd (upd G6 p (.ins t.c_Walk dx (BE (Str.ofString "hand") (V.ref ha.p) (BE (Str.ofString "levels") (.ref ll) (BE (Str.ofString "bodies") (.ref d0) []))))) la (.lst [])) p (.ins t.c_Walk dx (BE (Str.ofString "acts") (V.ref la) (BE (Str.ofString "hand") (V.ref ha.p) (BE (Str.ofString "levels") (.ref ll) (BE (Str.ofString "bodies") (.ref d0) [])))))) = GF
  have cF : ∀ b o, b ≠ p → G6 b = some o → GF b = some o := fun b o hb e => by rw [← eF, AH hb, AH (AK e fla6), AH hb]; exact e
  have gF : GF p = some (.ins t.c_Walk dx (wf ⟨p, d0, ll, la, ha⟩)) := by rw [← eF, AB]; rfl
  have aF : GF la = some (.lst []) := by rw [← eF, AH nla, AB]
  have bF : But [p] H GF := fun b o e k => cF b o (by simpa using k) (b7 b o e k)
  have tF : AM G6 GF := fun b o e k => cF b o (by rintro rfl; exact GH g6 o e k) e
  have n4 : ∀ {c : Addr} {o : HO}, G4 c = some o → c ≠ p → GF c = some o := fun {c o} e n => cF c o n (k6 _ _ e)
  have np : ∀ {c : Addr}, G4 c = none → c ≠ p := fun {c} e => (AK g4 e).symm
  clear eF
  refine q ⟨p, d0, ll, la, ha⟩ ⟨pl, d1⟩ GF rfl hd0 fll (fH hph) (fH fla4) fpl fd1 (fH (fr hls)) (fH (fr hlc)) (fH (fr hlm)) bF ⟨⟨dx, gF⟩, ⟨kvs, n4 k4 nd0.symm, r4.mono fun b v r => Rp.t tF (Rp.same k6 r)⟩, n4 m4 nll.symm, .cons ⟨⟨dxl, vb, n4 l4 npl.symm, (rb4.same k6).t tF⟩, ⟨[], n4 d4 (BJ g4 d4 (by intro z; cases z)).symm, .nil⟩⟩ .nil, hA.off (l := [p]) (fun b o e n => cF b o (by simpa using n) e) tF ?_, ⟨[], aF, RpL.nil⟩, ⟨?_, ?_, ?_, ?_, ?_, ?_, ?_⟩, ?_, by simp, ⟨(fun _ y hy => by cases hy), trivial⟩⟩
  ·intro c hc
   simp only [List.mem_cons, List.not_mem_nil, or_false] at hc ⊢
   rcases hc with rfl | rfl | rfl | rfl
   ·exact np hph
   ·exact np (fr hls)
   ·exact np (fr hlc)
   ·exact np (fr hlm)
  ·exact (np hph).symm
  ·exact AK m4 fla4
  ·exact AK m4 (fr hls)
  ·exact AK m4 (fr hlc)
  ·exact (AK hs6 fla6).symm
  ·exact (AK hc6 fla6).symm
  ·exact AK k4 (fr hlm)
  ·intro x hx
   rw [List.mem_singleton] at hx
   subst hx
   exact ⟨npl.symm, AK l4 hph, nd1'.symm, AK d4 (fr hlm)⟩
end
theorem OG {K : PySem.W.Frag} {C : Addr} {H H' : Hp} : ∀ {las : List La} {lv : List Lv}, Paired (BC K C H) las lv → (∀ x v, x ∈ las → BC K C H x v → BC K C H' x v) → Paired (BC K C H') las lv
 | _, _, .nil, _ => .nil
 | _ :: _, _ :: _, .cons r t, f => .cons (f _ _ List.mem_cons_self r) (OG t fun x v m => f x v (List.mem_cons_of_mem _ m))
theorem LK {K : PySem.W.Frag} {C : Addr} {H : Hp} : ∀ {las : List La} {lv : List Lv}, Paired (BC K C H) las lv → ∀ x ∈ las, ∃ v ∈ lv, BC K C H x v
 | _, _, .nil, x, m => by cases m
 | y :: _, u :: _, .cons r t, x, m => by
  rcases List.mem_cons.mp m with rfl | m
  ·exact ⟨u, List.mem_cons_self, r⟩
  ·obtain ⟨v, mv, h⟩ := LK t x m
   exact ⟨v, List.mem_cons_of_mem _ mv, h⟩
theorem BC.nl {K : PySem.W.Frag} {C l : Addr} {H : Hp} {x : La} {v : Lv} {vs : List V} (h : BC K C H x v) (e : H l = some (.lst vs)) : x.p ≠ l ∧ x.d ≠ l := by
 obtain ⟨⟨dx, vb, h1, _⟩, ⟨kvs, h2, _⟩⟩ := h
 exact ⟨BJ h1 e (by intro z; cases z), BJ h2 e (by intro z; cases z)⟩
theorem CH.nl {K : PySem.W.Frag} {C l : Addr} {H : Hp} {a : Ha} {x : Hd} {vs : List V} (h : CH K C H a x) (e : H l = some (.lst vs)) (n1 : l ≠ a.ls) (n2 : l ≠ a.lc) : ∀ c ∈ a.l, c ∉ [l] := by
 obtain ⟨⟨dx, vp, hp, _⟩, _, _, ⟨kvs, hm, _⟩, _⟩ := h
 have e1 : a.p ≠ l := BJ hp e (by intro z; cases z)
 have e2 : a.lm ≠ l := BJ hm e (by intro z; cases z)
 intro c hc
 simp only [List.mem_cons, List.not_mem_nil, or_false] at hc ⊢
 rcases hc with rfl | rfl | rfl | rfl
 ·exact e1
 ·exact n1.symm
 ·exact n2.symm
 ·exact e2
theorem BW.lev {K : PySem.W.Frag} {t : Adr} {H : Hp} {a : Wa} {ws : Tb} {las : List La} {m : Ms} (h : BW K t H a ws las m) {las' : List La} {lv' : List Lv} (hl : Paired (BC K t.c_Level H) las' lv') (lp : ∀ x ∈ las', x.p ≠ a.pw ∧ x.p ≠ a.ha.p ∧ x.d ≠ a.db ∧ x.d ≠ a.ha.lm) (nd : (las'.map (·.p)).Nodup) (od : jJ las' lv') :
  But [a.ll] H (upd H a.ll (.lst (las'.map fun x => V.ref x.p).reverse)) ∧ AM H (upd H a.ll (.lst (las'.map fun x => V.ref x.p).reverse)) ∧ BW K t (upd H a.ll (.lst (las'.map fun x => V.ref x.p).reverse)) a ws las' { m with lv := lv' } := by
 obtain ⟨⟨dx, wo⟩, ⟨kvs, bo, rbo⟩, le, lv, hA, ⟨vs, ac, rac⟩, ⟨n1, n2, n3, n4, n5, n6, n7⟩, _, _, _⟩ := h
 have st : AM H (upd H a.ll (.lst (las'.map fun x => V.ref x.p).reverse)) := (AM.refl H).upd (CS le)
 have bt : But [a.ll] H (upd H a.ll (.lst (las'.map fun x => V.ref x.p).reverse)) := (But.refl _ H).upd (.inr (by simp))
 have k : ∀ {b : Addr} {o : HO}, H b = some o → b ≠ a.ll → (upd H a.ll (.lst (las'.map fun x => V.ref x.p).reverse)) b = some o := fun {b o} e hb => by rw [AH hb]; exact e
 refine ⟨bt, st, ⟨dx, k wo (BJ wo le (by intro z; cases z))⟩, ⟨kvs, k bo (BJ bo le (by intro z; cases z)), rbo.mono fun b v r => Rp.t st r⟩, AB, OG hl fun x v _ r => ?_, hA.off bt st (hA.nl le n3 n4), ⟨vs, k ac n2.symm, rac.t st⟩, ⟨n1, n2, n3, n4, n5, n6, n7⟩, lp, nd, od⟩
 have := r.nl le
 exact r.off bt st (by simpa using this.1) (by simpa using this.2)
theorem BW.same {K : PySem.W.Frag} {t : Adr} {H H' : Hp} {a : Wa} {ws : Tb} {las : List La} {m : Ms} (h : BW K t H a ws las m) (s : AI H H') : BW K t H' a ws las m := by
 obtain ⟨⟨dx, wo⟩, ⟨kvs, bo, rbo⟩, le, lv, hA, ⟨vs, ac, rac⟩, ap, lp, nd, od⟩ := h
 exact ⟨⟨dx, s _ _ wo⟩, ⟨kvs, s _ _ bo, rbo.mono fun b v r => Rp.same s r⟩, s _ _ le, OG lv fun x v _ r => r.same s, hA.same s, ⟨vs, s _ _ ac, rac.same s⟩, ap, lp, nd, od⟩
def cln (m : Ms) : Ms := { m with lv := m.lv.dropWhile Lv.thr }
def lvn (ll : Addr) (_ : L2.St) (H : Hp) : Nat := match H ll with | some (.lst xs) => xs.length | _ => 0
def kG (K : PySem.W.Frag) (t : Adr) (a : Wa) (ws : Tb) (las : List La) (m : Ms) (H : Hp) (σ : L2.St) (H2 : Hp) : Prop :=
 ∃ (las2 : List La) (lv2 : List Lv), σ = [some (.ref a.pw)] ∧ But [a.ll] H H2 ∧ AM H H2 ∧ BW K t H2 a ws las2 { m with lv := lv2 } ∧ (∀ x ∈ las2, x ∈ las) ∧ lv2.dropWhile Lv.thr = m.lv.dropWhile Lv.thr
section
variable {P : Program} {w : World} {K : PySem.W.Frag} {mg : Str → Option Value} {base : Heap} {t : Adr}
def fG (K : PySem.W.Frag) (t : Adr) : Sp := fun vs H Q _ => ∃ (a : Wa) (ws : Tb) (las : List La) (m : Ms), vs = [.ref a.pw] ∧ BW K t H a ws las m ∧
 ∀ las' H', But [a.ll] H H' → AM H H' → (∀ x ∈ las', x ∈ las) → BW K t H' a ws las' (cln m) → Q (.bl (cln m).lv.isEmpty) H'
theorem IN (T : Txt K mg t) : BF P w K mg base CX0 3 t.a_Walk_isdone t.d_Walk_isdone ["self"] (fG K t) := by
 refine T.Walk_isdone.F.ok OT (fun vs H Q E h => ?_) (fun cdv A outer s H vs Q E hr h => ?_)
 ·obtain ⟨a, ws, las, m, rfl, _⟩ := h; rfl
 ·obtain ⟨a, ws, las, m, rfl, hW, q⟩ := h
  refine ⟨_, s!"{@UP _ _ _ _ _ _ PassesOwn.never (@PW.pt _ _ _ s!"{@eJ _ _ _ s!"0AK" (fun _ => rfl)}{CO}0AKDsH{T.cl_Level}{T.Level_isthrough.mt}{JP T}{hr.mono (by decide)}{T.Level_isthrough.b}{CM}meyx") s!"{@nO _ _ _ _ _ _ _ _ _ PySem.F.plainAttrs_list PySem.F.slot_list_pop PySem.F.type_list_pop lL s!"0AK" (by rfl) (by rfl)}WF"}{@jZ _ _ _ _ s!"0AK"}NFE", ?_⟩
  walk_at "ro"
  refine YA (kG K t a ws las m H) (lvn a.ll) ⟨las, m.lv, rfl, But.refl _ H, AM.refl H, hW, fun _ h => h, rfl⟩ ?_
  rintro σ H2 ⟨las2, lv2, rfl, b2, t2, hW2, sub, he⟩
  obtain ⟨⟨dx, wo⟩, bo, le, lv, hA, ac, ap, lp, nd, od⟩ := id hW2
  walk_at "ro"
  refine ⟨_, _, _, wo, T.cl_Walk, T.n_Walk_levels, _, rfl, !(((las2.map fun x => V.ref x.p).reverse) : List V).isEmpty, .inl ⟨_, SqL.of le, rfl⟩, ?_⟩
  have lv' : Paired (BC K t.c_Level H2) las2 lv2 := lv
  clear lv
  cases lv' with
  | nil =>
   rw [if_neg (by simp)]
   refine ⟨_, _, _, wo, T.cl_Walk, T.n_Walk_levels, _, rfl, false, .inl ⟨_, SqL.of le, rfl⟩, ?_⟩
   have e : cln m = { m with lv := [] } := by simp only [cln, ← he]; rfl
   have z := q [] H2 b2 t2 sub
   rw [e] at z
   exact z hW2
  | @cons x v las3 lv3 hx ht =>
   obtain ⟨⟨dl, vb, hxp, rb⟩, hen⟩ := id hx
   have le' : H2 a.ll = some (.lst ((las3.map fun x => V.ref x.p).reverse ++ [.ref x.p])) := by rw [le]; simp
   have ise : (((x :: las3).map fun x => V.ref x.p).reverse : List V).isEmpty = false := by simp
   rw [ise]
   walk_at "ro"
   refine ⟨_, _, _, wo, T.cl_Walk, T.n_Walk_levels, _, rfl, ?_⟩
   dsimp only
   refine ⟨_, SqL.of le', .ref x.p, TR _ _, x.p, rfl, _, _, hxp, rfl, x, v, rfl, hx, ?_⟩
   dsimp only
   by_cases c : v.thr = true
   ·rw [if_pos c]
    have hod : jJ las3 lv3 := od.2
    have nd3 : (las3.map (·.p)).Nodup := (List.nodup_cons.mp nd).2
    refine ⟨fun σ' H' => σ' = [some (.ref a.pw)] ∧ H' = upd H2 a.ll (.lst (las3.map fun x => V.ref x.p).reverse), ?_, ?_⟩
    ·rintro σ' H' ⟨rfl, rfl⟩
     obtain ⟨b3, t3, h3⟩ := hW2.lev ht (fun y hy => lp y (List.mem_cons_of_mem _ hy)) nd3 hod
     refine ⟨_, ?_, rfl, las3, lv3, rfl, b2.trans b3, t2.trans t3, h3, fun y hy => sub y (List.mem_cons_of_mem _ hy), ?_⟩
     ·simp only [lvn, le', AB]; simp
     ·rw [← he, List.dropWhile_cons, if_pos c]
    ·refine ⟨_, _, _, wo, T.cl_Walk, T.n_Walk_levels, _, rfl, .inl ⟨_, SqL.of le'⟩, ?_⟩
     exact ⟨a.ll, rfl, _, le', ⟨.ref x.p, by simp⟩, rfl, by rw [List.dropLast_concat]⟩
   ·rw [if_neg c]
    refine ⟨_, _, _, wo, T.cl_Walk, T.n_Walk_levels, _, rfl, true, .inl ⟨_, SqL.of le', by simp⟩, ?_⟩
    have e : cln m = { m with lv := v :: lv3 } := by simp only [cln, ← he, List.dropWhile_cons, if_neg c]
    have z := q _ H2 b2 t2 sub
    rw [e] at z
    exact z hW2
def Wa.l (a : Wa) (las : List La) : List Addr := [a.ll, a.la] ++ a.ha.l ++ las.map (·.p) ++ las.map (·.d)
theorem BW.nt {H : Hp} {a : Wa} {ws : Tb} {las : List La} {m : Ms} (h : BW K t H a ws las m) : ∀ c ∈ a.l las, ∀ u, H c = some u → ¬ ((∃ xs, u = .tup xs) ∨ ∃ o1 o2, u = .frz o1 o2) := by
 obtain ⟨_, _, le, lv, ⟨⟨dx, vp, hp, _⟩, ⟨vs1, hs, _⟩, ⟨vs2, hc, _⟩, ⟨kvs, hm, _⟩, _⟩, ⟨vs, ac, _⟩, _⟩ := h
 intro c hc'
 simp only [Wa.l, Ha.l, List.mem_append, List.mem_cons, List.not_mem_nil, or_false, List.mem_map] at hc'
 rcases hc' with ((((rfl | rfl) | (rfl | rfl | rfl | rfl)) | ⟨x, hx, rfl⟩) | ⟨x, hx, rfl⟩)
 ·exact CS le
 ·exact CS ac
 ·exact GH hp
 ·exact CS hs
 ·exact CS hc
 ·exact SJ hm
 ·obtain ⟨v, _, ⟨⟨dx, vb, h1, _⟩, _⟩⟩ := LK lv x hx
  exact GH h1
 ·obtain ⟨v, _, ⟨_, ⟨kvs, h1, _⟩⟩⟩ := LK lv x hx
  exact SJ h1
def JM (K : PySem.W.Frag) (t : Adr) (a : Wa) (ws : Tb) (las : List La) (H : Hp) (Q : VK) (E : XK) : Except Bool Ms → Prop
 | .ok m => ∀ las' H', But (a.l las) H H' → (∀ x ∈ las', (x.p ∈ las.map (·.p) ∨ H x.p = none) ∧ (x.d ∈ las.map (·.d) ∨ H x.d = none)) → BW K t H' a ws las' m → Q .non H'
 | .error b => ∀ H', But (a.l las) H H' → E (.ref (if b then t.c_NoMark else t.c_TooGreat)) none H'
def JI (m : Ms) (s : Ac) : Except Bool Ms := match stp m.hd s with
 | some y => .ok { m with hd := y, ac := m.ac ++ [s] }
 | none => .error true
def iZ (K : PySem.W.Frag) (t : Adr) : Sp := fun vs H Q E => ∃ (a : Wa) (ws : Tb) (las : List La) (m : Ms) (s : Ac) (v : V), vs = [.ref a.pw, v] ∧ BW K t H a ws las m ∧ Rp K H s.D v ∧ s.ok ∧ m.hd.co.length ≤ 5000 ∧ m.hd.st.length ≤ 5000 ∧ m.hd.ms.length ≤ 5000 ∧ m.ac.length ≤ 5000 ∧ JM K t a ws las H Q E (JI m s)
theorem MB (T : Txt K mg t) : BF P w K mg base (CXr P w) 5 t.a_Walk_act t.d_Walk_act ["self", "statement"] (iZ K t) := by
 refine T.Walk_act.F.okR SL (fun vs H Q E h => ?_) (fun cdv A outer s H vs Q E hr h => ?_)
 ·obtain ⟨a, ws, las, m, s, v, rfl, _⟩ := h; rfl
 ·obtain ⟨a, ws, las, m, s1, v, rfl, hW, rv, ho, hc, hst, hms, hac, q⟩ := h
  obtain ⟨⟨dx, wo⟩, ⟨kvs, bo, rbo⟩, le, lv, hA, ⟨vs, ac, rac⟩, ⟨n1, n2, n3, n4, n5, n6, n7⟩, lp, nd, od⟩ := id hW
  obtain ⟨⟨dh, vp, hp, rp⟩, ⟨vs1, hs, rs⟩, ⟨vs2, hc2, rc⟩, ⟨km, hm, rm⟩, ne⟩ := id hA
  refine ⟨_, s!"0AK{T.cl_Hand}{T.Hand_act.mt}{LV T}{hr.mono (by decide)}{T.Hand_act.b}{CQ}1ACBiW{PySem.F.slot_list_append}{PySem.F.type_list_append}{DT}0AK1ACBfWFE", ?_⟩
  walk_at "ro"
  refine ⟨_, _, _, wo, T.cl_Walk, T.n_Walk_hand, _, rfl, a.ha.p, rfl, _, _, hp, rfl, a.ha, m.hd, s1, v, rfl, hA, rv, ho, hc, hst, hms, ?_⟩
  have sub : ∀ c ∈ a.ha.l, c ∈ a.l las := fun c hc => by simp only [Wa.l, List.mem_append]; exact .inl (.inl (.inr hc))
  unfold JI at q
  cases e : stp m.hd s1 with
  | none =>
   rw [e] at q
   exact fun H' b' t' => q H' (b'.mono sub)
  | some y =>
   rw [e] at q
   intro H2 b2 t2 hA2
   have k2 : ∀ {b : Addr} {o : HO}, H b = some o → b ∉ a.ha.l → H2 b = some o := fun {b o} e n => b2 b o e n
   have nw : a.pw ∉ a.ha.l := by
    simp only [List.mem_cons, List.not_mem_nil, or_false, not_or]
    exact ⟨n1, GI wo hs, GI wo hc2, BJ wo hm (by intro z; cases z)⟩
   have nb : a.db ∉ a.ha.l := by
    simp only [List.mem_cons, List.not_mem_nil, or_false, not_or]
    exact ⟨BJ bo hp (by intro z; cases z), BJ bo hs (by intro z; cases z), BJ bo hc2 (by intro z; cases z), n7⟩
   have nle : a.ll ∉ a.ha.l := by
    simp only [List.mem_cons, List.not_mem_nil, or_false, not_or]
    exact ⟨BJ le hp (by intro z; cases z), n3, n4, BJ le hm (by intro z; cases z)⟩
   have nac : a.la ∉ a.ha.l := by
    simp only [List.mem_cons, List.not_mem_nil, or_false, not_or]
    exact ⟨BJ ac hp (by intro z; cases z), n5, n6, BJ ac hm (by intro z; cases z)⟩
   have wo2 := k2 wo nw
   have ac2 := k2 ac nac
   walk_at "ro"
   refine ⟨_, _, _, wo2, T.cl_Walk, T.n_Walk_acts, _, rfl, .inl ⟨_, SqL.of ac2⟩, _, ac2, by refine DO ?_; rw [rac.length, List.length_map]; exact hac, ?_⟩
   have t3 : AM H2 (upd H2 a.la (.lst (vs ++ [v]))) := (AM.refl H2).upd (CS ac2)
   have b3 : But [a.la] H2 (upd H2 a.la (.lst (vs ++ [v]))) := (But.refl _ H2).upd (.inr (by simp))
   have k3 : ∀ {b : Addr} {o : HO}, H2 b = some o → b ≠ a.la → (upd H2 a.la (.lst (vs ++ [v]))) b = some o := fun {b o} e m => by rw [AH m]; exact e
   have t23 := t2.trans t3
   refine q las _ (((b2.mono sub).trans (b3.mono (by intro c hc; simp only [List.mem_singleton] at hc; subst hc; simp [Wa.l])))) (fun x hx => ⟨.inl (List.mem_map_of_mem hx), .inl (List.mem_map_of_mem hx)⟩) ⟨⟨dx, k3 wo2 (GI wo ac)⟩, ⟨kvs, k3 (k2 bo nb) (BJ bo ac (by intro z; cases z)), rbo.mono fun b v r => Rp.t t23 r⟩, k3 (k2 le nle) n2, OG lv fun x z hx r => ?_, hA2.off b3 t3 ?_, ⟨_, AB, ?_⟩, ⟨n1, n2, n3, n4, n5, n6, n7⟩, lp, nd, od⟩
   ·obtain ⟨⟨dx1, vb1, h1, _⟩, ⟨kv1, h2, _⟩⟩ := id r
    obtain ⟨l1, l2, l3, l4⟩ := lp x hx
    have r2 : BC K t.c_Level H2 x z := r.off b2 t2 (by
     simp only [List.mem_cons, List.not_mem_nil, or_false, not_or]
     exact ⟨l2, GI h1 hs, GI h1 hc2, BJ h1 hm (by intro z; cases z)⟩) (by
     simp only [List.mem_cons, List.not_mem_nil, or_false, not_or]
     exact ⟨BJ h2 hp (by intro z; cases z), BJ h2 hs (by intro z; cases z), BJ h2 hc2 (by intro z; cases z), l4⟩)
    have := r2.nl ac2
    exact r2.off b3 t3 (by simpa using this.1) (by simpa using this.2)
   ·exact hA2.nl ac2 n5 n6
   ·show RpL K _ ((m.ac ++ [s1]).map Ac.D) _
    rw [List.map_append]
    exact (rac.t t23).app (RpL.one (rv.t t23))
end
def NUM : List Str := ["n0", "n1", "n2", "n3"]
def FZ (e : En) : List Am → Option (List Int)
 | [] => some []
 | a :: r => match wth e a with
  | none => none
  | some n => (FZ e r).map (n :: ·)
def bgn (ws : Tb) (m : Ms) (e : En) : Stm → Except Bool Ms
 | .go a => match wth e a with | none => .error false | some n => JI m (.go n)
 | .turn a => match wth e a with | none => .error false | some n => JI m (.turn n)
 | .ink a => match wth e a with | none => .error false | some n => JI m (.ink n)
 | .up => JI m .up
 | .down => JI m .down
 | .mark n => JI m (.mark n)
 | .back n => JI m (.back n)
 | .again a b => match wth e a with | none => .error false | some n => .ok { m with lv := ⟨b, e, b.length, 0, n, true⟩ :: m.lv }
 | .ifs a b c => match wth e a with | none => .error false | some n => .ok { m with lv := ⟨if 0 < n then b else c, e, 0, 0, 0, false⟩ :: m.lv }
 | .dow x as => match FZ e as with | none => .error false | some ns => .ok { m with lv := ⟨(lkA ws x).getD [], NUM.zip ns, 0, 0, 0, true⟩ :: m.lv }
def gC (ws : Tb) (e : En) : Stm → Prop
 | .go a => SN e a
 | .turn a => SN e a
 | .ink a => SN e a
 | .again a _ => SN e a
 | .ifs a _ _ => SN e a
 | .dow x as => (∀ a ∈ as, SN e a) ∧ as.length ≤ 1000 ∧ ∃ b, lkA ws x = some b
 | _ => True
def Stm.xs (va vb vc : V) : Stm → List V
 | .go _ => [.str "go", va]
 | .turn _ => [.str "turn", va]
 | .ink _ => [.str "ink", va]
 | .up => [.str "up"]
 | .down => [.str "down"]
 | .mark n => [.str "mark", .int n]
 | .back n => [.str "back", .int n]
 | .again _ _ => [.str "again", va, vb]
 | .ifs _ _ _ => [.str "if", va, vb, vc]
 | .dow x _ => [.str "do", .str x, va]
def Stm.rp (K : PySem.W.Frag) (H : Hp) (va vb vc : V) : Stm → Prop
 | .go a => Rp K H a.D va
 | .turn a => Rp K H a.D va
 | .ink a => Rp K H a.D va
 | .again a b => Rp K H a.D va ∧ Rp K H (bD b) vb
 | .ifs a b c => Rp K H a.D va ∧ Rp K H (bD b) vb ∧ Rp K H (bD c) vc
 | .dow _ as => Rp K H (.tup (as.map Am.D)) va
 | _ => True
theorem mC {K : PySem.W.Frag} {H : Hp} {a : L2.D} {xs : List V} (h : RpL K H [a] xs) : ∃ x, xs = [x] ∧ Rp K H a x := by
 rw [RpL] at h; obtain ⟨x, r, rfl, h1, h⟩ := h; rw [RpL] at h; subst h; exact ⟨x, rfl, h1⟩
theorem aN {K : PySem.W.Frag} {H : Hp} {a b : L2.D} {xs : List V} (h : RpL K H [a, b] xs) : ∃ x y, xs = [x, y] ∧ Rp K H a x ∧ Rp K H b y := by
 rw [RpL] at h; obtain ⟨x, r, rfl, h1, h⟩ := h; obtain ⟨y, rfl, h2⟩ := mC h; exact ⟨x, y, rfl, h1, h2⟩
theorem NE {K : PySem.W.Frag} {H : Hp} {a b c : L2.D} {xs : List V} (h : RpL K H [a, b, c] xs) : ∃ x y z, xs = [x, y, z] ∧ Rp K H a x ∧ Rp K H b y ∧ Rp K H c z := by
 rw [RpL] at h; obtain ⟨x, r, rfl, h1, h⟩ := h; obtain ⟨y, z, rfl, h2, h3⟩ := aN h; exact ⟨x, y, z, rfl, h1, h2, h3⟩
theorem nY {K : PySem.W.Frag} {H : Hp} {a b c d : L2.D} {xs : List V} (h : RpL K H [a, b, c, d] xs) : ∃ x y z u, xs = [x, y, z, u] ∧ Rp K H a x ∧ Rp K H b y ∧ Rp K H c z ∧ Rp K H d u := by
 rw [RpL] at h; obtain ⟨x, r, rfl, h1, h⟩ := h; obtain ⟨y, z, u, rfl, h2, h3, h4⟩ := NE h; exact ⟨x, y, z, u, rfl, h1, h2, h3, h4⟩
theorem BD {K : PySem.W.Frag} {H : Hp} {x : Str} {v : V} (h : Rp K H (.str x) v) : v = .str x := by rw [Rp] at h; exact h
theorem II {K : PySem.W.Frag} {H : Hp} {x : Int} {v : V} (h : Rp K H (.int x) v) : v = .int x := by rw [Rp] at h; exact h
theorem lU {K : PySem.W.Frag} {H : Hp} {s : Stm} {v : V} (h : Rp K H s.D v) : ∃ p va vb vc, v = .ref p ∧ SqT K H p (s.xs va vb vc) ∧ s.rp K H va vb vc := by
 cases s with
 | go a => obtain ⟨p, xs, rfl, hp, rl⟩ := BN.mp h; obtain ⟨x, y, rfl, r1, r2⟩ := aN rl; cases BD r1; exact ⟨p, y, .non, .non, rfl, hp, r2⟩
 | turn a => obtain ⟨p, xs, rfl, hp, rl⟩ := BN.mp h; obtain ⟨x, y, rfl, r1, r2⟩ := aN rl; cases BD r1; exact ⟨p, y, .non, .non, rfl, hp, r2⟩
 | ink a => obtain ⟨p, xs, rfl, hp, rl⟩ := BN.mp h; obtain ⟨x, y, rfl, r1, r2⟩ := aN rl; cases BD r1; exact ⟨p, y, .non, .non, rfl, hp, r2⟩
 | up => obtain ⟨p, xs, rfl, hp, rl⟩ := BN.mp h; obtain ⟨x, rfl, r1⟩ := mC rl; cases BD r1; exact ⟨p, .non, .non, .non, rfl, hp, trivial⟩
 | down => obtain ⟨p, xs, rfl, hp, rl⟩ := BN.mp h; obtain ⟨x, rfl, r1⟩ := mC rl; cases BD r1; exact ⟨p, .non, .non, .non, rfl, hp, trivial⟩
 | mark n => obtain ⟨p, xs, rfl, hp, rl⟩ := BN.mp h; obtain ⟨x, y, rfl, r1, r2⟩ := aN rl; cases BD r1; cases II r2; exact ⟨p, .non, .non, .non, rfl, hp, trivial⟩
 | back n => obtain ⟨p, xs, rfl, hp, rl⟩ := BN.mp h; obtain ⟨x, y, rfl, r1, r2⟩ := aN rl; cases BD r1; cases II r2; exact ⟨p, .non, .non, .non, rfl, hp, trivial⟩
 | again a b => rw [Stm.D, JZ] at h; obtain ⟨p, xs, rfl, hp, rl⟩ := BN.mp h; obtain ⟨x, y, z, rfl, r1, r2, r3⟩ := NE rl; cases BD r1; exact ⟨p, y, z, .non, rfl, hp, r2, r3⟩
 | ifs a b c => rw [Stm.D, JZ, JZ] at h; obtain ⟨p, xs, rfl, hp, rl⟩ := BN.mp h; obtain ⟨x, y, z, u, rfl, r1, r2, r3, r4⟩ := nY rl; cases BD r1; exact ⟨p, y, z, u, rfl, hp, r2, r3, r4⟩
 | dow w as => rw [Stm.D] at h; obtain ⟨p, xs, rfl, hp, rl⟩ := BN.mp h; obtain ⟨x, y, z, rfl, r1, r2, r3⟩ := NE rl; cases BD r1; cases BD r2; exact ⟨p, z, .non, .non, rfl, hp, r3⟩
theorem BW.push {K : PySem.W.Frag} {t : Adr} {H : Hp} {a : Wa} {ws : Tb} {las : List La} {m : Ms} (h : BW K t H a ws las m) {x : La} {v : Lv} (hx : BC K t.c_Level H x v) (n1 : ∀ y ∈ las, y.p ≠ x.p) (n2 : x.p ≠ a.pw) (n3 : x.p ≠ a.ha.p) (n4 : x.d ≠ a.db) (n5 : x.d ≠ a.ha.lm) (ow : v.own = true → ∀ y ∈ las, y.d ≠ x.d) :
  But [a.ll] H (upd H a.ll (.lst ((las.map fun x => V.ref x.p).reverse ++ [.ref x.p]))) ∧ BW K t (upd H a.ll (.lst ((las.map fun x => V.ref x.p).reverse ++ [.ref x.p]))) a ws (x :: las) { m with lv := v :: m.lv } := by
 have e : ((x :: las).map fun x => V.ref x.p).reverse = (las.map fun x => V.ref x.p).reverse ++ [.ref x.p] := by simp
 obtain ⟨b, _, r⟩ := h.lev (las' := x :: las) (lv' := v :: m.lv) (.cons hx h.lv) (by
  intro y hy
  rcases List.mem_cons.mp hy with rfl | hy
  ·exact ⟨n2, n3, n4, n5⟩
  ·exact h.lp y hy) (by
  rw [List.map_cons, List.nodup_cons]
  refine ⟨fun z => ?_, h.nd⟩
  rw [List.mem_map] at z
  obtain ⟨y, hy, ey⟩ := z
  exact n1 y hy ey) ⟨ow, h.od⟩
 rw [e] at b r
 exact ⟨b, r⟩
section
variable {P : Program} {w : World} {K : PySem.W.Frag} {mg : Str → Option Value} {base : Heap} {t : Adr}
structure Bnd (m : Ms) : Prop where
 co : m.hd.co.length ≤ 5000
 st : m.hd.st.length ≤ 5000
 ms : m.hd.ms.length ≤ 5000
 ac : m.ac.length ≤ 5000
 lv : m.lv.length ≤ 5000
theorem JM.same {H H1 : Hp} {a : Wa} {ws : Tb} {las : List La} {Q : VK} {E : XK} {r : Except Bool Ms} (h : JM K t a ws las H Q E r) (s : AI H H1) : JM K t a ws las H1 Q E r := by
 have fr : ∀ {c}, H1 c = none → H c = none := fun {c} e => by
  cases h : H c with
  | none => rfl
  | some o => rw [s _ _ h] at e; cases e
 cases r with
 | ok m => exact fun las' H' b n w => h las' H' (s.but.trans b) (fun x hx => ⟨(n x hx).1.imp_right fr, (n x hx).2.imp_right fr⟩) w
 | error b => exact fun H' b => h H' (s.but.trans b)
theorem VD {e : En} {a : Am} {n : Int} (h : wth e a = some n) : -1000000 ≤ n ∧ n ≤ 1000000 := by
 unfold wth at h
 split at h
 ·next c => cases h; exact c
 ·cases h
theorem cD {H : Hp} {p : Addr} {x : Str} {n : Int} (h : H p = some (.tup [.str x, .int n])) : Rp K H (.tup [.str x, .int n]) (.ref p) := by
 rw [Rp]
 exact ⟨p, _, rfl, SqT.of h, CD (by rw [Rp]) (CD (by rw [Rp]) RpL.nil)⟩
def aX (K : PySem.W.Frag) (t : Adr) : Sp := fun vs H Q E => ∃ (a : Wa) (ws : Tb) (las : List La) (m : Ms) (s : Stm) (v : V) (d : Addr) (e : En), vs = [.ref a.pw, v, .ref d] ∧ BW K t H a ws las m ∧ Rp K H s.D v ∧ EnR H d e ∧ d ∈ las.map (·.d) ∧ gC ws e s ∧ Bnd m ∧ JM K t a ws las H Q E (bgn ws m e s)
def kC (p : Addr) (as : List Am) (e : En) (d : Addr) (H : Hp) (i : Nat) (σ : L2.St) (H2 : Hp) : Prop := ∃ (ns : List Int) (o : Option V), σ = [some (.ref d), o] ∧ AI H H2 ∧ H2 p = some (.lst (ns.map V.int)) ∧ FZ e (as.take i) = some ns
theorem NT {e : En} {l2 : List Am} : ∀ {l1 : List Am}, FZ e (l1 ++ l2) = match FZ e l1 with | none => none | some ns => (FZ e l2).map (ns ++ ·)
 | [] => by rw [List.nil_append, FZ]; cases FZ e l2 <;> rfl
 | a :: l1 => by
  rw [List.cons_append, FZ, FZ]
  cases wth e a with
  | none => rfl
  | some n =>
   dsimp only
   rw [NT (l1 := l1)]
   cases FZ e l1 with
   | none => rfl
   | some ns => dsimp only; cases FZ e l2 <;> rfl
theorem dN {e : En} {as : List Am} {i : Nat} {a : Am} {ns : List Int} {k : Int} (h : as[i]? = some a) (h1 : FZ e (as.take i) = some ns) (h2 : wth e a = some k) : FZ e (as.take (i + 1)) = some (ns ++ [k]) := by
 rw [List.take_add_one, h, NT, h1]
 simp [FZ, h2]
theorem bG {e : En} {as : List Am} {i : Nat} {a : Am} {ns : List Int} (h : as[i]? = some a) (h1 : FZ e (as.take i) = some ns) (h2 : wth e a = none) : FZ e as = none := by
 have hi := (List.getElem?_eq_some_iff.mp h).1
 have e1 : as = as.take i ++ a :: as.drop (i + 1) := by
  have := (List.getElem?_eq_some_iff.mp h).2
  rw [← this]; simp
 rw [e1, NT, h1]
 simp [FZ, h2]
theorem NY {e : En} : ∀ {as : List Am} {ns : List Int}, FZ e as = some ns → ns.length = as.length
 | [], ns, h => by rw [FZ] at h; cases h; rfl
 | a :: l, ns, h => by
  rw [FZ] at h
  cases h1 : wth e a with
  | none => rw [h1] at h; cases h
  | some n =>
   rw [h1] at h
   cases h2 : FZ e l with
   | none => rw [h2] at h; cases h
   | some ms => rw [h2] at h; cases h; simp [NY h2]
theorem pR {H : Hp} {as : List Am} {xs : List V} {i : Nat} {x : V} (h : RpL K H (as.map Am.D) xs) (hx : xs[i]? = some x) : ∃ a, as[i]? = some a ∧ Rp K H a.D x := by
 have hi : i < xs.length := (List.getElem?_eq_some_iff.mp hx).1
 have hb : i < as.length := by rw [h.length, List.length_map] at hi; exact hi
 obtain ⟨v, e, r⟩ := h.at (j := i) (by rw [List.length_map]; exact hb)
 rw [hx] at e; cases e
 rw [List.getD_eq_getElem?_getD, List.getElem?_map, List.getElem?_eq_getElem hb] at r
 exact ⟨as[i], List.getElem?_eq_getElem hb, r⟩
theorem eG : ∀ (ks : List Str) (ns : List Int), As .inr (fun (i : Int) v => v = V.int i) (ks.zip ns) ((ks.map Sum.inr).zip (ns.map V.int))
 | [], _ => .nil
 | _ :: _, [] => .nil
 | k :: ks, n :: ns => .cons ⟨rfl, rfl⟩ (eG ks ns)
theorem NQ {C : Addr} {H H2 : Hp} {x dx d : Addr} {vb : V} {body : List Stm} {e : En} {own : Bool} (hx : H x = none) (hdx : H dx = none) (nx : dx ≠ x) (rb : Rp K H (bD body) vb) (hE : EnR H d e) (e2 : H2 = upd (upd (upd H dx (.own x)) x (.ins C dx [])) x (.ins C dx (lf vb d 0 0 0))) : AI H H2 ∧ BC K C H2 ⟨x, d⟩ ⟨body, e, 0, 0, 0, own⟩ := by
 have s2 : AI H H2 := fun c o e => by
  have n1 := AK e hx
  have n2 := AK e hdx
  rw [e2, AH n1, AH n1, AH n2]; exact e
 exact ⟨s2, ⟨dx, vb, by rw [e2]; exact AB, rb.same s2⟩, hE.same s2⟩
theorem OY (T : Txt K mg t) : BF P w K mg base (CXr P w) 6 t.a_Walk_begin t.d_Walk_begin ["self", "statement", "sources"] (aX K t) := by
 refine T.Walk_begin.F.okR FD (fun vs H Q E h => ?_) (fun cdv A outer s H vs Q E hr h => ?_)
 ·obtain ⟨a, ws, las, m, s, v, d, e, rfl, _⟩ := h; rfl
 ·obtain ⟨a, ws, las, m, s1, v, d, e, rfl, hW, rv, hE, hd, hin, bd, q⟩ := h
  obtain ⟨dx, wo⟩ := id hW.wo
  obtain ⟨a1, va, vb, vc, rfl, hs, hrp⟩ := lU rv
  have le := hW.le
  have lel : (las.map fun x => V.ref x.p).reverse.length < sizeLine := by
   refine DO ?_
   rw [List.length_reverse, List.length_map, Paired.length hW.lv]
   exact bd.lv
  have inl0 : ∀ {c}, c ∈ [a.ll] → c ∈ a.l las := fun {c} hc => by rw [List.mem_singleton] at hc; subst hc; simp [Wa.l]
  have old : ∀ x ∈ las, (x.p ∈ las.map (·.p) ∨ H x.p = none) ∧ (x.d ∈ las.map (·.d) ∨ H x.d = none) := fun x hx => ⟨.inl (List.mem_map_of_mem hx), .inl (List.mem_map_of_mem hx)⟩
  have err1 : ∀ {H1 : Hp}, AI H H1 → bgn ws m e s1 = .error false → E (.ref t.c_TooGreat) none H1 := fun {H1} s1 er => by rw [er] at q; exact q H1 s1.but
  have frs : ∀ {H1 : Hp} {c : Addr}, AI H H1 → H1 c = none → H c = none := fun {H1 c} s1 e => by
   cases h : H c with
   | none => rfl
   | some o => rw [s1 _ _ h] at e; cases e
  have frs' : ∀ {H0 H1 : Hp} {c : Addr}, AI H0 H1 → H1 c = none → H0 c = none := fun {H0 H1 c} s1 e => by
   cases h : H0 c with
   | none => rfl
   | some o => rw [s1 _ _ h] at e; cases e
  have fin : ∀ {H1 : Hp} {x : La} {v : Lv}, AI H H → H x.p = none → (x.d ∈ las.map (·.d) ∨ H x.d = none) → AI H H1 → BC K t.c_Level H1 x v → (v.own = true → H x.d = none) → JM K t a ws las H Q E (.ok { m with lv := v :: m.lv }) → Q .non (upd H1 a.ll (.lst ((las.map fun x => V.ref x.p).reverse ++ [.ref x.p]))) := by
   intro H1 x v _ fp fd s1 hx ow q
   have hW1 := hW.same s1
   obtain ⟨_, ⟨kb, bo, _⟩, _, _, ⟨⟨dh, vp, hp, _⟩, _, _, ⟨km, hm, _⟩, _⟩, _⟩ := id hW
   have nd : ∀ {y : La}, y ∈ las → H y.p ≠ none ∧ H y.d ≠ none := fun {y} hy => by
    obtain ⟨v, _, ⟨⟨dx, vb, h1, _⟩, ⟨kvs, h2, _⟩⟩⟩ := LK hW.lv y hy
    rw [h1, h2]; exact ⟨by simp, by simp⟩
   have ndb : x.d ≠ a.db ∧ x.d ≠ a.ha.lm := by
    rcases fd with fd | fd
    ·rw [List.mem_map] at fd
     obtain ⟨y, hy, ey⟩ := fd
     rw [← ey]
     exact ⟨(hW.lp y hy).2.2.1, (hW.lp y hy).2.2.2⟩
    ·exact ⟨(AK bo fd).symm, (AK hm fd).symm⟩
   obtain ⟨b, r⟩ := hW1.push hx (fun y hy => by rintro ey; rw [← ey] at fp; exact (nd hy).1 fp) (AK wo fp).symm (AK hp fp).symm ndb.1 ndb.2 (fun o y hy ey => by have := ow o; rw [← ey] at this; exact (nd hy).2 this)
   refine q (x :: las) _ ((s1.but).trans (b.mono fun c hc => inl0 hc)) ?_ r
   intro y hy
   rcases List.mem_cons.mp hy with rfl | hy
   ·exact ⟨.inr fp, fd⟩
   ·exact old y hy
  refine ⟨_, s!"3{FD.nd}{BA}1ADHI{CZ}3AJ{BB _}R{PySem.F.slot_list_append}{PySem.F.type_list_append}{DT}0AK{BF.upR (PB T)}{hr.mono (by decide)}{T.againlevel.m}{T.againlevel.F.kp}{T.againlevel.b}{CQ}{BA}1ADH2A{KH T}{hr.mono (by decide)}{T.worth.m}{T.worth.F.kp}{T.worth.b}{CQ}{BA}1ADH2ACBBLCBBBLCBfWF{CZ}3AJ{BB _}R4{FD.nd}{JS}{KH T}{hr.mono (by decide)}{T.worth.m}{T.worth.F.kp}{T.worth.b}{CQ}{BA}1ADH2ACBBLD{BB _}R{BA}1ADH{BA}1ADH%I{PySem.F.slot_list_append}{PySem.F.type_list_append}{DT}0AK{T.Level_init.mki}{BF.upR (FE T)}{hr.mono (by decide)}{T.mg_Level}{T.Level_init.b}{CQ}4A2ACBBqCBfWFE{CZ}3AJ{BB _}R{fL (i := 5) (sc := AE DD) (N0 := ["self", "statement", "sources", "first", "chosen", "handed"]) (N := ["sources", "amount"]) (js := [2]) (os := ["amount"]) oO rfl rfl FD.nd rfl (Or.inl rfl) rfl rfl rfl ⟨by decide +kernel, by decide +kernel, by decide +kernel, by decide +kernel, by decide +kernel, by decide +kernel⟩ s!"{SQ (K := K) rfl}1ADH$" (fun _ _ _ _ => s!"1{show List.Nodup (["sources", "amount"] : List Str) by decide +kernel}M") (fun _ _ _ _ => s!"w") (fun _ _ _ _ => s!"{KH T}{hr.mono (by decide)}{T.worth.m}{T.worth.F.kp}{T.worth.b}{oU}1A0ACBBL")}{PySem.F.slot_list_append}{PySem.F.type_list_append}{DT}0AK{T.Level_init.mki}{BF.upR (FE T)}{hr.mono (by decide)}{T.mg_Level}{T.Level_init.b}{CQ}{MM (OC hr) s!"0AK" s!"{BA}1ADH" (fun _ _ => rfl)}{WF rfl (by rfl) T.z_dict (by rfl) T.z_zip s!"_{T.g_NUMBERS}{T.r_NUMBERS}X5ACBB"}CBBqCBfWFE{ZG}3AVaaaU{by with_unfolding_all rfl}R0A{T.cl_Walk}{T.Walk_act.mt}{MB T}{hr.mono (by decide)}{T.Walk_act.b}{CQ}3A{KH T}{hr.mono (by decide)}{T.worth.m}{T.worth.F.kp}{T.worth.b}{CQ}{BA}1ADH2ACBBLCBBPCQiWF0A{T.cl_Walk}{T.Walk_act.mt}{MB T}{hr.mono (by decide)}{T.Walk_act.b}{CQ}1ACBiWFOFOFOFOFE", ?_⟩
  walk_at "ro"
  cases s1 with
  | go n =>
   refine ⟨_, hs, _, rfl, ?_⟩
   walk_at "ro"
   walk_at "ws"
   intro vt H1 s1 rt
   obtain ⟨pt, yt, zt, ut, rfl, ht, r1, r2, r3⟩ : ∃ pt yt zt ut, vt = .ref pt ∧ SqT K H1 pt [yt, zt, ut] ∧ yt = .str "go" ∧ zt = .str "turn" ∧ ut = .str "ink" := by
    obtain ⟨pt, xs, rfl, hp, rl⟩ := BN.mp rt
    obtain ⟨x, y, z, rfl, r1, r2, r3⟩ := NE rl
    exact ⟨pt, x, y, z, rfl, hp, BD r1, BD r2, BD r3⟩
   subst r1; subst r2; subst r3
   refine ⟨pt, rfl, _, .inr ht, rfl, rfl, ?_⟩
   rw [if_pos (by rfl)]
   refine ⟨_, _, s1 _ _ wo, rfl, _, s1.tup hs, _, rfl, va, d, n, e, rfl, hrp.same s1, hE.same s1, hin, fun k hk => ⟨by decide, fun p2 hp2 => ?_⟩, fun hn => err1 s1 (by rw [bgn, hn])⟩
   have s2 := s1.trans (AI.upd (o := .tup [.str (Str.ofString "go"), .int k]) hp2)
   rw [bgn, hk] at q
   exact ⟨a, ws, las, m, .go k, .ref p2, rfl, hW.same s2, cD AB, VD hk, bd.co, bd.st, bd.ms, bd.ac, q.same s2⟩
  | turn n =>
   refine ⟨_, hs, _, rfl, ?_⟩
   walk_at "ro"
   walk_at "ws"
   intro vt H1 s1 rt
   obtain ⟨pt, yt, zt, ut, rfl, ht, r1, r2, r3⟩ : ∃ pt yt zt ut, vt = .ref pt ∧ SqT K H1 pt [yt, zt, ut] ∧ yt = .str "go" ∧ zt = .str "turn" ∧ ut = .str "ink" := by
    obtain ⟨pt, xs, rfl, hp, rl⟩ := BN.mp rt
    obtain ⟨x, y, z, rfl, r1, r2, r3⟩ := NE rl
    exact ⟨pt, x, y, z, rfl, hp, BD r1, BD r2, BD r3⟩
   subst r1; subst r2; subst r3
   refine ⟨pt, rfl, _, .inr ht, rfl, rfl, ?_⟩
   rw [if_pos (by rfl)]
   refine ⟨_, _, s1 _ _ wo, rfl, _, s1.tup hs, _, rfl, va, d, n, e, rfl, hrp.same s1, hE.same s1, hin, fun k hk => ⟨by decide, fun p2 hp2 => ?_⟩, fun hn => err1 s1 (by rw [bgn, hn])⟩
   have s2 := s1.trans (AI.upd (o := .tup [.str (Str.ofString "turn"), .int k]) hp2)
   rw [bgn, hk] at q
   exact ⟨a, ws, las, m, .turn k, .ref p2, rfl, hW.same s2, cD AB, VD hk, bd.co, bd.st, bd.ms, bd.ac, q.same s2⟩
  | ink n =>
   refine ⟨_, hs, _, rfl, ?_⟩
   walk_at "ro"
   walk_at "ws"
   intro vt H1 s1 rt
   obtain ⟨pt, yt, zt, ut, rfl, ht, r1, r2, r3⟩ : ∃ pt yt zt ut, vt = .ref pt ∧ SqT K H1 pt [yt, zt, ut] ∧ yt = .str "go" ∧ zt = .str "turn" ∧ ut = .str "ink" := by
    obtain ⟨pt, xs, rfl, hp, rl⟩ := BN.mp rt
    obtain ⟨x, y, z, rfl, r1, r2, r3⟩ := NE rl
    exact ⟨pt, x, y, z, rfl, hp, BD r1, BD r2, BD r3⟩
   subst r1; subst r2; subst r3
   refine ⟨pt, rfl, _, .inr ht, rfl, rfl, ?_⟩
   rw [if_pos (by rfl)]
   refine ⟨_, _, s1 _ _ wo, rfl, _, s1.tup hs, _, rfl, va, d, n, e, rfl, hrp.same s1, hE.same s1, hin, fun k hk => ⟨by decide, fun p2 hp2 => ?_⟩, fun hn => err1 s1 (by rw [bgn, hn])⟩
   have s2 := s1.trans (AI.upd (o := .tup [.str (Str.ofString "ink"), .int k]) hp2)
   rw [bgn, hk] at q
   exact ⟨a, ws, las, m, .ink k, .ref p2, rfl, hW.same s2, cD AB, VD hk, bd.co, bd.st, bd.ms, bd.ac, q.same s2⟩
  | up =>
   refine ⟨_, hs, _, rfl, ?_⟩
   walk_at "ro"
   walk_at "ws"
   intro vt H1 s1 rt
   obtain ⟨pt, yt, zt, ut, rfl, ht, r1, r2, r3⟩ : ∃ pt yt zt ut, vt = .ref pt ∧ SqT K H1 pt [yt, zt, ut] ∧ yt = .str "go" ∧ zt = .str "turn" ∧ ut = .str "ink" := by
    obtain ⟨pt, xs, rfl, hp, rl⟩ := BN.mp rt
    obtain ⟨x, y, z, rfl, r1, r2, r3⟩ := NE rl
    exact ⟨pt, x, y, z, rfl, hp, BD r1, BD r2, BD r3⟩
   subst r1; subst r2; subst r3
   refine ⟨pt, rfl, _, .inr ht, rfl, rfl, ?_⟩
   rw [if_neg (by decide +kernel)]
   refine ⟨_, _, s1 _ _ wo, rfl, a, ws, las, m, .up, .ref a1, rfl, hW.same s1, rv.same s1, trivial, bd.co, bd.st, bd.ms, bd.ac, q.same s1⟩
  | down =>
   refine ⟨_, hs, _, rfl, ?_⟩
   walk_at "ro"
   walk_at "ws"
   intro vt H1 s1 rt
   obtain ⟨pt, yt, zt, ut, rfl, ht, r1, r2, r3⟩ : ∃ pt yt zt ut, vt = .ref pt ∧ SqT K H1 pt [yt, zt, ut] ∧ yt = .str "go" ∧ zt = .str "turn" ∧ ut = .str "ink" := by
    obtain ⟨pt, xs, rfl, hp, rl⟩ := BN.mp rt
    obtain ⟨x, y, z, rfl, r1, r2, r3⟩ := NE rl
    exact ⟨pt, x, y, z, rfl, hp, BD r1, BD r2, BD r3⟩
   subst r1; subst r2; subst r3
   refine ⟨pt, rfl, _, .inr ht, rfl, rfl, ?_⟩
   rw [if_neg (by decide +kernel)]
   refine ⟨_, _, s1 _ _ wo, rfl, a, ws, las, m, .down, .ref a1, rfl, hW.same s1, rv.same s1, trivial, bd.co, bd.st, bd.ms, bd.ac, q.same s1⟩
  | mark n =>
   refine ⟨_, hs, _, rfl, ?_⟩
   walk_at "ro"
   walk_at "ws"
   intro vt H1 s1 rt
   obtain ⟨pt, yt, zt, ut, rfl, ht, r1, r2, r3⟩ : ∃ pt yt zt ut, vt = .ref pt ∧ SqT K H1 pt [yt, zt, ut] ∧ yt = .str "go" ∧ zt = .str "turn" ∧ ut = .str "ink" := by
    obtain ⟨pt, xs, rfl, hp, rl⟩ := BN.mp rt
    obtain ⟨x, y, z, rfl, r1, r2, r3⟩ := NE rl
    exact ⟨pt, x, y, z, rfl, hp, BD r1, BD r2, BD r3⟩
   subst r1; subst r2; subst r3
   refine ⟨pt, rfl, _, .inr ht, rfl, rfl, ?_⟩
   rw [if_neg (by decide +kernel)]
   refine ⟨_, _, s1 _ _ wo, rfl, a, ws, las, m, .mark n, .ref a1, rfl, hW.same s1, rv.same s1, trivial, bd.co, bd.st, bd.ms, bd.ac, q.same s1⟩
  | back n =>
   refine ⟨_, hs, _, rfl, ?_⟩
   walk_at "ro"
   walk_at "ws"
   intro vt H1 s1 rt
   obtain ⟨pt, yt, zt, ut, rfl, ht, r1, r2, r3⟩ : ∃ pt yt zt ut, vt = .ref pt ∧ SqT K H1 pt [yt, zt, ut] ∧ yt = .str "go" ∧ zt = .str "turn" ∧ ut = .str "ink" := by
    obtain ⟨pt, xs, rfl, hp, rl⟩ := BN.mp rt
    obtain ⟨x, y, z, rfl, r1, r2, r3⟩ := NE rl
    exact ⟨pt, x, y, z, rfl, hp, BD r1, BD r2, BD r3⟩
   subst r1; subst r2; subst r3
   refine ⟨pt, rfl, _, .inr ht, rfl, rfl, ?_⟩
   rw [if_neg (by decide +kernel)]
   refine ⟨_, _, s1 _ _ wo, rfl, a, ws, las, m, .back n, .ref a1, rfl, hW.same s1, rv.same s1, trivial, bd.co, bd.st, bd.ms, bd.ac, q.same s1⟩
  | again n b =>
   refine ⟨_, hs, _, rfl, ?_⟩
   walk_at "ro"
   walk_at "ws"
   refine ⟨_, _, _, wo, T.cl_Walk, T.n_Walk_levels, _, rfl, .inl ⟨_, SqL.of le⟩, _, hs, _, rfl, _, hs, _, rfl, va, d, n, e, rfl, hrp.1, hE, hin, fun k hk => ⟨vb, d, b, e, k, rfl, hrp.2, hE, fun x H1 f1 f2 s1 hx => ?_⟩, fun hn => err1 (AI.refl H) (by rw [bgn, hn])⟩
   rw [bgn, hk] at q
   refine ⟨_, s1 _ _ le, lel, ?_⟩
   exact fin (AI.refl H) f1 (.inr f2) s1 hx (fun _ => f2) q
  | ifs n b c =>
   refine ⟨_, hs, _, rfl, ?_⟩
   walk_at "ro"
   walk_at "ws"
   refine ⟨_, hs, _, rfl, va, d, n, e, rfl, hrp.1, hE, hin, fun k hk => ?_, fun hn => err1 (AI.refl H) (by rw [bgn, hn])⟩
   rw [bgn, hk] at q
   dsimp only at q ⊢
   by_cases ck : 0 < k
   ·rw [if_pos ck] at q ⊢
    refine ⟨_, hs, _, rfl, _, _, _, wo, T.cl_Walk, T.n_Walk_levels, _, rfl, .inl ⟨_, SqL.of le⟩, fun x dl hx hdl ndl => ⟨x, dl, d, vb, rfl, AB, fun H2 e2 => ⟨rfl, ?_⟩⟩⟩
    obtain ⟨s2, l2⟩ := NQ (own := false) hx hdl ndl hrp.2.1 hE e2
    exact ⟨_, s2 _ _ le, lel, fin (AI.refl H) hx (.inl hd) s2 l2 (fun o => by cases o) q⟩
   ·rw [if_neg ck] at q ⊢
    refine ⟨_, hs, _, rfl, _, _, _, wo, T.cl_Walk, T.n_Walk_levels, _, rfl, .inl ⟨_, SqL.of le⟩, fun x dl hx hdl ndl => ⟨x, dl, d, vc, rfl, AB, fun H2 e2 => ⟨rfl, ?_⟩⟩⟩
    obtain ⟨s2, l2⟩ := NQ (own := false) hx hdl ndl hrp.2.2 hE e2
    exact ⟨_, s2 _ _ le, lel, fin (AI.refl H) hx (.inl hd) s2 l2 (fun o => by cases o) q⟩
  | dow x as =>
   refine ⟨_, hs, _, rfl, ?_⟩
   walk_at "ro"
   walk_at "ws"
   obtain ⟨pa, xa, rfl, hpa, rla⟩ := BN.mp hrp
   obtain ⟨hin, hln, bx, hbx⟩ := hin
   have lxa : xa.length = as.length := by rw [rla.length, List.length_map]
   refine ⟨_, hs, _, rfl, ⟨_, hpa⟩, fun lp hlp => ?_⟩
   refine lX (xs := xa) (kC lp as e d H) ⟨[], _, rfl, AI.upd hlp, AB, rfl⟩ (fun i σ H2 _ z => by obtain ⟨_, _, rfl, s2, _⟩ := z; exact s2.tup hpa) ?_ ?_
   ·rintro i y σ H7 hy ⟨ns, o, rfl, s7, h7, l7⟩
    have hi : i < xa.length := (List.getElem?_eq_some_iff.mp hy).1
    obtain ⟨ai, hai, ry⟩ := pR rla hy
    walk_at "rd"
    refine ⟨y, d, ai, e, rfl, ry.same s7, hE.same s7, hin _ (List.mem_of_getElem? hai), fun k hk => ?_, fun hn => err1 s7 (by rw [bgn, bG hai l7 hn])⟩
    try dsimp only
    try rw [if_pos (by decide)]
    refine ⟨_, h7, DO (by rw [List.length_map, NY l7, List.length_take]; omega), nx hi ⟨ns ++ [k], _, rfl, s7.upd2 hlp, by rw [AB, List.map_append]; rfl, dN hai l7 hk⟩⟩
   ·rintro σ H7 ⟨ns, o, rfl, s7, h7, l7⟩
    rw [lxa, List.take_length] at l7
    rw [bgn, l7] at q
    dsimp only at q
    obtain ⟨kvs, bo, rbo⟩ := id (hW.same s7).bo
    obtain ⟨vB, eB, rB⟩ := (As.get MF (k := x) rbo).2 bx hbx
    have eN := T.k_NUMBERS H7
    rw [LP] at eN
    obtain ⟨pn, xn, en, hn, rn⟩ := BN.mp eN
    obtain ⟨y0, y1, y2, y3, rfl, r0, r1, r2, r3⟩ := nY rn
    cases BD r0; cases BD r1; cases BD r2; cases BD r3
    refine ⟨_, _, _, s7 _ _ wo, T.cl_Walk, T.n_Walk_levels, _, rfl, .inl ⟨_, SqL.of (s7 _ _ le)⟩, _, _, _, s7 _ _ wo, T.cl_Walk, T.n_Walk_bodies, _, rfl, _, s7.tup hs, _, rfl, ?_⟩
    dsimp only
    refine ⟨kvs, .inl bo, .inr x, rfl, vB, eB, ?_⟩
    rw [en]
    dsimp only
    refine ⟨NUM.map Sum.inr, hn, _, SqL.of h7, by decide +kernel, by decide, fun dn hdn y dl hy hdl ndl => ⟨y, dl, dn, vB, rfl, AB, fun H2 e2 => ⟨rfl, ?_⟩⟩⟩
    have s8 : AI H7 (upd H7 dn (.dK ((NUM.map Sum.inr).zip (ns.map V.int)))) := AI.upd hdn
    obtain ⟨s2, l2⟩ := NQ (own := true) hy hdl ndl (rB.same s8) ⟨_, AB, eG NUM ns⟩ e2
    have s9 := s7.trans (s8.trans s2)
    rw [hbx] at q
    exact ⟨_, s9 _ _ le, lel, fin (AI.refl H) (frs s7 (frs' s8 hy)) (.inr (frs s7 hdn)) s9 l2 (fun _ => frs s7 hdn) q⟩
end
theorem BW.top {K : PySem.W.Frag} {t : Adr} {H H' : Hp} {a : Wa} {ws : Tb} {las : List La} {m : Ms} {x : La} {v v' : Lv} {r : List Lv} {l : List Addr} (h : BW K t H a ws (x :: las) { m with lv := v :: r }) (b : But l H H') (st : AM H H') (hx : BC K t.c_Level H' x v') (eo : v'.own = v.own) (hl : ∀ c ∈ l, c = x.p ∨ (c = x.d ∧ v.own = true)) : BW K t H' a ws (x :: las) { m with lv := v' :: r } := by
 obtain ⟨⟨dx, wo⟩, ⟨kvs, bo, rbo⟩, le, lv, hA, ⟨vs, ac, rac⟩, ap, lp, nd, od⟩ := h
 obtain ⟨⟨dh, vp, hp, rp⟩, ⟨vs1, hs, rs⟩, ⟨vs2, hc, rc⟩, ⟨km, hm, rm⟩, ne⟩ := id hA
 have lv0 : Paired (BC K t.c_Level H) (x :: las) (v :: r) := lv
 cases lv0 with
 | cons h0 ht =>
  obtain ⟨⟨dl, vb, hxp, rb⟩, ⟨kx, hxd, rk⟩⟩ := id h0
  obtain ⟨p1, p2, p3, p4⟩ := lp x List.mem_cons_self
  have off : ∀ c, c ≠ x.p → (c ≠ x.d ∨ v.own ≠ true) → c ∉ l := fun c n1 n2 m => by
   rcases hl c m with e | ⟨e, o⟩
   ·exact n1 e
   ·exact n2.elim (· e) (· o)
  have nx : x.p ∉ las.map (·.p) := (List.nodup_cons.mp nd).1
  refine ⟨⟨dx, b _ _ wo (off _ p1.symm (.inl (BJ wo hxd (by intro z; cases z))))⟩, ⟨kvs, b _ _ bo (off _ (BJ bo hxp (by intro z; cases z)) (.inl p3.symm)), rbo.mono fun b v r => Rp.t st r⟩, b _ _ le (off _ (BJ le hxp (by intro z; cases z)) (.inl (BJ le hxd (by intro z; cases z)))), .cons hx (OG ht fun y u hy ru => ?_), hA.off b st ?_, ⟨vs, b _ _ ac (off _ (BJ ac hxp (by intro z; cases z)) (.inl (BJ ac hxd (by intro z; cases z)))), rac.t st⟩, ap, lp, nd, ⟨by rw [eo]; exact od.1, od.2⟩⟩
  ·obtain ⟨⟨dy, vy, hyp, _⟩, ⟨ky, hyd, _⟩⟩ := id ru
   refine ru.off b st (off _ (fun e => nx (by rw [← e]; exact List.mem_map_of_mem hy)) (.inl (BJ hyp hxd (by intro z; cases z)))) (off _ (BJ hyd hxp (by intro z; cases z)) ?_)
   by_cases o : v.own = true
   ·exact .inl (od.1 o y hy)
   ·exact .inr o
  ·intro c hc'
   simp only [List.mem_cons, List.not_mem_nil, or_false] at hc'
   rcases hc' with rfl | rfl | rfl | rfl
   ·exact off _ p2.symm (.inl (BJ hp hxd (by intro z; cases z)))
   ·exact off _ (BJ hs hxp (by intro z; cases z)) (.inl (BJ hs hxd (by intro z; cases z)))
   ·exact off _ (BJ hc hxp (by intro z; cases z)) (.inl (BJ hc hxd (by intro z; cases z)))
   ·exact off _ (BJ hm hxp (by intro z; cases z)) (.inl p4.symm)
def dd (ws : Tb) (m : Ms) : Except Bool Ms := match m.lv with
 | [] => .ok m
 | v :: r => match v.body[v.i]? with
  | none => .ok { m with lv := v.round :: r }
  | some s => bgn ws { m with lv := { v with i := v.i + 1 } :: r } v.en s
structure gE (ws : Tb) (v : Lv) : Prop where
 en : v.en.length ≤ 5000
 i : v.i ≤ v.body.length
 ow : v.i = v.body.length → v.own = true
 st : ∀ s, v.body[v.i]? = some s → gC ws v.en s
section
variable {P : Program} {w : World} {K : PySem.W.Frag} {mg : Str → Option Value} {base : Heap} {t : Adr}
theorem BW.all {H : Hp} {a : Wa} {ws : Tb} {las : List La} {m : Ms} (h : BW K t H a ws las m) : ∀ c ∈ a.l las, H c ≠ none := by
 obtain ⟨_, _, le, lv, ⟨⟨dx, vp, hp, _⟩, ⟨vs1, hs, _⟩, ⟨vs2, hc, _⟩, ⟨kvs, hm, _⟩, _⟩, ⟨vs, ac, _⟩, _⟩ := h
 intro c hc'
 simp only [Wa.l, Ha.l, List.mem_append, List.mem_cons, List.not_mem_nil, or_false, List.mem_map] at hc'
 rcases hc' with ((((rfl | rfl) | (rfl | rfl | rfl | rfl)) | ⟨x, hx, rfl⟩) | ⟨x, hx, rfl⟩)
 ·rw [le]; simp
 ·rw [ac]; simp
 ·rw [hp]; simp
 ·rw [hs]; simp
 ·rw [hc]; simp
 ·rw [hm]; simp
 ·obtain ⟨v, _, ⟨⟨dx, vb, h1, _⟩, _⟩⟩ := LK lv x hx
  rw [h1]; simp
 ·obtain ⟨v, _, ⟨_, ⟨kvs, h1, _⟩⟩⟩ := LK lv x hx
  rw [h1]; simp
theorem JM.but {H H1 : Hp} {a : Wa} {ws : Tb} {las : List La} {m1 : Ms} {Q : VK} {E : XK} {r : Except Bool Ms} (h : JM K t a ws las H Q E r) (s : But (a.l las) H H1) (hW : BW K t H1 a ws las m1) : JM K t a ws las H1 Q E r := by
 have fr : ∀ {c}, H1 c = none → H c = none := fun {c} e => by
  cases h : H c with
  | none => rfl
  | some o => rw [s _ _ h (fun hc => hW.all c hc e)] at e; cases e
 cases r with
 | ok m => exact fun las' H' b n w => h las' H' (s.trans b) (fun x hx => ⟨(n x hx).1.imp_right fr, (n x hx).2.imp_right fr⟩) w
 | error b => exact fun H' b => h H' (s.trans b)
def dY (K : PySem.W.Frag) (t : Adr) : Sp := fun vs H Q E => ∃ (a : Wa) (ws : Tb) (las : List La) (m : Ms) (v : Lv) (r : List Lv), vs = [.ref a.pw] ∧ BW K t H a ws las m ∧ m.lv = v :: r ∧ gE ws v ∧ Bnd m ∧ JM K t a ws las H Q E (dd ws m)
theorem OD (T : Txt K mg t) : BF P w K mg base (CXr P w) 7 t.a_Walk_dodeed t.d_Walk_dodeed ["self"] (dY K t) := by
 refine T.Walk_dodeed.F.okR IL (fun vs H Q E h => ?_) (fun cdv A outer s H vs Q E hr h => ?_)
 ·obtain ⟨a, ws, las, m, v, r, rfl, _⟩ := h; rfl
 ·obtain ⟨a, ws, las0, m, v, r, rfl, hW, em, hin, bd, q⟩ := h
  have hm : m = { m with lv := v :: r } := by rw [← em]
  rw [hm] at hW
  have lv0 : Paired (BC K t.c_Level H) las0 (v :: r) := hW.lv
  obtain ⟨x, las, rfl, hx⟩ : ∃ x las, las0 = x :: las ∧ BC K t.c_Level H x v := by cases lv0 with | cons h0 _ => exact ⟨_, _, rfl, h0⟩
  obtain ⟨⟨dl, vb, hxp, rb⟩, hen⟩ := id hx
  obtain ⟨dx, wo⟩ := id hW.wo
  have le : H a.ll = some (.lst ((las.map fun x => V.ref x.p).reverse ++ [.ref x.p])) := by rw [hW.le]; simp
  have old : ∀ y ∈ x :: las, (y.p ∈ (x :: las).map (·.p) ∨ H y.p = none) ∧ (y.d ∈ (x :: las).map (·.d) ∨ H y.d = none) := fun x hx => ⟨.inl (List.mem_map_of_mem hx), .inl (List.mem_map_of_mem hx)⟩
  have inp : x.p ∈ a.l (x :: las) := by simp [Wa.l]
  have ind : x.d ∈ a.l (x :: las) := by simp [Wa.l]
  refine ⟨_, s!"1{IL.nd}{CO}0AKDsHI1A{T.cl_Level}{T.Level_isatend.mt}{BF.upR (GW T)}{hr.mono (by decide)}{T.Level_isatend.b}{CQ}me1A{T.cl_Level}{T.Level_beginround.mt}{BF.upR (JJ T)}{hr.mono (by decide)}{T.Level_beginround.b}{CQ}mWF0A{T.cl_Walk}{T.Walk_begin.mt}{OY T}{hr.mono (by decide)}{T.Walk_begin.b}{CQ}1A{T.cl_Level}{T.Level_nextstatement.mt}{BF.upR (HN T)}{hr.mono (by decide)}{T.Level_nextstatement.b}{CQ}m1AKCBBiWFOFE", ?_⟩
  walk_at "ro"
  refine ⟨_, _, _, wo, T.cl_Walk, T.n_Walk_levels, _, rfl, _, SqL.of le, .ref x.p, TR _ _, ?_⟩
  walk_at "ro"
  refine ⟨_, _, hxp, rfl, x, v, rfl, hx, ?_⟩
  dsimp only
  unfold dd at q
  rw [em] at q
  dsimp only at q
  by_cases c : v.i = v.body.length
  ·rw [if_pos (decide_eq_true c)]
   rw [show v.body[v.i]? = none from List.getElem?_eq_none (by omega)] at q
   refine ⟨_, _, hxp, rfl, x, v, rfl, hx, hin.en, fun H1 b1 t1 h1 => ?_⟩
   refine q (x :: las) H1 (b1.mono ?_) old (hW.top b1 t1 h1 rfl ?_)
   ·intro c hc
    simp only [List.mem_cons, List.not_mem_nil, or_false] at hc
    rcases hc with rfl | rfl
    ·exact inp
    ·exact ind
   ·intro c' hc
    simp only [List.mem_cons, List.not_mem_nil, or_false] at hc
    rcases hc with rfl | rfl
    ·exact .inl rfl
    ·exact .inr ⟨rfl, hin.ow c⟩
  ·rw [if_neg (by rw [decide_eq_true_iff]; exact c)]
   have hi := hin.i
   obtain ⟨s1, hs1⟩ : ∃ s1, v.body[v.i]? = some s1 := ⟨_, List.getElem?_eq_getElem (by omega)⟩
   rw [hs1] at q
   refine ⟨_, _, wo, rfl, _, _, hxp, rfl, x, v, s1, rfl, hx, hs1, fun u H1 b1 t1 h1 ru => ?_⟩
   have b1' : But (a.l (x :: las)) H H1 := b1.mono (by
    intro c hc
    rw [List.mem_singleton] at hc
    subst hc
    exact inp)
   have hW1 : BW K t H1 a ws (x :: las) { m with lv := { v with i := v.i + 1 } :: r } := hW.top b1 t1 h1 rfl (by
    intro c' hc
    rw [List.mem_singleton] at hc
    exact .inl hc)
   obtain ⟨⟨dl1, vb1, hxp1, _⟩, hen1⟩ := id h1
   refine ⟨_, _, _, hxp1, T.cl_Level, T.n_Level_sources, _, rfl, a, ws, x :: las, _, s1, u, x.d, v.en, rfl, hW1, ru, hen1, by simp, hin.st _ hs1, ⟨bd.co, bd.st, bd.ms, bd.ac, ?_⟩, q.but b1' hW1⟩
   have := bd.lv
   rw [em] at this
   exact this
end
def MP (D : Str → Prop) : Am → Prop
 | .int _ => True
 | .src f s _ => (-1000000 ≤ f ∧ f ≤ 1000000) ∧ D s
mutual
def Stm.Ok (ar : Str → Option Nat) (D : Str → Prop) : Stm → Prop
 | .go a => MP D a
 | .turn a => MP D a
 | .ink a => MP D a
 | .up => True
 | .down => True
 | .mark _ => True
 | .back _ => True
 | .again a b => MP D a ∧ Stm.Oks ar (fun x => D x ∨ x = "count") b
 | .ifs a b c => MP D a ∧ Stm.Oks ar D b ∧ Stm.Oks ar D c
 | .dow w as => (∀ a ∈ as, MP D a) ∧ as.length ≤ 4 ∧ ar w = some as.length
def Stm.Oks (ar : Str → Option Nat) (D : Str → Prop) : List Stm → Prop
 | [] => True
 | s :: r => s.Ok ar D ∧ Stm.Oks ar D r
end
theorem MP.mono {D D' : Str → Prop} (h : ∀ x, D x → D' x) : ∀ {a : Am}, MP D a → MP D' a
 | .int _, _ => trivial
 | .src _ _ _, r => ⟨r.1, h _ r.2⟩
mutual
theorem Stm.Ok.mono {ar : Str → Option Nat} {D D' : Str → Prop} (h : ∀ x, D x → D' x) : ∀ {s : Stm}, s.Ok ar D → s.Ok ar D'
 | .go a, r => by rw [Stm.Ok] at r ⊢; exact r.mono h
 | .turn a, r => by rw [Stm.Ok] at r ⊢; exact r.mono h
 | .ink a, r => by rw [Stm.Ok] at r ⊢; exact r.mono h
 | .up, _ => by rw [Stm.Ok]; trivial
 | .down, _ => by rw [Stm.Ok]; trivial
 | .mark _, _ => by rw [Stm.Ok]; trivial
 | .back _, _ => by rw [Stm.Ok]; trivial
 | .again a b, r => by
  rw [Stm.Ok] at r ⊢
  exact ⟨r.1.mono h, Stm.Oks.mono (fun x => Or.imp_left (h x)) r.2⟩
 | .ifs a b c, r => by
  rw [Stm.Ok] at r ⊢
  exact ⟨r.1.mono h, Stm.Oks.mono h r.2.1, Stm.Oks.mono h r.2.2⟩
 | .dow w as, r => by
  rw [Stm.Ok] at r ⊢
  exact ⟨fun a ha => (r.1 a ha).mono h, r.2⟩
theorem Stm.Oks.mono {ar : Str → Option Nat} {D D' : Str → Prop} (h : ∀ x, D x → D' x) : ∀ {b : List Stm}, Stm.Oks ar D b → Stm.Oks ar D' b
 | [], _ => by rw [Stm.Oks]; trivial
 | s :: b, r => by
  rw [Stm.Oks] at r ⊢
  exact ⟨Stm.Ok.mono h r.1, Stm.Oks.mono h r.2⟩
end
theorem Oks.get {ar : Str → Option Nat} {D : Str → Prop} : ∀ {b : List Stm} {i : Nat} {s : Stm}, Stm.Oks ar D b → b[i]? = some s → s.Ok ar D
 | [], _, _, _, h => by simp at h
 | x :: b, 0, s, r, h => by rw [Stm.Oks] at r; cases h; exact r.1
 | x :: b, i + 1, s, r, h => by rw [Stm.Oks] at r; exact Oks.get r.2 h
def dom (e : En) (x : Str) : Prop := ∃ i, lkA e x = some i
def ZK (ws : Tb) (ar : Str → Option Nat) : Prop := ∀ x n, ar x = some n → ∃ b, lkA ws x = some b ∧ Stm.Oks ar (· ∈ NUM.take n) b
structure jD (ar : Str → Option Nat) (v : Lv) : Prop where
 i : v.i ≤ v.body.length
 ow : v.own = false → v.rd ≤ v.bg
 b1 : v.i < v.body.length → Stm.Oks ar (dom v.en) v.body
 b2 : v.bg < v.rd → Stm.Oks ar (fun x => dom v.en x ∨ x = "count") v.body
theorem MP.in {e : En} : ∀ {a : Am}, MP (dom e) a → SN e a
 | .int _, _ => trivial
 | .src _ _ _, r => ⟨r.1, r.2⟩
theorem Ok.in {ws : Tb} {ar : Str → Option Nat} (ht : ZK ws ar) {e : En} {s : Stm} (h : s.Ok ar (dom e)) : gC ws e s := by
 cases s with
 | go a => rw [Stm.Ok] at h; exact h.in
 | turn a => rw [Stm.Ok] at h; exact h.in
 | ink a => rw [Stm.Ok] at h; exact h.in
 | again a b => rw [Stm.Ok] at h; exact h.1.in
 | ifs a b c => rw [Stm.Ok] at h; exact h.1.in
 | dow x as =>
  rw [Stm.Ok] at h
  obtain ⟨b, hb, _⟩ := ht _ _ h.2.2
  exact ⟨fun a ha => (h.1 a ha).in, by omega, b, hb⟩
 | _ => trivial
theorem jD.deed {ws : Tb} {ar : Str → Option Nat} (ht : ZK ws ar) {v : Lv} (h : jD ar v) (nt : v.thr = false) (hen : v.en.length ≤ 5000) : gE ws v := by
 refine ⟨hen, h.i, fun c => ?_, fun s hs => Ok.in ht (Oks.get (h.b1 (List.getElem?_eq_some_iff.mp hs).1) hs)⟩
 rw [Lv.thr, decide_eq_true c, Bool.true_and, decide_eq_false_iff_not] at nt
 cases e : v.own with
 | true => rfl
 | false => exact absurd (h.ow e) nt
section
variable {κ α : Type} [DecidableEq κ]
theorem FJ (k : κ) (v : α) (l : List (κ × α)) (x : κ) : lkA ((k, v) :: l) x = if k = x then some v else lkA l x := by
 unfold lkA
 rw [List.find?_cons]
 by_cases c : k = x
 ·simp [c]
 ·simp [c]
theorem SA (k : κ) (i : α) (x : κ) : ∀ l : List (κ × α), lkA (l.map fun z => if z.1 = k then (z.1, i) else z) x = if x = k then (lkA l x).map fun _ => i else lkA l x
 | [] => by simp [lkA]
 | (k', v) :: l => by
  rw [List.map_cons, FJ]
  dsimp only
  by_cases c : k' = k
  ·rw [if_pos c, FJ, SA k i x l]
   by_cases d : k' = x
   ·subst d; simp [c]
   ·rw [if_neg d, if_neg d]
  ·rw [if_neg c, FJ, SA k i x l]
   by_cases d : k' = x
   ·subst d; simp [c]
   ·rw [if_neg d, if_neg d]
theorem YF (k : κ) (i : α) (x : κ) : ∀ l : List (κ × α), lkA (l ++ [(k, i)]) x = match lkA l x with | some z => some z | none => if k = x then some i else none
 | [] => by rw [List.nil_append, FJ]; simp [lkA]
 | (k', v) :: l => by
  rw [List.cons_append, FJ, FJ, YF k i x l]
  by_cases d : k' = x
  ·simp [d]
  ·simp [d]
theorem XE (k : κ) : ∀ l : List (κ × α), (l.any fun z => decide (z.1 = k)) = (lkA l k).isSome
 | [] => rfl
 | (k', v) :: l => by
  rw [List.any_cons, FJ, XE k l]
  by_cases d : k' = k
  ·simp [d]
  ·simp [d]
theorem kN (e : List (κ × α)) (k x : κ) (i : α) : lkA (ptA e k i) x = if x = k then some i else lkA e x := by
 unfold ptA
 rw [XE]
 cases h : lkA e k with
 | none =>
  rw [if_neg (by simp), YF]
  by_cases c : x = k
  ·subst c; rw [h]
  ·rw [if_neg c, if_neg (fun z => c z.symm)]
   cases lkA e x with
   | none => rfl
   | some z => rfl
 | some z =>
  rw [if_pos (by simp), SA]
  by_cases c : x = k
  ·subst c; rw [h, if_pos rfl, if_pos rfl]; rfl
  ·rw [if_neg c, if_neg c]
end
theorem fE {e : En} {x k : Str} {i : Int} (h : dom e x ∨ x = k) : dom (ptA e k i) x := by
 unfold dom
 rw [kN]
 by_cases c : x = k
 ·exact ⟨i, if_pos c⟩
 ·obtain ⟨z, hz⟩ := h.resolve_right c
  exact ⟨z, by rw [if_neg c]; exact hz⟩
theorem XW : ∀ (ks : List Str) (ns : List Int) (x : Str), x ∈ ks.take ns.length → dom (ks.zip ns) x
 | [], ns, x, h => by simp at h
 | k :: ks, [], x, h => by simp at h
 | k :: ks, n :: ns, x, h => by
  unfold dom
  rw [List.zip_cons_cons, FJ]
  by_cases c : k = x
  ·exact ⟨n, if_pos c⟩
  ·rw [if_neg c]
   rw [List.length_cons, List.take_succ_cons, List.mem_cons] at h
   exact XW ks ns x (h.resolve_left fun z => c z.symm)
structure HF (ar : Str → Option Nat) (j : Nat) (m : Ms) : Prop where
 co : m.hd.co.length ≤ j + 1
 st : m.hd.st.length ≤ j
 ms : m.hd.ms.length ≤ j
 ac : m.ac.length ≤ j
 nl : m.lv.length ≤ j + 1
 lv : ∀ v ∈ m.lv, jD ar v ∧ v.en.length ≤ j + 4
theorem HF.mono {ar : Str → Option Nat} {j : Nat} {m : Ms} (h : HF ar j m) : HF ar (j + 1) m := by
 obtain ⟨a, b, c, d, e, f⟩ := h
 exact ⟨by omega, by omega, by omega, by omega, by omega, fun v hv => ⟨(f v hv).1, by have := (f v hv).2; omega⟩⟩
theorem bA {x y : Hd} {s : Ac} (h : stp x s = some y) : y.co.length ≤ x.co.length + 1 ∧ y.st.length ≤ x.st.length + 1 ∧ y.ms.length ≤ x.ms.length + 1 := by
 cases s with
 | go n =>
  cases h
  simp only [List.length_append, List.length_cons, List.length_nil]
  refine ⟨by omega, ?_, by omega⟩
  split
  ·simp
  ·omega
 | mark n =>
  cases h
  have := QN x.ms n (x.p, x.h)
  exact ⟨by simp, by simp, this⟩
 | back n =>
  rw [stp] at h
  cases e : lkA x.ms n with
  | none => rw [e] at h; cases h
  | some z => rw [e] at h; cases h; simp
 | turn n => cases h; simp
 | ink n => cases h; simp
 | up => cases h; simp
 | down => cases h; simp
theorem HG {ar : Str → Option Nat} {j : Nat} {m m' : Ms} {s : Ac} (h : HF ar j m) (e : JI m s = .ok m') : HF ar (j + 1) m' := by
 unfold JI at e
 cases es : stp m.hd s with
 | none => rw [es] at e; cases e
 | some y =>
  rw [es] at e; cases e
  obtain ⟨a, b, c⟩ := bA es
  obtain ⟨a1, b1, c1, d1, e1, f1⟩ := h
  exact ⟨by dsimp only; omega, by dsimp only; omega, by dsimp only; omega, by simp only [List.length_append, List.length_cons, List.length_nil]; omega, by dsimp only; omega, fun v hv => ⟨(f1 v hv).1, by have := (f1 v hv).2; omega⟩⟩
theorem QQ {ar : Str → Option Nat} {j : Nat} {m : Ms} {v : Lv} (h : HF ar j m) (hv : jD ar v) (hn : v.en.length ≤ j + 5) : HF ar (j + 1) { m with lv := v :: m.lv } := by
 obtain ⟨a1, b1, c1, d1, e1, f1⟩ := h.mono
 obtain ⟨_, _, _, _, e2, _⟩ := h
 refine ⟨a1, b1, c1, d1, by simp only [List.length_cons]; omega, fun u hu => ?_⟩
 rcases List.mem_cons.mp hu with rfl | hu
 ·exact ⟨hv, by omega⟩
 ·exact f1 u hu
theorem mX {ws : Tb} {ar : Str → Option Nat} (ht : ZK ws ar) {j : Nat} {m m' : Ms} {e : En} {s : Stm} (h : HF ar j m) (hs : s.Ok ar (dom e)) (he : e.length ≤ j + 4) (eq : bgn ws m e s = .ok m') : HF ar (j + 1) m' := by
 cases s with
 | go a =>
  rw [bgn] at eq; split at eq <;> first | exact HG h eq | cases eq
 | turn a =>
  rw [bgn] at eq; split at eq <;> first | exact HG h eq | cases eq
 | ink a =>
  rw [bgn] at eq; split at eq <;> first | exact HG h eq | cases eq
 | up => rw [bgn] at eq; exact HG h eq
 | down => rw [bgn] at eq; exact HG h eq
 | mark n => rw [bgn] at eq; exact HG h eq
 | back n => rw [bgn] at eq; exact HG h eq
 | again a b =>
  rw [Stm.Ok] at hs
  rw [bgn] at eq
  split at eq
  ·cases eq
  ·cases eq
   exact QQ h ⟨Nat.le_refl _, (fun z => by cases z), fun z => absurd z (Nat.lt_irrefl _), fun _ => hs.2⟩ (by dsimp only; omega)
 | ifs a b c =>
  rw [Stm.Ok] at hs
  rw [bgn] at eq
  split at eq
  ·cases eq
  ·next n _ =>
   cases eq
   refine QQ h ⟨Nat.zero_le _, fun _ => Int.le_refl _, fun _ => ?_, fun z => absurd z (Int.lt_irrefl _)⟩ (by dsimp only; omega)
   dsimp only
   split
   ·exact hs.2.1
   ·exact hs.2.2
 | dow x as =>
  rw [Stm.Ok] at hs
  rw [bgn] at eq
  split at eq
  ·cases eq
  ·next ns hns =>
   cases eq
   obtain ⟨b, hb, hob⟩ := ht _ _ hs.2.2
   have ln := NY hns
   refine QQ h ⟨Nat.zero_le _, (fun _ => Int.le_refl _), fun _ => ?_, fun z => absurd z (Int.lt_irrefl _)⟩ ?_
   ·dsimp only
    rw [hb]
    exact Stm.Oks.mono (fun x hx => XW _ _ _ (by rw [ln]; exact hx)) hob
   ·have l2 : (NUM.zip ns).length ≤ 4 := by rw [List.length_zip]; exact Nat.min_le_left _ _
    dsimp only
    omega
theorem kZ {ws : Tb} {ar : Str → Option Nat} (ht : ZK ws ar) {j : Nat} {m m' : Ms} {v : Lv} {r : List Lv} (h : HF ar j m) (em : m.lv = v :: r) (nt : v.thr = false) (eq : dd ws m = .ok m') : HF ar (j + 1) m' := by
 obtain ⟨a1, b1, c1, d1, e1, f1⟩ := id h
 rw [em] at f1
 obtain ⟨hv, hn⟩ := f1 v List.mem_cons_self
 have hvi := hv.i
 unfold dd at eq
 rw [em] at eq
 dsimp only at eq
 have nl : (v :: r).length ≤ j + 1 := by rw [← em]; exact e1
 cases hs : v.body[v.i]? with
 | none =>
  rw [hs] at eq
  cases eq
  have hi : v.i = v.body.length := by have := List.getElem?_eq_none_iff.mp hs; omega
  have hb : v.bg < v.rd := by
   rw [Lv.thr, decide_eq_true hi, Bool.true_and, decide_eq_false_iff_not] at nt
   omega
  refine ⟨by dsimp only; omega, by dsimp only; omega, by dsimp only; omega, by dsimp only; omega, by simp only [List.length_cons] at nl ⊢; omega, fun u hu => ?_⟩
  rcases List.mem_cons.mp hu with rfl | hu
  ·have l1 := QN v.en "count" v.bg
   refine ⟨⟨Nat.zero_le _, fun o => ?_, fun _ => ?_, fun _ => ?_⟩, by simp only [Lv.round]; omega⟩
   ·have o' : v.own = false := o
    exact absurd (hv.ow o') (by omega)
   ·exact Stm.Oks.mono (fun x hx => fE hx) (hv.b2 hb)
   ·exact Stm.Oks.mono (fun x hx => .inl (fE hx)) (hv.b2 hb)
  ·have := f1 u (List.mem_cons_of_mem _ hu)
   exact ⟨this.1, by omega⟩
 | some s =>
  rw [hs] at eq
  have hi : v.i < v.body.length := (List.getElem?_eq_some_iff.mp hs).1
  have hm : HF ar j { m with lv := { v with i := v.i + 1 } :: r } := by
   refine ⟨a1, b1, c1, d1, by simp only [List.length_cons] at nl ⊢; omega, fun u hu => ?_⟩
   rcases List.mem_cons.mp hu with rfl | hu
   ·exact ⟨⟨hi, hv.ow, fun _ => hv.b1 hi, hv.b2⟩, hn⟩
   ·exact f1 u (List.mem_cons_of_mem _ hu)
  exact mX ht hm (Oks.get (hv.b1 hi) hs) hn eq
theorem bZ {ar : Str → Option Nat} {j : Nat} {m : Ms} (h : HF ar j m) : HF ar j (cln m) := by
 obtain ⟨a1, b1, c1, d1, e1, f1⟩ := h
 have sf : List.Sublist (m.lv.dropWhile Lv.thr) m.lv := List.dropWhile_sublist _
 exact ⟨a1, b1, c1, d1, Nat.le_trans sf.length_le e1, fun v hv => f1 v (sf.subset hv)⟩
theorem XF {m : Ms} {v : Lv} {r : List Lv} (h : (cln m).lv = v :: r) : v.thr = false := by
 have h : m.lv.dropWhile Lv.thr = v :: r := h
 have := List.head?_dropWhile_not Lv.thr m.lv
 rw [h] at this
 simpa using this
theorem MK (m : Ms) : cln (cln m) = cln m := by
 have : ∀ l : List Lv, (l.dropWhile Lv.thr).dropWhile Lv.thr = l.dropWhile Lv.thr := by
  intro l
  induction l with
  | nil => rfl
  | cons x l ih =>
   rw [List.dropWhile_cons]
   by_cases c : x.thr = true
   ·rw [if_pos c]; exact ih
   ·rw [if_neg c, List.dropWhile_cons, if_neg c]
 unfold cln
 dsimp only
 rw [this]
def wk (ws : Tb) : Nat → Ms → Except Bool Ms
 | 0, m => .ok m
 | n + 1, m => match (cln m).lv with
  | [] => .ok (cln m)
  | _ :: _ => match dd ws (cln m) with
   | .error b => .error b
   | .ok m' => wk ws n m'
theorem GQ {l : List Addr} {H G G' : Hp} (s : AI H G) (b : But l G G') (h : ∀ c ∈ l, H c = none) : AI H G' := fun c o e => b c o (s c o e) fun m => by rw [h c m] at e; cases e
structure XS (H : Hp) (a : Wa) : Prop where
 (pw : H a.pw = none) (db : H a.db = none) (ll : H a.ll = none) (la : H a.la = none) (ph : H a.ha.p = none) (ls : H a.ha.ls = none) (lc : H a.ha.lc = none) (lm : H a.ha.lm = none)
def WR (H : Hp) (las : List La) : Prop := ∀ x ∈ las, H x.p = none ∧ H x.d = none
theorem XS.all {H : Hp} {a : Wa} {las : List La} (F : XS H a) (L : WR H las) : ∀ c ∈ a.l las, H c = none := by
 intro c hc
 simp only [Wa.l, Ha.l, List.mem_append, List.mem_cons, List.not_mem_nil, or_false, List.mem_map] at hc
 rcases hc with ((((rfl | rfl) | (rfl | rfl | rfl | rfl)) | ⟨x, hx, rfl⟩) | ⟨x, hx, rfl⟩)
 ·exact F.ll
 ·exact F.la
 ·exact F.ph
 ·exact F.ls
 ·exact F.lc
 ·exact F.lm
 ·exact (L x hx).1
 ·exact (L x hx).2
def ms0 (body : List Stm) : Ms := ⟨[⟨body, [], 0, 0, 0, true⟩], hd0, []⟩
def POk (ws : List Wd) (body : List Stm) : Prop := ws.length ≤ 1000 ∧ ∃ ar, ZK (BX ws) ar ∧ Stm.Oks ar (fun _ => False) body
theorem gO {ar : Str → Option Nat} {body : List Stm} (h : Stm.Oks ar (fun _ => False) body) : HF ar 0 (ms0 body) := by
 refine ⟨Nat.le_refl _, Nat.zero_le _, Nat.zero_le _, Nat.zero_le _, Nat.le_refl _, fun v hv => ?_⟩
 rw [ms0] at hv
 simp only [List.mem_singleton] at hv
 subst hv
 exact ⟨⟨Nat.zero_le _, (fun z => by cases z), fun _ => Stm.Oks.mono (fun x hx => hx.elim) h, fun z => absurd z (Int.lt_irrefl _)⟩, by simp⟩
def pE (K : PySem.W.Frag) (t : Adr) (ws : Tb) (H : Hp) (Q : VK) (E : XK) : Except Bool Ms → Prop
 | .ok m => ∀ (a : Wa) (las : List La) (H' : Hp), AI H H' → XS H a → BW K t H' a ws las m → Q (.ref a.pw) H'
 | .error b => ∀ H', AI H H' → E (.ref (if b then t.c_NoMark else t.c_TooGreat)) none H'
def kQ (K : PySem.W.Frag) (t : Adr) (a : Wa) (ws : Tb) (ar : Str → Option Nat) (v : V) (n : Nat) (R : Except Bool Ms) (H : Hp) (σ : L2.St) (H2 : Hp) : Prop :=
 ∃ (j : Nat) (las : List La) (m : Ms), σ = [some v, some (.int n), some (.ref a.pw), some (.int j)] ∧ AI H H2 ∧ WR H las ∧ BW K t H2 a ws las m ∧ j ≤ n ∧ HF ar j m ∧ wk ws (n - j) m = R
def kT (m : Nat) (σ : L2.St) (_ : Hp) : Nat := match σ with | [_, _, _, some (.int d)] => ((m : Int) - d).toNat | _ => 0
section
variable {P : Program} {w : World} {K : PySem.W.Frag} {mg : Str → Option Value} {base : Heap} {t : Adr}
def ZB (K : PySem.W.Frag) (t : Adr) : Sp := fun vs H Q E => ∃ (v : V) (n : Nat) (ws : List Wd) (body : List Stm), vs = [v, .int n] ∧ Rp K H (pD ws body) v ∧ n ≤ 4500 ∧ POk ws body ∧ pE K t (BX ws) H Q E (wk (BX ws) n (ms0 body))
theorem ZA (T : Txt K mg t) : BF P w K mg base (CXr P w) 8 t.a_walked t.d_walked ["program", "most"] (ZB K t) := by
 refine T.walked.F.okR IU (fun vs H Q E h => ?_) (fun cdv A outer s H vs Q E hr h => ?_)
 ·obtain ⟨v, n, ws, body, rfl, _⟩ := h; rfl
 ·obtain ⟨v, n, ws, body, rfl, rv, hn, ⟨hwl, ar, ht, hok⟩, q⟩ := h
  refine ⟨_, s!"2{IU.nd}{T.Walk_init.mki}{BF.upR (RY T)}{hr.mono (by decide)}{T.mg_Walk}{T.Walk_init.b}{CQ}0ACBqI3{IU.nd}DI{@UP _ _ _ _ _ _ PassesOwn.leaving (@PW.pt _ _ _ s!"{cI}3A1A{BB _}R2A{T.cl_Walk}{T.Walk_isdone.mt}{BF.upR (IN T)}{hr.mono (by decide)}{T.Walk_isdone.b}{CQ}melyx") s!"2A{T.cl_Walk}{T.Walk_dodeed.mt}{OD T}{hr.mono (by decide)}{T.Walk_dodeed.b}{CQ}mW{@nF _ _ (3) _ _ _ _ _ _ IU.nd rfl (Or.inl rfl) s!"D" lT (by first | exact .inl rfl | exact .inr rfl | assumption)}FE"}2ANFEEE", ?_⟩
  walk_at "ro"
  intro pw dx hpw hdx nx
  have s0 : AI H (upd (upd H dx (.own pw)) pw (.ins t.c_Walk dx [])) := fun b o e => by rw [AH (AK e hpw), AH (AK e hdx)]; exact e
  refine ⟨pw, dx, v, ws, body, rfl, AB, rv.same s0, hwl, fun a x H1 ea f1 f2 f3 f4 f5 f6 f7 f8 f9 b1 hW => ?_⟩
  have fr : ∀ {b}, (upd (upd H dx (.own pw)) pw (.ins t.c_Walk dx [])) b = none → H b = none := fun {b} e => (un (un e).2).2
  have s1 : AI H H1 := GQ s0 b1 (by intro c hc; rw [List.mem_singleton] at hc; subst hc; exact hpw)
  have F : XS H a := ⟨by rw [ea]; exact hpw, fr f1, fr f2, fr f4, fr f3, fr f7, fr f8, fr f9⟩
  subst ea
  refine ⟨rfl, ?_⟩
  walk_at "ro"
  refine YA (kQ K t a (BX ws) ar v n (wk (BX ws) n (ms0 body)) H) (kT n) ⟨0, [x], ms0 body, rfl, s1, (fun y hy => by rw [List.mem_singleton] at hy; subst hy; exact ⟨fr f5, fr f6⟩), hW, Nat.zero_le _, gO hok, rfl⟩ ?_
  rintro σ H2 ⟨j, las, m, rfl, s2, L2, hW2, hj, hm, hR⟩
  rw [← hR] at q
  walk_at "ro"
  obtain ⟨dw, wo⟩ := id hW2.wo
  by_cases hlt : (j : Int) < n
  ·rw [if_pos hlt]
   obtain ⟨k, hk⟩ : ∃ k, n - j = k + 1 := ⟨n - j - 1, by omega⟩
   rw [hk, wk] at q
   rw [hk, wk] at hR
   refine ⟨_, _, wo, rfl, a, _, las, m, rfl, hW2, fun las3 H3 b3 t3 sub hW3 => ?_⟩
   have s3 : AI H H3 := GQ s2 b3 (by intro c hc; rw [List.mem_singleton] at hc; subst hc; exact F.ll)
   have L3 : WR H las3 := fun y hy => L2 y (sub y hy)
   have hm3 := bZ hm
   dsimp only
   cases e3 : (cln m).lv with
   | nil =>
    rw [e3] at q
    rw [if_neg (by simp)]
    exact q a las3 H3 s3 F hW3
   | cons u r =>
    rw [e3] at q hR
    dsimp only at q hR
    rw [if_pos (by simp)]
    refine ⟨fun σ' H' => σ' = [some v, some (.int n), some (.ref a.pw), some (.int ((j : Int) + 1))] ∧ kQ K t a (BX ws) ar v n (wk (BX ws) n (ms0 body)) H σ' H', ?_, ?_⟩
    ·rintro σ' H' ⟨rfl, hv⟩
     refine ⟨_, ?_, rfl, hv⟩
     simp only [kT]; omega
    ·obtain ⟨dw3, wo3⟩ := id hW3.wo
     obtain ⟨hu, hl⟩ := hm3.lv u (by rw [e3]; exact List.mem_cons_self)
     have nt := XF e3
     refine ⟨_, _, wo3, rfl, a, _, las3, cln m, u, r, rfl, hW3, e3, hu.deed ht nt (by omega), ⟨by have := hm3.co; omega, by have := hm3.st; omega, by have := hm3.ms; omega, by have := hm3.ac; omega, by have := hm3.nl; omega⟩, ?_⟩
     cases ed : dd (BX ws) (cln m) with
     | error b =>
      rw [ed] at q
      exact fun H4 b4 => q H4 (GQ s3 b4 (F.all L3))
     | ok m4 =>
      rw [ed] at hR
      intro las4 H4 b4 n4 hW4
      have s4 := GQ s3 b4 (F.all L3)
      refine ⟨rfl, j + 1, las4, m4, rfl, s4, fun y hy => ?_, hW4, by omega, kZ ht hm3 e3 nt ed, by rw [show n - (j + 1) = k by omega]; exact hR⟩
      obtain ⟨y1, y2⟩ := n4 y hy
      refine ⟨?_, ?_⟩
      ·rcases y1 with y1 | y1
       ·rw [List.mem_map] at y1
        obtain ⟨z, hz, ez⟩ := y1
        rw [← ez]; exact (L3 z hz).1
       ·exact s3.free y1
      ·rcases y2 with y1 | y1
       ·rw [List.mem_map] at y1
        obtain ⟨z, hz, ez⟩ := y1
        rw [← ez]; exact (L3 z hz).2
       ·exact s3.free y1
  ·rw [if_neg hlt]
   rw [show n - j = 0 by omega, wk] at q
   exact q a las H2 s2 F hW2
def Ms.dn (m : Ms) : Bool := (cln m).lv.isEmpty
end
def lgs (p q : Pl) : List (Int × Int) := [(0, q.a - p.a), (1, (q.b - p.b + (q.d - p.d)) / 2), (2, q.c - p.c), (7, (q.b - p.b - (q.d - p.d)) / 2)]
def lgD (z : Int × Int) : L2.D := .tup [.int z.1, .int z.2]
def tb (h w : Int) : List Ac := if (w - h) % 8 ≠ 0 then [.turn ((w - h) % 8)] else []
def wt : List (Int × Int) → Int → List Ac → Option (List Ac × Int)
 | [], h, acc => some (acc, h)
 | (w, s) :: r, h, acc => if -1000000 ≤ s ∧ s ≤ 1000000 then (if s ≠ 0 then wt r w (acc ++ (tb h w ++ [.go s])) else wt r h acc) else none
theorem HY {K : PySem.W.Frag} {H : Hp} (i : Int) : Rp K H (.int i) (.int i) := by rw [Rp]
theorem PJ {K : PySem.W.Frag} {H : Hp} (x : Str) : Rp K H (.str x) (.str x) := by rw [Rp]
theorem FX {K : PySem.W.Frag} {H : Hp} {ds : List L2.D} {p : Addr} {xs : List V} (h : SqT K H p xs) (r : RpL K H ds xs) : Rp K H (.tup ds) (.ref p) := BN.mpr ⟨p, xs, rfl, h, r⟩
theorem NU (h w : Int) : (tb h w).length ≤ 1 := by unfold tb; split <;> simp
section
variable {P : Program} {w : World} {K : PySem.W.Frag} {mg : Str → Option Value} {base : Heap} {t : Adr}
def bK (K : PySem.W.Frag) : Sp := fun vs H Q _ => ∃ (v u : V) (a b c d : Int), vs = [v, u] ∧ Rp K H (num a b) v ∧ Rp K H (num c d) u ∧ ∀ p, H p = none → Q (.ref p) (upd H p (.tup [.int (a - c), .int (b - d)]))
theorem TZ (T : Txt K mg t) : BF P w K mg base CX0 1 t.a_minus t.d_minus ["one", "other"] (bK K) := by
 refine T.minus.F.ok dF (fun vs H Q E h => ?_) (fun cdv A outer s H vs Q E hr h => ?_)
 ·obtain ⟨v, u, a, b, c, d, rfl, _⟩ := h; rfl
 ·obtain ⟨v, u, a, b, c, d, rfl, rv, ru, q⟩ := h
  obtain ⟨a0, x0, x1, rfl, h0, e0, e1⟩ := CN.mp rv
  cases II e0; cases II e1
  obtain ⟨a1, y0, y1, rfl, h1, e0, e1⟩ := CN.mp ru
  cases II e0; cases II e1
  refine ⟨_, s!"{HH}{BA}0ADH{BA}1ADHG{HH}{BA}0ADH{BA}1ADHGCBBPNF", ?_⟩
  walk_at "ro"
  refine ⟨_, h0, _, rfl, _, h1, _, rfl, _, h0, _, rfl, _, h1, _, rfl, by decide, fun p hp => q p hp⟩
def hV (K : PySem.W.Frag) : Sp := fun vs H Q _ => ∃ (v u : V) (p q : Pl), vs = [v, u] ∧ Rp K H p.D v ∧ Rp K H q.D u ∧ ∀ (l : Addr) (xs : List V) (H' : Hp), AI H H' → H l = none → H' l = some (.lst xs) → RpL K H' ((lgs p q).map lgD) xs → Q (.ref l) H'
theorem NN (T : Txt K mg t) : BF P w K mg base CX0 2 t.a_legsbetween t.d_legsbetween ["start", "end"] (hV K) := by
 refine T.legsbetween.F.ok DS (fun vs H Q E h => ?_) (fun cdv A outer s H vs Q E hr h => ?_)
 ·obtain ⟨v, u, p, q, rfl, _⟩ := h; rfl
 ·obtain ⟨v, u, p, q, rfl, rv, ru, qq⟩ := h
  obtain ⟨a0, vx, vy, rfl, h0, rx, ry⟩ := CN.mp rv
  obtain ⟨a1, ux, uy, rfl, h1, sx, sy⟩ := CN.mp ru
  refine ⟨_, s!"{TZ T}{hr.mono (by decide)}{T.minus.m}{T.minus.F.kp}{T.minus.b}{CM}{BA}1ADH{BA}0ADHCBBL2{DS.nd}M3{DS.nd}MdSSgk{TZ T}{hr.mono (by decide)}{T.minus.m}{T.minus.F.kp}{T.minus.b}{CM}{BA}1ADH{BA}0ADHCBBL4{DS.nd}M5{DS.nd}MdSSgk_{T.g_EAST}{T.r_EAST}X2ACBBP_{T.g_NORTH_EAST}{T.r_NORTH_EAST}X{IX}{BV}3A5AGDGCBBP_{T.g_NORTH}{T.r_NORTH}X4ACBBP_{T.g_SOUTH_EAST}{T.r_SOUTH_EAST}X{IX}{HH}3A5AGDGCBBPCQQQQZNFEE", ?_⟩
  walk_at "ro"
  refine ⟨_, h1, _, rfl, _, h0, _, rfl, ux, vx, _, _, _, _, rfl, sx, rx, fun p1 hp1 => ?_⟩
  have u1 := AI.upd (o := .tup [.int (q.a - p.a), .int (q.b - p.b)]) hp1
  walk_at "ro"
  refine ⟨_, SqT.of AB, rfl, ?_⟩
  walk_at "ro"
  refine ⟨_, u1.tup h1, _, rfl, _, u1.tup h0, _, rfl, uy, vy, _, _, _, _, rfl, sy.same u1, ry.same u1, fun p2 hp2 => ?_⟩
  have u2 := AI.upd (o := .tup [.int (q.c - p.c), .int (q.d - p.d)]) hp2
  walk_at "ro"
  refine ⟨_, SqT.of AB, rfl, ?_⟩
  have e0 : t.v_EAST = .int 0 := by have := T.k_EAST H; rw [XA, Rp] at this; exact this
  have e1 : t.v_NORTH_EAST = .int 1 := by have := T.k_NORTH_EAST H; rw [HD, Rp] at this; exact this
  have e2 : t.v_NORTH = .int 2 := by have := T.k_NORTH H; rw [SB, Rp] at this; exact this
  have e3 : t.v_SOUTH_EAST = .int 7 := by have := T.k_SOUTH_EAST H; rw [HA, Rp] at this; exact this
  walk_at "ro"
  rw [e0, e1, e2, e3]
  refine ⟨by decide, fun q1 g1 => ⟨by decide, by decide, by decide, fun q2 g2 => ⟨by decide, fun q3 g3 => ⟨by decide, by decide, by decide, fun q4 g4 => ⟨by decide, fun q5 g5 => ?_⟩⟩⟩⟩⟩
  have w1 := AI.upd (o := .tup [.int 0, .int (q.a - p.a)]) g1
  have w2 := AI.upd (o := .tup [.int 1, .int ((q.b - p.b + (q.d - p.d)) / 2)]) g2
  have w3 := AI.upd (o := .tup [.int 2, .int (q.c - p.c)]) g3
  have w4 := AI.upd (o := .tup [.int 7, .int ((q.b - p.b - (q.d - p.d)) / 2)]) g4
  have w5 := AI.upd (o := .lst [.ref q1, .ref q2, .ref q3, .ref q4]) g5
  have x4 := w4.trans w5
  have x3 := w3.trans x4
  have x2 := w2.trans x3
  have S := (u1.trans u2).trans (w1.trans x2)
  have fr : H q5 = none := by
   cases e : H q5 with
   | none => rfl
   | some o =>
    have := (((u1.trans u2).trans w1).trans ((w2.trans w3).trans w4)) _ _ e
    rw [g5] at this; cases this
  refine qq q5 _ _ S fr AB ?_
  refine CD (FX (x2.tup (SqT.of AB)) (CD (HY _) (RpL.one (HY _)))) (CD (FX (x3.tup (SqT.of AB)) (CD (HY _) (RpL.one (HY _)))) (CD (FX (x4.tup (SqT.of AB)) (CD (HY _) (RpL.one (HY _)))) (RpL.one (FX (w5.tup (SqT.of AB)) (CD (HY _) (RpL.one (HY _)))))))
def pL (K : PySem.W.Frag) : Sp := fun vs H Q _ => ∃ (h w : Int), vs = [.int h, .int w] ∧ ∀ (l : Addr) (xs : List V) (H' : Hp), AI H H' → H l = none → H' l = some (.lst xs) → RpL K H' ((tb h w).map Ac.D) xs → Q (.ref l) H'
theorem HZ (T : Txt K mg t) : BF P w K mg base CX0 1 t.a_turnbetween t.d_turnbetween ["heading", "wanted"] (pL K) := by
 refine T.turnbetween.F.ok IQ (fun vs H Q E h => ?_) (fun cdv A outer s H vs Q E hr h => ?_)
 ·obtain ⟨h, w, rfl, _⟩ := h; rfl
 ·obtain ⟨h, w', rfl, q⟩ := h
  have eR : t.v_ROUND = .int 8 := by have := T.k_ROUND H; rw [KA, Rp] at this; exact this
  refine ⟨_, s!"2{IQ.nd}{CB}{HH}1A0AG_{T.g_ROUND}{T.r_ROUND}XGI{JT}2AD{BB _}RJ2ACBBPCQZCZ%NFE", ?_⟩
  walk_at "ro"
  rw [eR]
  dsimp only
  refine ⟨by decide, ?_⟩
  by_cases c : (w' - h) % 8 = 0
  ·rw [if_neg (by simpa using c)]
   refine ⟨by decide, fun p hp => q p [] _ (AI.upd hp) hp AB ?_⟩
   unfold tb
   rw [if_neg (by simpa using c)]
   exact RpL.nil
  ·rw [if_pos c]
   refine ⟨by decide, fun p hp => ⟨by decide, fun p1 hp1 => ?_⟩⟩
   have u1 := AI.upd (o := .tup [.str (Str.ofString "turn"), .int ((w' - h) % 8)]) hp
   have u2 := AI.upd (o := .lst [.ref p]) hp1
   refine q p1 _ _ (u1.trans u2) ?_ AB ?_
   ·cases e : H p1 with
    | none => rfl
    | some o => have := u1 _ _ e; rw [hp1] at this; cases this
   ·unfold tb
    rw [if_pos c]
    exact RpL.one (FX (u2.tup (SqT.of AB)) (CD (PJ _) (RpL.one (HY _))))
def nQ (K : PySem.W.Frag) : Sp := fun vs H Q _ => ∃ (l : Addr) (xs : List V) (as : List Ac), vs = [.ref l] ∧ H l = some (.lst xs) ∧ RpL K H (as.map Ac.D) xs ∧ as.length ≤ 100 ∧ ∀ (l' : Addr) (ys : List V) (H' : Hp), AI H H' → H l' = none → H' l' = some (.lst ys) → RpL K H' ((Ac.up :: as ++ [Ac.down]).map Ac.D) ys → Q (.ref l') H'
theorem RO (T : Txt K mg t) : BF P w K mg base CX0 1 t.a_withpenup t.d_withpenup ["statements"] (nQ K) := by
 refine T.withpenup.F.ok SH (fun vs H Q E h => ?_) (fun cdv A outer s H vs Q E hr h => ?_)
 ·obtain ⟨l, xs, as, rfl, _⟩ := h; rfl
 ·obtain ⟨l, xs, as, rfl, hl, ra, la, q⟩ := h
  refine ⟨_, s!"{RF}{RF}VaUCQZ0AGVaUCQZGNF", ?_⟩
  walk_at "ro"
  intro v1 H1 s1 r1
  have lx : xs.length = as.length := by rw [ra.length, List.length_map]
  refine ⟨by decide, fun p hp => ⟨_, rfl, xs, ?_, ?_, fun p1 hp1 v2 H2 s2 r2 => ⟨by decide, fun p2 hp2 => ⟨[v1] ++ xs, ?_, _, rfl, ?_, fun p3 hp3 => ?_⟩⟩⟩⟩
  ·exact (AI.upd hp) _ _ (s1 _ _ hl)
  ·exact Nat.le_of_lt (DO (by simp only [List.length_cons, List.length_nil]; omega))
  ·exact (AI.upd hp2) _ _ (s2 _ _ AB)
  ·exact Nat.le_of_lt (DO (by simp only [List.length_append, List.length_cons, List.length_nil]; omega))
  ·have u1 := AI.upd (o := .lst [v1]) hp
   have u2 := AI.upd (o := .lst ([v1] ++ xs)) hp1
   have u3 := AI.upd (o := .lst [v2]) hp2
   have u4 := AI.upd (o := .lst ([v1] ++ xs ++ [v2])) hp3
   have a1 := (u1.trans u2).trans (s2.trans (u3.trans u4))
   refine q p3 _ _ (s1.trans a1) ?_ AB ?_
   ·cases e : H p3 with
    | none => rfl
    | some o => have := (((s1.trans u1).trans u2).trans (s2.trans u3)) _ _ e; rw [hp3] at this; cases this
   ·rw [List.map_append]
    exact (CD (r1.same a1) ((ra.same s1).same a1)).app (RpL.one (r2.same (u3.trans u4)))
def WtQ (K : PySem.W.Frag) (t : Adr) (H : Hp) (Q : VK) (E : XK) : Option (List Ac × Int) → Prop
 | none => ∀ H', AI H H' → E (.ref t.c_TooGreat) none H'
 | some r => ∀ (p l : Addr) (xs : List V) (H' : Hp), AI H H' → H l = none → H' l = some (.lst xs) → RpL K H' (r.1.map Ac.D) xs → SqT K H' p [.ref l, .int r.2] → Q (.ref p) H'
def dQ (K : PySem.W.Frag) (t : Adr) : Sp := fun vs H Q E => ∃ (v u : V) (p q : Pl) (h : Int), vs = [v, .int h, u] ∧ Rp K H p.D v ∧ Rp K H q.D u ∧ WtQ K t H Q E (wt (lgs p q) h [])
def pO (K : PySem.W.Frag) (v u : V) (l : Addr) (ll : List (Int × Int)) (R : Option (List Ac × Int)) (H : Hp) (i : Nat) (σ : L2.St) (H2 : Hp) : Prop := ∃ (xs : List V) (acc : List Ac) (h : Int) (o4 o5 : Option V), σ = [some v, some (.int h), some u, some (.ref l), o4, o5] ∧ AI H H2 ∧ H2 l = some (.lst xs) ∧ RpL K H2 (acc.map Ac.D) xs ∧ acc.length ≤ 2 * i ∧ wt (ll.drop i) h acc = R
theorem cC (T : Txt K mg t) : BF P w K mg base (CXr P w) 3 t.a_wayto t.d_wayto ["start", "heading", "end"] (dQ K t) := by
 refine T.wayto.F.okR IP (fun vs H Q E h => ?_) (fun cdv A outer s H vs Q E hr h => ?_)
 ·obtain ⟨v, u, p, q, h, rfl, _⟩ := h; rfl
 ·obtain ⟨v, u, p, q, h, rfl, rv, ru, qq⟩ := h
  have eM : t.v_MOST_AMOUNT = .int 1000000 := by have := T.k_MOST_AMOUNT H; rw [FC, Rp] at this; exact this
  refine ⟨_, s!"3{IP.nd}CZI{PassesOwn.leaving}{BF.upR (NN T)}{hr.mono (by decide)}{T.legsbetween.m}{T.legsbetween.F.kp}{T.legsbetween.b}{CQ}0A2ACBBLt4{IP.nd}M5{IP.nd}MdSSg{@SR _ _ _ _ _ _ _ _ _ _ _ _ OB OB s!"_{T.g_MOST_AMOUNT}{T.r_MOST_AMOUNT}Xs" s!"5A" s!"_{T.g_MOST_AMOUNT}{T.r_MOST_AMOUNT}X" (by with_unfolding_all rfl)}l{IH UN rfl T.x_TooGreat (by rfl) T.mg_TooGreat s!"JCB"}FYO{JT}5AD{BB _}R{PySem.F.slot_list_extend}{PySem.F.type_list_extend}{LC}3A{RF}{BF.upR (HZ T)}{hr.mono (by decide)}{T.turnbetween.m}{T.turnbetween.F.kp}{T.turnbetween.b}{CQ}1A4ACBBLJ5ACBBPCQZGCBfW1{IP.nd}4AIFEYOFEn3A1ACBBPNFEE", ?_⟩
  walk_at "ro"
  refine ⟨by decide, fun l hl => ?_⟩
  have u0 := AI.upd (o := .lst []) hl
  walk_at "ro"
  refine ⟨v, u, p, q, rfl, rv.same u0, ru.same u0, fun lg xg H1 s1 fg hg rg => ?_⟩
  have h1 := s1 _ _ (AB (H := H) (a := l) (o := .lst []))
  have nl : lg ≠ l := by rintro rfl; rw [AB] at fg; cases fg
  have S1 := u0.trans s1
  have lxg : xg.length = 4 := by rw [rg.length]; rfl
  dsimp only
  refine ⟨⟨_, SqL.of hg⟩, ?_⟩
  refine QX (xs := xg) (fun i σ H2 => pO K v u l (lgs p q) (wt (lgs p q) h []) H i σ H2 ∧ H2 lg = some (.lst xg) ∧ RpL K H2 ((lgs p q).map lgD) xg) ⟨⟨[], [], h, none, none, rfl, S1, h1, RpL.nil, Nat.zero_le _, rfl⟩, hg, rg⟩ (fun i σ H2 _ z => SqL.of z.2.1) ?_ ?_
  ·rintro i x σ H2 hx ⟨⟨xs, acc, h', o4, o5, rfl, s2, h2, r2, la, eR⟩, hg2, rg2⟩
   have hi : i < 4 := by have := (List.getElem?_eq_some_iff.mp hx).1; omega
   have hil : i < (lgs p q).length := hi
   obtain ⟨y, ey, ry⟩ := rg2.at (j := i) (by rw [List.length_map]; exact hil)
   rw [hx] at ey; cases ey
   rw [List.getD_eq_getElem?_getD, List.getElem?_map, List.getElem?_eq_getElem hil] at ry
   have ry : Rp K H2 (lgD (lgs p q)[i]) x := ry
   have ed : (lgs p q).drop i = (lgs p q)[i] :: (lgs p q).drop (i + 1) := List.drop_eq_getElem_cons hil
   rw [ed] at eR
   generalize (lgs p q)[i] = g at ry eR
   obtain ⟨gw, gs⟩ := g
   obtain ⟨pg, g0, g1, rfl, hpg, e0, e1⟩ := CN.mp ry
   cases II e0; cases II e1
   rw [wt] at eR
   walk_at "ro"
   refine ⟨_, hpg, rfl, ?_⟩
   rw [eM]
   walk_at "ro"
   by_cases c : -1000000 ≤ gs ∧ gs ≤ 1000000
   ·rw [if_pos c.1, if_neg (fun z => z c.2)]
    rw [if_pos c] at eR
    by_cases c0 : gs = 0
    ·rw [if_neg (by simpa using c0)]
     rw [if_neg (by simpa using c0)] at eR
     exact ⟨⟨xs, acc, h', _, _, rfl, s2, h2, r2, by omega, eR⟩, hg2, rg2⟩
    ·rw [if_pos c0]
     rw [if_pos c0] at eR
     refine ⟨.inl ⟨_, SqL.of h2⟩, h', gw, rfl, fun lt xt H3 s3 ft h3 r3 => ⟨by decide, fun p1 hp1 => ⟨by decide, fun p2 hp2 => ?_⟩⟩⟩
     have u1 := AI.upd (o := .tup [.str (Str.ofString "go"), .int gs]) hp1
     have u2 := AI.upd (o := .lst [.ref p1]) hp2
     have lt1 : xt.length ≤ 1 := by rw [r3.length, List.length_map]; exact NU _ _
     have lxs : xs.length = acc.length := by rw [r2.length, List.length_map]
     dsimp only
     refine ⟨xt, (u1.trans u2) _ _ h3, _, rfl, Nat.le_of_lt (DO (by simp only [List.length_cons, List.length_nil]; omega)), fun p3 hp3 => ?_⟩
     have u3 := AI.upd (o := .lst (xt ++ [.ref p1])) hp3
     have S := s3.trans ((u1.trans u2).trans u3)
     have h4 := S _ _ h2
     refine ⟨xs, h4, _, rfl, Nat.le_of_lt (DO (by simp only [List.length_append, List.length_cons, List.length_nil]; omega)), ?_⟩
     have t5 : AM (upd (upd (upd H3 p1 (.tup [.str (Str.ofString "go"), .int gs])) p2 (.lst [.ref p1])) p3 (.lst (xt ++ [.ref p1]))) (upd (upd (upd (upd H3 p1 (.tup [.str (Str.ofString "go"), .int gs])) p2 (.lst [.ref p1])) p3 (.lst (xt ++ [.ref p1]))) l (.lst (xs ++ (xt ++ [.ref p1])))) := (AM.refl _).upd (CS h4)
     have lt2 := NU h' gw
     refine ⟨⟨xs ++ (xt ++ [.ref p1]), acc ++ (tb h' gw ++ [.go gs]), gw, _, _, rfl, (s2.trans S).upd2 hl, AB, ?_, by simp only [List.length_append, List.length_cons, List.length_nil]; omega, eR⟩, by rw [AH nl]; exact S _ _ hg2, RpL.t t5 (rg2.same S)⟩
     rw [List.map_append, List.map_append]
     refine RpL.t t5 ((r2.same S).app (((r3.same ((u1.trans u2).trans u3))).app (RpL.one ?_)))
     exact FX ((u2.trans u3).tup (SqT.of AB)) (CD (PJ _) (RpL.one (HY _)))
   ·rw [if_neg c] at eR
    rw [← eR] at qq
    by_cases c1 : -1000000 ≤ gs
    ·rw [if_pos c1, if_pos (fun z => c ⟨c1, z⟩)]
     exact ⟨by decide, qq _ s2⟩
    ·rw [if_neg c1]
     exact ⟨by decide, qq _ s2⟩
  ·rintro σ H2 ⟨⟨xs, acc, h', o4, o5, rfl, s2, h2, r2, la, eR⟩, _, _⟩
   rw [lxg] at eR
   have eR : some (acc, h') = wt (lgs p q) h [] := eR
   rw [← eR] at qq
   walk_at "ro"
   refine ⟨by decide, fun p1 hp1 => ?_⟩
   have u1 := AI.upd (o := .tup [.ref l, .int h']) hp1
   exact qq p1 l xs _ (s2.trans u1) hl (u1 _ _ h2) (r2.same u1) (SqT.of AB)
def wb (x : Hd) (z : Pl × Int) : Option (List Ac) := match wt (lgs x.p z.1) x.h [] with
 | none => none
 | some r => some (if x.dn then .up :: (r.1 ++ tb r.2 z.2) ++ [.down] else r.1 ++ tb r.2 z.2)
def WbQ (K : PySem.W.Frag) (t : Adr) (H : Hp) (Q : VK) (E : XK) : Option (List Ac) → Prop
 | none => ∀ H', AI H H' → E (.ref t.c_TooGreat) none H'
 | some r => ∀ (l : Addr) (xs : List V) (H' : Hp), AI H H' → H l = none → H' l = some (.lst xs) → RpL K H' (r.map Ac.D) xs → Q (.ref l) H'
def VO (K : PySem.W.Frag) (t : Adr) : Sp := fun vs H Q E => ∃ (a : Ha) (x : Hd) (n : Int) (z : Pl × Int), vs = [.ref a.p, .int n] ∧ CH K t.c_Hand H a x ∧ lkA x.ms n = some z ∧ WbQ K t H Q E (wb x z)
theorem QV : ∀ {ll : List (Int × Int)} {h : Int} {acc : List Ac} {r : List Ac × Int}, wt ll h acc = some r → r.1.length ≤ acc.length + 2 * ll.length
 | [], h, acc, r, e => by cases e; simp
 | (w, s) :: ll, h, acc, r, e => by
  rw [wt] at e
  split at e
  ·split at e
   ·have := QV e
    have := NU h w
    simp only [List.length_append, List.length_cons, List.length_nil] at *
    omega
   ·have := QV e
    simp only [List.length_cons]
    omega
  ·cases e
theorem WO (T : Txt K mg t) : BF P w K mg base (CXr P w) 4 t.a_wayback t.d_wayback ["hand", "number"] (VO K t) := by
 refine T.wayback.F.okR FU (fun vs H Q E h => ?_) (fun cdv A outer s H vs Q E hr h => ?_)
 ·obtain ⟨a, x, n, z, rfl, _⟩ := h; rfl
 ·obtain ⟨a, x, n, z, rfl, hA, hz, q⟩ := h
  obtain ⟨⟨dh, vp, hp, rp⟩, ⟨vs1, hs, rs⟩, ⟨vs2, hc2, rc⟩, ⟨km, hm, rm⟩, ne⟩ := id hA
  refine ⟨_, s!"{MM (OC hr) s!"0AK" s!"1A" (fun _ _ => rfl)}2{FU.nd}M3{FU.nd}MdSSgk{cC T}{hr.mono (by decide)}{T.wayto.m}{T.wayto.F.kp}{T.wayto.b}{CQ}0AK0AK2ACBBBL4{FU.nd}M5{FU.nd}MdSSgk{PySem.F.slot_list_extend}{PySem.F.type_list_extend}{LC}4A{BF.upR (HZ T)}{hr.mono (by decide)}{T.turnbetween.m}{T.turnbetween.F.kp}{T.turnbetween.b}{CQ}5A3ACBBLCBfW0AKe{BF.upR (RO T)}{hr.mono (by decide)}{T.withpenup.m}{T.withpenup.F.kp}{T.withpenup.b}{CQ}4ACBL4A%NFEEE", ?_⟩
  walk_at "ro"
  obtain ⟨vm, ev, rvm⟩ := (As.get QS (k := n) rm).2 z hz
  obtain ⟨pm, xp, xh, rfl, hpm, rxp, rxh⟩ := CN.mp rvm
  have rxh : xh = .int z.2 := by rw [Rp] at rxh; exact rxh
  subst rxh
  refine ⟨_, _, _, hp, T.cl_Hand, T.n_Hand_marks, _, rfl, ?_⟩
  dsimp only
  refine ⟨km, .inl hm, .inl n, rfl, _, ev, ?_⟩
  dsimp only
  refine ⟨_, hpm, rfl, ?_⟩
  walk_at "ro"
  refine ⟨_, _, _, hp, T.cl_Hand, T.n_Hand_spot, _, rfl, _, _, _, hp, T.cl_Hand, T.n_Hand_heading, _, rfl, vp, xp, x.p, z.1, x.h, rfl, rp, rxp, ?_⟩
  cases e : wt (lgs x.p z.1) x.h [] with
  | none =>
   have : wb x z = none := by unfold wb; rw [e]
   rw [this] at q
   intro H1 s1
   exact q H1 s1
  | some r =>
   have ew : wb x z = some (if x.dn then .up :: (r.1 ++ tb r.2 z.2) ++ [.down] else r.1 ++ tb r.2 z.2) := by unfold wb; rw [e]
   rw [ew] at q
   have lr : r.1.length ≤ 8 := by have := QV e; simpa [lgs] using this
   have lt := NU r.2 z.2
   intro p1 l xs H1 s1 fl h1 r1 hp1
   walk_at "ro"
   refine ⟨_, hp1, rfl, ?_⟩
   walk_at "ro"
   refine ⟨.inl ⟨_, SqL.of h1⟩, r.2, z.2, rfl, fun l2 x2 H2 s2 f2 h2 r2 => ?_⟩
   have h1' := s2 _ _ h1
   have lxs : xs.length = r.1.length := by rw [r1.length, List.length_map]
   have lx2 : x2.length ≤ 1 := by rw [r2.length, List.length_map]; exact lt
   have nal : a.p ≠ l := AK hp fl
   have t3 : AM H2 (upd H2 l (.lst (xs ++ x2))) := (AM.refl _).upd (CS h1')
   have S3 : AI H (upd H2 l (.lst (xs ++ x2))) := (s1.trans s2).upd2 fl
   have r3 : RpL K (upd H2 l (.lst (xs ++ x2))) ((r.1 ++ tb r.2 z.2).map Ac.D) (xs ++ x2) := by
    rw [List.map_append]
    exact RpL.t t3 ((r1.same s2).app r2)
   refine ⟨l2, rfl, xs, h1', x2, h2, Nat.le_of_lt (DO (by omega)), _, _, _, (by rw [AH nal]; exact (s1.trans s2) _ _ hp), T.cl_Hand, T.n_Hand_down, _, rfl, ?_⟩
   dsimp only
   cases ed : x.dn with
   | true =>
    rw [ed, if_pos rfl] at q
    rw [if_pos rfl]
    refine ⟨l, xs ++ x2, r.1 ++ tb r.2 z.2, rfl, AB, r3, by rw [List.length_append]; omega, fun l' ys H' s' f' h' r' => q l' ys H' (S3.trans s') ?_ h' r'⟩
    cases e : H l' with
    | none => rfl
    | some o => rw [S3 _ _ e] at f'; cases f'
   | false =>
    rw [ed, if_neg (by decide)] at q
    rw [if_neg (by decide)]
    exact q l _ _ S3 fl AB r3
end
def EN : Ac → Bool
 | .back _ => true
 | _ => false
def VS (x : Hd) : Ac → Option (List Ac)
 | .back n => match lkA x.ms n with | some z => wb x z | none => none
 | .mark _ => some []
 | a => some [a]
def pf : List Ac → Hd → List Ac → Option (List Ac)
 | [], _, b => some b
 | a :: r, x, b => match VS x a, stp x a with | some l, some y => pf r y (b ++ l) | _, _ => none
def JQ : List Ac → Hd → Option Hd
 | [], x => some x
 | a :: r, x => match stp x a with | none => none | some y => JQ r y
theorem NS : ∀ (l : List Ac) (a : Ac) (x y z : Hd), JQ l x = some y → stp y a = some z → JQ (l ++ [a]) x = some z
 | [], a, x, y, z, h, e => by cases h; rw [List.nil_append, JQ, e]; rfl
 | b :: l, a, x, y, z, h, e => by
  rw [JQ] at h
  rw [List.cons_append, JQ]
  cases s : stp x b with
  | none => rw [s] at h; cases h
  | some u => rw [s] at h; exact NS l a u y z h e
structure Rpl (m : Ms) : Prop where
 r : JQ m.ac hd0 = some m.hd
 o : ∀ a ∈ m.ac, a.ok
theorem FV {m m' : Ms} {a : Ac} (ho : a.ok) (h : Rpl m) (e : JI m a = .ok m') : Rpl m' := by
 unfold JI at e
 cases s : stp m.hd a with
 | none => rw [s] at e; cases e
 | some y =>
  rw [s] at e; cases e
  refine ⟨NS _ _ _ _ _ h.r s, fun b hb => ?_⟩
  rcases List.mem_append.mp hb with hb | hb
  ·exact h.o b hb
  ·rw [List.mem_singleton] at hb; subst hb; exact ho
theorem SG {e : En} {a : Am} {n : Int} (h : wth e a = some n) : -1000000 ≤ n ∧ n ≤ 1000000 := by
 unfold wth at h
 split at h
 ·cases h; assumption
 ·cases h
theorem kA {ws : Tb} {m m' : Ms} {en : En} {s : Stm} (h : Rpl m) (e : bgn ws m en s = .ok m') : Rpl m' := by
 cases s with
 | go a =>
  rw [bgn] at e
  cases w : wth en a with
  | none => rw [w] at e; cases e
  | some n => rw [w] at e; exact FV (a := .go n) (SG w) h e
 | turn a =>
  rw [bgn] at e
  cases w : wth en a with
  | none => rw [w] at e; cases e
  | some n => rw [w] at e; exact FV (a := .turn n) (SG w) h e
 | ink a =>
  rw [bgn] at e
  cases w : wth en a with
  | none => rw [w] at e; cases e
  | some n => rw [w] at e; exact FV (a := .ink n) (SG w) h e
 | up => rw [bgn] at e; exact FV (a := .up) trivial h e
 | down => rw [bgn] at e; exact FV (a := .down) trivial h e
 | mark n => rw [bgn] at e; exact FV (a := .mark n) trivial h e
 | back n => rw [bgn] at e; exact FV (a := .back n) trivial h e
 | again a b => rw [bgn] at e; split at e <;> cases e; exact ⟨h.r, h.o⟩
 | ifs a b c => rw [bgn] at e; split at e <;> cases e; exact ⟨h.r, h.o⟩
 | dow x as => rw [bgn] at e; split at e <;> cases e; exact ⟨h.r, h.o⟩
theorem cP {ws : Tb} : ∀ (n : Nat) {m m' : Ms}, Rpl m → wk ws n m = .ok m' → Rpl m'
 | 0, m, m', h, e => by cases e; exact h
 | n + 1, m, m', h, e => by
  rw [wk] at e
  have hc : Rpl (cln m) := ⟨h.r, h.o⟩
  cases l : (cln m).lv with
  | nil => rw [l] at e; cases e; exact hc
  | cons v r =>
   rw [l] at e
   dsimp only at e
   cases d : dd ws (cln m) with
   | error b => rw [d] at e; cases e
   | ok m2 =>
    rw [d] at e
    refine cP n ?_ e
    unfold dd at d
    rw [l] at d
    dsimp only at d
    split at d
    ·cases d; exact ⟨hc.r, hc.o⟩
    ·refine kA ?_ d; exact ⟨hc.r, hc.o⟩
theorem iE (body : List Stm) : Rpl (ms0 body) := ⟨rfl, fun a h => by cases h⟩
theorem OK : ∀ {l : List Ac} {x y : Hd} {i : Nat} {a : Ac}, JQ l x = some y → l[i]? = some a → ∃ u z, JQ (l.take i) x = some u ∧ stp u a = some z
 | [], x, y, i, a, _, h => by simp at h
 | b :: l, x, y, 0, a, e, h => by
  cases h
  rw [JQ] at e
  cases s : stp x b with
  | none => rw [s] at e; cases e
  | some z => exact ⟨x, z, rfl, s⟩
 | b :: l, x, y, i + 1, a, e, h => by
  rw [JQ] at e
  cases s : stp x b with
  | none => rw [s] at e; cases e
  | some z =>
   rw [s] at e
   obtain ⟨u, z', h1, h2⟩ := OK (l := l) (i := i) e h
   exact ⟨u, z', by rw [List.take_succ_cons, JQ, s]; exact h1, h2⟩
theorem SZ : ∀ (l : List Ac) {x y : Hd}, JQ l x = some y → y.co.length ≤ x.co.length + l.length ∧ y.st.length ≤ x.st.length + l.length ∧ y.ms.length ≤ x.ms.length + l.length
 | [], x, y, h => by cases h; simp
 | a :: l, x, y, h => by
  rw [JQ] at h
  cases s : stp x a with
  | none => rw [s] at h; cases h
  | some z =>
   rw [s] at h
   have h1 := SZ l h
   have h2 := bA s
   simp only [List.length_cons]
   omega
theorem lC {ws : Tb} {ar : Str → Option Nat} (ht : ZK ws ar) : ∀ {n j : Nat} {m m' : Ms}, HF ar j m → wk ws n m = .ok m' → HF ar (j + n) m'
 | 0, j, m, m', h, e => by rw [wk] at e; cases e; exact h
 | n + 1, j, m, m', h, e => by
  rw [wk] at e
  have hc := bZ h
  cases el : (cln m).lv with
  | nil =>
   rw [el] at e; cases e
   have key : ∀ k, HF ar (j + k) (cln m) := fun k => by
    induction k with
    | zero => exact hc
    | succ k ih => exact ih.mono
   exact key _
  | cons v r =>
   rw [el] at e
   dsimp only at e
   cases ed : dd ws (cln m) with
   | error b => rw [ed] at e; cases e
   | ok m2 =>
    rw [ed] at e
    have := lC ht (kZ ht hc el (XF el) ed) e
    rw [show j + (n + 1) = j + 1 + n by omega]
    exact this
inductive Put where
 | ok (b : List Ac) | mark | great | long
def FK : Except Bool Ms → Put
 | .error true => .mark
 | .error false => .great
 | .ok m => if m.dn = false then .long else if 100 < (m.ac.filter EN).length then .long else match pf m.ac hd0 [] with | none => .great | some b => .ok b
section
variable {P : Program} {w : World} {K : PySem.W.Frag} {mg : Str → Option Value} {base : Heap} {t : Adr}
def PutQ (K : PySem.W.Frag) (t : Adr) (H : Hp) (Q : VK) (E : XK) : Put → Prop
 | .ok b => ∀ (v : V) (H' : Hp), AI H H' → Rp K H' (.tup [.tup [], .tup (b.map Ac.D)]) v → Q v H'
 | .mark => ∀ H', AI H H' → E (.ref t.c_NoMark) none H'
 | .great => ∀ H', AI H H' → E (.ref t.c_TooGreat) none H'
 | .long => ∀ H', AI H H' → E (.ref t.c_TooLong) none H'
def bC (K : PySem.W.Frag) (t : Adr) : Sp := fun vs H Q E => ∃ (v : V) (n : Nat) (ws : List Wd) (body : List Stm), vs = [v, .int n] ∧ Rp K H (pD ws body) v ∧ n ≤ 2000 ∧ POk ws body ∧ PutQ K t H Q E (FK (wk (BX ws) n (ms0 body)))
theorem oY {H : Hp} {a : Ac} {v : V} (h : Rp K H a.D v) : ∃ (p : Addr) (nm : Str) (DQ : List V), v = .ref p ∧ SqT K H p (.str nm :: DQ) ∧ (EN a = true ↔ nm = Str.ofString "back") := by
 cases a with
 | go n => obtain ⟨p, rfl, hp⟩ := rp2 h; exact ⟨p, _, _, rfl, hp, by simp [EN]; decide +kernel⟩
 | turn n => obtain ⟨p, rfl, hp⟩ := rp2 h; exact ⟨p, _, _, rfl, hp, by simp [EN]; decide +kernel⟩
 | ink n => obtain ⟨p, rfl, hp⟩ := rp2 h; exact ⟨p, _, _, rfl, hp, by simp [EN]; decide +kernel⟩
 | mark n => obtain ⟨p, rfl, hp⟩ := rp2 h; exact ⟨p, _, _, rfl, hp, by simp [EN]; decide +kernel⟩
 | back n => obtain ⟨p, rfl, hp⟩ := rp2 h; exact ⟨p, _, _, rfl, hp, by simp [EN]⟩
 | up => obtain ⟨p, xs, rfl, hp, r⟩ := BN.mp h; rw [RpL] at r; obtain ⟨x0, r0, rfl, e0, e1⟩ := r; cases BD e0; exact ⟨p, _, _, rfl, hp, by simp [EN]; decide +kernel⟩
 | down => obtain ⟨p, xs, rfl, hp, r⟩ := BN.mp h; rw [RpL] at r; obtain ⟨x0, r0, rfl, e0, e1⟩ := r; cases BD e0; exact ⟨p, _, _, rfl, hp, by simp [EN]; decide +kernel⟩
def oE (K : PySem.W.Frag) (p : Addr) (ac : List Ac) (H : Hp) (i : Nat) (σ : L2.St) (H2 : Hp) : Prop := ∃ (us : List V) (o1 : Option V), σ = [o1] ∧ AI H H2 ∧ H2 p = some (.lst us) ∧ us.length = ((ac.take i).filter EN).length
structure PiAt (K : PySem.W.Frag) (t : Adr) (H : Hp) (a : Wa) (ha : Ha) (lb : Addr) (va : List V) (ac : List Ac) (i : Nat) (H2 : Hp) (x : Hd) (bd : List Ac) : Prop where
 hs : AI H H2
 hv : H2 a.la = some (.lst va)
 hr : RpL K H2 (ac.map Ac.D) va
 hh : CH K t.c_Hand H2 ha x
 hb : ∃ xs, H2 lb = some (.lst xs) ∧ RpL K H2 (bd.map Ac.D) xs
 hn : JQ (ac.take i) hd0 = some x
 hl : bd.length ≤ i + 12 * ((ac.take i).filter EN).length
 hp : My.pf (ac.drop i) x bd = My.pf ac hd0 []
def lA (K : PySem.W.Frag) (t : Adr) (H : Hp) (a : Wa) (ha : Ha) (lb : Addr) (va : List V) (ac : List Ac) (v : V) (n : Int) (i : Nat) (σ : L2.St) (H2 : Hp) : Prop := ∃ (x : Hd) (bd : List Ac) (o5 : Option V), σ = [some v, some (.int n), some (.ref a.pw), some (.ref ha.p), some (.ref lb), o5] ∧ PiAt K t H a ha lb va ac i H2 x bd
theorem nC {x : Hd} {z : Pl × Int} {r : List Ac} (h : wb x z = some r) : r.length ≤ 11 := by
 unfold wb at h
 split at h
 ·cases h
 ·rename_i r' e
  have := QV e
  have l2 := NU r'.2 z.2
  have l8 : r'.1.length ≤ 8 := by simpa [lgs] using this
  cases h
  split
  ·simp only [List.length_append, List.length_cons, List.length_nil]; omega
  ·simp only [List.length_append]; omega
theorem MV (T : Txt K mg t) : BF P w K mg base (CXr P w) 9 t.a_putin t.d_putin ["program", "most"] (bC K t) := by
 refine T.putin.F.okR IA (fun vs H Q E h => ?_) (fun cdv A outer s H vs Q E hr h => ?_)
 ·obtain ⟨v, n, ws, body, rfl, _⟩ := h; rfl
 ·obtain ⟨v, n, ws, body, rfl, rv, hn, hok, q⟩ := h
  refine ⟨_, s!"2{IA.nd}{ZA T}{hr.mono (by decide)}{T.walked.m}{T.walked.F.kp}{T.walked.b}{CQ}0A1ACBBLI2A{T.cl_Walk}{T.Walk_isdone.mt}{BF.upR (IN T)}{hr.mono (by decide)}{T.Walk_isdone.b}{CQ}mel{IH UN rfl T.x_TooLong (by rfl) T.mg_TooLong s!"JCB"}FYO{JS}{CK}{T.z_len}{PySem.boot_len}{AE HJ}{["program", "most", "walk", "hand", "body", "act"]}{["act"]}{["act"]}{[]}2AKt{fun _ _ _ _ => s!"0{show List.Nodup (["act"] : List Str) by decide +kernel}M"}{fun _ _ _ _ => (@fV _ _ _ s!"{CZ}{SQ (K := K) rfl}0ADHJ{BB _}R")}{fun _ _ _ _ => s!"0A"}vCBb_{T.g_MOST_BACKS}{T.r_MOST_BACKS}X{BB _}R{IH UN rfl T.x_TooLong (by rfl) T.mg_TooLong s!"JCB"}FYO3{IA.nd}{@TD _ _ _ _ _ _ _ _ _ _ _ _ _ _ T.Hand_init.mki (BF.upR (KC T)) (hr.mono (by decide)) (by rfl) T.mg_Hand T.Hand_init.b .nil CQ (by decide)}I4{IA.nd}CZI{PassesOwn.leaving}2AKt5{IA.nd}M{CZ}{BA}5ADHJ{BB _}R{PySem.F.slot_list_extend}{PySem.F.type_list_extend}{LC}4A{WO T}{hr.mono (by decide)}{T.wayback.m}{T.wayback.F.kp}{T.wayback.b}{CQ}3A{BA}5ADHCBBLCBfWF{JT}{BA}5ADHJ{BB _}R{PySem.F.slot_list_append}{PySem.F.type_list_append}{DT}4A5ACBfWFYOFO3A{T.cl_Hand}{T.Hand_act.mt}{LV T}{hr.mono (by decide)}{T.Hand_act.b}{CQ}5ACBiWFEnVU{HU}{T.z_tuple}{boot_tuple}4ACBuCBQPNFEEEEEE", ?_⟩
  walk_at "ro"
  refine ⟨v, n, ws, body, rfl, rv, by omega, hok, ?_⟩
  cases eR : wk (BX ws) n (ms0 body) with
  | error b =>
   rw [eR] at q
   intro H1 s1
   cases b with
   | true => exact q H1 s1
   | false => exact q H1 s1
  | ok m =>
   rw [eR] at q
   intro a las H1 s1 fa W1
   have hm := cP n (iE body) eR
   obtain ⟨_, ar, ht, ho⟩ := hok
   have hsz := lC ht (gO ho) eR
   have lac : m.ac.length ≤ 2000 := by have := hsz.ac; omega
   have eMB : t.v_MOST_BACKS = .int 100 := by have := T.k_MOST_BACKS H; rw [HQ, Rp] at this; exact this
   obtain ⟨dw, wo⟩ := W1.wo
   walk_at "ro"
   refine ⟨_, _, wo, rfl, a, BX ws, las, m, rfl, W1, fun las2 H2 b2 t2 sub W2 => ?_⟩
   have S2 : AI H H2 := GQ s1 b2 (by intro c hc; rw [List.mem_singleton] at hc; subst hc; exact fa.ll)
   have edn : m.dn = (cln m).lv.isEmpty := rfl
   dsimp only
   cases ed : (cln m).lv.isEmpty with
   | false =>
    rw [FK, edn, ed, if_pos rfl] at q
    rw [if_pos rfl]
    exact ⟨by decide, q _ S2⟩
   | true =>
   rw [FK, edn, ed, if_neg (by decide)] at q
   rw [if_neg (by decide)]
   obtain ⟨dw2, wo2⟩ := W2.wo
   obtain ⟨va, hva, rva⟩ := W2.ac
   have rva : RpL K H2 (m.ac.map Ac.D) va := rva
   refine ⟨_, _, _, wo2, T.cl_Walk, T.n_Walk_acts, _, rfl, ?_⟩
   dsimp only
   refine ⟨⟨_, SqL.of hva⟩, fun p hp => ?_⟩
   have u3 := AI.upd (o := .lst []) hp
   have lva : va.length = m.ac.length := by rw [rva.length, List.length_map]
   refine iS (xs := va) (oE K p m.ac H2) ⟨[], none, rfl, u3, AB, rfl⟩ (fun i σ H9 _ z => by obtain ⟨_, _, rfl, s9, _⟩ := z; exact SqL.of (s9 _ _ hva)) ?_ ?_
   ·rintro i x σ H3 hx ⟨us, o1, rfl, s3, h3, l3⟩
    have hi : i < va.length := (List.getElem?_eq_some_iff.mp hx).1
    have hia : i < m.ac.length := by omega
    have lus : us.length ≤ 5000 := by rw [l3]; exact Nat.le_trans (List.length_filter_le _ _) (by rw [List.length_take]; omega)
    obtain ⟨y, ey, ry⟩ := (rva.same s3).at (j := i) (by rw [List.length_map]; exact hia)
    rw [hx] at ey; cases ey
    rw [List.getD_eq_getElem?_getD, List.getElem?_map, List.getElem?_eq_getElem hia] at ry
    have ry : Rp K H3 (m.ac[i]).D x := ry
    have et : m.ac.take (i + 1) = m.ac.take i ++ [m.ac[i]] := by rw [List.take_add_one, List.getElem?_eq_getElem hia]; rfl
    obtain ⟨pa, nm, DQ, rfl, hpa, eb⟩ := oY ry
    walk_at "rd"
    refine ⟨_, hpa, _, DF (j := 0) rfl, ?_⟩
    dsimp only
    by_cases c : nm = Str.ofString "back"
    ·rw [if_pos (by simpa using c)]
     refine ⟨us, h3, DO lus, nx hi ⟨us ++ [.ref pa], _, rfl, s3.upd2 hp, AB, ?_⟩⟩
     rw [et, List.filter_append, List.length_append, List.length_append, l3]
     simp [eb.mpr c]
    ·rw [if_neg (by simpa using c)]
     have : EN m.ac[i] = false := by
      cases e : EN m.ac[i] with
      | false => rfl
      | true => exact absurd (eb.mp e) c
     refine nx hi ⟨us, _, rfl, s3, h3, ?_⟩
     rw [et, List.filter_append, List.length_append, l3]
     simp [this]
   rintro σ H3 ⟨us, o1, rfl, s3, h3, l3⟩
   rw [lva, List.take_length] at l3
   have W3s := s3
   dsimp only
   refine ⟨us, .inl (SqL.of h3), ?_⟩
   rw [eMB]
   dsimp only
   by_cases c : 100 < (m.ac.filter EN).length
   ·rw [if_pos c] at q
    rw [if_pos (by rw [l3]; omega)]
    exact ⟨by decide, q _ (S2.trans s3)⟩
   ·rw [if_neg c] at q
    rw [if_neg (by rw [l3]; omega)]
    have S3 := S2.trans s3
    have hva := s3 _ _ hva
    have wo3 := s3 _ _ wo2
    have rva := rva.same s3
    clear W2 W1 wo wo2 s1 b2 t2 sub S2 u3 s3 h3
    intro ph dh hph hdh ndh
    refine ⟨ph, dh, rfl, AB, fun ha H4 ep f1 f2 f3 b4 hA4 => ⟨rfl, by decide, fun lb hlb => ?_⟩⟩
    have s4 : AI H3 H4 := fun c o e => b4 c o (by rw [AH (AK e hph), AH (AK e hdh)]; exact e) (by simpa using AK e hph)
    have frs : ∀ c, (upd (upd H3 dh (.own ph)) ph (.ins t.c_Hand dh [])) c = none → H3 c = none := fun c hc => by
     cases e : H3 c with
     | none => rfl
     | some o =>
      rw [AH (AK e hph), AH (AK e hdh), e] at hc
      cases hc
    have fha : ∀ c ∈ ha.l, H3 c = none := fun c hc => by
     simp only [Ha.l, List.mem_cons, List.not_mem_nil, or_false] at hc
     rcases hc with rfl | rfl | rfl | rfl
     ·rw [ep]; exact hph
     ·exact frs _ f1
     ·exact frs _ f2
     ·exact frs _ f3
    have nlh : ∀ c ∈ ha.l, c ≠ lb := fun c hc e => by
     subst e
     obtain ⟨⟨_, _, g1, _⟩, ⟨_, g2, _⟩, ⟨_, g3, _⟩, ⟨_, g4, _⟩, _⟩ := hA4
     simp only [Ha.l, List.mem_cons, List.not_mem_nil, or_false] at hc
     rcases hc with rfl | rfl | rfl | rfl
     ·rw [g1] at hlb; cases hlb
     ·rw [g2] at hlb; cases hlb
     ·rw [g3] at hlb; cases hlb
     ·rw [g4] at hlb; cases hlb
    have u5 := AI.upd (o := .lst []) hlb
    have s45 := s4.trans u5
    have fHl : H lb = none := by
     cases e : H lb with
     | none => rfl
     | some o => rw [(S3.trans s4) _ _ e] at hlb; cases hlb
    have fHh : ∀ c ∈ ha.l, H c = none := fun c hc => by
     cases e : H c with
     | none => rfl
     | some o => have := S3 _ _ e; rw [fha c hc] at this; cases this
    have nla : a.la ≠ lb := by
     rintro rfl
     rw [s4 _ _ hva] at hlb; cases hlb
    have nha : ∀ c ∈ ha.l, c ≠ a.la := fun c hc e => by
     subst e
     rw [fha _ hc] at hva; cases hva
    refine ⟨_, _, _, s45 _ _ wo3, T.cl_Walk, T.n_Walk_acts, _, rfl, ?_⟩
    dsimp only
    refine ⟨⟨_, SqL.of (s45 _ _ hva)⟩, ?_⟩
    refine QX (xs := va) (lA K t H a ha lb va m.ac v n) ⟨hd0, [], none, by rw [ep], ⟨S3.trans s45, s45 _ _ hva, rva.same s45, hA4.same u5, ⟨[], AB, RpL.nil⟩, rfl, by simp, rfl⟩⟩ (fun i σ H9 _ z => by obtain ⟨_, _, _, rfl, z⟩ := z; exact SqL.of z.hv) ?_ ?_
    ·rintro i xv σ H6 hx ⟨x, bd, o5, rfl, I⟩
     have hi : i < va.length := (List.getElem?_eq_some_iff.mp hx).1
     have hia : i < m.ac.length := by omega
     obtain ⟨y, ey, ry⟩ := I.hr.at (j := i) (by rw [List.length_map]; exact hia)
     rw [hx] at ey; cases ey
     rw [List.getD_eq_getElem?_getD, List.getElem?_map, List.getElem?_eq_getElem hia] at ry
     have ry : Rp K H6 (m.ac[i]).D xv := ry
     have et : m.ac.take (i + 1) = m.ac.take i ++ [m.ac[i]] := by rw [List.take_add_one, List.getElem?_eq_getElem hia]; rfl
     have ed2 : m.ac.drop i = m.ac[i] :: m.ac.drop (i + 1) := List.drop_eq_getElem_cons hia
     obtain ⟨x', y, e1, e2⟩ := OK (i := i) hm.r (List.getElem?_eq_getElem hia)
     rw [I.hn] at e1; cases e1
     have lx := SZ _ I.hn
     have ltk : (m.ac.take i).length ≤ 2000 := by rw [List.length_take]; omega
     have okA := hm.o _ (List.getElem_mem hia)
     have bks : ((m.ac.take i).filter EN).length ≤ 100 := by
      have : ((m.ac.take i).filter EN).length ≤ (m.ac.filter EN).length := (List.Sublist.filter _ (List.take_sublist _ _)).length_le
      omega
     obtain ⟨xs, hxs, rxs⟩ := I.hb
     have lxs : xs.length = bd.length := by rw [rxs.length, List.length_map]
     have lbd := I.hl
     have fin : ∀ (H7 : Hp) (bd' add : List Ac) (xs' : List V), But [lb] H6 H7 → AM H6 H7 → AI H H7 → H7 lb = some (.lst xs') → RpL K H7 (bd'.map Ac.D) xs' → bd' = bd ++ add → VS x m.ac[i] = some add → bd'.length ≤ (i + 1) + 12 * ((m.ac.take (i + 1)).filter EN).length → ∃ (a1 : Ha) (x1 : Hd) (s1 : Ac) (v1 : V), [V.ref ha.p, xv] = [.ref a1.p, v1] ∧ CH K t.c_Hand H7 a1 x1 ∧ Rp K H7 s1.D v1 ∧ s1.ok ∧ x1.co.length ≤ 5000 ∧ x1.st.length ≤ 5000 ∧ x1.ms.length ≤ 5000 ∧ lO K t a1 H7 (fun _ H8 => lA K t H a ha lb va m.ac v n (i + 1) [some v, some (.int n), some (.ref a.pw), some (.ref ha.p), some (.ref lb), some xv] H8) E (stp x1 s1) := by
      intro H7 bd' add xs' b7 t7 S7 h7 r7 eb ea ln
      have hA7 := I.hh.off b7 t7 (by intro c hc hc2; rw [List.mem_singleton] at hc2; exact nlh c hc hc2)
      refine ⟨ha, x, m.ac[i], xv, rfl, hA7, Rp.t t7 ry, okA, by have := lx.1; simp only [hd0, List.length_cons, List.length_nil] at this; omega, by have := lx.2.1; simp only [hd0, List.length_nil] at this; omega, by have := lx.2.2; simp only [hd0, List.length_nil] at this; omega, ?_⟩
      rw [e2]
      intro H8 b8 t8 hA8
      have nlb8 : lb ∉ ha.l := fun z => nlh _ z rfl
      have nla8 : a.la ∉ ha.l := fun z => nha _ z rfl
      refine ⟨y, bd', _, rfl, ⟨GQ S7 b8 fHh, b8 _ _ (b7 _ _ I.hv (by simpa using nla)) nla8, RpL.t t8 (RpL.t t7 I.hr), hA8, ⟨xs', b8 _ _ h7 nlb8, RpL.t t8 r7⟩, by rw [et]; exact NS _ _ _ _ _ I.hn e2, ln, ?_⟩⟩
      rw [← I.hp, ed2, My.pf, ea, e2, eb]
     generalize eA : m.ac[i] = A at *
     walk_at "rd"
     obtain ⟨dh6, vp6, hp6, _⟩ := I.hh.ob
     cases A with
     | back nn =>
      obtain ⟨pa, rfl, hpa⟩ := rp2 ry
      obtain ⟨z, hz⟩ : ∃ z, lkA x.ms nn = some z := by
       cases e : lkA x.ms nn with
       | none => rw [stp, e] at e2; cases e2
       | some z => exact ⟨z, rfl⟩
      have epA : VS x (.back nn) = wb x z := by rw [VS, hz]
      dsimp only
      refine ⟨_, hpa, _, rfl, ?_⟩
      dsimp only
      rw [if_pos rfl]
      refine ⟨.inl ⟨_, SqL.of hxs⟩, _, hpa, _, rfl, ha, x, nn, z, rfl, I.hh, hz, ?_⟩
      cases ew : wb x z with
      | none =>
       have e0 : My.pf m.ac hd0 [] = none := by rw [← I.hp, ed2, My.pf, epA, ew]
       rw [e0] at q
       intro H7 s7
       exact q _ (I.hs.trans s7)
      | some r =>
       have lr := nC ew
       intro l xr H7 s7 fl h7 r7
       have lxr : xr.length = r.length := by rw [r7.length, List.length_map]
       have h6' := s7 _ _ hxs
       have nll : l ≠ lb := (AK hxs fl).symm
       refine ⟨l, rfl, xs, h6', xr, h7, Nat.le_of_lt (DO (by omega)), _, _, (by rw [AH (nlh _ (by simp [Ha.l]))]; exact s7 _ _ hp6), rfl, ?_⟩
       have t7 : AM H7 (upd H7 lb (.lst (xs ++ xr))) := (AM.refl _).upd (CS h6')
       refine fin _ (bd ++ r) r (xs ++ xr) (fun c o e hc => by rw [AH (by simpa using hc)]; exact s7 _ _ e) (s7.t.trans t7) ((I.hs.trans s7).upd2 fHl) AB ?_ rfl (epA.trans ew) ?_
       ·rw [List.map_append]
        exact RpL.t t7 ((rxs.same s7).app r7)
       ·rw [et, List.filter_append, List.length_append, List.length_append]
        simp only [List.filter_cons, EN, if_true, List.filter_nil, List.length_cons, List.length_nil]
        omega
     | mark nn =>
      obtain ⟨pa, rfl, hpa⟩ := rp2 ry
      dsimp only
      refine ⟨_, hpa, _, rfl, ?_⟩
      dsimp only
      rw [if_neg (by decide +kernel)]
      refine ⟨_, hpa, _, rfl, ?_⟩
      dsimp only
      rw [if_neg (by simp)]
      refine ⟨_, _, hp6, rfl, ?_⟩
      refine fin H6 bd [] xs (fun c o e _ => e) (AM.refl _) I.hs hxs rxs (by simp) rfl ?_
      rw [et, List.filter_append, List.length_append]
      omega
     | go nn =>
      obtain ⟨pa, rfl, hpa⟩ := rp2 ry
      dsimp only
      refine ⟨_, hpa, _, DF (j := 0) rfl, ?_⟩
      dsimp only
      rw [if_neg (by decide +kernel)]
      refine ⟨_, hpa, _, DF (j := 0) rfl, ?_⟩
      dsimp only
      rw [if_pos (by decide +kernel)]
      refine ⟨.inl ⟨_, SqL.of hxs⟩, xs, hxs, DO (by omega), _, _, (by rw [AH (nlh _ (by simp [Ha.l]))]; exact hp6), rfl, ?_⟩
      refine fin _ (bd ++ [_]) [_] (xs ++ [.ref pa]) (fun c o e hc => by rw [AH (by simpa using hc)]; exact e) ((AM.refl _).upd (CS hxs)) (I.hs.upd2 fHl) AB ?_ rfl rfl ?_
      ·rw [List.map_append]
       exact RpL.t ((AM.refl _).upd (CS hxs)) (rxs.app (RpL.one ry))
      ·rw [et, List.filter_append, List.length_append, List.length_append]
       simp only [List.length_cons, List.length_nil]
       omega
     | turn nn =>
      obtain ⟨pa, rfl, hpa⟩ := rp2 ry
      dsimp only
      refine ⟨_, hpa, _, DF (j := 0) rfl, ?_⟩
      dsimp only
      rw [if_neg (by decide +kernel)]
      refine ⟨_, hpa, _, DF (j := 0) rfl, ?_⟩
      dsimp only
      rw [if_pos (by decide +kernel)]
      refine ⟨.inl ⟨_, SqL.of hxs⟩, xs, hxs, DO (by omega), _, _, (by rw [AH (nlh _ (by simp [Ha.l]))]; exact hp6), rfl, ?_⟩
      refine fin _ (bd ++ [_]) [_] (xs ++ [.ref pa]) (fun c o e hc => by rw [AH (by simpa using hc)]; exact e) ((AM.refl _).upd (CS hxs)) (I.hs.upd2 fHl) AB ?_ rfl rfl ?_
      ·rw [List.map_append]
       exact RpL.t ((AM.refl _).upd (CS hxs)) (rxs.app (RpL.one ry))
      ·rw [et, List.filter_append, List.length_append, List.length_append]
       simp only [List.length_cons, List.length_nil]
       omega
     | ink nn =>
      obtain ⟨pa, rfl, hpa⟩ := rp2 ry
      dsimp only
      refine ⟨_, hpa, _, DF (j := 0) rfl, ?_⟩
      dsimp only
      rw [if_neg (by decide +kernel)]
      refine ⟨_, hpa, _, DF (j := 0) rfl, ?_⟩
      dsimp only
      rw [if_pos (by decide +kernel)]
      refine ⟨.inl ⟨_, SqL.of hxs⟩, xs, hxs, DO (by omega), _, _, (by rw [AH (nlh _ (by simp [Ha.l]))]; exact hp6), rfl, ?_⟩
      refine fin _ (bd ++ [_]) [_] (xs ++ [.ref pa]) (fun c o e hc => by rw [AH (by simpa using hc)]; exact e) ((AM.refl _).upd (CS hxs)) (I.hs.upd2 fHl) AB ?_ rfl rfl ?_
      ·rw [List.map_append]
       exact RpL.t ((AM.refl _).upd (CS hxs)) (rxs.app (RpL.one ry))
      ·rw [et, List.filter_append, List.length_append, List.length_append]
       simp only [List.length_cons, List.length_nil]
       omega
     | up =>
      obtain ⟨pa, zs, rfl, hpa, rz⟩ := BN.mp ry
      rw [RpL] at rz
      obtain ⟨x0, r0, rfl, ez0, ez1⟩ := rz
      cases BD ez0
      dsimp only
      refine ⟨_, hpa, _, DF (j := 0) rfl, ?_⟩
      dsimp only
      rw [if_neg (by decide +kernel)]
      refine ⟨_, hpa, _, DF (j := 0) rfl, ?_⟩
      dsimp only
      rw [if_pos (by decide +kernel)]
      refine ⟨.inl ⟨_, SqL.of hxs⟩, xs, hxs, DO (by omega), _, _, (by rw [AH (nlh _ (by simp [Ha.l]))]; exact hp6), rfl, ?_⟩
      refine fin _ (bd ++ [_]) [_] (xs ++ [.ref pa]) (fun c o e hc => by rw [AH (by simpa using hc)]; exact e) ((AM.refl _).upd (CS hxs)) (I.hs.upd2 fHl) AB ?_ rfl rfl ?_
      ·rw [List.map_append]
       exact RpL.t ((AM.refl _).upd (CS hxs)) (rxs.app (RpL.one ry))
      ·rw [et, List.filter_append, List.length_append, List.length_append]
       simp only [List.length_cons, List.length_nil]
       omega
     | down =>
      obtain ⟨pa, zs, rfl, hpa, rz⟩ := BN.mp ry
      rw [RpL] at rz
      obtain ⟨x0, r0, rfl, ez0, ez1⟩ := rz
      cases BD ez0
      dsimp only
      refine ⟨_, hpa, _, DF (j := 0) rfl, ?_⟩
      dsimp only
      rw [if_neg (by decide +kernel)]
      refine ⟨_, hpa, _, DF (j := 0) rfl, ?_⟩
      dsimp only
      rw [if_pos (by decide +kernel)]
      refine ⟨.inl ⟨_, SqL.of hxs⟩, xs, hxs, DO (by omega), _, _, (by rw [AH (nlh _ (by simp [Ha.l]))]; exact hp6), rfl, ?_⟩
      refine fin _ (bd ++ [_]) [_] (xs ++ [.ref pa]) (fun c o e hc => by rw [AH (by simpa using hc)]; exact e) ((AM.refl _).upd (CS hxs)) (I.hs.upd2 fHl) AB ?_ rfl rfl ?_
      ·rw [List.map_append]
       exact RpL.t ((AM.refl _).upd (CS hxs)) (rxs.app (RpL.one ry))
      ·rw [et, List.filter_append, List.length_append, List.length_append]
       simp only [List.length_cons, List.length_nil]
       omega
    ·rintro σ H6 ⟨x, bd, o5, rfl, I⟩
     have e0 : My.pf m.ac hd0 [] = some bd := by
      have := I.hp
      rw [lva, List.drop_length] at this
      rw [← this]; rfl
     rw [e0] at q
     obtain ⟨xs, hxs, rxs⟩ := I.hb
     walk_at "ro"
     intro v0 H7 s7 r7
     refine ⟨_, SqL.of (s7 _ _ hxs), fun p1 hp1 => ⟨by decide, fun p2 hp2 => ?_⟩⟩
     have w1 := AI.upd (o := .tup xs) hp1
     have w2 := AI.upd (o := .tup [v0, .ref p1]) hp2
     have w12 := w1.trans w2
     refine q _ _ ((I.hs.trans s7).trans w12) ?_
     exact FX (SqT.of AB) (CD (r7.same w12) (RpL.one (FX (w2.tup (SqT.of AB)) ((rxs.same s7).same w12))))
end
section
variable {P : Program} {w : World} {K : PySem.W.Frag} {mg : Str → Option Value} {base : Heap} {t : Adr}
def pW : Put → Str
 | .ok _ => ""
 | .mark => "mark"
 | .great => "great"
 | .long => "long"
theorem dI {K : PySem.W.Frag} {H : Hp} {p q : Addr} {a b c a' b' c' : Bool} (h1 : H p = some (.lst [.bl a, .bl b, .bl c])) (h2 : H q = some (.lst [.bl a', .bl b', .bl c'])) (ha : a = a') (hb : b = b') (hc : c = c') : ∃ n p' q' xs ys, n ≤ 60 ∧ V.ref p = .ref p' ∧ V.ref q = .ref q' ∧ ((SqT K H p' xs ∧ SqT K H q' ys) ∨ (SqL K H p' xs ∧ SqL K H q' ys)) ∧ xs.length = ys.length ∧ (∀ (i : Nat) (x y : V), xs[i]? = some x → ys[i]? = some y → ER K H n x y) := by
 subst ha hb hc
 refine ⟨1, p, q, _, _, by decide, rfl, rfl, .inr ⟨SqL.of h1, SqL.of h2⟩, rfl, fun i x y hx hy => ?_⟩
 match i, hx, hy with
 | 0, hx, hy => cases hx; cases hy; exact .bl _ _
 | 1, hx, hy => cases hx; cases hy; exact .bl _ _
 | 2, hx, hy => cases hx; cases hy; exact .bl _ _
def jB (K : PySem.W.Frag) : Sp := fun vs H Q _ => ∃ (v : V) (n : Nat) (body : List Stm), vs = [v, .int n] ∧ Rp K H (bD body) v ∧ n ≤ 2000 ∧ POk [] body ∧ ∀ H', AI H H' → Q (.str (pW (FK (wk (BX []) n (ms0 body))))) H'
theorem CU (T : Txt K mg t) : BF P w K mg base CX0 10 t.a_Lrefused t.d_Lrefused ["_law_body", "_law_most"] (jB K) := by
 refine T.Lrefused.F.ok CY (fun vs H Q E h => ?_) (fun cdv A outer s H vs Q E hr h => ?_)
 ·obtain ⟨v, n, body, rfl, _⟩ := h; rfl
 ·obtain ⟨v, n, body, rfl, rv, hn, hok, q⟩ := h
  have hu := hr.units
  refine ⟨_, s!"2{CY.nd}JI3{CY.nd}VU0ACBQPI{OQ rfl rfl (XR (MV T) (hr.mono (by decide)) (by rfl) T.putin.m T.putin.F.kp T.putin.b .nil s!"3A1ACBB") (QM (by rfl) T.mg_NoMark T.x_NoMark (fun _ => s!"2{CY.nd}JIF") (QM (by rfl) T.mg_TooGreat T.x_TooGreat (fun _ => s!"2{CY.nd}JIF") (QM (by rfl) T.mg_TooLong T.x_TooLong (fun _ => s!"2{CY.nd}JIF") mE)))}{OQ rfl rfl (XR (MV T) (hr.mono (by decide)) (by rfl) T.putin.m T.putin.F.kp T.putin.b .nil s!"3A1ACBB") (pX (i := 4) (by rfl) T.mg_HouseError T.xH CY.nd rfl rfl (fun _ _ _ hoe => s!"5{CY.nd}{GP (K := K) (HE := t.c_HouseError) rfl (List.mem_append_right _ List.mem_cons_self) hoe}{T.z_isinstance}{boot_isinstance}4A{.ref t.c_NoMark}{T.mg_NoMark}{rfl}XCBBb{GP (K := K) (HE := t.c_HouseError) rfl (List.mem_append_right _ List.mem_cons_self) hoe}{T.z_isinstance}{boot_isinstance}4A{.ref t.c_TooGreat}{T.mg_TooGreat}{rfl}XCBBb{GP (K := K) (HE := t.c_HouseError) rfl (List.mem_append_right _ List.mem_cons_self) hoe}{T.z_isinstance}{boot_isinstance}4A{.ref t.c_TooLong}{T.mg_TooLong}{rfl}XCBBbCBBBZI6{CY.nd}{GP (K := K) (HE := t.c_HouseError) rfl (List.mem_append_right _ List.mem_cons_self) hoe}{T.z_isinstance}{boot_isinstance}4A{.ref t.c_NoProgram}{T.mg_NoProgram}{rfl}X{.ref t.c_NoText}{T.mg_NoText}{rfl}X{.ref t.c_NotWhole}{T.mg_NotWhole}{rfl}XCBBBPCQBbI{@PW.pt _ _ _ s!"{iP (K := K) rfl hu}5A{CZ}2AJc{CZ}2AJc{CZ}2AJcCBBBZ{BB _}R6Ae'&"}JNFYO{GP (K := K) (HE := t.c_HouseError) rfl (List.mem_append_right _ List.mem_cons_self) hoe}{T.z_isinstance}{boot_isinstance}4A{@XO _ _ (.ty "ValueError") _ _ (by rfl) T.z_ValueError (by decide +kernel) rfl (by decide) (by decide)}CBBbelJNFYOFEEE"))}2ANFEEEE", ?_⟩
  walk_at "ro"
  intro v0 H0 s0 r0
  refine ⟨by decide, fun p0 hp0 => ?_⟩
  have u0 := AI.upd (o := .tup [v0, v]) hp0
  have S0 := s0.trans u0
  have rP : Rp K (upd H0 p0 (.tup [v0, v])) (pD [] body) (.ref p0) := CN.mpr ⟨p0, _, _, rfl, SqT.of AB, r0.same u0, rv.same S0⟩
  generalize upd H0 p0 (.tup [v0, v]) = Ha at S0 rP ⊢
  clear s0 r0 hp0 u0
  have nd := T.nx
  simp only [List.nodup_cons, List.mem_cons, List.not_mem_nil, or_false, not_or] at nd
  have ne1 : t.c_TooGreat ≠ t.c_NoMark := fun e => by simp_all
  have ne2 : t.c_TooLong ≠ t.c_NoMark := fun e => by simp_all
  have ne3 : t.c_TooLong ≠ t.c_TooGreat := fun e => by simp_all
  have key : ∀ c : Addr, c ∈ [t.c_NoProgram, t.c_NoText, t.c_NoMark, t.c_TooGreat, t.c_TooLong, t.c_NotWhole] → ∀ H', isE K H' c (.ref t.c_NoMark) (decide (c = t.c_NoMark)) ∧ isE K H' c (.ref t.c_TooGreat) (decide (c = t.c_TooGreat)) ∧ isE K H' c (.ref t.c_TooLong) (decide (c = t.c_TooLong)) ∧ isE K H' c (.ty "ValueError") true := fun c hc H' =>
   ⟨.inl (exK.one T.xK hc (by simp)), .inl (exK.one T.xK hc (by simp)), .inl (exK.one T.xK hc (by simp)), exK.v T.xK hc⟩
  refine ⟨.ref p0, n, [], body, rfl, rP, hn, hok, ?_⟩
  cases eR : FK (wk (BX []) n (ms0 body)) with
  | ok b =>
   rw [eR] at q
   intro vr H1 s1 r1
   refine ⟨.ref p0, n, [], body, rfl, rP.same s1, hn, hok, ?_⟩
   rw [eR]
   intro vr2 H2 s2 r2
   exact q _ ((S0.trans s1).trans s2)
  | mark =>
   rw [eR] at q
   intro H1 s1
   refine ⟨t.c_NoMark, rfl, T.x_NoMark, ?_⟩
   rw [if_pos rfl]
   refine ⟨.ref p0, n, [], body, rfl, rP.same s1, hn, hok, ?_⟩
   rw [eR]
   intro H2 s2
   have hm : t.c_NoMark ∈ [t.c_NoProgram, t.c_NoText, t.c_NoMark, t.c_TooGreat, t.c_TooLong, t.c_NotWhole] := by simp
   obtain ⟨k1, k2, k3, k4⟩ := key _ hm H2
   have hk := exK.k T.xK hm
   refine ⟨t.c_NoMark, rfl, T.x_NoMark, fun a => ⟨hk, _, k1, hk, _, k2, hk, _, k3, by decide, fun p hp => ⟨by decide, fun p1 hp1 => ⟨hk, false, .inr ⟨[t.c_NoProgram, t.c_NoText, t.c_NotWhole], SqT.of AB, exK.any T.xK hm _ ?_⟩, by decide, fun p2 hp2 => ?_⟩⟩⟩⟩
   ·intro d hd
    simp only [List.mem_cons, List.not_mem_nil, or_false] at hd
    rcases hd with rfl | rfl | rfl
    ·exact ⟨by simp, fun e => by simp_all⟩
    ·exact ⟨by simp, fun e => by simp_all⟩
    ·exact ⟨by simp, fun e => by simp_all⟩
   ·have s3 := AI.upd (o := .lst [.bl (decide (t.c_NoMark = t.c_NoMark)), .bl (decide (t.c_NoMark = t.c_TooGreat)), .bl (decide (t.c_NoMark = t.c_TooLong))]) hp
    have s4 := AI.upd (o := .tup [.ref t.c_NoProgram, .ref t.c_NoText, .ref t.c_NotWhole]) hp1
    have s5 := AI.upd (o := .lst [.bl (decide True), .bl (decide (Str.ofString "mark" = Str.ofString "great")), .bl (decide (Str.ofString "mark" = Str.ofString "long"))]) hp2
    refine ⟨dI (s5 _ _ (s4 _ _ AB)) AB ?_ ?_ ?_, ?_⟩
    ·first | (simp; done) | (rw [decide_eq_false (by first | exact ne1 | exact ne2)]; rfl)
    ·first | (simp; done) | (rw [decide_eq_false (by first | exact fun e => ne1 e.symm | exact ne3)]; rfl)
    ·first | (simp; done) | (rw [decide_eq_false (by first | exact fun e => ne2 e.symm | exact fun e => ne3 e.symm)]; rfl)
    ·refine ⟨hk, true, (key _ hm _).2.2.2, ?_⟩
     exact q _ (((S0.trans s1).trans s2).trans ((s3.trans s4).trans s5))
  | great =>
   rw [eR] at q
   intro H1 s1
   refine ⟨t.c_TooGreat, rfl, T.x_TooGreat, ?_⟩
   rw [if_neg ne1]
   refine ⟨t.c_TooGreat, rfl, T.x_TooGreat, ?_⟩
   rw [if_pos rfl]
   refine ⟨.ref p0, n, [], body, rfl, rP.same s1, hn, hok, ?_⟩
   rw [eR]
   intro H2 s2
   have hm : t.c_TooGreat ∈ [t.c_NoProgram, t.c_NoText, t.c_NoMark, t.c_TooGreat, t.c_TooLong, t.c_NotWhole] := by simp
   obtain ⟨k1, k2, k3, k4⟩ := key _ hm H2
   have hk := exK.k T.xK hm
   refine ⟨t.c_TooGreat, rfl, T.x_TooGreat, fun a => ⟨hk, _, k1, hk, _, k2, hk, _, k3, by decide, fun p hp => ⟨by decide, fun p1 hp1 => ⟨hk, false, .inr ⟨[t.c_NoProgram, t.c_NoText, t.c_NotWhole], SqT.of AB, exK.any T.xK hm _ ?_⟩, by decide, fun p2 hp2 => ?_⟩⟩⟩⟩
   ·intro d hd
    simp only [List.mem_cons, List.not_mem_nil, or_false] at hd
    rcases hd with rfl | rfl | rfl
    ·exact ⟨by simp, fun e => by simp_all⟩
    ·exact ⟨by simp, fun e => by simp_all⟩
    ·exact ⟨by simp, fun e => by simp_all⟩
   ·have s3 := AI.upd (o := .lst [.bl (decide (t.c_TooGreat = t.c_NoMark)), .bl (decide (t.c_TooGreat = t.c_TooGreat)), .bl (decide (t.c_TooGreat = t.c_TooLong))]) hp
    have s4 := AI.upd (o := .tup [.ref t.c_NoProgram, .ref t.c_NoText, .ref t.c_NotWhole]) hp1
    have s5 := AI.upd (o := .lst [.bl (decide (Str.ofString "great" = Str.ofString "mark")), .bl (decide True), .bl (decide (Str.ofString "great" = Str.ofString "long"))]) hp2
    refine ⟨dI (s5 _ _ (s4 _ _ AB)) AB ?_ ?_ ?_, ?_⟩
    ·first | (simp; done) | (rw [decide_eq_false (by first | exact ne1 | exact ne2)]; rfl)
    ·first | (simp; done) | (rw [decide_eq_false (by first | exact fun e => ne1 e.symm | exact ne3)]; rfl)
    ·first | (simp; done) | (rw [decide_eq_false (by first | exact fun e => ne2 e.symm | exact fun e => ne3 e.symm)]; rfl)
    ·refine ⟨hk, true, (key _ hm _).2.2.2, ?_⟩
     exact q _ (((S0.trans s1).trans s2).trans ((s3.trans s4).trans s5))
  | long =>
   rw [eR] at q
   intro H1 s1
   refine ⟨t.c_TooLong, rfl, T.x_TooLong, ?_⟩
   rw [if_neg ne2]
   refine ⟨t.c_TooLong, rfl, T.x_TooLong, ?_⟩
   rw [if_neg ne3]
   refine ⟨t.c_TooLong, rfl, T.x_TooLong, ?_⟩
   rw [if_pos rfl]
   refine ⟨.ref p0, n, [], body, rfl, rP.same s1, hn, hok, ?_⟩
   rw [eR]
   intro H2 s2
   have hm : t.c_TooLong ∈ [t.c_NoProgram, t.c_NoText, t.c_NoMark, t.c_TooGreat, t.c_TooLong, t.c_NotWhole] := by simp
   obtain ⟨k1, k2, k3, k4⟩ := key _ hm H2
   have hk := exK.k T.xK hm
   refine ⟨t.c_TooLong, rfl, T.x_TooLong, fun a => ⟨hk, _, k1, hk, _, k2, hk, _, k3, by decide, fun p hp => ⟨by decide, fun p1 hp1 => ⟨hk, false, .inr ⟨[t.c_NoProgram, t.c_NoText, t.c_NotWhole], SqT.of AB, exK.any T.xK hm _ ?_⟩, by decide, fun p2 hp2 => ?_⟩⟩⟩⟩
   ·intro d hd
    simp only [List.mem_cons, List.not_mem_nil, or_false] at hd
    rcases hd with rfl | rfl | rfl
    ·exact ⟨by simp, fun e => by simp_all⟩
    ·exact ⟨by simp, fun e => by simp_all⟩
    ·exact ⟨by simp, fun e => by simp_all⟩
   ·have s3 := AI.upd (o := .lst [.bl (decide (t.c_TooLong = t.c_NoMark)), .bl (decide (t.c_TooLong = t.c_TooGreat)), .bl (decide (t.c_TooLong = t.c_TooLong))]) hp
    have s4 := AI.upd (o := .tup [.ref t.c_NoProgram, .ref t.c_NoText, .ref t.c_NotWhole]) hp1
    have s5 := AI.upd (o := .lst [.bl (decide (Str.ofString "long" = Str.ofString "mark")), .bl (decide (Str.ofString "long" = Str.ofString "great")), .bl (decide True)]) hp2
    refine ⟨dI (s5 _ _ (s4 _ _ AB)) AB ?_ ?_ ?_, ?_⟩
    ·first | (simp; done) | (rw [decide_eq_false (by first | exact ne1 | exact ne2)]; rfl)
    ·first | (simp; done) | (rw [decide_eq_false (by first | exact fun e => ne1 e.symm | exact ne3)]; rfl)
    ·first | (simp; done) | (rw [decide_eq_false (by first | exact fun e => ne2 e.symm | exact fun e => ne3 e.symm)]; rfl)
    ·refine ⟨hk, true, (key _ hm _).2.2.2, ?_⟩
     exact q _ (((S0.trans s1).trans s2).trans ((s3.trans s4).trans s5))
end
theorem XH {ws : Tb} {v : Lv} {r : List Lv} {hd : Hd} {ac : List Ac} (n : Nat) (h : v.thr = false) : wk ws (n + 1) ⟨v :: r, hd, ac⟩ = match dd ws ⟨v :: r, hd, ac⟩ with | .error b => .error b | .ok m' => wk ws n m' := by
 have e : cln ⟨v :: r, hd, ac⟩ = ⟨v :: r, hd, ac⟩ := by
  unfold cln
  simp only [List.dropWhile_cons, h]
  rfl
 rw [wk, e]
 all_goals rfl
theorem mB {v : Lv} {s : Stm} (h : v.body[v.i]? = some s) : v.thr = false := by
 have := (List.getElem?_eq_some_iff.mp h).1
 unfold Lv.thr
 rw [decide_eq_false (by omega)]
 rfl
theorem YH {ws : Tb} {v : Lv} {r : List Lv} {hd : Hd} {ac : List Ac} {s : Stm} (n : Nat) (h : v.body[v.i]? = some s) : wk ws (n + 1) ⟨v :: r, hd, ac⟩ = match bgn ws ⟨{ v with i := v.i + 1 } :: r, hd, ac⟩ v.en s with | .error b => .error b | .ok m' => wk ws n m' := by
 rw [XH n (mB h)]
 have : dd ws ⟨v :: r, hd, ac⟩ = bgn ws ⟨{ v with i := v.i + 1 } :: r, hd, ac⟩ v.en s := by
  unfold dd
  dsimp only
  rw [h]
 rw [this]
def KM : Stm → Option Ac
 | .go (.int n) => if -1000000 ≤ n ∧ n ≤ 1000000 then some (.go n) else none
 | .turn (.int n) => if -1000000 ≤ n ∧ n ≤ 1000000 then some (.turn n) else none
 | .ink (.int n) => if -1000000 ≤ n ∧ n ≤ 1000000 then some (.ink n) else none
 | .up => some .up
 | .down => some .down
 | .mark n => some (.mark n)
 | .back n => some (.back n)
 | _ => none
theorem KN {e : En} {n : Int} (c : -1000000 ≤ n ∧ n ≤ 1000000) : wth e (.int n) = some n := by unfold wth; exact if_pos c
theorem mI {ws : Tb} {m : Ms} {e : En} {s : Stm} {a : Ac} (h : KM s = some a) : bgn ws m e s = JI m a := by
 cases s with
 | go x => cases x with
  | int n => simp only [KM] at h; split at h <;> cases h; rename_i c; rw [bgn, KN c]
  | src f s m => cases h
 | turn x => cases x with
  | int n => simp only [KM] at h; split at h <;> cases h; rename_i c; rw [bgn, KN c]
  | src f s m => cases h
 | ink x => cases x with
  | int n => simp only [KM] at h; split at h <;> cases h; rename_i c; rw [bgn, KN c]
  | src f s m => cases h
 | up => cases h; rw [bgn]
 | down => cases h; rw [bgn]
 | mark n => cases h; rw [bgn]
 | back n => cases h; rw [bgn]
 | again a b => cases h
 | ifs a b c => cases h
 | dow x as => cases h
def FR : List Stm → Hd → Option Hd
 | [], x => some x
 | s :: ss, x => match KM s with | none => none | some a => match stp x a with | none => none | some y => FR ss y
theorem ML : ∀ (a b : List Stm) (x y : Hd), FR a x = some y → FR (a ++ b) x = FR b y
 | [], b, x, y, h => by cases h; rfl
 | s :: a, b, x, y, h => by
  rw [FR] at h
  rw [List.cons_append, FR]
  cases ea : KM s with
  | none => rw [ea] at h; cases h
  | some c =>
   rw [ea] at h
   dsimp only at h ⊢
   cases es : stp x c with
   | none => rw [es] at h; cases h
   | some z => rw [es] at h; exact ML a b z y h
def acs (ss : List Stm) : List Ac := ss.filterMap KM
theorem OF {ws : Tb} : ∀ (ss DQ : List Stm) (v : Lv) (r : List Lv) (hd hd' : Hd) (ac : List Ac), v.body.drop v.i = ss ++ DQ → FR ss hd = some hd' → ∀ n, wk ws (ss.length + n) ⟨v :: r, hd, ac⟩ = wk ws n ⟨{ v with i := v.i + ss.length } :: r, hd', ac ++ acs ss⟩
 | [], DQ, v, r, hd, hd', ac, _, h, n => by cases h; rw [List.length_nil, Nat.zero_add, acs, List.filterMap_nil, List.append_nil]; rfl
 | s :: ss, DQ, v, r, hd, hd', ac, e, h, n => by
  have hs : v.body[v.i]? = some s := by
   have : (v.body.drop v.i)[0]? = some s := by rw [e]; rfl
   rwa [List.getElem?_drop, Nat.add_zero] at this
  rw [FR] at h
  cases ea : KM s with
  | none => rw [ea] at h; cases h
  | some a =>
   rw [ea] at h
   dsimp only at h
   cases es : stp hd a with
   | none => rw [es] at h; cases h
   | some y =>
    rw [es] at h
    have e2 : ({ v with i := v.i + 1 } : Lv).body.drop ({ v with i := v.i + 1 } : Lv).i = ss ++ DQ := by
     show v.body.drop (v.i + 1) = _
     rw [← List.drop_drop, e]; rfl
    have q := OF (ws := ws) ss DQ { v with i := v.i + 1 } r y hd' (ac ++ [a]) e2 h n
    rw [List.length_cons, show ss.length + 1 + n = ss.length + n + 1 by omega, YH _ hs, mI ea]
    unfold JI
    dsimp only
    rw [es]
    dsimp only
    rw [q]
    have ea2 : ac ++ [a] ++ acs ss = ac ++ acs (s :: ss) := by rw [List.append_assoc]; unfold acs; rw [List.filterMap_cons, ea]; rfl
    rw [ea2]
    show wk ws n ⟨{ v with i := v.i + 1 + ss.length } :: r, hd', _⟩ = _
    rw [show v.i + 1 + ss.length = v.i + (ss.length + 1) by omega]
def wc (ws : Tb) (n : Nat) (m : Ms) : Except Bool Ms := match wk ws n m with | .ok m' => .ok (cln m') | .error b => .error b
theorem VZ (ws : Tb) (n : Nat) (m : Ms) : wc ws n (cln m) = wc ws n m := by
 unfold wc
 cases n with
 | zero => rw [wk, wk]; dsimp only; rw [MK]
 | succ n => rw [wk, wk, MK]
theorem LJ (ws : Tb) (n : Nat) (m : Ms) : FK (wc ws n m) = FK (wk ws n m) := by
 unfold wc
 cases wk ws n m with
 | error b => rfl
 | ok m' =>
  show (if (cln m').dn = false then _ else _) = (if m'.dn = false then _ else _)
  have : (cln m').dn = m'.dn := by unfold Ms.dn; rw [MK]
  rw [this]
  rfl
theorem fM {ws : Tb} {n k : Nat} {m m' : Ms} (h : wk ws n m = wk ws k m') : wc ws n m = wc ws k m' := by unfold wc; rw [h]
def PC : Nat → List Stm → Hd → Option Hd
 | 0, _, x => some x
 | c + 1, b, x => match FR b x with | none => none | some y => PC c b y
def DC : Nat → List Ac → List Ac
 | 0, _ => []
 | c + 1, l => l ++ DC c l
theorem mK {ws : Tb} {b : List Stm} {r : List Lv} (d : Nat) : ∀ (c : Nat) (en : En) (hd hd' : Hd) (ac : List Ac) (n : Nat), PC c b hd = some hd' → wc ws (c * (1 + b.length) + n) ⟨⟨b, en, b.length, d, (d + c : Nat), true⟩ :: r, hd, ac⟩ = wc ws n ⟨r, hd', ac ++ DC c (acs b)⟩ := by
 intro c
 induction c generalizing d with
 | zero =>
  intro en hd hd' ac n h
  cases h
  rw [Nat.zero_mul, Nat.zero_add, DC, List.append_nil, ← VZ, ← VZ ws n ⟨r, hd, ac⟩]
  congr 1
  unfold cln
  have : Lv.thr ⟨b, en, b.length, d, (d + 0 : Nat), true⟩ = true := by unfold Lv.thr; simp
  simp only [List.dropWhile_cons, this]
  rfl
 | succ c ih =>
  intro en hd hd' ac n h
  rw [PC] at h
  cases e : FR b hd with
  | none => rw [e] at h; cases h
  | some y =>
   rw [e] at h
   have nt : Lv.thr ⟨b, en, b.length, d, (d + (c + 1) : Nat), true⟩ = false := by
    have z : decide (((d + (c + 1) : Nat) : Int) ≤ (d : Int)) = false := decide_eq_false (by omega)
    show (decide (b.length = b.length) && decide (((d + (c + 1) : Nat) : Int) ≤ (d : Int))) = false
    rw [z, Bool.and_false]
   have e1 : wk ws ((c + 1) * (1 + b.length) + n) ⟨⟨b, en, b.length, d, (d + (c + 1) : Nat), true⟩ :: r, hd, ac⟩ = wk ws (b.length + (c * (1 + b.length) + n)) ⟨⟨b, ptA en "count" d, 0, (d : Int) + 1, (d + (c + 1) : Nat), true⟩ :: r, hd, ac⟩ := by
    rw [show (c + 1) * (1 + b.length) + n = b.length + (c * (1 + b.length) + n) + 1 by rw [Nat.add_mul]; omega, XH _ nt]
    have : dd ws ⟨⟨b, en, b.length, d, (d + (c + 1) : Nat), true⟩ :: r, hd, ac⟩ = .ok ⟨⟨b, ptA en "count" d, 0, (d : Int) + 1, (d + (c + 1) : Nat), true⟩ :: r, hd, ac⟩ := by
     unfold dd
     dsimp only
     rw [List.getElem?_eq_none_iff.mpr (Nat.le_refl _)]
     rfl
    rw [this]
   have e2 := OF (ws := ws) b [] ⟨b, ptA en "count" d, 0, (d : Int) + 1, (d + (c + 1) : Nat), true⟩ r hd y ac (by rw [List.append_nil]; rfl) e (c * (1 + b.length) + n)
   rw [fM (e1.trans e2)]
   have := ih (d + 1) (ptA en "count" d) y hd' (ac ++ acs b) n h
   show wc ws _ ⟨⟨b, ptA en "count" d, 0 + b.length, (d : Int) + 1, (d + (c + 1) : Nat), true⟩ :: r, y, ac ++ acs b⟩ = _
   rw [Nat.zero_add, show ((d : Int) + 1) = ((d + 1 : Nat) : Int) by omega, show d + (c + 1) = d + 1 + c by omega, this, DC, List.append_assoc]
theorem TL {ws : Tb} {v : Lv} {r : List Lv} {hd hd' : Hd} {ac : List Ac} {c : Nat} {b : List Stm} (n : Nat) (hs : v.body[v.i]? = some (.again (.int c) b)) (hc : c ≤ 1000000) (h : PC c b hd = some hd') :
  wc ws (1 + c * (1 + b.length) + n) ⟨v :: r, hd, ac⟩ = wc ws n ⟨{ v with i := v.i + 1 } :: r, hd', ac ++ DC c (acs b)⟩ := by
 have e1 : wk ws (1 + c * (1 + b.length) + n) ⟨v :: r, hd, ac⟩ = wk ws (c * (1 + b.length) + n) ⟨⟨b, v.en, b.length, (0 : Nat), (0 + c : Nat), true⟩ :: { v with i := v.i + 1 } :: r, hd, ac⟩ := by
  rw [show 1 + c * (1 + b.length) + n = c * (1 + b.length) + n + 1 by omega, YH _ hs, bgn, KN (by omega)]
  dsimp only
  rw [Nat.zero_add]
  all_goals rfl
 rw [fM e1]
 exact mK 0 c v.en hd hd' ac n h
theorem bT {ws : Tb} (ss DQ : List Stm) (v : Lv) (r : List Lv) (hd hd' : Hd) (ac : List Ac) (n : Nat) (e : v.body.drop v.i = ss ++ DQ) (h : FR ss hd = some hd') : wc ws (ss.length + n) ⟨v :: r, hd, ac⟩ = wc ws n ⟨{ v with i := v.i + ss.length } :: r, hd', ac ++ acs ss⟩ := fM (OF ss DQ v r hd hd' ac e h n)
theorem RG {ws : Tb} {v : Lv} {hd : Hd} {ac : List Ac} (n : Nat) (h : v.thr = true) : wc ws n ⟨[v], hd, ac⟩ = .ok ⟨[], hd, ac⟩ := by
 have e : cln ⟨[v], hd, ac⟩ = ⟨[], hd, ac⟩ := by
  unfold cln
  simp only [List.dropWhile_cons, h]
  rfl
 rw [← VZ, e]
 unfold wc
 cases n with
 | zero => rfl
 | succ n => rfl
def bkS : List Stm := [.turn (.int 3), .go (.int 2), .back 3]
def bkA : List Ac := [.turn 3, .go 2, .back 3]
structure St0 (x : Hd) : Prop where
 p : x.p = p0
 h : x.h = 0
 dn : x.dn = true
 ms : x.ms = [(3, (p0, 0))]
theorem bW {x : Hd} (h : St0 x) : ∃ y, FR bkS x = some y ∧ St0 y := by
 obtain ⟨hp, hh, hd, hm⟩ := h
 obtain ⟨p, hg, dn, ink, tu, st, co, ms⟩ := x
 cases hp; cases hh; cases hd; cases hm
 exact ⟨_, rfl, ⟨rfl, rfl, rfl, rfl⟩⟩
theorem PN : ∀ (c : Nat) {x : Hd}, St0 x → ∃ y, PC c bkS x = some y ∧ St0 y
 | 0, x, h => ⟨x, rfl, h⟩
 | c + 1, x, h => by
  obtain ⟨y, e, hy⟩ := bW h
  obtain ⟨z, e2, hz⟩ := PN c hy
  exact ⟨z, by rw [PC, e]; exact e2, hz⟩
theorem oR {x : Hd} (h : St0 x) (r b : List Ac) : ∃ y b', St0 y ∧ pf (bkA ++ r) x b = pf r y b' := by
 obtain ⟨hp, hh, hd, hm⟩ := h
 obtain ⟨p, hg, dn, ink, tu, st, co, ms⟩ := x
 cases hp; cases hh; cases hd; cases hm
 exact ⟨_, _, ⟨rfl, rfl, rfl, rfl⟩, rfl⟩
theorem bN : ∀ (c : Nat) {x : Hd} (b : List Ac), St0 x → ∃ b', pf (DC c bkA) x b = some b'
 | 0, x, b, h => ⟨b, rfl⟩
 | c + 1, x, b, h => by
  obtain ⟨y, b', hy, e⟩ := oR h (DC c bkA) b
  obtain ⟨b2, e2⟩ := bN c b' hy
  exact ⟨b2, by rw [DC, e, e2]⟩
theorem SD : ∀ c, ((DC c bkA).filter EN).length = c
 | 0 => rfl
 | c + 1 => by
  rw [DC, List.filter_append, List.length_append, SD c]
  show 1 + c = c + 1
  omega
def bB (c : Nat) : List Stm := [.mark 3, .again (.int c) bkS]
def hd1 : Hd := { hd0 with ms := [(3, (p0, 0))] }
theorem st1 : St0 hd1 := ⟨rfl, rfl, rfl, rfl⟩
theorem WB (pre : List Stm) (post : List Stm) {c : Nat} (hc : c ≤ 200) {x : Hd} (hr : FR (pre ++ [.mark 3]) hd0 = some x) (hx : St0 x) (n : Nat) : ∃ y, St0 y ∧ wc (BX []) (pre.length + 1 + (1 + c * 4) + n) (ms0 (pre ++ bB c ++ post)) = wc (BX []) n ⟨[⟨pre ++ bB c ++ post, [], pre.length + 2, 0, 0, true⟩], y, acs (pre ++ [.mark 3]) ++ DC c bkA⟩ := by
 obtain ⟨y, ey, hy⟩ := PN c hx
 refine ⟨y, hy, ?_⟩
 have e1 := bT (ws := BX []) (pre ++ [.mark 3]) ([.again (.int c) bkS] ++ post) ⟨pre ++ bB c ++ post, [], 0, 0, 0, true⟩ [] hd0 x [] (1 + c * 4 + n) (by show pre ++ bB c ++ post = _; simp [bB]) hr
 rw [List.length_append] at e1
 have e2 := TL (ws := BX []) (v := ⟨pre ++ bB c ++ post, [], pre.length + 1, 0, 0, true⟩) (r := []) (hd := x) (hd' := y) (ac := acs (pre ++ [.mark 3])) (c := c) (b := bkS) n (by
  show (pre ++ bB c ++ post)[pre.length + 1]? = _
  rw [List.append_assoc, List.getElem?_append_right (by omega), show pre.length + 1 - pre.length = 1 by omega]
  rfl) (by omega) ey
 rw [ms0, show pre.length + 1 + (1 + c * 4) + n = pre.length + [Stm.mark 3].length + (1 + c * 4 + n) by simp only [List.length_cons, List.length_nil]; omega, e1]
 show wc _ _ ⟨[⟨pre ++ bB c ++ post, [], 0 + (pre.length + [Stm.mark 3].length), 0, 0, true⟩], x, [] ++ acs (pre ++ [.mark 3])⟩ = _
 rw [List.nil_append, Nat.zero_add]
 exact e2
theorem mY {c : Nat} (hc : c ≤ 200) : pW (FK (wk (BX []) 2000 (ms0 (bB c)))) = if 100 < c then "long" else "" := by
 obtain ⟨y, hy, e⟩ := WB [] [] hc (x := hd1) rfl st1 (2000 - (2 + c * 4))
 rw [show ([] : List Stm).length + 1 + (1 + c * 4) + (2000 - (2 + c * 4)) = 2000 by simp only [List.length_nil]; omega, RG _ (by rfl)] at e
 rw [← LJ]
 have e : wc (BX []) 2000 (ms0 (bB c)) = .ok ⟨[], y, [.mark 3] ++ DC c bkA⟩ := by
  have z : ([] : List Stm) ++ bB c ++ [] = bB c := by simp
  rw [z] at e
  exact e
 rw [e, FK]
 rw [if_neg (by intro z; cases z)]
 have l : (([Ac.mark 3] ++ DC c bkA).filter EN).length = c := by rw [List.filter_append, List.length_append, SD]; show 0 + c = c; omega
 show pW (if 100 < (([Ac.mark 3] ++ DC c bkA).filter EN).length then _ else _) = _
 rw [l]
 by_cases h : 100 < c
 ·rw [if_pos h, if_pos h]; rfl
 ·rw [if_neg h, if_neg h]
  obtain ⟨b', eb⟩ := bN c [] st1
  have : pf ([Ac.mark 3] ++ DC c bkA) hd0 [] = some b' := eb
  show pW (match pf ([Ac.mark 3] ++ DC c bkA) hd0 [] with | none => .great | some b => .ok b) = _
  rw [this]
  rfl
theorem XQ {c : Nat} (hc : c ≤ 200) : pW (FK (wk (BX []) 2000 (ms0 (bB c ++ [.back 4])))) = "mark" := by
 obtain ⟨y, hy, e⟩ := WB [] [.back 4] hc (x := hd1) rfl st1 (2000 - (2 + c * 4))
 rw [show ([] : List Stm).length + 1 + (1 + c * 4) + (2000 - (2 + c * 4)) = 2000 by simp only [List.length_nil]; omega] at e
 rw [← LJ]
 have e : wc (BX []) 2000 (ms0 (bB c ++ [.back 4])) = wc (BX []) (2000 - (2 + c * 4)) ⟨[⟨bB c ++ [.back 4], [], 2, 0, 0, true⟩], y, [.mark 3] ++ DC c bkA⟩ := e
 rw [e]
 obtain ⟨k, ek⟩ : ∃ k, 2000 - (2 + c * 4) = k + 1 := ⟨2000 - (2 + c * 4) - 1, by omega⟩
 rw [ek]
 have : wk (BX []) (k + 1) ⟨[⟨bB c ++ [.back 4], [], 2, 0, 0, true⟩], y, [.mark 3] ++ DC c bkA⟩ = .error true := by
  rw [YH k (s := .back 4) rfl, bgn]
  unfold JI
  have : stp y (.back 4) = none := by
   show (lkA y.ms 4).map _ = none
   rw [hy.ms]; rfl
  dsimp only
  rw [this]
 unfold wc
 rw [this]
 rfl
def KB : List Stm := [.mark 3, .go (.int 1000000), .go (.int 1), .back 3]
theorem kK {c : Nat} (hc : c ≤ 200) (h1 : 100 < c) : pW (FK (wk (BX []) 2000 (ms0 (KB ++ bB c)))) = "long" := by
 obtain ⟨x, hr, hx⟩ : ∃ x, FR (KB ++ [.mark 3]) hd0 = some x ∧ St0 x := ⟨_, rfl, ⟨rfl, rfl, rfl, rfl⟩⟩
 obtain ⟨y, hy, e⟩ := WB KB [] hc hr hx (2000 - (6 + c * 4))
 rw [show KB.length + 1 + (1 + c * 4) + (2000 - (6 + c * 4)) = 2000 by show 4 + 1 + (1 + c * 4) + (2000 - (6 + c * 4)) = 2000; omega, RG _ (by rfl)] at e
 rw [← LJ]
 have e : wc (BX []) 2000 (ms0 (KB ++ bB c)) = .ok ⟨[], y, acs (KB ++ [.mark 3]) ++ DC c bkA⟩ := by
  have z : KB ++ bB c ++ [] = KB ++ bB c := by simp
  rw [z] at e
  exact e
 rw [e, FK]
 rw [if_neg (by intro z; cases z)]
 have l : ((acs (KB ++ [.mark 3]) ++ DC c bkA).filter EN).length = 1 + c := by rw [List.filter_append, List.length_append, SD]; rfl
 show pW (if 100 < ((acs (KB ++ [.mark 3]) ++ DC c bkA).filter EN).length then _ else _) = _
 rw [l, if_pos (by omega)]
 rfl
def rg (s : Int) : Prop := -1000000 ≤ s ∧ s ≤ 1000000
theorem RR : ∀ (l : List (Int × Int)) (h : Int) (acc : List Ac), (∀ z ∈ l, rg z.2) → ∃ r, wt l h acc = some r
 | [], h, acc, _ => ⟨_, rfl⟩
 | (w, s) :: l, h, acc, H => by
  have hs : rg s := H (w, s) List.mem_cons_self
  have hl : ∀ z ∈ l, rg z.2 := fun z hz => H z (List.mem_cons_of_mem _ hz)
  unfold rg at hs
  rw [wt, if_pos hs]
  by_cases c : s = 0
  ·rw [if_neg (by simpa using c)]; exact RR l h acc hl
  ·rw [if_pos c]; exact RR l w _ hl
theorem RD : ∀ (l : List (Int × Int)) (h : Int) (acc : List Ac), (∃ z ∈ l, ¬ rg z.2) → wt l h acc = none
 | [], h, acc, H => by obtain ⟨z, hz, _⟩ := H; cases hz
 | (w, s) :: l, h, acc, H => by
  rw [wt]
  by_cases c : -1000000 ≤ s ∧ s ≤ 1000000
  ·rw [if_pos c]
   have hl : ∃ z ∈ l, ¬ rg z.2 := by
    obtain ⟨z, hz, hn⟩ := H
    rcases List.mem_cons.mp hz with rfl | hz
    ·exact absurd c hn
    ·exact ⟨z, hz, hn⟩
   by_cases c0 : s = 0
   ·rw [if_neg (by simpa using c0)]; exact RD l h acc hl
   ·rw [if_pos c0]; exact RD l w _ hl
  ·rw [if_neg c]
theorem fS (p : Pl) (h a b : Int) : mv (mv p h a) h b = mv p h (a + b) := by
 unfold mv
 simp only [Int.mul_add, Int.add_assoc]
theorem dE {h : Int} (h0 : 0 ≤ h) (h7 : h ≤ 7) : h = 0 ∨ h = 1 ∨ h = 2 ∨ h = 3 ∨ h = 4 ∨ h = 5 ∨ h = 6 ∨ h = 7 := by omega
theorem fN {h L : Int} (h0 : 0 ≤ h) (h7 : h ≤ 7) (l0 : 0 ≤ L) (l1 : L ≤ 1000000) : ∀ z ∈ lgs (mv p0 h L) p0, rg z.2 := by
 rcases dE h0 h7 with rfl | rfl | rfl | rfl | rfl | rfl | rfl | rfl <;>
 ·intro z hz
  simp only [lgs, List.mem_cons, List.not_mem_nil, or_false] at hz
  rcases hz with rfl | rfl | rfl | rfl <;> simp [mv, HW, p0, rg] <;> omega
theorem dC {h L : Int} (h0 : 0 ≤ h) (h7 : h ≤ 7) (l1 : 1000000 < L) : ∃ z ∈ lgs (mv p0 h L) p0, ¬ rg z.2 := by
 rcases dE h0 h7 with rfl | rfl | rfl | rfl | rfl | rfl | rfl | rfl
 ·exact ⟨(0, _), by rw [lgs]; exact List.mem_cons_self, by simp [mv, HW, p0, rg]; omega⟩
 ·exact ⟨(1, _), by rw [lgs]; exact List.mem_cons_of_mem _ List.mem_cons_self, by simp [mv, HW, p0, rg]; omega⟩
 ·exact ⟨(2, _), by rw [lgs]; exact List.mem_cons_of_mem _ (List.mem_cons_of_mem _ List.mem_cons_self), by simp [mv, HW, p0, rg]; omega⟩
 ·exact ⟨(7, _), by rw [lgs]; exact List.mem_cons_of_mem _ (List.mem_cons_of_mem _ (List.mem_cons_of_mem _ List.mem_cons_self)), by simp [mv, HW, p0, rg]; omega⟩
 ·exact ⟨(0, _), by rw [lgs]; exact List.mem_cons_self, by simp [mv, HW, p0, rg]; omega⟩
 ·exact ⟨(1, _), by rw [lgs]; exact List.mem_cons_of_mem _ List.mem_cons_self, by simp [mv, HW, p0, rg]; omega⟩
 ·exact ⟨(2, _), by rw [lgs]; exact List.mem_cons_of_mem _ (List.mem_cons_of_mem _ List.mem_cons_self), by simp [mv, HW, p0, rg]; omega⟩
 ·exact ⟨(7, _), by rw [lgs]; exact List.mem_cons_of_mem _ (List.mem_cons_of_mem _ (List.mem_cons_of_mem _ List.mem_cons_self)), by simp [mv, HW, p0, rg]; omega⟩
def bS (h f m : Int) : List Stm := [.up, .turn (.int h), .mark 0, .go (.int f), .go (.int (1000000 - f))] ++ (if 0 < m then [.go (.int m)] else []) ++ [.back 0]
def aS (h f m : Int) : List Ac := [.up, .turn h, .mark 0, .go f, .go (1000000 - f)] ++ (if 0 < m then [.go m] else [])
theorem WD {body : List Stm} {x : Hd} {n : Nat} (hr : FR body hd0 = some x) (hl : body.length ≤ n) : FK (wk (BX []) n (ms0 body)) = if 100 < ((acs body).filter EN).length then .long else match pf (acs body) hd0 [] with | none => .great | some b => .ok b := by
 rw [← LJ]
 have e := bT (ws := BX []) body [] ⟨body, [], 0, 0, 0, true⟩ [] hd0 x [] (n - body.length) (by rw [List.append_nil]; rfl) hr
 rw [show body.length + (n - body.length) = n by omega] at e
 rw [ms0, e, RG _ (by unfold Lv.thr; simp), FK, List.nil_append]
 rw [if_neg (by intro z; cases z)]
 all_goals rfl
theorem EF {s : Stm} {ss : List Stm} {x y : Hd} {a : Ac} (h1 : KM s = some a) (h2 : stp x a = some y) : FR (s :: ss) x = FR ss y := by rw [FR, h1]; dsimp only; rw [h2]
theorem HP {a : Ac} {r b l : List Ac} {x y : Hd} (h1 : VS x a = some l) (h2 : stp x a = some y) : pf (a :: r) x b = pf r y (b ++ l) := by rw [pf, h1, h2]
theorem gH {h f m : Int} (h0 : 0 ≤ h) (h7 : h ≤ 7) (f0 : 0 ≤ f) (f1 : f ≤ 1000000) (m0 : 0 ≤ m) (m1 : m ≤ 1000000) : pW (FK (wk (BX []) 2000 (ms0 (bS h f m)))) = if 0 < m then "great" else "" := by
 have ac1 : KM (.turn (.int h)) = some (.turn h) := if_pos (by omega)
 have ac2 : KM (.go (.int f)) = some (.go f) := if_pos (by omega)
 have ac3 : KM (.go (.int (1000000 - f))) = some (.go (1000000 - f)) := if_pos (by omega)
 have ac4 : KM (.go (.int m)) = some (.go m) := if_pos (by omega)
 have eh : (0 + h) % 8 = h := by omega
 obtain ⟨x1, ex1⟩ : ∃ x1 : Hd, x1 = { hd0 with dn := false } := ⟨_, rfl⟩
 obtain ⟨x2, ex2⟩ : ∃ x2 : Hd, x2 = { x1 with h := h, tu := x1.tu + h } := ⟨_, rfl⟩
 obtain ⟨x3, ex3⟩ : ∃ x3 : Hd, x3 = { x2 with ms := [(0, (p0, h))] } := ⟨_, rfl⟩
 have t1 : stp hd0 .up = some x1 := by rw [ex1]; rfl
 have t2 : stp x1 (.turn h) = some x2 := by rw [ex2, stp]; congr 2; rw [ex1]; exact eh
 have t3 : stp x2 (.mark 0) = some x3 := by rw [ex3, ex2, ex1]; rfl
 have p3 : x3.p = p0 ∧ x3.h = h ∧ x3.dn = false ∧ x3.ms = [(0, (p0, h))] := by rw [ex3, ex2, ex1]; exact ⟨rfl, rfl, rfl, rfl⟩
 clear ex1 ex2 ex3
 obtain ⟨x4, t4, p4⟩ : ∃ x4, stp x3 (.go f) = some x4 ∧ x4.p = mv p0 h f ∧ x4.h = h ∧ x4.dn = false ∧ x4.ms = [(0, (p0, h))] := by
  obtain ⟨a, b, c, d⟩ := p3
  refine ⟨_, rfl, ?_, b, c, d⟩
  show mv x3.p x3.h f = _
  rw [a, b]
 obtain ⟨x5, t5, p5⟩ : ∃ x5, stp x4 (.go (1000000 - f)) = some x5 ∧ x5.p = mv p0 h 1000000 ∧ x5.h = h ∧ x5.dn = false ∧ x5.ms = [(0, (p0, h))] := by
  obtain ⟨a, b, c, d⟩ := p4
  refine ⟨_, rfl, ?_, b, c, d⟩
  show mv x4.p x4.h (1000000 - f) = _
  rw [a, b, fS]
  congr 1
  omega
 have fin : ∀ (post : List Stm) (pa : List Ac) (L : Int) (x : Hd), acs post = pa → bS h f m = [.up, .turn (.int h), .mark 0, .go (.int f), .go (.int (1000000 - f))] ++ post ++ [.back 0] → FR post x5 = some x → (∀ r b, ∃ b', pf (pa ++ r) x5 b = pf r x b') → (pa.filter EN).length = 0 → post.length ≤ 2 → x.p = mv p0 h L → x.h = h → x.dn = false → x.ms = [(0, (p0, h))] → 0 ≤ L → pW (FK (wk (BX []) 2000 (ms0 (bS h f m)))) = if 1000000 < L then "great" else "" := by
  intro post pa L x epa ebS hpost hpf hbk hlen xp xh xd xm hL
  have zb : ∃ y, stp x (.back 0) = some y := by
   have : stp x (.back 0) = (lkA x.ms 0).map fun z => { x with p := z.1, h := z.2, co := x.co ++ [z.1] } := rfl
   rw [this, xm]
   exact ⟨_, rfl⟩
  obtain ⟨y, ty⟩ := zb
  have hr : FR (bS h f m) hd0 = some y := by
   rw [ebS]
   have r5 : FR [.up, .turn (.int h), .mark 0, .go (.int f), .go (.int (1000000 - f))] hd0 = some x5 := by
    rw [EF rfl t1, EF ac1 t2, EF rfl t3, EF ac2 t4, EF ac3 t5]; rfl
   rw [ML _ _ _ x (by rw [ML _ _ _ _ r5]; exact hpost), EF rfl ty]; rfl
  have ea : acs (bS h f m) = [.up, .turn h, .mark 0, .go f, .go (1000000 - f)] ++ pa ++ [.back 0] := by
   rw [ebS]
   unfold acs
   rw [List.filterMap_append, List.filterMap_append]
   have : acs post = pa := epa
   unfold acs at this
   rw [this]
   congr 2
   simp only [List.filterMap_cons, ac1, ac2, ac3]
   rfl
  rw [WD hr (by rw [ebS]; simp only [List.length_append, List.length_cons, List.length_nil]; omega), ea]
  have bk : (([Ac.up, Ac.turn h, Ac.mark 0, Ac.go f, Ac.go (1000000 - f)] ++ pa ++ [Ac.back 0]).filter EN).length = 1 := by
   rw [List.filter_append, List.filter_append, List.length_append, List.length_append, hbk]; rfl
  rw [bk, if_neg (by decide)]
  have pf5 : ∃ b5, pf ([Ac.up, .turn h, .mark 0, .go f, .go (1000000 - f)] ++ pa ++ [.back 0]) hd0 [] = pf (pa ++ [.back 0]) x5 b5 := by
   rw [List.append_assoc]
   show ∃ b5, pf (Ac.up :: .turn h :: .mark 0 :: .go f :: .go (1000000 - f) :: (pa ++ [Ac.back 0])) hd0 [] = _
   rw [HP rfl t1, HP rfl t2, HP rfl t3, HP rfl t4, HP rfl t5]
   exact ⟨_, rfl⟩
  obtain ⟨b5, e5⟩ := pf5
  obtain ⟨b6, e6⟩ := hpf [.back 0] b5
  rw [e5, e6]
  have ewb : VS x (.back 0) = wb x (p0, h) := by
   rw [VS, xm]; rfl
  by_cases c : 1000000 < L
  ·rw [if_pos c]
   have : wb x (p0, h) = none := by
    unfold wb
    rw [xp, RD _ _ _ (dC h0 h7 c)]
   have : pf [.back 0] x b6 = none := by rw [pf, ewb, this]
   rw [this]
   rfl
  ·rw [if_neg c]
   obtain ⟨r, er⟩ := RR (lgs (mv p0 h L) p0) x.h [] (fN h0 h7 hL (by omega))
   have : wb x (p0, h) = some (if x.dn then .up :: (r.1 ++ tb r.2 h) ++ [.down] else r.1 ++ tb r.2 h) := by
    unfold wb
    rw [xp, er]
   have : ∃ b, pf [.back 0] x b6 = some b := by rw [pf, ewb, this, ty]; exact ⟨_, rfl⟩
   obtain ⟨b, eb⟩ := this
   rw [eb]
   rfl
 obtain ⟨a5, b5, c5, d5⟩ := p5
 by_cases c : 0 < m
 ·rw [if_pos c]
  obtain ⟨x6, t6, p6⟩ : ∃ x6, stp x5 (.go m) = some x6 ∧ x6.p = mv p0 h (1000000 + m) ∧ x6.h = h ∧ x6.dn = false ∧ x6.ms = [(0, (p0, h))] := by
   refine ⟨_, rfl, ?_, b5, c5, d5⟩
   show mv x5.p x5.h m = _
   rw [a5, b5, fS]
  have := fin [.go (.int m)] [.go m] (1000000 + m) x6 (by unfold acs; rw [List.filterMap_cons, ac4]; rfl) (by unfold bS; rw [if_pos c]) (by rw [EF ac4 t6]; rfl) (fun r b => ⟨_, by show pf (.go m :: r) x5 b = _; rw [HP rfl t6]⟩) rfl (by simp) p6.1 p6.2.1 p6.2.2.1 p6.2.2.2 (by omega)
  rw [this, if_pos (by omega)]
 ·rw [if_neg c]
  have := fin [] [] 1000000 x5 rfl (by unfold bS; rw [if_neg c]) rfl (fun r b => ⟨b, rfl⟩) rfl (by simp) a5 b5 c5 d5 (by decide)
  rw [this, if_neg (by decide)]
def trn (t : Nat) : List Stm := (List.range t).map fun j : Nat => .turn (.int (1 + (j : Int)))
def trA (t : Nat) : List Ac := (List.range t).map fun j : Nat => .turn (1 + (j : Int))
theorem KR (t : Nat) : trn (t + 1) = trn t ++ [.turn (.int (1 + t))] := by unfold trn; rw [List.range_succ, List.map_append]; rfl
theorem HC (t : Nat) : (trn t).length = t := by unfold trn; simp
theorem gS {j : Nat} (h : j ≤ 999) : KM (.turn (.int (1 + j))) = some (.turn (1 + j)) := if_pos (by omega)
theorem XU : ∀ t : Nat, t ≤ 1000 → acs (trn t) = trA t
 | 0, _ => rfl
 | t + 1, h => by
  rw [KR]
  unfold acs
  rw [List.filterMap_append]
  have := XU t (by omega)
  unfold acs at this
  rw [this, List.filterMap_cons, gS (by omega)]
  unfold trA
  rw [List.range_succ, List.map_append]
  rfl
theorem QP : ∀ (t : Nat), t ≤ 1000 → ∀ x : Hd, ∃ y, FR (trn t) x = some y
 | 0, _, x => ⟨x, rfl⟩
 | t + 1, h, x => by
  obtain ⟨y, e⟩ := QP t (by omega) x
  rw [KR, ML _ _ _ _ e, EF (gS (by omega)) rfl]
  exact ⟨_, rfl⟩
theorem NM {t : Nat} (h : t ≤ 1000) : ∀ (c : Nat) (x : Hd), ∃ y, PC c (trn t) x = some y
 | 0, x => ⟨x, rfl⟩
 | c + 1, x => by
  obtain ⟨y, e⟩ := QP t h x
  obtain ⟨z, e2⟩ := NM h c y
  exact ⟨z, by rw [PC, e]; exact e2⟩
def blk (z : Nat × Nat) : Stm := .again (.int z.1) (trn z.2)
def dds (l : List (Nat × Nat)) : Nat := (l.map fun z => 1 + z.1 * (1 + z.2)).sum
def bac (l : List (Nat × Nat)) : List Ac := l.flatMap fun z => DC z.1 (trA z.2)
def sml (z : Nat × Nat) : Prop := z.1 ≤ 1000 ∧ z.2 ≤ 1000
theorem VE : ∀ (l : List (Nat × Nat)) (pre post : List Stm) (hd : Hd) (ac : List Ac), (∀ z ∈ l, sml z) → ∃ hd', ∀ n, wc (BX []) (dds l + n) ⟨[⟨pre ++ l.map blk ++ post, [], pre.length, 0, 0, true⟩], hd, ac⟩ = wc (BX []) n ⟨[⟨pre ++ l.map blk ++ post, [], pre.length + l.length, 0, 0, true⟩], hd', ac ++ bac l⟩
 | [], pre, post, hd, ac, _ => ⟨hd, fun n => by
  show wc _ (0 + n) _ = _
  rw [Nat.zero_add]
  show _ = wc _ n ⟨[⟨_, [], pre.length + 0, 0, 0, true⟩], hd, ac ++ []⟩
  rw [List.append_nil ac]; rfl⟩
 | z :: l, pre, post, hd, ac, h => by
  obtain ⟨z1, z2⟩ := h z List.mem_cons_self
  obtain ⟨y, ey⟩ := NM z2 z.1 hd
  obtain ⟨hd', q⟩ := VE l (pre ++ [blk z]) post y (ac ++ DC z.1 (acs (trn z.2))) fun u hu => h u (List.mem_cons_of_mem _ hu)
  have eb : pre ++ [blk z] ++ l.map blk ++ post = pre ++ (z :: l).map blk ++ post := by simp
  rw [eb] at q
  refine ⟨hd', fun n => ?_⟩
  have e1 := TL (ws := BX []) (v := ⟨pre ++ (z :: l).map blk ++ post, [], pre.length, 0, 0, true⟩) (r := []) (hd := hd) (hd' := y) (ac := ac) (c := z.1) (b := trn z.2) (dds l + n) (by
   show (pre ++ (z :: l).map blk ++ post)[pre.length]? = _
   rw [List.append_assoc, List.getElem?_append_right (Nat.le_refl _), Nat.sub_self]
   rfl) (by omega) ey
  rw [HC] at e1
  have ed : dds (z :: l) + n = 1 + z.1 * (1 + z.2) + (dds l + n) := by unfold dds; rw [List.map_cons, List.sum_cons]; omega
  rw [ed, e1]
  have q := q n
  rw [List.length_append] at q
  have ea : ac ++ DC z.1 (acs (trn z.2)) ++ bac l = ac ++ bac (z :: l) := by rw [XU _ z2, List.append_assoc]; rfl
  have ei : pre.length + [blk z].length + l.length = pre.length + (z :: l).length := by simp only [List.length_cons, List.length_nil]; omega
  rw [ea, ei] at q
  exact q
def cO (a : Ac) : Prop := ∃ n, a = .turn n
theorem lD : ∀ (l : List Ac) (x : Hd) (b : List Ac), (∀ a ∈ l, cO a) → pf l x b = some (b ++ l)
 | [], x, b, _ => by rw [pf, List.append_nil]
 | a :: l, x, b, h => by
  obtain ⟨n, rfl⟩ := h a List.mem_cons_self
  rw [HP (l := [.turn n]) rfl rfl, lD l _ _ fun a ha => h a (List.mem_cons_of_mem _ ha), List.append_assoc]
  rfl
theorem oZ {l : List Ac} (h : ∀ a ∈ l, cO a) : (l.filter EN).length = 0 := by
 rw [List.filter_eq_nil_iff.mpr fun a ha => by obtain ⟨n, rfl⟩ := h a ha; simp [EN]]
 rfl
theorem dM {l : List Ac} (h : ∀ a ∈ l, cO a) : ∀ c, ∀ a ∈ DC c l, cO a
 | 0, a, ha => by cases ha
 | c + 1, a, ha => by
  rcases List.mem_append.mp ha with ha | ha
  ·exact h a ha
  ·exact dM h c a ha
theorem dX (l : List (Nat × Nat)) : ∀ a ∈ bac l, cO a := fun a ha => by
 obtain ⟨z, _, hz⟩ := List.mem_flatMap.mp ha
 refine dM (fun a ha => ?_) _ a hz
 obtain ⟨j, _, rfl⟩ := List.mem_map.mp ha
 exact ⟨_, rfl⟩
theorem RL {l : List (Nat × Nat)} (h : ∀ z ∈ l, sml z) {n : Nat} (hn : dds l ≤ n) : FK (wk (BX []) n (ms0 (l.map blk))) = .ok (bac l) := by
 obtain ⟨hd', q⟩ := VE l [] [] hd0 [] h
 have q := (q (n - dds l)).trans (RG _ (by unfold Lv.thr; simp))
 rw [show dds l + (n - dds l) = n by omega, List.nil_append, List.append_nil] at q
 rw [← LJ]
 have q : wc (BX []) n (ms0 (l.map blk)) = .ok ⟨[], hd', bac l⟩ := q
 rw [q, FK, if_neg (by intro z; cases z)]
 show (if 100 < ((bac l).filter EN).length then _ else _) = _
 rw [oZ (dX l), if_neg (by decide)]
 show (match pf (bac l) hd0 [] with | none => Put.great | some b => .ok b) = _
 rw [lD _ _ _ (dX l)]
 rfl
theorem gG {b : List Stm} {s : Stm} : FK (wk (BX []) 0 (ms0 (s :: b))) = .long := by
 rw [wk, FK]
 exact if_pos rfl
theorem YJ {ws : Tb} {b : List Stm} {r : List Lv} {D : Nat} : ∀ (k d : Nat) (en : En) (hd hd' : Hd) (ac : List Ac), d + k ≤ D → PC k b hd = some hd' → ∃ en', ∀ n, wk ws (k * (1 + b.length) + n) ⟨⟨b, en, b.length, d, D, true⟩ :: r, hd, ac⟩ = wk ws n ⟨⟨b, en', b.length, (d + k : Nat), D, true⟩ :: r, hd', ac ++ DC k (acs b)⟩
 | 0, d, en, hd, hd', ac, _, h => by cases h; exact ⟨en, fun n => by rw [Nat.zero_mul, Nat.zero_add, DC, List.append_nil]; rfl⟩
 | k + 1, d, en, hd, hd', ac, hd1, h => by
  rw [PC] at h
  cases e : FR b hd with
  | none => rw [e] at h; cases h
  | some y =>
   rw [e] at h
   obtain ⟨en', q⟩ := YJ (ws := ws) (r := r) (D := D) k (d + 1) (ptA en "count" d) y hd' (ac ++ acs b) (by omega) h
   refine ⟨en', fun n => ?_⟩
   have nt : Lv.thr ⟨b, en, b.length, d, D, true⟩ = false := by
    have z : decide (((D : Nat) : Int) ≤ (d : Int)) = false := decide_eq_false (by omega)
    show (decide (b.length = b.length) && decide (((D : Nat) : Int) ≤ (d : Int))) = false
    rw [z, Bool.and_false]
   have e2 := OF (ws := ws) b [] ⟨b, ptA en "count" d, 0, (d : Int) + 1, D, true⟩ r hd y ac (by rw [List.append_nil]; rfl) e (k * (1 + b.length) + n)
   rw [show (k + 1) * (1 + b.length) + n = b.length + (k * (1 + b.length) + n) + 1 by rw [Nat.add_mul]; omega, XH _ nt]
   have : dd ws ⟨⟨b, en, b.length, d, D, true⟩ :: r, hd, ac⟩ = .ok ⟨⟨b, ptA en "count" d, 0, (d : Int) + 1, D, true⟩ :: r, hd, ac⟩ := by
    unfold dd
    dsimp only
    rw [List.getElem?_eq_none_iff.mpr (Nat.le_refl _)]
    rfl
   rw [this]
   dsimp only
   rw [e2]
   have q := q n
   show wk ws _ ⟨⟨b, ptA en "count" d, 0 + b.length, (d : Int) + 1, D, true⟩ :: r, y, ac ++ acs b⟩ = _
   rw [Nat.zero_add, show ((d : Int) + 1) = ((d + 1 : Nat) : Int) by omega, q, DC, List.append_assoc, show d + 1 + k = d + (k + 1) by omega]
theorem bH {l : List (Nat × Nat)} {c t : Nat} (h : ∀ z ∈ l, sml z) (hz : sml (c + 1, t + 1)) : FK (wk (BX []) (dds (l ++ [(c + 1, t + 1)]) - 1) (ms0 ((l ++ [(c + 1, t + 1)]).map blk))) = .long := by
 obtain ⟨hd', q⟩ := VE l [] [blk (c + 1, t + 1)] hd0 [] h
 obtain ⟨z1, z2⟩ := hz
 have z1 : c + 1 ≤ 1000 := z1
 have z2 : t + 1 ≤ 1000 := z2
 have ed : dds (l ++ [(c + 1, t + 1)]) - 1 = dds l + (c * (1 + (t + 1)) + (1 + t) + 1) := by
  unfold dds
  rw [List.map_append, List.sum_append]
  simp only [List.map_cons, List.map_nil, List.sum_cons, List.sum_nil, Nat.add_mul, Nat.one_mul]
  omega
 have em : (l ++ [(c + 1, t + 1)]).map blk = l.map blk ++ [blk (c + 1, t + 1)] := by rw [List.map_append]; rfl
 have q := q (c * (1 + (t + 1)) + (1 + t) + 1)
 rw [← ed, List.nil_append, ← em, List.length_nil, Nat.zero_add, List.nil_append] at q
 rw [← LJ]
 have q : wc (BX []) (dds (l ++ [(c + 1, t + 1)]) - 1) (ms0 ((l ++ [(c + 1, t + 1)]).map blk)) = _ := q
 rw [q]
 obtain ⟨y, ey⟩ := NM z2 c hd'
 obtain ⟨y2, ey2⟩ := QP t (by omega) y
 have hs : ((l ++ [(c + 1, t + 1)]).map blk)[l.length]? = some (.again (.int (c + 1 : Nat)) (trn (t + 1))) := by
  rw [em, List.getElem?_append_right (by simp), List.length_map, Nat.sub_self]; rfl
 have e1 : wk (BX []) (c * (1 + (t + 1)) + (1 + t) + 1) ⟨[⟨(l ++ [(c + 1, t + 1)]).map blk, [], l.length, 0, 0, true⟩], hd', bac l⟩ = wk (BX []) (c * (1 + (t + 1)) + (1 + t)) ⟨⟨trn (t + 1), [], (trn (t + 1)).length, (0 : Nat), (c + 1 : Nat), true⟩ :: [⟨(l ++ [(c + 1, t + 1)]).map blk, [], l.length + 1, 0, 0, true⟩], hd', bac l⟩ := by
  rw [YH _ hs, bgn, KN (by omega)]
  all_goals rfl
 obtain ⟨en', e2⟩ := YJ (ws := BX []) (b := trn (t + 1)) (r := [⟨(l ++ [(c + 1, t + 1)]).map blk, [], l.length + 1, 0, 0, true⟩]) (D := c + 1) c 0 [] hd' y (bac l) (by omega) ey
 have e2 := e2 (1 + t)
 rw [HC] at e1 e2
 have nt : Lv.thr ⟨trn (t + 1), en', t + 1, (0 + c : Nat), (c + 1 : Nat), true⟩ = false := by
  have z : decide (((c + 1 : Nat) : Int) ≤ ((0 + c : Nat) : Int)) = false := decide_eq_false (by omega)
  show (decide (t + 1 = (trn (t + 1)).length) && decide (((c + 1 : Nat) : Int) ≤ ((0 + c : Nat) : Int))) = false
  rw [z, Bool.and_false]
 have e3 : ∃ v r x a, wk (BX []) (1 + t) ⟨⟨trn (t + 1), en', t + 1, (0 + c : Nat), (c + 1 : Nat), true⟩ :: [⟨(l ++ [(c + 1, t + 1)]).map blk, [], l.length + 1, 0, 0, true⟩], y, bac l ++ DC c (acs (trn (t + 1)))⟩ = .ok ⟨v :: r, x, a⟩ ∧ v.thr = false := by
  rw [show 1 + t = t + 1 by omega, XH _ nt]
  have : ∀ (en : En) (u : Int) (w : Int) (r : List Lv) (ac : List Ac), dd (BX []) ⟨⟨trn (t + 1), en, t + 1, u, w, true⟩ :: r, y, ac⟩ = .ok ⟨⟨trn (t + 1), ptA en "count" u, 0, u + 1, w, true⟩ :: r, y, ac⟩ := by
   intro en u w r ac
   unfold dd
   dsimp only
   rw [List.getElem?_eq_none_iff.mpr (by rw [HC]; exact Nat.le_refl _)]
   rfl
  rw [this]
  dsimp only
  have e4 := OF (ws := BX []) (trn t) [.turn (.int (1 + (t : Int)))] ⟨trn (t + 1), ptA en' "count" ((0 + c : Nat) : Int), 0, ((0 + c : Nat) : Int) + 1, (c + 1 : Nat), true⟩ [⟨(l ++ [(c + 1, t + 1)]).map blk, [], l.length + 1, 0, 0, true⟩] y y2 (bac l ++ DC c (acs (trn (t + 1)))) (by rw [← KR]; rfl) ey2 0
  rw [HC, Nat.add_zero] at e4
  rw [e4, wk]
  refine ⟨_, _, _, _, rfl, ?_⟩
  have z : decide (0 + t = (trn (t + 1)).length) = false := decide_eq_false (by rw [HC]; omega)
  show (decide (0 + t = (trn (t + 1)).length) && _) = false
  rw [z, Bool.false_and]
 obtain ⟨v, r, x, a, e3, hv⟩ := e3
 have e5 := (e1.trans e2).trans e3
 unfold wc
 rw [e5, FK]
 have : Ms.dn (cln ⟨v :: r, x, a⟩) = false := by
  unfold Ms.dn
  rw [MK]
  unfold cln
  simp only [List.dropWhile_cons, hv]
  rfl
 rw [this]
 exact if_pos rfl
theorem RX {ar : Str → Option Nat} {D : Str → Prop} : ∀ {l : List Stm}, (∀ s ∈ l, s.Ok ar D) → Stm.Oks ar D l
 | [], _ => by rw [Stm.Oks]; trivial
 | s :: l, h => by rw [Stm.Oks]; exact ⟨h s List.mem_cons_self, RX fun s hs => h s (List.mem_cons_of_mem _ hs)⟩
theorem NW {l : List Stm} (h : ∀ {ar : Str → Option Nat} {D : Str → Prop}, ∀ s ∈ l, s.Ok ar D) : POk [] l := ⟨by simp, fun _ => none, (fun x n h => by cases h), RX h⟩
def GV (l : List Stm) : Prop := ∀ {ar : Str → Option Nat} {D : Str → Prop}, ∀ s ∈ l, s.Ok ar D
theorem GV.app {a b : List Stm} (h : GV a) (g : GV b) : GV (a ++ b) := fun {ar D} s hs => by
 rcases List.mem_append.mp hs with hs | hs
 ·exact h s hs
 ·exact g s hs
theorem XZ (c : Nat) : GV (bB c) := fun {ar D} s hs => by
 simp only [bB, List.mem_cons, List.not_mem_nil, or_false] at hs
 rcases hs with rfl | rfl
 ·rw [Stm.Ok]; trivial
 ·rw [Stm.Ok]
  refine ⟨trivial, RX fun s hs => ?_⟩
  simp only [bkS, List.mem_cons, List.not_mem_nil, or_false] at hs
  rcases hs with rfl | rfl | rfl <;> (rw [Stm.Ok]; trivial)
theorem nD : GV KB := fun {ar D} s hs => by
 simp only [KB, List.mem_cons, List.not_mem_nil, or_false] at hs
 rcases hs with rfl | rfl | rfl | rfl <;> (rw [Stm.Ok]; trivial)
theorem dG (k : Int) : GV [.back k] := fun {ar D} s hs => by
 rw [List.mem_singleton] at hs; subst hs; rw [Stm.Ok]; trivial
theorem nP (z : Nat × Nat) : GV [blk z] := fun {ar D} s hs => by
 rw [List.mem_singleton] at hs; subst hs
 rw [blk, Stm.Ok]
 refine ⟨trivial, RX fun s hs => ?_⟩
 obtain ⟨j, _, rfl⟩ := List.mem_map.mp hs
 rw [Stm.Ok]; trivial
theorem KW (l : List (Nat × Nat)) : GV (l.map blk) := fun {ar D} s hs => by
 obtain ⟨z, _, rfl⟩ := List.mem_map.mp hs
 exact nP z _ (List.mem_singleton.mpr rfl)
theorem kX (h f m : Int) : GV (bS h f m) := fun {ar D} s hs => by
 unfold bS at hs
 rcases List.mem_append.mp hs with hs | hs
 ·rcases List.mem_append.mp hs with hs | hs
  ·simp only [List.mem_cons, List.not_mem_nil, or_false] at hs
   rcases hs with rfl | rfl | rfl | rfl | rfl <;> (rw [Stm.Ok]; trivial)
  ·split at hs
   ·rw [List.mem_singleton] at hs; subst hs; rw [Stm.Ok]; trivial
   ·cases hs
 ·exact dG 0 s hs
section
variable {P : Program} {w : World} {K : PySem.W.Frag} {mg : Str → Option Value} {base : Heap} {t : Adr}
def nV : Sp := fun vs H Q _ => ∃ c : Nat, vs = [.int c] ∧ c ≤ 200 ∧ ∀ H', AI H H' → Q (.bl true) H'
theorem UC (T : Txt K mg t) : BF P w K mg base CX0 11 t.a_Lbybacks t.d_Lbybacks ["_law_many"] nV := by
 refine T.Lbybacks.F.ok GB (fun vs H Q E h => ?_) (fun cdv A outer s H vs Q E hr h => ?_)
 ·obtain ⟨c, rfl, _⟩ := h; rfl
 ·obtain ⟨c, rfl, hc, q⟩ := h
  refine ⟨_, s!"1{GB.nd}VhaUJ0AVhaUVhaUVhaUVpppUCQBBPCQQPI2{GB.nd}{CO}JJCBBZ{PV}{T.z_int}{boot_int}{JS}0ADcCBuHI{JT}{CU T}{hr.mono (by decide)}{T.Lrefused.m}{T.Lrefused.F.kp}{T.Lrefused.b}{CM}1ADCBBL2A{BB _}RoNFYO{OB}0AD{BB _}R{CZ}{CU T}{hr.mono (by decide)}{T.Lrefused.m}{T.Lrefused.F.kp}{T.Lrefused.b}{CM}{FS}1AVhaUVpUGDCBBLJcNFYO3{GB.nd}VhaUJ{HS}DDGCBBPVhaUVhaUCQQQQPI{CZ}{CU T}{hr.mono (by decide)}{T.Lrefused.m}{T.Lrefused.F.kp}{T.Lrefused.b}{CM}{FS}1AVhaUVpUGDCBBLJc{CZ}{CU T}{hr.mono (by decide)}{T.Lrefused.m}{T.Lrefused.F.kp}{T.Lrefused.b}{CM}{FS}3A1AGDCBBLJc#!NFjjjjj", ?_⟩
  walk_at "rh"
  intro v1 H1 s1 r1 v2 H2 s2 r2
  refine ⟨by decide, fun p hp => ⟨by decide, fun p1 hp1 => ?_⟩⟩
  have u1 := AI.upd (o := .tup [.str (Str.ofString "again"), .int c, v2]) hp
  have u2 := AI.upd (o := .tup [v1, .ref p]) hp1
  have rb : Rp K (upd (upd H2 p (.tup [.str (Str.ofString "again"), .int c, v2])) p1 (.tup [v1, .ref p])) (bD (bB c)) (.ref p1) := by
   refine FX (SqT.of AB) (CD ?_ (RpL.one ?_))
   ·rw [Stm.D]; exact (r1.same s2).same (u1.trans u2)
   ·rw [Stm.D, JZ]
    refine FX (u2.tup (SqT.of AB)) (CD (PJ _) (CD (HY _) (RpL.one ?_)))
    have := r2.same (u1.trans u2)
    simp only [bkS, List.map_cons, List.map_nil, Stm.D, Am.D]
    exact this
  have S := (s1.trans s2).trans (u1.trans u2)
  generalize upd (upd H2 p (.tup [.str (Str.ofString "again"), .int c, v2])) p1 (.tup [v1, .ref p]) = H3 at rb S ⊢
  clear s1 r1 s2 r2 hp hp1 u1 u2
  walk_at "rh"
  refine ⟨by decide, fun p2 hp2 => ?_⟩
  have u3 := AI.upd (o := .lst [.str (Str.ofString ""), .str (Str.ofString "long")]) hp2
  have rb := rb.same u3
  have S := S.trans u3
  obtain ⟨wd, ed, ep⟩ : ∃ wd : Str, atI ([.str (Str.ofString ""), .str (Str.ofString "long")] : List V) (if 100 < (c : Int) then 1 else 0) = some (.str wd) ∧ pW (FK (wk (BX []) 2000 (ms0 (bB c)))) = wd := by
   refine ⟨_, ?_, rfl⟩
   rw [mY hc]
   by_cases h : 100 < c
   ·rw [if_pos (by omega), if_pos h]; rfl
   ·rw [if_neg (by omega), if_neg h]; rfl
  refine ⟨_, SqL.of AB, _, ed, ?_⟩
  generalize upd H3 p2 (.lst [.str (Str.ofString ""), .str (Str.ofString "long")]) = H4 at rb S ⊢
  clear u3 hp2 ed
  walk_at "rh"
  refine ⟨.ref p1, 2000, bB c, rfl, rb, by omega, NW (XZ c), fun H5 s5 => ?_⟩
  rw [ep]
  walk_at "rh"
  try rw [if_neg (by simp)]
  have rb := rb.same s5
  have S := S.trans s5
  clear s5
  walk_at "rh"
  have lB : (bB c).length = 2 := rfl
  have four : ∀ (H6 : Hp) (v : V), AI H5 H6 → Rp K H6 (.tup [.tup [.str (Str.ofString "back"), .int 4]]) v → ∀ (v6 : V) (H7 : Hp), AI H6 H7 → Rp K H7 (.tup ((bB c).map Stm.D ++ [(Stm.back 4).D])) v6 → Rp K H7 (bD (bB c ++ [.back 4])) v6 := fun H6 v s6 r6 v6 H7 s7 r7 => by rw [bD, List.map_append]; exact r7
  by_cases h : (c : Int) ≤ 100
  ·rw [if_pos h]
   intro v6 H6 s6 r6
   refine ⟨_, rb.same s6, [(Stm.back 4).D], by rw [Stm.D]; exact r6, by rw [List.length_map, lB]; decide, fun v7 H7 s7 r7 => ?_⟩
   refine ⟨v7, 2000, bB c ++ [.back 4], rfl, four H6 v6 s6 r6 v7 H7 s7 r7, by omega, NW (GV.app (@XZ c) (@dG 4)), fun H8 s8 => ?_⟩
   rw [XQ hc]
   exact q _ ((S.trans s6).trans (s7.trans s8))
  ·rw [if_neg h]
   walk_at "rh"
   intro v6 H6 s6 r6
   refine ⟨⟨by decide, by decide, by decide⟩, by decide, fun p3 hp3 v7 H7 s7 r7 v8 H8 s8 r8 => ⟨by decide, fun p4 hp4 => ?_⟩⟩
   have u3 := AI.upd (o := .tup [.str (Str.ofString "go"), .int (10 ^ Int.toNat 6)]) hp3
   have u4 := AI.upd (o := .tup [v6, .ref p3, v7, v8]) hp4
   have rf : Rp K (upd H8 p4 (.tup [v6, .ref p3, v7, v8])) (bD KB) (.ref p4) := by
    refine FX (SqT.of AB) (CD ?_ (CD ?_ (CD ?_ (RpL.one ?_))))
    ·rw [Stm.D]; exact r6.same (((u3.trans s7).trans s8).trans u4)
    ·rw [Stm.D]; exact FX (((s7.trans s8).trans u4).tup (SqT.of AB)) (CD (PJ _) (RpL.one (by rw [Am.D]; exact HY _)))
    ·rw [Stm.D]; exact r7.same (s8.trans u4)
    ·rw [Stm.D]; exact r8.same u4
   have s64 := (s6.trans ((u3.trans s7).trans s8)).trans u4
   have rb := rb.same s64
   have S := S.trans s64
   generalize upd H8 p4 (.tup [v6, .ref p3, v7, v8]) = H9 at rf rb S ⊢
   clear s6 r6 hp3 s7 r7 s8 r8 hp4 u3 u4 s64
   walk_at "rh"
   intro va Ha sa ra
   refine ⟨_, rb.same sa, [(Stm.back 4).D], by rw [Stm.D]; exact ra, by rw [List.length_map, lB]; decide, fun v7 H7 s7 r7 => ?_⟩
   refine ⟨v7, 2000, bB c ++ [.back 4], rfl, by rw [bD, List.map_append]; exact r7, by omega, NW (GV.app (@XZ c) (@dG 4)), fun H8 s8 => ?_⟩
   rw [XQ hc]
   walk_at "rh"
   have s78 := sa.trans (s7.trans s8)
   refine ⟨_, rf.same s78, _, rb.same s78, by rw [List.length_map, List.length_map, lB]; decide, fun vb Hb sb rb2 => ?_⟩
   refine ⟨vb, 2000, KB ++ bB c, rfl, by rw [bD, List.map_append]; exact rb2, by omega, NW (GV.app @nD (@XZ c)), fun Hc sc => ?_⟩
   rw [kK hc (by omega)]
   exact q _ ((S.trans s78).trans (sb.trans sc))
def fI (K : PySem.W.Frag) : Sp := fun vs H Q _ => ∃ (l : Addr) (xs : List Int), vs = [.ref l] ∧ H l = some (.lst (xs.map V.int)) ∧ xs.length = 16 ∧ (∀ x ∈ xs, 0 ≤ x) ∧ ∀ H', AI H H' → Q (.bl true) H'
theorem IE {xs : List Int} (l16 : xs.length = 16) (hx : ∀ x ∈ xs, 0 ≤ x) (j : Nat) (hj : j < 16) : ∃ z, atI (xs.map V.int) (j : Int) = some (.int z) ∧ 0 ≤ z := by
 have hl : j < xs.length := by omega
 exact ⟨xs[j], DF (by rw [List.getElem?_map, List.getElem?_eq_getElem hl]; rfl), hx _ (List.getElem_mem hl)⟩
theorem VB (T : Txt K mg t) : BF P w K mg base CX0 11 t.a_Lbysteps t.d_Lbysteps ["_law_row_here"] (fI K) := by
 refine T.Lbysteps.F.ok EK (fun vs H Q E h => ?_) (fun cdv A outer s H vs Q E hr h => ?_)
 ·obtain ⟨l, xs, rfl, _⟩ := h; rfl
 ·obtain ⟨l, xs, rfl, hl, l16, hx, q⟩ := h
  obtain ⟨z0, e0, p0'⟩ := IE l16 hx 0 (by decide)
  obtain ⟨z1, e1, p1'⟩ := IE l16 hx 1 (by decide)
  obtain ⟨z2, e2, p2'⟩ := IE l16 hx 2 (by decide)
  obtain ⟨z3, e3, p3'⟩ := IE l16 hx 3 (by decide)
  refine ⟨_, s!"1{EK.nd}{CB}{CO}0ADHDGI2{EK.nd}{CO}DD{BV}D{CB}{CO}0ADH{HS}DDGGGCBBBZ{CB}{CO}0ADHDGHI3{EK.nd}{CB}{CO}0ADH{BV}{HS}DDGDGGI4{EK.nd}VaUJ1ACBBPVhaUJ3ACBBPJ{HH}{HS}DDG3AGCBBPCQQQQQPI{JS}2AD{BB _}R4{EK.nd}{FS}4AJ2ACBBPCQPGIFYO{CZ}{CU T}{hr.mono (by decide)}{T.Lrefused.m}{T.Lrefused.F.kp}{T.Lrefused.b}{CM}{FS}4AVhaUVpUGDCBBL{CO}JJCBBZ{PV}{T.z_int}{boot_int}{JS}2ADcCBuHcNFjjjjj", ?_⟩
  walk_at "rh"
  refine ⟨_, SqL.of hl, _, e0, ?_⟩
  dsimp only
  refine ⟨by decide, ?_⟩
  obtain ⟨hh, ehh, h0, h7⟩ : ∃ hh : Int, z0 % 8 = hh ∧ 0 ≤ hh ∧ hh ≤ 7 := ⟨_, rfl, by omega, by omega⟩
  rw [ehh]
  walk_at "rh"
  refine ⟨_, SqL.of hl, _, e1, ⟨by decide, by decide, by decide⟩, ?_⟩
  dsimp only
  refine ⟨by decide, by decide, fun p hp => ?_⟩
  have u1 := AI.upd (o := .lst [.int 0, .int 1, .int (1 + z1 % 10 ^ Int.toNat 6)]) hp
  refine ⟨_, SqL.of (u1 _ _ hl), _, e2, ?_⟩
  dsimp only
  obtain ⟨m, em, m0, m1⟩ : ∃ m : Int, atI ([.int 0, .int 1, .int (1 + z1 % 10 ^ Int.toNat 6)] : List V) (z2 % 3) = some (.int m) ∧ 0 ≤ m ∧ m ≤ 1000000 := by
   have c : z2 % 3 = 0 ∨ z2 % 3 = 1 ∨ z2 % 3 = 2 := by omega
   have e10 : (10 : Int) ^ Int.toNat 6 = 1000000 := by decide
   rcases c with c | c | c <;> rw [c]
   ·exact ⟨0, rfl, by omega, by omega⟩
   ·exact ⟨1, rfl, by omega, by omega⟩
   ·exact ⟨1 + z1 % 10 ^ Int.toNat 6, rfl, by rw [e10]; omega, by rw [e10]; omega⟩
  refine ⟨by decide, _, SqL.of AB, _, em, ?_⟩
  have hl := u1 _ _ hl
  generalize upd H p (.lst [.int 0, .int 1, .int (1 + z1 % 10 ^ Int.toNat 6)]) = H1 at u1 hl ⊢
  walk_at "rh"
  refine ⟨_, SqL.of hl, _, e3, ⟨by decide, by decide, by decide⟩, ?_⟩
  dsimp only
  refine ⟨by decide, ?_⟩
  obtain ⟨f, ef, f0, f1⟩ : ∃ f : Int, z3 % (10 ^ Int.toNat 6 + 1) = f ∧ 0 ≤ f ∧ f ≤ 1000000 := by
   have e10 : (10 : Int) ^ Int.toNat 6 = 1000000 := by decide
   rw [e10]
   exact ⟨_, rfl, by omega, by omega⟩
  rw [ef]
  walk_at "rh"
  have e10 : (10 : Int) ^ Int.toNat 6 = 1000000 := by decide
  rw [e10]
  intro va Ha sa ra
  refine ⟨by decide, fun p1 hp1 vb Hb sb rb => ⟨by decide, fun p2 hp2 => ⟨⟨by decide, by decide, by decide⟩, by decide, fun p3 hp3 => ⟨by decide, fun p4 hp4 => ?_⟩⟩⟩⟩
  have w1 := AI.upd (o := .tup [.str (Str.ofString "turn"), .int hh]) hp1
  have w2 := AI.upd (o := .tup [.str (Str.ofString "go"), .int f]) hp2
  have w3 := AI.upd (o := .tup [.str (Str.ofString "go"), .int (1000000 - f)]) hp3
  have w4 := AI.upd (o := .tup [va, .ref p1, vb, .ref p2, .ref p3]) hp4
  have y3 := w3.trans w4
  have y2 := w2.trans y3
  have yb := sb.trans y2
  have r4 : Rp K (upd (upd (upd Hb p2 (.tup [.str (Str.ofString "go"), .int f])) p3 (.tup [.str (Str.ofString "go"), .int (1000000 - f)])) p4 (.tup [va, .ref p1, vb, .ref p2, .ref p3])) (bD [.up, .turn (.int hh), .mark 0, .go (.int f), .go (.int (1000000 - f))]) (.ref p4) := by
   refine FX (SqT.of AB) (CD ?_ (CD ?_ (CD ?_ (CD ?_ (RpL.one ?_)))))
   ·rw [Stm.D]; exact ra.same (w1.trans yb)
   ·rw [Stm.D]; exact FX (yb.tup (SqT.of AB)) (CD (PJ _) (RpL.one (by rw [Am.D]; exact HY _)))
   ·rw [Stm.D]; exact rb.same y2
   ·rw [Stm.D]; exact FX (y3.tup (SqT.of AB)) (CD (PJ _) (RpL.one (by rw [Am.D]; exact HY _)))
   ·rw [Stm.D]; exact FX (w4.tup (SqT.of AB)) (CD (PJ _) (RpL.one (by rw [Am.D]; exact HY _)))
  have S := (u1.trans sa).trans (w1.trans yb)
  generalize upd (upd (upd Hb p2 (.tup [.str (Str.ofString "go"), .int f])) p3 (.tup [.str (Str.ofString "go"), .int (1000000 - f)])) p4 (.tup [va, .ref p1, vb, .ref p2, .ref p3]) = H2 at r4 S ⊢
  clear sa ra hp1 sb rb hp2 hp3 hp4 w1 w2 w3 w4 y3 y2 yb u1 hl
  walk_at "rh"
  by_cases c : 0 < m
  ·rw [if_pos c]
   refine ⟨by decide, fun p5 hp5 => ⟨by decide, fun p6 hp6 => ?_⟩⟩
   have w5 := AI.upd (o := .tup [.str (Str.ofString "go"), .int m]) hp5
   have w6 := AI.upd (o := .tup [.ref p5]) hp6
   refine ⟨_, r4.same (w5.trans w6), [(Stm.go (.int m)).D], FX (SqT.of AB) (RpL.one (by rw [Stm.D]; exact FX (w6.tup (SqT.of AB)) (CD (PJ _) (RpL.one (by rw [Am.D]; exact HY _))))), (by show 6 ≤ sizeLine; decide), fun v7 H7 s7 r7 => ?_⟩
   have S := S.trans ((w5.trans w6).trans s7)
   clear w5 w6 s7 hp5 hp6 r4
   walk_at "rh"
   intro vk Hk sk rk
   refine ⟨_, r7.same sk, [(Stm.back 0).D], by rw [Stm.D]; exact rk, (by show 7 ≤ sizeLine; decide), fun vz Hz sz rz => ?_⟩
   refine ⟨vz, 2000, bS hh f m, rfl, ?_, by omega, NW (@kX hh f m), fun Hq sq => ?_⟩
   ·unfold bS
    rw [if_pos c, bD, List.map_append, List.map_append]
    have := rz
    simp only [List.map_cons, List.map_nil, List.append_assoc, List.nil_append, List.cons_append] at this ⊢
    exact this
   rw [gH h0 h7 f0 f1 m0 m1]
   walk_at "rh"
   refine ⟨by decide, fun pl hpl => ⟨_, SqL.of AB, .str (Str.ofString (if 0 < m then "great" else "")), ?_, ?_⟩⟩
   ·first | (rw [if_pos c, if_pos c]; rfl) | (simp [c]; rfl)
   ·dsimp only
    rw [decide_eq_true rfl]
    exact q _ (((S.trans sk).trans (sz.trans sq)).trans (AI.upd hpl))
  ·rw [if_neg c]
   walk_at "rh"
   intro vk Hk sk rk
   refine ⟨_, r4.same sk, [(Stm.back 0).D], by rw [Stm.D]; exact rk, (by show 6 ≤ sizeLine; decide), fun vz Hz sz rz => ?_⟩
   refine ⟨vz, 2000, bS hh f m, rfl, ?_, by omega, NW (@kX hh f m), fun Hq sq => ?_⟩
   ·unfold bS
    rw [if_neg c, bD, List.map_append, List.map_append]
    have := rz
    simp only [List.map_cons, List.map_nil, List.append_assoc, List.nil_append, List.cons_append] at this ⊢
    exact this
   rw [gH h0 h7 f0 f1 m0 m1]
   walk_at "rh"
   refine ⟨by decide, fun pl hpl => ⟨_, SqL.of AB, .str (Str.ofString (if 0 < m then "great" else "")), ?_, ?_⟩⟩
   ·first | (rw [if_neg c, if_neg c]; rfl) | (simp [c]; rfl)
   ·dsimp only
    rw [decide_eq_true rfl]
    exact q _ (((S.trans sk).trans (sz.trans sq)).trans (AI.upd hpl))
end
section
variable {P : Program} {w : World} {K : PySem.W.Frag} {mg : Str → Option Value} {base : Heap} {t : Adr}
def pQ (K : PySem.W.Frag) (l : Addr) (H : Hp) (i : Nat) (σ : L2.St) (H2 : Hp) : Prop := ∃ (v : V) (zs : List (Nat × Nat)) (o3 o4 o5 : Option V), σ = [some (.ref l), some v, some (.int (dds zs)), o3, o4, o5, none, none] ∧ AI H H2 ∧ Rp K H2 (bD (zs.map blk)) v ∧ zs.length = i ∧ (∀ z ∈ zs, 1 ≤ z.1 ∧ z.1 ≤ 12 ∧ 1 ≤ z.2 ∧ z.2 ≤ 6)
def oX (K : PySem.W.Frag) (p : Addr) (H : Hp) (i : Nat) (σ : L2.St) (H2 : Hp) : Prop := ∃ (us : List V) (o1 : Option V), σ = [o1] ∧ AI H H2 ∧ H2 p = some (.lst us) ∧ RpL K H2 ((trn i).map Stm.D) us
theorem ZP (c : Nat) (l : List Ac) : (DC c l).map Ac.D = (List.replicate c (l.map Ac.D)).flatten := by
 induction c with
 | zero => rfl
 | succ c ih => rw [DC, List.map_append, ih, List.replicate_succ, List.flatten_cons]
theorem trD (t : Nat) : (trn t).map Stm.D = (trA t).map Ac.D := by
 unfold trn trA
 rw [List.map_map, List.map_map]
 refine List.map_congr_left fun j _ => ?_
 show (Stm.turn (.int _)).D = _
 rw [Stm.D, Am.D]
 rfl
theorem MN : ∀ {zs : List (Nat × Nat)}, (∀ z ∈ zs, z.1 ≤ 12 ∧ z.2 ≤ 6) → (bac zs).length ≤ 72 * zs.length
 | [], _ => by simp [bac]
 | z :: zs, h => by
  have := MN fun u hu => h u (List.mem_cons_of_mem _ hu)
  have hz := h z List.mem_cons_self
  have rl : ∀ c, (DC c (trA z.2)).length = c * z.2 := by
   intro c
   induction c with
   | zero => simp [DC]
   | succ c ih => rw [DC, List.length_append, ih, Nat.add_mul]; simp [trA]; omega
  have : bac (z :: zs) = DC z.1 (trA z.2) ++ bac zs := rfl
  rw [this, List.length_append, rl, List.length_cons]
  have : z.1 * z.2 ≤ 12 * 6 := Nat.mul_le_mul hz.1 hz.2
  omega
theorem dB : ∀ {zs : List (Nat × Nat)}, (∀ z ∈ zs, z.1 ≤ 12 ∧ z.2 ≤ 6) → dds zs ≤ 85 * zs.length
 | [], _ => by simp [dds]
 | z :: zs, h => by
  have := dB fun u hu => h u (List.mem_cons_of_mem _ hu)
  have hz := h z List.mem_cons_self
  have : z.1 * (1 + z.2) ≤ 12 * 7 := Nat.mul_le_mul hz.1 (by omega)
  unfold dds at *
  rw [List.map_cons, List.sum_cons, List.length_cons]
  omega
theorem XJ : ∀ l : List Ac, depL (l.map Ac.D) ≤ 5
 | [] => by simp [depL]
 | a :: l => by
  rw [List.map_cons, depL]
  have := XJ l
  have : dep a.D ≤ 5 := by cases a <;> simp [Ac.D, dep, depL]
  omega
theorem kF {c t : Nat} (h : c ≤ 12 ∧ t ≤ 6) : (DC c (trA t)).length ≤ 72 := by
 have := MN (zs := [(c, t)]) fun z hz => by rw [List.mem_singleton] at hz; subst hz; exact h
 have e : bac [(c, t)] = DC c (trA t) ++ [] := rfl
 rw [e, List.append_nil] at this
 exact this
def oQ (K : PySem.W.Frag) (l : Addr) (v : V) (dd : Int) (zs : List (Nat × Nat)) (H : Hp) (i : Nat) (σ : L2.St) (H2 : Hp) : Prop := ∃ (vd : V) (o3 o4 o5 o7 : Option V), σ = [some (.ref l), some v, some (.int dd), o3, o4, o5, some vd, o7] ∧ AI H H2 ∧ Rp K H2 (.tup ((bac (zs.take i)).map Ac.D)) vd
theorem SX (T : Txt K mg t) : BF P w K mg base CX0 11 t.a_Lbydeeds t.d_Lbydeeds ["_law_row_here"] (fI K) := by
 refine T.Lbydeeds.F.ok BQ (fun vs H Q E h => ?_) (fun cdv A outer s H vs Q E hr h => ?_)
 ·obtain ⟨l, xs, rfl, _⟩ := h; rfl
 ·obtain ⟨l, xs, rfl, hl, l16, hx, q⟩ := h
  have hu := hr.units
  refine ⟨_, s!"1{BQ.nd}VUI2{BQ.nd}DI{PassesOwn.never}{BV}D{CB}{CO}0ADHDGGCBr3{BQ.nd}M4{BQ.nd}{HU}{T.z_tuple}{boot_tuple}{AE EE}{["_law_row_here", "_law_body", "_law_deeds", "_law_k", "_law_inner", "_law_many", "_law_due", "_law_again"]}{["_law_turn"]}{["_law_turn"]}{[]}{BV}D{CB}{ZJ (K := K) rfl}0A{BV}{CC}D3AGDGHDGGCBr{fun _ _ _ _ => s!"0{show List.Nodup (["_law_turn"] : List Str) by decide +kernel}M"}{fun _ _ _ _ => s!"w"}{fun _ _ _ _ => s!"J{BV}D0AGCBBP"}vCBuI5{BQ.nd}{BV}D{CB}{CO}0A{BV}{CC}D3AGDGHDGGI1{BQ.nd}{FS}1AJ5A4ACBBBPCQPGI2{BQ.nd}{BV}{BV}2ADG{CC}5A{BV}D{CK}{T.z_len}{PySem.boot_len}4ACBbGGGIFEEEn{@PW.pt _ _ _ s!"{JT}{CU T}{hr.mono (by decide)}{T.Lrefused.m}{T.Lrefused.F.kp}{T.Lrefused.b}{CM}1A2ACBBLJ{BB _}R{JT}{CU T}{hr.mono (by decide)}{T.Lrefused.m}{T.Lrefused.F.kp}{T.Lrefused.b}{CM}1ADCBBLJ{BB _}R'&"}oNFYO6{BQ.nd}VUI{PassesOwn.never}1A$7{BQ.nd}M5{BQ.nd}M4{BQ.nd}MdSSSg6{BQ.nd}{FS}6A{dL}4A5AGGIFn{gN hu}{BF.downR (MV T)}{hr.mono (by decide)}{T.putin.m}{T.putin.F.kp}{T.putin.b}{CM}VU1ACBQP2ACBQLVU6ACBQP{BB _}RoNFYO{CZ}{CU T}{hr.mono (by decide)}{T.Lrefused.m}{T.Lrefused.F.kp}{T.Lrefused.b}{CM}1A{HH}2ADGCBBLJc{CZ}{CU T}{hr.mono (by decide)}{T.Lrefused.m}{T.Lrefused.F.kp}{T.Lrefused.b}{CM}1ADCBBLJc#!NFEEEEEEE", ?_⟩
  walk_at "ro"
  intro v0 H0 s0 r0
  obtain ⟨z0, e0, p0'⟩ := IE l16 hx 0 (by decide)
  refine ⟨_, SqL.of (s0 _ _ hl), _, e0, ?_⟩
  dsimp only
  obtain ⟨nb, enb, nb1, nb6⟩ : ∃ nb : Nat, 1 + z0 % 6 = (nb : Int) ∧ 1 ≤ nb ∧ nb ≤ 6 := ⟨(1 + z0 % 6).toNat, by omega, by omega, by omega⟩
  rw [enb]
  refine ⟨by decide, by omega, by omega, ?_⟩
  rw [Int.toNat_natCast]
  refine NG (pQ K l H) ⟨v0, [], none, none, none, rfl, s0, r0, rfl, fun z h => by cases h⟩ ?_ ?_
  ·rintro i σ H2 hi ⟨v, zs, o3, o4, o5, rfl, s2, r2, lz, hz⟩
   rw [Int.zero_add]
   obtain ⟨za, ea, pa'⟩ := IE l16 hx (2 * i + 1) (by omega)
   obtain ⟨zc, ec, pc'⟩ := IE l16 hx (2 * i + 2) (by omega)
   walk_at "ro"
   refine ⟨FG (by decide) (by decide), _, SqL.of (s2 _ _ hl), _, (by rw [show (2 : Int) * (i : Int) + 1 = ((2 * i + 1 : Nat) : Int) by omega]; exact ea), ?_⟩
   dsimp only
   obtain ⟨t, et, t1, t6⟩ : ∃ t : Nat, 1 + za % 6 = (t : Int) ∧ 1 ≤ t ∧ t ≤ 6 := ⟨(1 + za % 6).toNat, by omega, by omega, by omega⟩
   rw [et]
   refine ⟨by decide, by omega, by omega, fun p hp => ?_⟩
   rw [Int.toNat_natCast]
   have u1 := AI.upd (o := .lst []) hp
   refine SY (oX K p H2) ⟨[], none, rfl, u1, AB, RpL.nil⟩ ?_ ?_
   ·rintro j σ H3 hj ⟨us, o1, rfl, s3, h3, r3⟩
    walk_at "rd"
    refine ⟨by decide, fun p1 hp1 => ?_⟩
    rw [Int.zero_add]
    have w1 := AI.upd (o := .tup [.str (Str.ofString "turn"), .int (1 + (j : Int))]) hp1
    have h4 := w1 _ _ h3
    have t4 : AM (upd H3 p1 (.tup [.str (Str.ofString "turn"), .int (1 + (j : Int))])) (upd (upd H3 p1 (.tup [.str (Str.ofString "turn"), .int (1 + (j : Int))])) p (.lst (us ++ [.ref p1]))) := (AM.refl _).upd (CS h4)
    have lus : us.length = j := by rw [r3.length, List.length_map, HC]
    refine ⟨us, h4, DO (by omega), nx hj ⟨us ++ [.ref p1], _, rfl, (s3.trans w1).upd2 hp, AB, ?_⟩⟩
    rw [KR, List.map_append]
    refine RpL.t t4 ((r3.same w1).app (RpL.one ?_))
    rw [Stm.D]
    exact FX (SqT.of AB) (CD (PJ _) (RpL.one (by rw [Am.D]; exact HY _)))
   ·rintro σ H3 ⟨us, o1, rfl, s3, h3, r3⟩
    refine ⟨_, SqL.of h3, fun p1 hp1 => ?_⟩
    have w1 := AI.upd (o := .tup us) hp1
    have rt : Rp K (upd H3 p1 (.tup us)) (bD (trn t)) (.ref p1) := FX (SqT.of AB) (r3.same w1)
    have lus : us.length = t := by rw [r3.length, List.length_map, HC]
    have ht : SqT K (upd H3 p1 (.tup us)) p1 us := SqT.of AB
    have S := s3.trans w1
    generalize upd H3 p1 (.tup us) = H4 at rt ht S ⊢
    clear s3 h3 r3 w1 hp1 u1 hp
    have r2 := r2.same S
    have s2 := s2.trans S
    walk_at "ro"
    refine ⟨FG (by decide) (by decide), _, SqL.of (s2 _ _ hl), _, (by rw [show (2 : Int) * (i : Int) + 2 = ((2 * i + 2 : Nat) : Int) by omega]; exact ec), ?_⟩
    dsimp only
    obtain ⟨c, ecc, c1, c12⟩ : ∃ c : Nat, 1 + zc % 12 = (c : Int) ∧ 1 ≤ c ∧ c ≤ 12 := ⟨(1 + zc % 12).toNat, by omega, by omega, by omega⟩
    rw [ecc]
    refine ⟨by decide, ?_⟩
    walk_at "ro"
    refine ⟨by decide, fun pA hpA => ⟨by decide, fun pB hpB => ?_⟩⟩
    have w1 := AI.upd (o := .tup [.str (Str.ofString "again"), .int c, .ref p1]) hpA
    have w2 := AI.upd (o := .tup [.ref pA]) hpB
    have w12 := w1.trans w2
    have ed : ((dds (zs ++ [(c, t)]) : Nat) : Int) = (dds zs : Int) + 1 + (c : Int) * (1 + (t : Int)) := by
     have : dds (zs ++ [(c, t)]) = dds zs + 1 + c * (1 + t) := by
      unfold dds
      rw [List.map_append, List.sum_append]
      simp only [List.map_cons, List.map_nil, List.sum_cons, List.sum_nil]
      omega
     rw [this]
     simp [Int.natCast_add, Int.natCast_mul]
    refine ⟨_, r2.same w12, [(blk (c, t)).D], FX (SqT.of AB) (RpL.one ?_), ?_, fun v' H5 s5 r5 => ⟨us, .inr (s5.tup (w12.tup ht)), ?_, ?_⟩⟩
    ·rw [blk, Stm.D, JZ]
     exact FX (w2.tup (SqT.of AB)) (CD (PJ _) (CD (by rw [Am.D]; exact HY _) (RpL.one (rt.same w12))))
    ·rw [List.length_map, List.length_map]; exact Nat.le_of_lt (DO (by simp only [List.length_cons, List.length_nil]; omega))
    ·exact FG (by omega) (by omega)
    ·rw [lus, ← ed]
     refine ⟨v', zs ++ [(c, t)], _, _, _, rfl, s2.trans (w12.trans s5), ?_, by rw [List.length_append, lz]; rfl, fun z hz' => ?_⟩
     ·rw [List.map_append, bD, List.map_append]; exact r5
     ·rcases List.mem_append.mp hz' with h | h
      ·exact hz z h
      ·rw [List.mem_singleton] at h; subst h; exact ⟨c1, c12, t1, t6⟩
  ·rintro σ H2 ⟨v, zs, o3, o4, o5, rfl, s2, r2, lz, hz⟩
   have hzz : ∀ z ∈ zs, z.1 ≤ 12 ∧ z.2 ≤ 6 := fun z h => ⟨(hz z h).2.1, (hz z h).2.2.2⟩
   have hsm : ∀ z ∈ zs, sml z := fun z h => ⟨by have := (hzz z h).1; omega, by have := (hzz z h).2; omega⟩
   have ld := dB hzz
   have lb := MN hzz
   walk_at "ro"
   refine ⟨v, dds zs, zs.map blk, rfl, r2, by omega, NW (@KW zs), fun H3 s3 => ?_⟩
   rw [RL hsm (Nat.le_refl _)]
   dsimp only [pW]
   rw [if_neg (by simp)]
   refine ⟨v, 2000, zs.map blk, rfl, r2.same s3, by omega, NW (@KW zs), fun H4 s4 => ?_⟩
   rw [RL hsm (by omega)]
   dsimp only [pW]
   rw [if_neg (by simp)]
   intro vd H5 s5 rd
   have S := (s2.trans s3).trans (s4.trans s5)
   have r2 := (r2.same s3).same (s4.trans s5)
   obtain ⟨pv, xv, rfl, hpv, rxv, lxv⟩ := MI r2
   dsimp only
   refine ⟨⟨_, hpv⟩, ?_⟩
   refine nU (xs := xv) (oQ K l (.ref pv) (dds zs) zs H5) ⟨vd, o3, o4, o5, none, rfl, AI.refl _, rd⟩ (fun i σ H7 _ z => by obtain ⟨_, _, _, _, _, rfl, s7, _⟩ := z; exact s7.tup hpv) ?_ ?_
   ·rintro i x σ H6 hx' ⟨vd, o3, o4, o5, o7, rfl, s6, r6⟩
    have hi : i < xv.length := (List.getElem?_eq_some_iff.mp hx').1
    have hiz : i < zs.length := by rw [lxv, List.length_map] at hi; exact hi
    obtain ⟨y, ey, ry⟩ := (rxv.same s6).at (j := i) (by rw [List.length_map, List.length_map]; exact hiz)
    rw [hx'] at ey; cases ey
    rw [List.getD_eq_getElem?_getD, List.getElem?_map, List.getElem?_map, List.getElem?_eq_getElem hiz] at ry
    have ry : Rp K H6 (blk zs[i]).D x := ry
    have et : bac (zs.take (i + 1)) = bac (zs.take i) ++ DC zs[i].1 (trA zs[i].2) := by
     rw [List.take_add_one, List.getElem?_eq_getElem hiz]
     unfold bac
     rw [List.flatMap_append]
     show _ ++ (DC _ _ ++ []) = _
     rw [List.append_nil]
    have hzi := hz _ (List.getElem_mem hiz)
    have lti : (bac (zs.take i)).length ≤ 72 * zs.length := Nat.le_trans (MN fun u hu => hzz u (List.mem_of_mem_take hu)) (Nat.mul_le_mul_left _ (by rw [List.length_take]; omega))
    generalize zs[i] = z at ry et hzi
    obtain ⟨c, t⟩ := z
    rw [blk, Stm.D, JZ] at ry
    obtain ⟨pz, yz, rfl, hpz, rz⟩ := BN.mp ry
    obtain ⟨y0, y1, y2, rfl, g0, g1, g2⟩ := NE rz
    have g1 : y1 = .int c := by rw [Am.D, Rp] at g1; exact g1
    subst g1
    have g2 : Rp K H6 (.tup ((trA t).map Ac.D)) y2 := by rw [← trD]; exact g2
    have ltA : ((trA t).map Ac.D).length = t := by rw [List.length_map]; simp [trA]
    walk_at "rd"
    refine ⟨_, hpz, rfl, ?_⟩
    walk_at "rd"
    have hct : c ≤ 12 ∧ t ≤ 6 := ⟨hzi.2.1, hzi.2.2.2⟩
    have lrp := kF hct
    have c1 : 1 ≤ c := hzi.1
    have ltc : t * c ≤ 6 * 12 := Nat.mul_le_mul hct.2 hct.1
    have lz6 : zs.length ≤ 6 := by omega
    refine ⟨_, g2, by omega, by omega, ?_, fun vm H7 s7 r7 => ?_⟩
    ·rw [ltA, Int.toNat_natCast]; exact Nat.le_of_lt (DO (by omega))
    rw [Int.toNat_natCast, ← ZP] at r7
    refine ⟨_, r6.same s7, _, r7, ?_, fun v8 H8 s8 r8 => ⟨v8, _, _, _, _, rfl, (s6.trans s7).trans s8, ?_⟩⟩
    ·rw [List.length_map, List.length_map]; exact Nat.le_of_lt (DO (by omega))
    ·rw [et, List.map_append]; exact r8
   ·rintro σ H6 ⟨vd, o3, o4, o5, o7, rfl, s6, r6⟩
    have lzs : xv.length = zs.length := by rw [lxv, List.length_map]
    rw [lzs, List.take_length] at r6
    walk_at "ro"
    intro va Ha sa ra
    refine ⟨by decide, fun p hp => ?_⟩
    have u1 := AI.upd (o := .tup [va, .ref pv]) hp
    have r2 := (r2.same s6).same (sa.trans u1)
    have r6 := r6.same (sa.trans u1)
    have S := (S.trans s6).trans (sa.trans u1)
    refine ⟨.ref p, dds zs, [], zs.map blk, rfl, CN.mpr ⟨p, _, _, rfl, SqT.of AB, ra.same u1, r2⟩, by omega, NW (@KW zs), ?_⟩
    rw [RL hsm (Nat.le_refl _)]
    intro vr Hb sb rb vc Hc sc rc
    refine ⟨by decide, fun p2 hp2 => ?_⟩
    have u2 := AI.upd (o := .tup [vc, vd]) hp2
    refine ⟨mG (rb.same (sc.trans u2)) (FX (SqT.of AB) (CD (rc.same u2) (RpL.one ((r6.same sb).same (sc.trans u2))))) ?_, ?_⟩
    ·have := XJ (bac zs)
     simp only [depL, dep]
     omega
    dsimp only
    rw [if_neg (by decide)]
    have sbc := sb.trans (sc.trans u2)
    have r2 := r2.same sbc
    have S := S.trans sbc
    obtain ⟨zl, c, t, ez, hc1, ht1⟩ : ∃ zl c t, zs = zl ++ [(c + 1, t + 1)] ∧ (∀ z ∈ zl, sml z) ∧ sml (c + 1, t + 1) := by
     rcases List.eq_nil_or_concat zs with h | ⟨zl, z, h⟩
     ·rw [h] at lz; simp at lz; omega
     ·rw [List.concat_eq_append] at h
      have hzz1 := hz z (by rw [h]; simp)
      obtain ⟨c, t⟩ := z
      obtain ⟨a1, a2, a3, a4⟩ := hzz1
      have a1 : 1 ≤ c := a1
      have a3 : 1 ≤ t := a3
      have s1 := hsm (c, t) (by rw [h]; simp)
      refine ⟨zl, c - 1, t - 1, ?_, fun z hz' => hsm z (by rw [h]; exact List.mem_append_left _ hz'), ?_⟩
      ·rw [h, show c - 1 + 1 = c by omega, show t - 1 + 1 = t by omega]
      ·rw [show c - 1 + 1 = c by omega, show t - 1 + 1 = t by omega]; exact s1
    have d1 : 1 ≤ dds zs := by rw [ez]; unfold dds; rw [List.map_append, List.sum_append]; simp; omega
    refine ⟨.ref pv, dds zs - 1, zs.map blk, by rw [show ((dds zs - 1 : Nat) : Int) = (dds zs : Int) - 1 by omega], r2, by omega, NW (@KW zs), fun Hd sd => ?_⟩
    have e9 : FK (wk (BX []) (dds zs - 1) (ms0 (zs.map blk))) = .long := by rw [ez]; exact bH hc1 ht1
    rw [e9]
    dsimp only [pW]
    rw [if_pos rfl]
    refine ⟨.ref pv, 0, zs.map blk, rfl, r2.same sd, by omega, NW (@KW zs), fun He se => ?_⟩
    have e10 : FK (wk (BX []) 0 (ms0 (zs.map blk))) = .long := by
     cases zs with
     | nil => simp at ez
     | cons z zs => exact gG
    rw [e10]
    exact q _ (S.trans (sd.trans se))
end
section
variable {P : Program} {w : World} {K : PySem.W.Frag} {mg : Str → Option Value} {base : Heap} {t : Adr}
def SF (K : PySem.W.Frag) : Sp := fun vs H Q _ => ∃ (a : Addr) (ns : List Int), vs = [.ref a] ∧ SqL K H a (ns.map V.int) ∧ ns.length ≤ 63 ∧ ∀ H', Q (.bl true) H'
def oW (a l : Addr) (H : Hp) (_ : Nat) (σ : L2.St) (H2 : Hp) : Prop := ∃ o2 : Option V, σ = [some (.ref a), some (.ref l), o2, none, none] ∧ AI H H2
def pS (a l : Addr) (H : Hp) (_ : Nat) (σ : L2.St) (H2 : Hp) : Prop := ∃ o2 o3 o4 : Option V, σ = [some (.ref a), some (.ref l), o2, o3, o4] ∧ AI H H2
theorem nG (T : Txt K mg t) : BF P w K mg base CX0 12 t.a_law t.d_law ["_law_script"] (SF K) := by
 refine T.law.F.ok NF (fun vs H Q E h => ?_) (fun cdv A outer s H vs Q E hr h => ?_)
 ·obtain ⟨a, ns, rfl, _⟩ := h; rfl
 ·obtain ⟨a, ns, rfl, hS, hl, q⟩ := h
  refine ⟨_, s!"1{NF.nd}{YK T}{hr.mono (by decide)}{T.Lrow.m}{T.Lrow.F.kp}{T.Lrow.b}{CM}{TB T}{hr.mono (by decide)}{T.Lcell.m}{T.Lcell.F.kp}{T.Lcell.b}{CM}0ADCBBL{HS}DDGDCBBBLI{PassesOwn.never}DDD{CB}{CO}1ADHDGCBBBBZt2{NF.nd}M{UC T}{hr.mono (by decide)}{T.Lbybacks.m}{T.Lbybacks.F.kp}{T.Lbybacks.b}{CM}2ACBLeloNFYOFn{PassesOwn.never}{@ZC _ _ _ _ _ _ _ (by rfl) T.z_range s!"D{VW rfl}{T.z_max}{boot_max}D{WP rfl}{T.z_min}{boot_min}D{CK}{T.z_len}{PySem.boot_len}0ACBbCBBbCBBbCBB" (by rfl) (by rfl)}3{NF.nd}M4{NF.nd}{YK T}{hr.mono (by decide)}{T.Lrow.m}{T.Lrow.F.kp}{T.Lrow.b}{CM}{TB T}{hr.mono (by decide)}{T.Lcell.m}{T.Lcell.F.kp}{T.Lcell.b}{CM}0A3ACBBL{HS}DDGDCBBBLI{@PW.pt _ _ _ s!"{SX T}{hr.mono (by decide)}{T.Lbydeeds.m}{T.Lbydeeds.F.kp}{T.Lbydeeds.b}{CM}4ACBLel{VB T}{hr.mono (by decide)}{T.Lbysteps.m}{T.Lbysteps.F.kp}{T.Lbysteps.b}{CM}4ACBLel'&"}oNFYOFEnoNFEEE", ?_⟩
  walk_at "ro"
  refine ⟨a, ns, 0, rfl, hS, hl, by decide, by decide, fun zc => ⟨⟨by decide, by decide, by decide⟩, ?_⟩⟩
  refine ⟨zc, 10 ^ Int.toNat 7, 16, rfl, by decide, by decide, by decide, by decide, fun l xs H1 s1 fl h1 lx hx => ?_⟩
  have l16 : xs.length = 16 := lx
  obtain ⟨z0, e0, p0'⟩ := IE l16 (fun x h => (hx x h).1) 0 (by decide)
  walk_at "ro"
  refine ⟨_, SqL.of h1, _, e0, ?_⟩
  dsimp only
  obtain ⟨m, em, m1⟩ : ∃ m : Nat, z0 % 121 = (m : Int) ∧ m ≤ 120 := ⟨(z0 % 121).toNat, by omega, by omega⟩
  rw [em]
  refine ⟨by decide, by decide, fun p hp => ⟨⟨_, SqL.of AB⟩, ?_⟩⟩
  have u1 := AI.upd (o := .lst [.int 99, .int 100, .int 101, .int m]) hp
  have hP := AB (H := H1) (a := p) (o := .lst [.int 99, .int 100, .int 101, .int m])
  have S := s1.trans u1
  generalize upd H1 p (.lst [.int 99, .int 100, .int 101, .int m]) = H2 at hP S ⊢
  clear u1 hp h1
  refine QX (xs := [.int 99, .int 100, .int 101, .int m]) (oW a l H2) ⟨none, rfl, AI.refl _⟩ (fun i σ H7 _ z => by obtain ⟨_, rfl, s7⟩ := z; exact SqL.of (s7 _ _ hP)) ?_ ?_
  ·rintro i x σ H3 hx' ⟨o2, rfl, s3⟩
   obtain ⟨n, rfl, ln⟩ : ∃ n : Nat, x = .int n ∧ n ≤ 200 := by
    match i, hx' with
    | 0, hx' => cases hx'; exact ⟨99, rfl, by decide⟩
    | 1, hx' => cases hx'; exact ⟨100, rfl, by decide⟩
    | 2, hx' => cases hx'; exact ⟨101, rfl, by decide⟩
    | 3, hx' => cases hx'; exact ⟨m, rfl, by omega⟩
    | n + 4, hx' => cases hx'
   walk_at "rd"
   refine ⟨n, rfl, ln, fun H4 s4 => ?_⟩
   dsimp only
   rw [if_neg (by decide)]
   exact ⟨_, rfl, s3.trans s4⟩
  ·rintro σ H3 ⟨o2, rfl, s3⟩
   have S := S.trans s3
   walk_at "ro"
   obtain ⟨c, ec, c0, c9⟩ : ∃ c : Int, (if (if ((ns.map V.int).length : Int) < 9 then ((ns.map V.int).length : Int) else 9) > 2 then if ((ns.map V.int).length : Int) < 9 then ((ns.map V.int).length : Int) else 9 else 2) = c ∧ 2 ≤ c ∧ c ≤ 9 := by
    refine ⟨_, rfl, ?_, ?_⟩ <;> (split <;> (try split) <;> omega)
   refine ⟨_, .inl (S.seq hS), ?_⟩
   rw [ec]
   refine ⟨by decide, by decide, by omega, by omega, ?_⟩
   refine NG (pS a l H3) ⟨o2, none, none, rfl, AI.refl _⟩ ?_ ?_
   ·rintro i σ H4 hi ⟨o2, o3, o4, rfl, s4⟩
    have hi9 : i < 9 := by omega
    have S := S.trans s4
    walk_at "ro"
    refine ⟨a, ns, 1 + (i : Int), rfl, S.seq hS, hl, by omega, by omega, fun zc => ⟨⟨by decide, by decide, by decide⟩, ?_⟩⟩
    refine ⟨zc, 10 ^ Int.toNat 7, 16, rfl, by decide, by decide, by decide, by decide, fun l2 xs2 H5 s5 fl2 h5 lx2 hx2 => ?_⟩
    walk_at "ro"
    refine ⟨l2, xs2, rfl, h5, lx2, fun x h => (hx2 x h).1, fun H6 s6 => ?_⟩
    dsimp only
    rw [if_neg (by decide)]
    refine ⟨l2, xs2, rfl, s6 _ _ h5, lx2, fun x h => (hx2 x h).1, fun H7 s7 => ?_⟩
    dsimp only
    rw [if_neg (by decide)]
    exact ⟨_, _, _, rfl, (s4.trans s5).trans (s6.trans s7)⟩
   ·rintro σ H4 ⟨o2, o3, o4, rfl, s4⟩
    exact q _
end
@[elab_as_elim] theorem LF {α : Type} {Pr : List α → Prop} (us : List α) (hl : us.length = 1) (h : ∀ a, Pr [a]) : Pr us := by
 match us, hl with
 | [a], _ => exact h a
@[elab_as_elim] theorem HR {α : Type} {Pr : List α → Prop} (us : List α) (hl : us.length = 2) (h : ∀ a b, Pr [a, b]) : Pr us := by
 match us, hl with
 | [a, b], _ => exact h a b
@[elab_as_elim] theorem YQ {α : Type} {Pr : List α → Prop} (us : List α) (hl : us.length = 3) (h : ∀ a b c, Pr [a, b, c]) : Pr us := by
 match us, hl with
 | [a, b, c], _ => exact h a b c
@[elab_as_elim] theorem len4 {α : Type} {Pr : List α → Prop} (us : List α) (hl : us.length = 4) (h : ∀ a b c d, Pr [a, b, c, d]) : Pr us := by
 match us, hl with
 | [a, b, c, d], _ => exact h a b c d
theorem all_mk {l : PySem.W.OpenLaw} {w : World} {K : PySem.W.Frag} {h : Heap} {mg : Str → Option Value} {fa : Addr} (X : K.In h) (G : h.Ns mainGlobals mg) (hfa : mg "law" = some (.ref fa))
  {c_Hand : Addr}
  {c_Level : Addr}
  {c_Walk : Addr}
  {f0 : Addr} {od0 an0 : Option Addr} {sl0 : Array (Option Value)} {oc0 kV0 dc0 pm0 cd0 ct0 : Value}
  {f1 : Addr} {od1 an1 : Option Addr} {sl1 : Array (Option Value)} {oc1 kV1 dc1 pm1 cd1 ct1 : Value}
  {f2 : Addr} {od2 an2 : Option Addr} {sl2 : Array (Option Value)} {oc2 kV2 dc2 pm2 cd2 ct2 : Value}
  {f3 : Addr} {od3 an3 : Option Addr} {sl3 : Array (Option Value)} {oc3 kV3 dc3 pm3 cd3 ct3 : Value}
  {f4 : Addr} {od4 an4 : Option Addr} {sl4 : Array (Option Value)} {oc4 kV4 dc4 pm4 cd4 ct4 : Value}
  {f5 : Addr} {od5 an5 : Option Addr} {sl5 : Array (Option Value)} {oc5 kV5 dc5 pm5 cd5 ct5 : Value}
  {f6 : Addr} {od6 an6 : Option Addr} {sl6 : Array (Option Value)} {oc6 kV6 dc6 pm6 cd6 ct6 : Value}
  {f7 : Addr} {od7 an7 : Option Addr} {sl7 : Array (Option Value)} {oc7 kV7 dc7 pm7 cd7 ct7 : Value}
  {f8 : Addr} {od8 an8 : Option Addr} {sl8 : Array (Option Value)} {oc8 kV8 dc8 pm8 cd8 ct8 : Value}
  {f9 : Addr} {od9 an9 : Option Addr} {sl9 : Array (Option Value)} {oc9 kV9 dc9 pm9 cd9 ct9 : Value}
  {f10 : Addr} {od10 an10 : Option Addr} {sl10 : Array (Option Value)} {oc10 kV10 dc10 pm10 cd10 ct10 : Value}
  {f11 : Addr} {od11 an11 : Option Addr} {sl11 : Array (Option Value)} {oc11 kV11 dc11 pm11 cd11 ct11 : Value}
  {f12 : Addr} {od12 an12 : Option Addr} {sl12 : Array (Option Value)} {oc12 kV12 dc12 pm12 cd12 ct12 : Value}
  {f13 : Addr} {od13 an13 : Option Addr} {sl13 : Array (Option Value)} {oc13 kV13 dc13 pm13 cd13 ct13 : Value}
  {f14 : Addr} {od14 an14 : Option Addr} {sl14 : Array (Option Value)} {oc14 kV14 dc14 pm14 cd14 ct14 : Value}
  {f15 : Addr} {od15 an15 : Option Addr} {sl15 : Array (Option Value)} {oc15 kV15 dc15 pm15 cd15 ct15 : Value}
  {f16 : Addr} {od16 an16 : Option Addr} {sl16 : Array (Option Value)} {oc16 kV16 dc16 pm16 cd16 ct16 : Value}
  {f17 : Addr} {od17 an17 : Option Addr} {sl17 : Array (Option Value)} {oc17 kV17 dc17 pm17 cd17 ct17 : Value}
  {f18 : Addr} {od18 an18 : Option Addr} {sl18 : Array (Option Value)} {oc18 kV18 dc18 pm18 cd18 ct18 : Value}
  {f19 : Addr} {od19 an19 : Option Addr} {sl19 : Array (Option Value)} {oc19 kV19 dc19 pm19 cd19 ct19 : Value}
  {f20 : Addr} {od20 an20 : Option Addr} {sl20 : Array (Option Value)} {oc20 kV20 dc20 pm20 cd20 ct20 : Value}
  {f21 : Addr} {od21 an21 : Option Addr} {sl21 : Array (Option Value)} {oc21 kV21 dc21 pm21 cd21 ct21 : Value}
  {f22 : Addr} {od22 an22 : Option Addr} {sl22 : Array (Option Value)} {oc22 kV22 dc22 pm22 cd22 ct22 : Value}
  {f23 : Addr} {od23 an23 : Option Addr} {sl23 : Array (Option Value)} {oc23 kV23 dc23 pm23 cd23 ct23 : Value}
  {f24 : Addr} {od24 an24 : Option Addr} {sl24 : Array (Option Value)} {oc24 kV24 dc24 pm24 cd24 ct24 : Value}
  {f25 : Addr} {od25 an25 : Option Addr} {sl25 : Array (Option Value)} {oc25 kV25 dc25 pm25 cd25 ct25 : Value}
  {f26 : Addr} {od26 an26 : Option Addr} {sl26 : Array (Option Value)} {oc26 kV26 dc26 pm26 cd26 ct26 : Value}
  {f27 : Addr} {od27 an27 : Option Addr} {sl27 : Array (Option Value)} {oc27 kV27 dc27 pm27 cd27 ct27 : Value}
  {f28 : Addr} {od28 an28 : Option Addr} {sl28 : Array (Option Value)} {oc28 kV28 dc28 pm28 cd28 ct28 : Value}
  {f29 : Addr} {od29 an29 : Option Addr} {sl29 : Array (Option Value)} {oc29 kV29 dc29 pm29 cd29 ct29 : Value}
  {f30 : Addr} {od30 an30 : Option Addr} {sl30 : Array (Option Value)} {oc30 kV30 dc30 pm30 cd30 ct30 : Value}
  {f31 : Addr} {od31 an31 : Option Addr} {sl31 : Array (Option Value)} {oc31 kV31 dc31 pm31 cd31 ct31 : Value}
  {f32 : Addr} {od32 an32 : Option Addr} {sl32 : Array (Option Value)} {oc32 kV32 dc32 pm32 cd32 ct32 : Value}
  {f33 : Addr} {od33 an33 : Option Addr} {sl33 : Array (Option Value)} {oc33 kV33 dc33 pm33 cd33 ct33 : Value}
  {f34 : Addr} {od34 an34 : Option Addr} {sl34 : Array (Option Value)} {oc34 kV34 dc34 pm34 cd34 ct34 : Value}
  {f35 : Addr} {od35 an35 : Option Addr} {sl35 : Array (Option Value)} {oc35 kV35 dc35 pm35 cd35 ct35 : Value}
  {f36 : Addr} {od36 an36 : Option Addr} {sl36 : Array (Option Value)} {oc36 kV36 dc36 pm36 cd36 ct36 : Value}
  {f37 : Addr} {od37 an37 : Option Addr} {sl37 : Array (Option Value)} {oc37 kV37 dc37 pm37 cd37 ct37 : Value}
  (aC_Hand : PySem.W.nsIn K mainGlobals "Hand" = some (some (.ref c_Hand))) (pg_Hand : PySem.W.plainGet K c_Hand Str.empty = true) (hd_Hand : PySem.W.hasDictIn K c_Hand = true) (po_Hand : PySem.W.plainOver K c_Hand = true) (sa_Hand : PySem.W.findIn K (.ref c_Hand) "__setattr__" = some (some (.builtin "object.__setattr__"))) (mk_Hand : PySem.W.makesIn K c_Hand = true) (kc_Hand : PySem.W.keepIn K (.ref c_Hand) = true)
  (n_Hand_spot : PySem.W.findIn K (.ref c_Hand) "spot" = some none)
  (n_Hand_heading : PySem.W.findIn K (.ref c_Hand) "heading" = some none)
  (n_Hand_down : PySem.W.findIn K (.ref c_Hand) "down" = some none)
  (n_Hand_ink : PySem.W.findIn K (.ref c_Hand) "ink" = some none)
  (n_Hand_turned : PySem.W.findIn K (.ref c_Hand) "turned" = some none)
  (n_Hand_marks : PySem.W.findIn K (.ref c_Hand) "marks" = some none)
  (n_Hand_strokes : PySem.W.findIn K (.ref c_Hand) "strokes" = some none)
  (n_Hand_corners : PySem.W.findIn K (.ref c_Hand) "corners" = some none)
  (aC_Level : PySem.W.nsIn K mainGlobals "Level" = some (some (.ref c_Level))) (pg_Level : PySem.W.plainGet K c_Level Str.empty = true) (hd_Level : PySem.W.hasDictIn K c_Level = true) (po_Level : PySem.W.plainOver K c_Level = true) (sa_Level : PySem.W.findIn K (.ref c_Level) "__setattr__" = some (some (.builtin "object.__setattr__"))) (mk_Level : PySem.W.makesIn K c_Level = true) (kc_Level : PySem.W.keepIn K (.ref c_Level) = true)
  (n_Level_body : PySem.W.findIn K (.ref c_Level) "body" = some none)
  (n_Level_sources : PySem.W.findIn K (.ref c_Level) "sources" = some none)
  (n_Level_at : PySem.W.findIn K (.ref c_Level) "at" = some none)
  (n_Level_begun : PySem.W.findIn K (.ref c_Level) "begun" = some none)
  (n_Level_rounds : PySem.W.findIn K (.ref c_Level) "rounds" = some none)
  (aC_Walk : PySem.W.nsIn K mainGlobals "Walk" = some (some (.ref c_Walk))) (pg_Walk : PySem.W.plainGet K c_Walk Str.empty = true) (hd_Walk : PySem.W.hasDictIn K c_Walk = true) (po_Walk : PySem.W.plainOver K c_Walk = true) (sa_Walk : PySem.W.findIn K (.ref c_Walk) "__setattr__" = some (some (.builtin "object.__setattr__"))) (mk_Walk : PySem.W.makesIn K c_Walk = true) (kc_Walk : PySem.W.keepIn K (.ref c_Walk) = true)
  (n_Walk_bodies : PySem.W.findIn K (.ref c_Walk) "bodies" = some none)
  (n_Walk_levels : PySem.W.findIn K (.ref c_Walk) "levels" = some none)
  (n_Walk_hand : PySem.W.findIn K (.ref c_Walk) "hand" = some none)
  (n_Walk_acts : PySem.W.findIn K (.ref c_Walk) "acts" = some none)
  (a0 : PySem.W.nsIn K mainGlobals "plus" = some (some (.ref f0))) (l0 : K.lookup f0 = some ⟨oc0, od0, .func (PySem.W.fnOf "plus" "plus" (AN LQ) (AL LQ) (AE LQ) .none kV0 dc0 pm0 an0 cd0 ct0), sl0⟩) (c0 : PySem.W.codeIn K cd0 "plus" = true) (k0 : PySem.W.keepIn K (.ref f0) = true)
  (a1 : PySem.W.nsIn K mainGlobals "minus" = some (some (.ref f1))) (l1 : K.lookup f1 = some ⟨oc1, od1, .func (PySem.W.fnOf "minus" "minus" (AN IS) (AL IS) (AE IS) .none kV1 dc1 pm1 an1 cd1 ct1), sl1⟩) (c1 : PySem.W.codeIn K cd1 "minus" = true) (k1 : PySem.W.keepIn K (.ref f1) = true)
  (a2 : PySem.W.nsIn K mainGlobals "times" = some (some (.ref f2))) (l2 : K.lookup f2 = some ⟨oc2, od2, .func (PySem.W.fnOf "times" "times" (AN JB) (AL JB) (AE JB) .none kV2 dc2 pm2 an2 cd2 ct2), sl2⟩) (c2 : PySem.W.codeIn K cd2 "times" = true) (k2 : PySem.W.keepIn K (.ref f2) = true)
  (a3 : PySem.W.nsIn K mainGlobals "moved" = some (some (.ref f3))) (l3 : K.lookup f3 = some ⟨oc3, od3, .func (PySem.W.fnOf "moved" "moved" (AN IR) (AL IR) (AE IR) .none kV3 dc3 pm3 an3 cd3 ct3), sl3⟩) (c3 : PySem.W.codeIn K cd3 "moved" = true) (k3 : PySem.W.keepIn K (.ref f3) = true)
  (a4 : PySem.W.findIn K (.ref c_Hand) "__init__" = some (some (.ref f4))) (i4 : PySem.W.isFn K (.ref f4) = true) (l4 : K.lookup f4 = some ⟨oc4, od4, .func (PySem.W.fnOf "__init__" "Hand.__init__" (AN EL) (AL EL) (AE EL) .none kV4 dc4 pm4 an4 cd4 ct4), sl4⟩) (c4 : PySem.W.codeIn K cd4 "Hand.__init__" = true) (k4 : PySem.W.keepIn K (.ref f4) = true)
  (a5 : PySem.W.findIn K (.ref c_Hand) "come_to" = some (some (.ref f5))) (i5 : PySem.W.isFn K (.ref f5) = true) (l5 : K.lookup f5 = some ⟨oc5, od5, .func (PySem.W.fnOf "come_to" "Hand.come_to" (AN DL) (AL DL) (AE DL) .none kV5 dc5 pm5 an5 cd5 ct5), sl5⟩) (c5 : PySem.W.codeIn K cd5 "Hand.come_to" = true) (k5 : PySem.W.keepIn K (.ref f5) = true)
  (a6 : PySem.W.findIn K (.ref c_Hand) "go" = some (some (.ref f6))) (i6 : PySem.W.isFn K (.ref f6) = true) (l6 : K.lookup f6 = some ⟨oc6, od6, .func (PySem.W.fnOf "go" "Hand.go" (AN FO) (AL FO) (AE FO) .none kV6 dc6 pm6 an6 cd6 ct6), sl6⟩) (c6 : PySem.W.codeIn K cd6 "Hand.go" = true) (k6 : PySem.W.keepIn K (.ref f6) = true)
  (a7 : PySem.W.findIn K (.ref c_Hand) "turn" = some (some (.ref f7))) (i7 : PySem.W.isFn K (.ref f7) = true) (l7 : K.lookup f7 = some ⟨oc7, od7, .func (PySem.W.fnOf "turn" "Hand.turn" (AN EJ) (AL EJ) (AE EJ) .none kV7 dc7 pm7 an7 cd7 ct7), sl7⟩) (c7 : PySem.W.codeIn K cd7 "Hand.turn" = true) (k7 : PySem.W.keepIn K (.ref f7) = true)
  (a8 : PySem.W.findIn K (.ref c_Hand) "back" = some (some (.ref f8))) (i8 : PySem.W.isFn K (.ref f8) = true) (l8 : K.lookup f8 = some ⟨oc8, od8, .func (PySem.W.fnOf "back" "Hand.back" (AN EH) (AL EH) (AE EH) .none kV8 dc8 pm8 an8 cd8 ct8), sl8⟩) (c8 : PySem.W.codeIn K cd8 "Hand.back" = true) (k8 : PySem.W.keepIn K (.ref f8) = true)
  (a9 : PySem.W.findIn K (.ref c_Hand) "act" = some (some (.ref f9))) (i9 : PySem.W.isFn K (.ref f9) = true) (l9 : K.lookup f9 = some ⟨oc9, od9, .func (PySem.W.fnOf "act" "Hand.act" (AN FA) (AL FA) (AE FA) .none kV9 dc9 pm9 an9 cd9 ct9), sl9⟩) (c9 : PySem.W.codeIn K cd9 "Hand.act" = true) (k9 : PySem.W.keepIn K (.ref f9) = true)
  (a10 : PySem.W.findIn K (.ref c_Hand) "end" = some (some (.ref f10))) (i10 : PySem.W.isFn K (.ref f10) = true) (l10 : K.lookup f10 = some ⟨oc10, od10, .func (PySem.W.fnOf "end" "Hand.end" (AN FT) (AL FT) (AE FT) .none kV10 dc10 pm10 an10 cd10 ct10), sl10⟩) (c10 : PySem.W.codeIn K cd10 "Hand.end" = true) (k10 : PySem.W.keepIn K (.ref f10) = true)
  (a11 : PySem.W.nsIn K mainGlobals "worth" = some (some (.ref f11))) (l11 : K.lookup f11 = some ⟨oc11, od11, .func (PySem.W.fnOf "worth" "worth" (AN IY) (AL IY) (AE IY) .none kV11 dc11 pm11 an11 cd11 ct11), sl11⟩) (c11 : PySem.W.codeIn K cd11 "worth" = true) (k11 : PySem.W.keepIn K (.ref f11) = true)
  (a12 : PySem.W.findIn K (.ref c_Level) "__init__" = some (some (.ref f12))) (i12 : PySem.W.isFn K (.ref f12) = true) (l12 : K.lookup f12 = some ⟨oc12, od12, .func (PySem.W.fnOf "__init__" "Level.__init__" (AN DV) (AL DV) (AE DV) .none kV12 dc12 pm12 an12 cd12 ct12), sl12⟩) (c12 : PySem.W.codeIn K cd12 "Level.__init__" = true) (k12 : PySem.W.keepIn K (.ref f12) = true)
  (a13 : PySem.W.findIn K (.ref c_Level) "is_at_end" = some (some (.ref f13))) (i13 : PySem.W.isFn K (.ref f13) = true) (l13 : K.lookup f13 = some ⟨oc13, od13, .func (PySem.W.fnOf "is_at_end" "Level.is_at_end" (AN CT) (AL CT) (AE CT) .none kV13 dc13 pm13 an13 cd13 ct13), sl13⟩) (c13 : PySem.W.codeIn K cd13 "Level.is_at_end" = true) (k13 : PySem.W.keepIn K (.ref f13) = true)
  (a14 : PySem.W.findIn K (.ref c_Level) "is_through" = some (some (.ref f14))) (i14 : PySem.W.isFn K (.ref f14) = true) (l14 : K.lookup f14 = some ⟨oc14, od14, .func (PySem.W.fnOf "is_through" "Level.is_through" (AN CF) (AL CF) (AE CF) .none kV14 dc14 pm14 an14 cd14 ct14), sl14⟩) (c14 : PySem.W.codeIn K cd14 "Level.is_through" = true) (k14 : PySem.W.keepIn K (.ref f14) = true)
  (a15 : PySem.W.findIn K (.ref c_Level) "begin_round" = some (some (.ref f15))) (i15 : PySem.W.isFn K (.ref f15) = true) (l15 : K.lookup f15 = some ⟨oc15, od15, .func (PySem.W.fnOf "begin_round" "Level.begin_round" (AN BZ) (AL BZ) (AE BZ) .none kV15 dc15 pm15 an15 cd15 ct15), sl15⟩) (c15 : PySem.W.codeIn K cd15 "Level.begin_round" = true) (k15 : PySem.W.keepIn K (.ref f15) = true)
  (a16 : PySem.W.findIn K (.ref c_Level) "next_statement" = some (some (.ref f16))) (i16 : PySem.W.isFn K (.ref f16) = true) (l16 : K.lookup f16 = some ⟨oc16, od16, .func (PySem.W.fnOf "next_statement" "Level.next_statement" (AN BL) (AL BL) (AE BL) .none kV16 dc16 pm16 an16 cd16 ct16), sl16⟩) (c16 : PySem.W.codeIn K cd16 "Level.next_statement" = true) (k16 : PySem.W.keepIn K (.ref f16) = true)
  (a17 : PySem.W.nsIn K mainGlobals "again_level" = some (some (.ref f17))) (l17 : K.lookup f17 = some ⟨oc17, od17, .func (PySem.W.fnOf "again_level" "again_level" (AN DW) (AL DW) (AE DW) .none kV17 dc17 pm17 an17 cd17 ct17), sl17⟩) (c17 : PySem.W.codeIn K cd17 "again_level" = true) (k17 : PySem.W.keepIn K (.ref f17) = true)
  (a18 : PySem.W.findIn K (.ref c_Walk) "__init__" = some (some (.ref f18))) (i18 : PySem.W.isFn K (.ref f18) = true) (l18 : K.lookup f18 = some ⟨oc18, od18, .func (PySem.W.fnOf "__init__" "Walk.__init__" (AN DR) (AL DR) (AE DR) .none kV18 dc18 pm18 an18 cd18 ct18), sl18⟩) (c18 : PySem.W.codeIn K cd18 "Walk.__init__" = true) (k18 : PySem.W.keepIn K (.ref f18) = true)
  (a19 : PySem.W.findIn K (.ref c_Walk) "is_done" = some (some (.ref f19))) (i19 : PySem.W.isFn K (.ref f19) = true) (l19 : K.lookup f19 = some ⟨oc19, od19, .func (PySem.W.fnOf "is_done" "Walk.is_done" (AN DH) (AL DH) (AE DH) .none kV19 dc19 pm19 an19 cd19 ct19), sl19⟩) (c19 : PySem.W.codeIn K cd19 "Walk.is_done" = true) (k19 : PySem.W.keepIn K (.ref f19) = true)
  (a20 : PySem.W.findIn K (.ref c_Walk) "do_deed" = some (some (.ref f20))) (i20 : PySem.W.isFn K (.ref f20) = true) (l20 : K.lookup f20 = some ⟨oc20, od20, .func (PySem.W.fnOf "do_deed" "Walk.do_deed" (AN DM) (AL DM) (AE DM) .none kV20 dc20 pm20 an20 cd20 ct20), sl20⟩) (c20 : PySem.W.codeIn K cd20 "Walk.do_deed" = true) (k20 : PySem.W.keepIn K (.ref f20) = true)
  (a21 : PySem.W.findIn K (.ref c_Walk) "begin" = some (some (.ref f21))) (i21 : PySem.W.isFn K (.ref f21) = true) (l21 : K.lookup f21 = some ⟨oc21, od21, .func (PySem.W.fnOf "begin" "Walk.begin" (AN DD) (AL DD) (AE DD) .none kV21 dc21 pm21 an21 cd21 ct21), sl21⟩) (c21 : PySem.W.codeIn K cd21 "Walk.begin" = true) (k21 : PySem.W.keepIn K (.ref f21) = true)
  (a22 : PySem.W.findIn K (.ref c_Walk) "act" = some (some (.ref f22))) (i22 : PySem.W.isFn K (.ref f22) = true) (l22 : K.lookup f22 = some ⟨oc22, od22, .func (PySem.W.fnOf "act" "Walk.act" (AN EZ) (AL EZ) (AE EZ) .none kV22 dc22 pm22 an22 cd22 ct22), sl22⟩) (c22 : PySem.W.codeIn K cd22 "Walk.act" = true) (k22 : PySem.W.keepIn K (.ref f22) = true)
  (a23 : PySem.W.nsIn K mainGlobals "walked" = some (some (.ref f23))) (l23 : K.lookup f23 = some ⟨oc23, od23, .func (PySem.W.fnOf "walked" "walked" (AN GR) (AL GR) (AE GR) .none kV23 dc23 pm23 an23 cd23 ct23), sl23⟩) (c23 : PySem.W.codeIn K cd23 "walked" = true) (k23 : PySem.W.keepIn K (.ref f23) = true)
  (a24 : PySem.W.nsIn K mainGlobals "legs_between" = some (some (.ref f24))) (l24 : K.lookup f24 = some ⟨oc24, od24, .func (PySem.W.fnOf "legs_between" "legs_between" (AN DJ) (AL DJ) (AE DJ) .none kV24 dc24 pm24 an24 cd24 ct24), sl24⟩) (c24 : PySem.W.codeIn K cd24 "legs_between" = true) (k24 : PySem.W.keepIn K (.ref f24) = true)
  (a25 : PySem.W.nsIn K mainGlobals "turn_between" = some (some (.ref f25))) (l25 : K.lookup f25 = some ⟨oc25, od25, .func (PySem.W.fnOf "turn_between" "turn_between" (AN DK) (AL DK) (AE DK) .none kV25 dc25 pm25 an25 cd25 ct25), sl25⟩) (c25 : PySem.W.codeIn K cd25 "turn_between" = true) (k25 : PySem.W.keepIn K (.ref f25) = true)
  (a26 : PySem.W.nsIn K mainGlobals "way_to" = some (some (.ref f26))) (l26 : K.lookup f26 = some ⟨oc26, od26, .func (PySem.W.fnOf "way_to" "way_to" (AN JA) (AL JA) (AE JA) .none kV26 dc26 pm26 an26 cd26 ct26), sl26⟩) (c26 : PySem.W.codeIn K cd26 "way_to" = true) (k26 : PySem.W.keepIn K (.ref f26) = true)
  (a27 : PySem.W.nsIn K mainGlobals "with_pen_up" = some (some (.ref f27))) (l27 : K.lookup f27 = some ⟨oc27, od27, .func (PySem.W.fnOf "with_pen_up" "with_pen_up" (AN EG) (AL EG) (AE EG) .none kV27 dc27 pm27 an27 cd27 ct27), sl27⟩) (c27 : PySem.W.codeIn K cd27 "with_pen_up" = true) (k27 : PySem.W.keepIn K (.ref f27) = true)
  (a28 : PySem.W.nsIn K mainGlobals "way_back" = some (some (.ref f28))) (l28 : K.lookup f28 = some ⟨oc28, od28, .func (PySem.W.fnOf "way_back" "way_back" (AN FP) (AL FP) (AE FP) .none kV28 dc28 pm28 an28 cd28 ct28), sl28⟩) (c28 : PySem.W.codeIn K cd28 "way_back" = true) (k28 : PySem.W.keepIn K (.ref f28) = true)
  (a29 : PySem.W.nsIn K mainGlobals "put_in" = some (some (.ref f29))) (l29 : K.lookup f29 = some ⟨oc29, od29, .func (PySem.W.fnOf "put_in" "put_in" (AN HJ) (AL HJ) (AE HJ) .none kV29 dc29 pm29 an29 cd29 ct29), sl29⟩) (c29 : PySem.W.codeIn K cd29 "put_in" = true) (k29 : PySem.W.keepIn K (.ref f29) = true)
  (a30 : PySem.W.nsIn K mainGlobals "_law_cell" = some (some (.ref f30))) (l30 : K.lookup f30 = some ⟨oc30, od30, .func (PySem.W.fnOf "_law_cell" "_law_cell" (AN JD) (AL JD) (AE JD) .none kV30 dc30 pm30 an30 cd30 ct30), sl30⟩) (c30 : PySem.W.codeIn K cd30 "_law_cell" = true) (k30 : PySem.W.keepIn K (.ref f30) = true)
  (a31 : PySem.W.nsIn K mainGlobals "_law_mixed" = some (some (.ref f31))) (l31 : K.lookup f31 = some ⟨oc31, od31, .func (PySem.W.fnOf "_law_mixed" "_law_mixed" (AN GO) (AL GO) (AE GO) .none kV31 dc31 pm31 an31 cd31 ct31), sl31⟩) (c31 : PySem.W.codeIn K cd31 "_law_mixed" = true) (k31 : PySem.W.keepIn K (.ref f31) = true)
  (a32 : PySem.W.nsIn K mainGlobals "_law_row" = some (some (.ref f32))) (l32 : K.lookup f32 = some ⟨oc32, od32, .func (PySem.W.fnOf "_law_row" "_law_row" (AN JO) (AL JO) (AE JO) .none kV32 dc32 pm32 an32 cd32 ct32), sl32⟩) (c32 : PySem.W.codeIn K cd32 "_law_row" = true) (k32 : PySem.W.keepIn K (.ref f32) = true)
  (a33 : PySem.W.nsIn K mainGlobals "_law_refused" = some (some (.ref f33))) (l33 : K.lookup f33 = some ⟨oc33, od33, .func (PySem.W.fnOf "_law_refused" "_law_refused" (AN EW) (AL EW) (AE EW) .none kV33 dc33 pm33 an33 cd33 ct33), sl33⟩) (c33 : PySem.W.codeIn K cd33 "_law_refused" = true) (k33 : PySem.W.keepIn K (.ref f33) = true)
  (a34 : PySem.W.nsIn K mainGlobals "_law_by_deeds" = some (some (.ref f34))) (l34 : K.lookup f34 = some ⟨oc34, od34, .func (PySem.W.fnOf "_law_by_deeds" "_law_by_deeds" (AN EE) (AL EE) (AE EE) .none kV34 dc34 pm34 an34 cd34 ct34), sl34⟩) (c34 : PySem.W.codeIn K cd34 "_law_by_deeds" = true) (k34 : PySem.W.keepIn K (.ref f34) = true)
  (a35 : PySem.W.nsIn K mainGlobals "_law_by_backs" = some (some (.ref f35))) (l35 : K.lookup f35 = some ⟨oc35, od35, .func (PySem.W.fnOf "_law_by_backs" "_law_by_backs" (AN EY) (AL EY) (AE EY) .none kV35 dc35 pm35 an35 cd35 ct35), sl35⟩) (c35 : PySem.W.codeIn K cd35 "_law_by_backs" = true) (k35 : PySem.W.keepIn K (.ref f35) = true)
  (a36 : PySem.W.nsIn K mainGlobals "_law_by_steps" = some (some (.ref f36))) (l36 : K.lookup f36 = some ⟨oc36, od36, .func (PySem.W.fnOf "_law_by_steps" "_law_by_steps" (AN FB) (AL FB) (AE FB) .none kV36 dc36 pm36 an36 cd36 ct36), sl36⟩) (c36 : PySem.W.codeIn K cd36 "_law_by_steps" = true) (k36 : PySem.W.keepIn K (.ref f36) = true)
  (a37 : PySem.W.nsIn K mainGlobals "law" = some (some (.ref f37))) (l37 : K.lookup f37 = some ⟨oc37, od37, .func (PySem.W.fnOf "law" "law" (AN QH) (AL QH) (AE QH) .none kV37 dc37 pm37 an37 cd37 ct37), sl37⟩) (c37 : PySem.W.codeIn K cd37 "law" = true) (k37 : PySem.W.keepIn K (.ref f37) = true)
  (z_ValueError : PySem.W.nsIn K mainGlobals "ValueError" = some none)
  (z_dict : PySem.W.nsIn K mainGlobals "dict" = some none)
  (z_int : PySem.W.nsIn K mainGlobals "int" = some none)
  (z_isinstance : PySem.W.nsIn K mainGlobals "isinstance" = some none)
  (z_len : PySem.W.nsIn K mainGlobals "len" = some none)
  (z_max : PySem.W.nsIn K mainGlobals "max" = some none)
  (z_min : PySem.W.nsIn K mainGlobals "min" = some none)
  (z_range : PySem.W.nsIn K mainGlobals "range" = some none)
  (z_tuple : PySem.W.nsIn K mainGlobals "tuple" = some none)
  (z_zip : PySem.W.nsIn K mainGlobals "zip" = some none)
  {u_ROUND : Value} (g_ROUND : PySem.W.nsIn K mainGlobals "ROUND" = some (some u_ROUND)) (k_ROUND : GU K KA u_ROUND = true)
  {u_EAST : Value} (g_EAST : PySem.W.nsIn K mainGlobals "EAST" = some (some u_EAST)) (k_EAST : GU K XA u_EAST = true)
  {u_NORTH_EAST : Value} (g_NORTH_EAST : PySem.W.nsIn K mainGlobals "NORTH_EAST" = some (some u_NORTH_EAST)) (k_NORTH_EAST : GU K HD u_NORTH_EAST = true)
  {u_NORTH : Value} (g_NORTH : PySem.W.nsIn K mainGlobals "NORTH" = some (some u_NORTH)) (k_NORTH : GU K SB u_NORTH = true)
  {u_SOUTH_EAST : Value} (g_SOUTH_EAST : PySem.W.nsIn K mainGlobals "SOUTH_EAST" = some (some u_SOUTH_EAST)) (k_SOUTH_EAST : GU K HA u_SOUTH_EAST = true)
  {u_BEGINNING : Value} (g_BEGINNING : PySem.W.nsIn K mainGlobals "BEGINNING" = some (some u_BEGINNING)) (k_BEGINNING : GU K LZ u_BEGINNING = true)
  {u_STEPS : Value} (g_STEPS : PySem.W.nsIn K mainGlobals "STEPS" = some (some u_STEPS)) (k_STEPS : GU K KU u_STEPS = true)
  {u_INKS : Value} (g_INKS : PySem.W.nsIn K mainGlobals "INKS" = some (some u_INKS)) (k_INKS : GU K WT u_INKS = true)
  {u_MOST_AMOUNT : Value} (g_MOST_AMOUNT : PySem.W.nsIn K mainGlobals "MOST_AMOUNT" = some (some u_MOST_AMOUNT)) (k_MOST_AMOUNT : GU K FC u_MOST_AMOUNT = true)
  {u_NUMBERS : Value} (g_NUMBERS : PySem.W.nsIn K mainGlobals "NUMBERS" = some (some u_NUMBERS)) (k_NUMBERS : GU K LP u_NUMBERS = true)
  {u_MOST_BACKS : Value} (g_MOST_BACKS : PySem.W.nsIn K mainGlobals "MOST_BACKS" = some (some u_MOST_BACKS)) (k_MOST_BACKS : GU K HQ u_MOST_BACKS = true)
  {c_HouseError : Addr} (aE_HouseError : PySem.W.nsIn K mainGlobals "HouseError" = some (some (.ref c_HouseError)))
  {c_NoProgram : Addr} (aE_NoProgram : PySem.W.nsIn K mainGlobals "NoProgram" = some (some (.ref c_NoProgram)))
  {c_NoText : Addr} (aE_NoText : PySem.W.nsIn K mainGlobals "NoText" = some (some (.ref c_NoText)))
  {c_NoMark : Addr} (aE_NoMark : PySem.W.nsIn K mainGlobals "NoMark" = some (some (.ref c_NoMark)))
  {c_TooGreat : Addr} (aE_TooGreat : PySem.W.nsIn K mainGlobals "TooGreat" = some (some (.ref c_TooGreat)))
  {c_TooLong : Addr} (aE_TooLong : PySem.W.nsIn K mainGlobals "TooLong" = some (some (.ref c_TooLong)))
  {c_NotWhole : Addr} (aE_NotWhole : PySem.W.nsIn K mainGlobals "NotWhole" = some (some (.ref c_NotWhole)))
  (xE_NoProgram : CP K c_HouseError c_NoProgram = true)
  (xE_NoText : CP K c_HouseError c_NoText = true)
  (xE_NoMark : CP K c_HouseError c_NoMark = true)
  (xE_TooGreat : CP K c_HouseError c_TooGreat = true)
  (xE_TooLong : CP K c_HouseError c_TooLong = true)
  (xE_NotWhole : CP K c_HouseError c_NotWhole = true)
  (hE : OW K c_HouseError = true)
  (kE : exK K c_HouseError [c_NoProgram, c_NoText, c_NoMark, c_TooGreat, c_TooLong, c_NotWhole] = true)
  (nE : decide ([c_NoProgram, c_NoText, c_NoMark, c_TooGreat, c_TooLong, c_NotWhole].Nodup) = true)
  : ∃ fd : FuncData, (∀ (s : Shared) (v : Value), BindsTo s fd ⟨[v], []⟩ [("_law_script", v)]) ∧ ∀ base : Heap, K.In base → base.Ns mainGlobals mg → BF l.prog w K mg base CX0 12 fa fd ["_law_script"] (SF K) := by
 have e := hfa.symm.trans (PySem.W.mg_of X G a37)
 cases e
 have F0 := BG (st := LQ) l0 c0 k0
 have b0 := F0.binds (ps := ["one", "other"]) fun _ _ _ _ _ _ us hl => HR us hl (fun _ _ => rfl)
 have F1 := BG (st := IS) l1 c1 k1
 have b1 := F1.binds (ps := ["one", "other"]) fun _ _ _ _ _ _ us hl => HR us hl (fun _ _ => rfl)
 have F2 := BG (st := JB) l2 c2 k2
 have b2 := F2.binds (ps := ["number", "factor"]) fun _ _ _ _ _ _ us hl => HR us hl (fun _ _ => rfl)
 have F3 := BG (st := IR) l3 c3 k3
 have b3 := F3.binds (ps := ["place", "heading", "steps"]) fun _ _ _ _ _ _ us hl => YQ us hl (fun _ _ _ => rfl)
 have F4 := BG (st := EL) l4 c4 k4
 have b4 := F4.binds (ps := ["self"]) fun _ _ _ _ _ _ us hl => LF us hl (fun _ => rfl)
 have F5 := BG (st := DL) l5 c5 k5
 have b5 := F5.binds (ps := ["self", "spot"]) fun _ _ _ _ _ _ us hl => HR us hl (fun _ _ => rfl)
 have F6 := BG (st := FO) l6 c6 k6
 have b6 := F6.binds (ps := ["self", "steps"]) fun _ _ _ _ _ _ us hl => HR us hl (fun _ _ => rfl)
 have F7 := BG (st := EJ) l7 c7 k7
 have b7 := F7.binds (ps := ["self", "eighths"]) fun _ _ _ _ _ _ us hl => HR us hl (fun _ _ => rfl)
 have F8 := BG (st := EH) l8 c8 k8
 have b8 := F8.binds (ps := ["self", "number"]) fun _ _ _ _ _ _ us hl => HR us hl (fun _ _ => rfl)
 have F9 := BG (st := FA) l9 c9 k9
 have b9 := F9.binds (ps := ["self", "statement"]) fun _ _ _ _ _ _ us hl => HR us hl (fun _ _ => rfl)
 have F10 := BG (st := FT) l10 c10 k10
 have b10 := F10.binds (ps := ["self"]) fun _ _ _ _ _ _ us hl => LF us hl (fun _ => rfl)
 have F11 := BG (st := IY) l11 c11 k11
 have b11 := F11.binds (ps := ["amount", "sources"]) fun _ _ _ _ _ _ us hl => HR us hl (fun _ _ => rfl)
 have F12 := BG (st := DV) l12 c12 k12
 have b12 := F12.binds (ps := ["self", "body", "sources"]) fun _ _ _ _ _ _ us hl => YQ us hl (fun _ _ _ => rfl)
 have F13 := BG (st := CT) l13 c13 k13
 have b13 := F13.binds (ps := ["self"]) fun _ _ _ _ _ _ us hl => LF us hl (fun _ => rfl)
 have F14 := BG (st := CF) l14 c14 k14
 have b14 := F14.binds (ps := ["self"]) fun _ _ _ _ _ _ us hl => LF us hl (fun _ => rfl)
 have F15 := BG (st := BZ) l15 c15 k15
 have b15 := F15.binds (ps := ["self"]) fun _ _ _ _ _ _ us hl => LF us hl (fun _ => rfl)
 have F16 := BG (st := BL) l16 c16 k16
 have b16 := F16.binds (ps := ["self"]) fun _ _ _ _ _ _ us hl => LF us hl (fun _ => rfl)
 have F17 := BG (st := DW) l17 c17 k17
 have b17 := F17.binds (ps := ["body", "sources", "rounds"]) fun _ _ _ _ _ _ us hl => YQ us hl (fun _ _ _ => rfl)
 have F18 := BG (st := DR) l18 c18 k18
 have b18 := F18.binds (ps := ["self", "program"]) fun _ _ _ _ _ _ us hl => HR us hl (fun _ _ => rfl)
 have F19 := BG (st := DH) l19 c19 k19
 have b19 := F19.binds (ps := ["self"]) fun _ _ _ _ _ _ us hl => LF us hl (fun _ => rfl)
 have F20 := BG (st := DM) l20 c20 k20
 have b20 := F20.binds (ps := ["self"]) fun _ _ _ _ _ _ us hl => LF us hl (fun _ => rfl)
 have F21 := BG (st := DD) l21 c21 k21
 have b21 := F21.binds (ps := ["self", "statement", "sources"]) fun _ _ _ _ _ _ us hl => YQ us hl (fun _ _ _ => rfl)
 have F22 := BG (st := EZ) l22 c22 k22
 have b22 := F22.binds (ps := ["self", "statement"]) fun _ _ _ _ _ _ us hl => HR us hl (fun _ _ => rfl)
 have F23 := BG (st := GR) l23 c23 k23
 have b23 := F23.binds (ps := ["program", "most"]) fun _ _ _ _ _ _ us hl => HR us hl (fun _ _ => rfl)
 have F24 := BG (st := DJ) l24 c24 k24
 have b24 := F24.binds (ps := ["start", "end"]) fun _ _ _ _ _ _ us hl => HR us hl (fun _ _ => rfl)
 have F25 := BG (st := DK) l25 c25 k25
 have b25 := F25.binds (ps := ["heading", "wanted"]) fun _ _ _ _ _ _ us hl => HR us hl (fun _ _ => rfl)
 have F26 := BG (st := JA) l26 c26 k26
 have b26 := F26.binds (ps := ["start", "heading", "end"]) fun _ _ _ _ _ _ us hl => YQ us hl (fun _ _ _ => rfl)
 have F27 := BG (st := EG) l27 c27 k27
 have b27 := F27.binds (ps := ["statements"]) fun _ _ _ _ _ _ us hl => LF us hl (fun _ => rfl)
 have F28 := BG (st := FP) l28 c28 k28
 have b28 := F28.binds (ps := ["hand", "number"]) fun _ _ _ _ _ _ us hl => HR us hl (fun _ _ => rfl)
 have F29 := BG (st := HJ) l29 c29 k29
 have b29 := F29.binds (ps := ["program", "most"]) fun _ _ _ _ _ _ us hl => HR us hl (fun _ _ => rfl)
 have F30 := BG (st := JD) l30 c30 k30
 have b30 := F30.binds (ps := ["_law_script", "_law_k"]) fun _ _ _ _ _ _ us hl => HR us hl (fun _ _ => rfl)
 have F31 := BG (st := GO) l31 c31 k31
 have b31 := F31.binds (ps := ["_law_cell_here", "_law_k"]) fun _ _ _ _ _ _ us hl => HR us hl (fun _ _ => rfl)
 have F32 := BG (st := JO) l32 c32 k32
 have b32 := F32.binds (ps := ["_law_cell_here", "_law_most", "_law_many"]) fun _ _ _ _ _ _ us hl => YQ us hl (fun _ _ _ => rfl)
 have F33 := BG (st := EW) l33 c33 k33
 have b33 := F33.binds (ps := ["_law_body", "_law_most"]) fun _ _ _ _ _ _ us hl => HR us hl (fun _ _ => rfl)
 have F34 := BG (st := EE) l34 c34 k34
 have b34 := F34.binds (ps := ["_law_row_here"]) fun _ _ _ _ _ _ us hl => LF us hl (fun _ => rfl)
 have F35 := BG (st := EY) l35 c35 k35
 have b35 := F35.binds (ps := ["_law_many"]) fun _ _ _ _ _ _ us hl => LF us hl (fun _ => rfl)
 have F36 := BG (st := FB) l36 c36 k36
 have b36 := F36.binds (ps := ["_law_row_here"]) fun _ _ _ _ _ _ us hl => LF us hl (fun _ => rfl)
 have F37 := BG (st := QH) l37 c37 k37
 have b37 := F37.binds (ps := ["_law_script"]) fun _ _ _ _ _ _ us hl => LF us hl (fun _ => rfl)
 obtain ⟨v_ROUND, r_ROUND, p_ROUND⟩ := HV k_ROUND
 obtain ⟨v_EAST, r_EAST, p_EAST⟩ := HV k_EAST
 obtain ⟨v_NORTH_EAST, r_NORTH_EAST, p_NORTH_EAST⟩ := HV k_NORTH_EAST
 obtain ⟨v_NORTH, r_NORTH, p_NORTH⟩ := HV k_NORTH
 obtain ⟨v_SOUTH_EAST, r_SOUTH_EAST, p_SOUTH_EAST⟩ := HV k_SOUTH_EAST
 obtain ⟨v_BEGINNING, r_BEGINNING, p_BEGINNING⟩ := HV k_BEGINNING
 obtain ⟨v_STEPS, r_STEPS, p_STEPS⟩ := HV k_STEPS
 obtain ⟨v_INKS, r_INKS, p_INKS⟩ := HV k_INKS
 obtain ⟨v_MOST_AMOUNT, r_MOST_AMOUNT, p_MOST_AMOUNT⟩ := HV k_MOST_AMOUNT
 obtain ⟨v_NUMBERS, r_NUMBERS, p_NUMBERS⟩ := HV k_NUMBERS
 obtain ⟨v_MOST_BACKS, r_MOST_BACKS, p_MOST_BACKS⟩ := HV k_MOST_BACKS
 have T : Txt K mg ⟨_, _, _, _, _, _, _, _, _, _, _, _, _, _, _, _, _, _, _, _, _, _, _, _, _, _, _, _, _, _, _, _, _, _, _, _, _, _, _, _, _, _, _, _, _, _, _, _, _, _, _, _, _, _, _, _, _, _, _, _, _, _, _, _, _, _, _, _, _, _, _, _, _, _, _, _, _, _, _, _, _, _, _, _, _, _, _, _, _, _, _, _, _, _, _, _, _, _, _, _, _, c_HouseError, c_NoProgram, c_NoText, c_NoMark, c_TooGreat, c_TooLong, c_NotWhole⟩ := ⟨⟨F0, b0, PySem.W.mg_of X G a0⟩, ⟨F1, b1, PySem.W.mg_of X G a1⟩, ⟨F2, b2, PySem.W.mg_of X G a2⟩, ⟨F3, b3, PySem.W.mg_of X G a3⟩, ⟨F4, b4, ⟨mk_Hand, a4, i4, kc_Hand⟩⟩, ⟨F5, b5, ⟨a5, i5, k5⟩⟩, ⟨F6, b6, ⟨a6, i6, k6⟩⟩, ⟨F7, b7, ⟨a7, i7, k7⟩⟩, ⟨F8, b8, ⟨a8, i8, k8⟩⟩, ⟨F9, b9, ⟨a9, i9, k9⟩⟩, ⟨F10, b10, ⟨a10, i10, k10⟩⟩, ⟨F11, b11, PySem.W.mg_of X G a11⟩, ⟨F12, b12, ⟨mk_Level, a12, i12, kc_Level⟩⟩, ⟨F13, b13, ⟨a13, i13, k13⟩⟩, ⟨F14, b14, ⟨a14, i14, k14⟩⟩, ⟨F15, b15, ⟨a15, i15, k15⟩⟩, ⟨F16, b16, ⟨a16, i16, k16⟩⟩, ⟨F17, b17, PySem.W.mg_of X G a17⟩, ⟨F18, b18, ⟨mk_Walk, a18, i18, kc_Walk⟩⟩, ⟨F19, b19, ⟨a19, i19, k19⟩⟩, ⟨F20, b20, ⟨a20, i20, k20⟩⟩, ⟨F21, b21, ⟨a21, i21, k21⟩⟩, ⟨F22, b22, ⟨a22, i22, k22⟩⟩, ⟨F23, b23, PySem.W.mg_of X G a23⟩, ⟨F24, b24, PySem.W.mg_of X G a24⟩, ⟨F25, b25, PySem.W.mg_of X G a25⟩, ⟨F26, b26, PySem.W.mg_of X G a26⟩, ⟨F27, b27, PySem.W.mg_of X G a27⟩, ⟨F28, b28, PySem.W.mg_of X G a28⟩, ⟨F29, b29, PySem.W.mg_of X G a29⟩, ⟨F30, b30, PySem.W.mg_of X G a30⟩, ⟨F31, b31, PySem.W.mg_of X G a31⟩, ⟨F32, b32, PySem.W.mg_of X G a32⟩, ⟨F33, b33, PySem.W.mg_of X G a33⟩, ⟨F34, b34, PySem.W.mg_of X G a34⟩, ⟨F35, b35, PySem.W.mg_of X G a35⟩, ⟨F36, b36, PySem.W.mg_of X G a36⟩, ⟨F37, b37, PySem.W.mg_of X G a37⟩, ⟨pg_Hand, hd_Hand, po_Hand, sa_Hand⟩, PySem.W.mg_of X G aC_Hand, n_Hand_spot, n_Hand_heading, n_Hand_down, n_Hand_ink, n_Hand_turned, n_Hand_marks, n_Hand_strokes, n_Hand_corners, ⟨pg_Level, hd_Level, po_Level, sa_Level⟩, PySem.W.mg_of X G aC_Level, n_Level_body, n_Level_sources, n_Level_at, n_Level_begun, n_Level_rounds, ⟨pg_Walk, hd_Walk, po_Walk, sa_Walk⟩, PySem.W.mg_of X G aC_Walk, n_Walk_bodies, n_Walk_levels, n_Walk_hand, n_Walk_acts, PySem.W.mg_none_of X G z_ValueError, PySem.W.mg_none_of X G z_dict, PySem.W.mg_none_of X G z_int, PySem.W.mg_none_of X G z_isinstance, PySem.W.mg_none_of X G z_len, PySem.W.mg_none_of X G z_max, PySem.W.mg_none_of X G z_min, PySem.W.mg_none_of X G z_range, PySem.W.mg_none_of X G z_tuple, PySem.W.mg_none_of X G z_zip, PySem.W.mg_of X G g_ROUND, r_ROUND, p_ROUND, PySem.W.mg_of X G g_EAST, r_EAST, p_EAST, PySem.W.mg_of X G g_NORTH_EAST, r_NORTH_EAST, p_NORTH_EAST, PySem.W.mg_of X G g_NORTH, r_NORTH, p_NORTH, PySem.W.mg_of X G g_SOUTH_EAST, r_SOUTH_EAST, p_SOUTH_EAST, PySem.W.mg_of X G g_BEGINNING, r_BEGINNING, p_BEGINNING, PySem.W.mg_of X G g_STEPS, r_STEPS, p_STEPS, PySem.W.mg_of X G g_INKS, r_INKS, p_INKS, PySem.W.mg_of X G g_MOST_AMOUNT, r_MOST_AMOUNT, p_MOST_AMOUNT, PySem.W.mg_of X G g_NUMBERS, r_NUMBERS, p_NUMBERS, PySem.W.mg_of X G g_MOST_BACKS, r_MOST_BACKS, p_MOST_BACKS, PySem.W.mg_of X G aE_NoProgram, xE_NoProgram, PySem.W.mg_of X G aE_NoText, xE_NoText, PySem.W.mg_of X G aE_NoMark, xE_NoMark, PySem.W.mg_of X G aE_TooGreat, xE_TooGreat, PySem.W.mg_of X G aE_TooLong, xE_TooLong, PySem.W.mg_of X G aE_NotWhole, xE_NotWhole, PySem.W.mg_of X G aE_HouseError, hE, kE, of_decide_eq_true nE⟩
 exact ⟨_, fun s v => .of_eq rfl, fun base _ _ => nG T⟩
theorem walk {l : PySem.W.OpenLaw} {q : Program} {loose : List Str} {XP : (Str → Option Value) → Heap → Prop} {YP : World → Heap → Prop} {d : DefRec} {K : Params → PySem.W.Frag} (hn : l.most = some 63) (hdf : d.params.defaults = [])
  (hY : ∀ (w : World) (h : Heap), YP w h → (K w.params).In h)
  (F : ∀ (w : World) (mg : Str → Option Value) (fa : Addr) (h : Heap), (K w.params).In h → h.Ns mainGlobals mg → mg d.name = some (.ref fa) →
   ∃ fd : FuncData, (∀ (s : Shared) (u : Value), BindsTo s fd ⟨[u], []⟩ [("_law_script", u)]) ∧ ∀ base : Heap, (K w.params).In base → base.Ns mainGlobals mg → BF l.prog w (K w.params) mg base CX0 12 fa fd ["_law_script"] (SF (K w.params))) :
  PySem.W.WalkO q loose XP YP l.row.toRowW d [] (fun f vs => PySem.call f vs) :=
 L2.walk_of (n := 63) (k := 12) (x := "_law_script") (CX := fun _ => CX0) (sp := fun w => SF (K w.params)) hn (by decide) hdf ⟨rfl, by decide, by decide⟩ hY F (fun _ _ a ns hl _ hS => ⟨a, ns, rfl, hS, hl, fun _ => rfl⟩) fun _ _ _ _ _ z => z
end My
namespace Hd
open PySem PySem.Spec PyProof.Rows L2
noncomputable def la : List Str := List.map Str.ofString ["_law_row", "_law_cell_here", "_law_most", "_law_many", "_law_found", "_law_rest", "_law_k", "range", "append", "_law_mixed", ".0", "fast", "_law_refused", "_law_body", "", "_law_program", "put_in", "NoMark", "mark", "TooGreat", "great", "TooLong", "long", "HouseError", "error", "_law_some", "isinstance", "_law_others", "NoProgram", "NoText", "NotWhole", "other", "ValueError", "_law_by_deeds", "_law_row_here", "_law_deeds", "_law_inner", "tuple", "turn", "_law_turn", "again", "len", "_law_due", "_law_again", "_law_by_backs", "go", "back", "int", "_law_far", "_law_by_steps", "_law_heading", "_law_more", "_law_first", "up", "law", "_law_script", "_law_cell", "max", "min", "with_pen_up", "statements", "down", "way_back", "hand", "number", "spot", "heading", "marks", "now", "way_to", "extend", "turn_between", "program", "most", "walk", "walked", "is_done", "the run would be stopped", "act", "acts", "MOST_BACKS", "there are too many backs", "Hand", "body", "__name__", "law_turtlehouse_k26_too_long", "_law_number", "Walk", "deeds", "do_deed", "turtlehouse.plain", "legs_between", "start", "end", "east", "easting", "minus", "north", "northing", "EAST", "NORTH_EAST", "NORTH", "SOUTH_EAST", "wanted", "eighths", "ROUND", "steps", "MOST_AMOUNT", "a place lies too far away", "NUMBERS", "n0", "n1", "n2", "n3", "turtlehouse.runs", "worth", "amount", "sources", "value", "factor", "source", "more", "an amount comes to more than is allowed", "Level", "__init__", "self", "at", "begun", "rounds", "is_at_end", "is_through", "begin_round", "count", "next_statement", "again_level", "level", "dict", "words", "bodies", "name", "inner", "many", "levels", "pop", "begin", "statement", "first", "if", "chosen", "do", "handed", "zip", "ink", "times", "moved", "place", "x", "y", "STEPS", "plus", "turtlehouse.hands", "INKS", "BEGINNING", "turned", "strokes", "corners", "come_to", "that mark was not made", "one", "turtlehouse.floor", "turtlehouse.errors", "/claim/cut.py", "__doc__", "__package__", "__loader__", "__spec__", "__annotations__", "__builtins__", "__file__", "__cached__", "__module__", "__firstlineno__", "__static_attributes__", "__weakref__", "Hand.__init__", "Hand.come_to", "Hand.go", "Hand.turn", "Hand.back", "Hand.act", "Hand.end", "__dict__", "Level.__init__", "Level.is_at_end", "Level.is_through", "Level.begin_round", "Level.next_statement", "Walk.__init__", "Walk.is_done", "Walk.do_deed", "Walk.begin", "Walk.act"]
noncomputable def lb : List Str := [⟨⟨[95,108,97,119,95,114,111,119]⟩⟩, ⟨⟨[95,108,97,119,95,99,101,108,108,95,104,101,114,101]⟩⟩, ⟨⟨[95,108,97,119,95,109,111,115,116]⟩⟩, ⟨⟨[95,108,97,119,95,109,97,110,121]⟩⟩, ⟨⟨[95,108,97,119,95,102,111,117,110,100]⟩⟩, ⟨⟨[95,108,97,119,95,114,101,115,116]⟩⟩, ⟨⟨[95,108,97,119,95,107]⟩⟩, ⟨⟨[114,97,110,103,101]⟩⟩, ⟨⟨[97,112,112,101,110,100]⟩⟩, ⟨⟨[95,108,97,119,95,109,105,120,101,100]⟩⟩, ⟨⟨[46,48]⟩⟩, ⟨⟨[102,97,115,116]⟩⟩, ⟨⟨[95,108,97,119,95,114,101,102,117,115,101,100]⟩⟩, ⟨⟨[95,108,97,119,95,98,111,100,121]⟩⟩, ⟨⟨[]⟩⟩, ⟨⟨[95,108,97,119,95,112,114,111,103,114,97,109]⟩⟩, ⟨⟨[112,117,116,95,105,110]⟩⟩, ⟨⟨[78,111,77,97,114,107]⟩⟩, ⟨⟨[109,97,114,107]⟩⟩, ⟨⟨[84,111,111,71,114,101,97,116]⟩⟩, ⟨⟨[103,114,101,97,116]⟩⟩, ⟨⟨[84,111,111,76,111,110,103]⟩⟩, ⟨⟨[108,111,110,103]⟩⟩, ⟨⟨[72,111,117,115,101,69,114,114,111,114]⟩⟩, ⟨⟨[101,114,114,111,114]⟩⟩, ⟨⟨[95,108,97,119,95,115,111,109,101]⟩⟩, ⟨⟨[105,115,105,110,115,116,97,110,99,101]⟩⟩, ⟨⟨[95,108,97,119,95,111,116,104,101,114,115]⟩⟩, ⟨⟨[78,111,80,114,111,103,114,97,109]⟩⟩, ⟨⟨[78,111,84,101,120,116]⟩⟩, ⟨⟨[78,111,116,87,104,111,108,101]⟩⟩, ⟨⟨[111,116,104,101,114]⟩⟩, ⟨⟨[86,97,108,117,101,69,114,114,111,114]⟩⟩, ⟨⟨[95,108,97,119,95,98,121,95,100,101,101,100,115]⟩⟩, ⟨⟨[95,108,97,119,95,114,111,119,95,104,101,114,101]⟩⟩, ⟨⟨[95,108,97,119,95,100,101,101,100,115]⟩⟩, ⟨⟨[95,108,97,119,95,105,110,110,101,114]⟩⟩, ⟨⟨[116,117,112,108,101]⟩⟩, ⟨⟨[116,117,114,110]⟩⟩, ⟨⟨[95,108,97,119,95,116,117,114,110]⟩⟩, ⟨⟨[97,103,97,105,110]⟩⟩, ⟨⟨[108,101,110]⟩⟩, ⟨⟨[95,108,97,119,95,100,117,101]⟩⟩, ⟨⟨[95,108,97,119,95,97,103,97,105,110]⟩⟩, ⟨⟨[95,108,97,119,95,98,121,95,98,97,99,107,115]⟩⟩, ⟨⟨[103,111]⟩⟩, ⟨⟨[98,97,99,107]⟩⟩, ⟨⟨[105,110,116]⟩⟩, ⟨⟨[95,108,97,119,95,102,97,114]⟩⟩, ⟨⟨[95,108,97,119,95,98,121,95,115,116,101,112,115]⟩⟩, ⟨⟨[95,108,97,119,95,104,101,97,100,105,110,103]⟩⟩, ⟨⟨[95,108,97,119,95,109,111,114,101]⟩⟩, ⟨⟨[95,108,97,119,95,102,105,114,115,116]⟩⟩, ⟨⟨[117,112]⟩⟩, ⟨⟨[108,97,119]⟩⟩, ⟨⟨[95,108,97,119,95,115,99,114,105,112,116]⟩⟩, ⟨⟨[95,108,97,119,95,99,101,108,108]⟩⟩, ⟨⟨[109,97,120]⟩⟩, ⟨⟨[109,105,110]⟩⟩, ⟨⟨[119,105,116,104,95,112,101,110,95,117,112]⟩⟩, ⟨⟨[115,116,97,116,101,109,101,110,116,115]⟩⟩, ⟨⟨[100,111,119,110]⟩⟩, ⟨⟨[119,97,121,95,98,97,99,107]⟩⟩, ⟨⟨[104,97,110,100]⟩⟩, ⟨⟨[110,117,109,98,101,114]⟩⟩, ⟨⟨[115,112,111,116]⟩⟩, ⟨⟨[104,101,97,100,105,110,103]⟩⟩, ⟨⟨[109,97,114,107,115]⟩⟩, ⟨⟨[110,111,119]⟩⟩, ⟨⟨[119,97,121,95,116,111]⟩⟩, ⟨⟨[101,120,116,101,110,100]⟩⟩, ⟨⟨[116,117,114,110,95,98,101,116,119,101,101,110]⟩⟩, ⟨⟨[112,114,111,103,114,97,109]⟩⟩, ⟨⟨[109,111,115,116]⟩⟩, ⟨⟨[119,97,108,107]⟩⟩, ⟨⟨[119,97,108,107,101,100]⟩⟩, ⟨⟨[105,115,95,100,111,110,101]⟩⟩, ⟨⟨[116,104,101,32,114,117,110,32,119,111,117,108,100,32,98,101,32,115,116,111,112,112,101,100]⟩⟩, ⟨⟨[97,99,116]⟩⟩, ⟨⟨[97,99,116,115]⟩⟩, ⟨⟨[77,79,83,84,95,66,65,67,75,83]⟩⟩, ⟨⟨[116,104,101,114,101,32,97,114,101,32,116,111,111,32,109,97,110,121,32,98,97,99,107,115]⟩⟩, ⟨⟨[72,97,110,100]⟩⟩, ⟨⟨[98,111,100,121]⟩⟩, ⟨⟨[95,95,110,97,109,101,95,95]⟩⟩, ⟨⟨[108,97,119,95,116,117,114,116,108,101,104,111,117,115,101,95,107,50,54,95,116,111,111,95,108,111,110,103]⟩⟩, ⟨⟨[95,108,97,119,95,110,117,109,98,101,114]⟩⟩, ⟨⟨[87,97,108,107]⟩⟩, ⟨⟨[100,101,101,100,115]⟩⟩, ⟨⟨[100,111,95,100,101,101,100]⟩⟩, ⟨⟨[116,117,114,116,108,101,104,111,117,115,101,46,112,108,97,105,110]⟩⟩, ⟨⟨[108,101,103,115,95,98,101,116,119,101,101,110]⟩⟩, ⟨⟨[115,116,97,114,116]⟩⟩, ⟨⟨[101,110,100]⟩⟩, ⟨⟨[101,97,115,116]⟩⟩, ⟨⟨[101,97,115,116,105,110,103]⟩⟩, ⟨⟨[109,105,110,117,115]⟩⟩, ⟨⟨[110,111,114,116,104]⟩⟩, ⟨⟨[110,111,114,116,104,105,110,103]⟩⟩, ⟨⟨[69,65,83,84]⟩⟩, ⟨⟨[78,79,82,84,72,95,69,65,83,84]⟩⟩, ⟨⟨[78,79,82,84,72]⟩⟩, ⟨⟨[83,79,85,84,72,95,69,65,83,84]⟩⟩, ⟨⟨[119,97,110,116,101,100]⟩⟩, ⟨⟨[101,105,103,104,116,104,115]⟩⟩, ⟨⟨[82,79,85,78,68]⟩⟩, ⟨⟨[115,116,101,112,115]⟩⟩, ⟨⟨[77,79,83,84,95,65,77,79,85,78,84]⟩⟩, ⟨⟨[97,32,112,108,97,99,101,32,108,105,101,115,32,116,111,111,32,102,97,114,32,97,119,97,121]⟩⟩, ⟨⟨[78,85,77,66,69,82,83]⟩⟩, ⟨⟨[110,48]⟩⟩, ⟨⟨[110,49]⟩⟩, ⟨⟨[110,50]⟩⟩, ⟨⟨[110,51]⟩⟩, ⟨⟨[116,117,114,116,108,101,104,111,117,115,101,46,114,117,110,115]⟩⟩, ⟨⟨[119,111,114,116,104]⟩⟩, ⟨⟨[97,109,111,117,110,116]⟩⟩, ⟨⟨[115,111,117,114,99,101,115]⟩⟩, ⟨⟨[118,97,108,117,101]⟩⟩, ⟨⟨[102,97,99,116,111,114]⟩⟩, ⟨⟨[115,111,117,114,99,101]⟩⟩, ⟨⟨[109,111,114,101]⟩⟩, ⟨⟨[97,110,32,97,109,111,117,110,116,32,99,111,109,101,115,32,116,111,32,109,111,114,101,32,116,104,97,110,32,105,115,32,97,108,108,111,119,101,100]⟩⟩, ⟨⟨[76,101,118,101,108]⟩⟩, ⟨⟨[95,95,105,110,105,116,95,95]⟩⟩, ⟨⟨[115,101,108,102]⟩⟩, ⟨⟨[97,116]⟩⟩, ⟨⟨[98,101,103,117,110]⟩⟩, ⟨⟨[114,111,117,110,100,115]⟩⟩, ⟨⟨[105,115,95,97,116,95,101,110,100]⟩⟩, ⟨⟨[105,115,95,116,104,114,111,117,103,104]⟩⟩, ⟨⟨[98,101,103,105,110,95,114,111,117,110,100]⟩⟩, ⟨⟨[99,111,117,110,116]⟩⟩, ⟨⟨[110,101,120,116,95,115,116,97,116,101,109,101,110,116]⟩⟩, ⟨⟨[97,103,97,105,110,95,108,101,118,101,108]⟩⟩, ⟨⟨[108,101,118,101,108]⟩⟩, ⟨⟨[100,105,99,116]⟩⟩, ⟨⟨[119,111,114,100,115]⟩⟩, ⟨⟨[98,111,100,105,101,115]⟩⟩, ⟨⟨[110,97,109,101]⟩⟩, ⟨⟨[105,110,110,101,114]⟩⟩, ⟨⟨[109,97,110,121]⟩⟩, ⟨⟨[108,101,118,101,108,115]⟩⟩, ⟨⟨[112,111,112]⟩⟩, ⟨⟨[98,101,103,105,110]⟩⟩, ⟨⟨[115,116,97,116,101,109,101,110,116]⟩⟩, ⟨⟨[102,105,114,115,116]⟩⟩, ⟨⟨[105,102]⟩⟩, ⟨⟨[99,104,111,115,101,110]⟩⟩, ⟨⟨[100,111]⟩⟩, ⟨⟨[104,97,110,100,101,100]⟩⟩, ⟨⟨[122,105,112]⟩⟩, ⟨⟨[105,110,107]⟩⟩, ⟨⟨[116,105,109,101,115]⟩⟩, ⟨⟨[109,111,118,101,100]⟩⟩, ⟨⟨[112,108,97,99,101]⟩⟩, ⟨⟨[120]⟩⟩, ⟨⟨[121]⟩⟩, ⟨⟨[83,84,69,80,83]⟩⟩, ⟨⟨[112,108,117,115]⟩⟩, ⟨⟨[116,117,114,116,108,101,104,111,117,115,101,46,104,97,110,100,115]⟩⟩, ⟨⟨[73,78,75,83]⟩⟩, ⟨⟨[66,69,71,73,78,78,73,78,71]⟩⟩, ⟨⟨[116,117,114,110,101,100]⟩⟩, ⟨⟨[115,116,114,111,107,101,115]⟩⟩, ⟨⟨[99,111,114,110,101,114,115]⟩⟩, ⟨⟨[99,111,109,101,95,116,111]⟩⟩, ⟨⟨[116,104,97,116,32,109,97,114,107,32,119,97,115,32,110,111,116,32,109,97,100,101]⟩⟩, ⟨⟨[111,110,101]⟩⟩, ⟨⟨[116,117,114,116,108,101,104,111,117,115,101,46,102,108,111,111,114]⟩⟩, ⟨⟨[116,117,114,116,108,101,104,111,117,115,101,46,101,114,114,111,114,115]⟩⟩, ⟨⟨[47,99,108,97,105,109,47,99,117,116,46,112,121]⟩⟩, ⟨⟨[95,95,100,111,99,95,95]⟩⟩, ⟨⟨[95,95,112,97,99,107,97,103,101,95,95]⟩⟩, ⟨⟨[95,95,108,111,97,100,101,114,95,95]⟩⟩, ⟨⟨[95,95,115,112,101,99,95,95]⟩⟩, ⟨⟨[95,95,97,110,110,111,116,97,116,105,111,110,115,95,95]⟩⟩, ⟨⟨[95,95,98,117,105,108,116,105,110,115,95,95]⟩⟩, ⟨⟨[95,95,102,105,108,101,95,95]⟩⟩, ⟨⟨[95,95,99,97,99,104,101,100,95,95]⟩⟩, ⟨⟨[95,95,109,111,100,117,108,101,95,95]⟩⟩, ⟨⟨[95,95,102,105,114,115,116,108,105,110,101,110,111,95,95]⟩⟩, ⟨⟨[95,95,115,116,97,116,105,99,95,97,116,116,114,105,98,117,116,101,115,95,95]⟩⟩, ⟨⟨[95,95,119,101,97,107,114,101,102,95,95]⟩⟩, ⟨⟨[72,97,110,100,46,95,95,105,110,105,116,95,95]⟩⟩, ⟨⟨[72,97,110,100,46,99,111,109,101,95,116,111]⟩⟩, ⟨⟨[72,97,110,100,46,103,111]⟩⟩, ⟨⟨[72,97,110,100,46,116,117,114,110]⟩⟩, ⟨⟨[72,97,110,100,46,98,97,99,107]⟩⟩, ⟨⟨[72,97,110,100,46,97,99,116]⟩⟩, ⟨⟨[72,97,110,100,46,101,110,100]⟩⟩, ⟨⟨[95,95,100,105,99,116,95,95]⟩⟩, ⟨⟨[76,101,118,101,108,46,95,95,105,110,105,116,95,95]⟩⟩, ⟨⟨[76,101,118,101,108,46,105,115,95,97,116,95,101,110,100]⟩⟩, ⟨⟨[76,101,118,101,108,46,105,115,95,116,104,114,111,117,103,104]⟩⟩, ⟨⟨[76,101,118,101,108,46,98,101,103,105,110,95,114,111,117,110,100]⟩⟩, ⟨⟨[76,101,118,101,108,46,110,101,120,116,95,115,116,97,116,101,109,101,110,116]⟩⟩, ⟨⟨[87,97,108,107,46,95,95,105,110,105,116,95,95]⟩⟩, ⟨⟨[87,97,108,107,46,105,115,95,100,111,110,101]⟩⟩, ⟨⟨[87,97,108,107,46,100,111,95,100,101,101,100]⟩⟩, ⟨⟨[87,97,108,107,46,98,101,103,105,110]⟩⟩, ⟨⟨[87,97,108,107,46,97,99,116]⟩⟩]
theorem hl : la = lb := by
 unfold la lb
 iterate 202 (refine oP (atom _ _ (by kernel_rfl) (by kernel_rfl)) ?_)
 rfl
noncomputable def Gp : { G : Str → Str → Str → Str → Str → Str → Str → Str → Str → Str → Str → Str → Str → Str → Str → Str → Str → Str → Str → Str → Str → Str → Str → Str → Str → Str → Str → Str → Str → Str → Str → Str → Str → Str → Str → Str → Str → Str → Str → Str → Str → Str → Str → Str → Str → Str → Str → Str → Str → Str → Str → Str → Str → Str → Str → Str → Str → Str → Str → Str → Str → Str → Str → Str → Str → Str → Str → Str → Str → Str → Str → Str → Str → Str → Str → Str → Str → Str → Str → Str → Str → Str → Str → Str → Str → Str → Str → Str → Str → Str → Str → Str → Str → Str → Str → Str → Str → Str → Str → Str → Str → Str → Str → Str → Str → Str → Str → Str → Str → Str → Str → Str → Str → Str → Str → Str → Str → Str → Str → Str → Str → Str → Str → Str → Str → Str → Str → Str → Str → Str → Str → Str → Str → Str → Str → Str → Str → Str → Str → Str → Str → Str → Str → Str → Str → Str → Str → Str → Str → Str → Str → Str → Str → Str → Str → Str → Str → Str → Str → Str → Str → Str → Str → Str → Str → Str → Str → Str → Str → Str → Str → Str → Program // PySem.Challenge.pw_turtlehouse_k26_too_long = G (Str.ofString "_law_row") (Str.ofString "_law_cell_here") (Str.ofString "_law_most") (Str.ofString "_law_many") (Str.ofString "_law_found") (Str.ofString "_law_rest") (Str.ofString "_law_k") (Str.ofString "range") (Str.ofString "append") (Str.ofString "_law_mixed") (Str.ofString ".0") (Str.ofString "fast") (Str.ofString "_law_refused") (Str.ofString "_law_body") (Str.ofString "") (Str.ofString "_law_program") (Str.ofString "put_in") (Str.ofString "NoMark") (Str.ofString "mark") (Str.ofString "TooGreat") (Str.ofString "great") (Str.ofString "TooLong") (Str.ofString "long") (Str.ofString "HouseError") (Str.ofString "error") (Str.ofString "_law_some") (Str.ofString "isinstance") (Str.ofString "_law_others") (Str.ofString "NoProgram") (Str.ofString "NoText") (Str.ofString "NotWhole") (Str.ofString "other") (Str.ofString "ValueError") (Str.ofString "_law_by_deeds") (Str.ofString "_law_row_here") (Str.ofString "_law_deeds") (Str.ofString "_law_inner") (Str.ofString "tuple") (Str.ofString "turn") (Str.ofString "_law_turn") (Str.ofString "again") (Str.ofString "len") (Str.ofString "_law_due") (Str.ofString "_law_again") (Str.ofString "_law_by_backs") (Str.ofString "go") (Str.ofString "back") (Str.ofString "int") (Str.ofString "_law_far") (Str.ofString "_law_by_steps") (Str.ofString "_law_heading") (Str.ofString "_law_more") (Str.ofString "_law_first") (Str.ofString "up") (Str.ofString "law") (Str.ofString "_law_script") (Str.ofString "_law_cell") (Str.ofString "max") (Str.ofString "min") (Str.ofString "with_pen_up") (Str.ofString "statements") (Str.ofString "down") (Str.ofString "way_back") (Str.ofString "hand") (Str.ofString "number") (Str.ofString "spot") (Str.ofString "heading") (Str.ofString "marks") (Str.ofString "now") (Str.ofString "way_to") (Str.ofString "extend") (Str.ofString "turn_between") (Str.ofString "program") (Str.ofString "most") (Str.ofString "walk") (Str.ofString "walked") (Str.ofString "is_done") (Str.ofString "the run would be stopped") (Str.ofString "act") (Str.ofString "acts") (Str.ofString "MOST_BACKS") (Str.ofString "there are too many backs") (Str.ofString "Hand") (Str.ofString "body") (Str.ofString "__name__") (Str.ofString "law_turtlehouse_k26_too_long") (Str.ofString "_law_number") (Str.ofString "Walk") (Str.ofString "deeds") (Str.ofString "do_deed") (Str.ofString "turtlehouse.plain") (Str.ofString "legs_between") (Str.ofString "start") (Str.ofString "end") (Str.ofString "east") (Str.ofString "easting") (Str.ofString "minus") (Str.ofString "north") (Str.ofString "northing") (Str.ofString "EAST") (Str.ofString "NORTH_EAST") (Str.ofString "NORTH") (Str.ofString "SOUTH_EAST") (Str.ofString "wanted") (Str.ofString "eighths") (Str.ofString "ROUND") (Str.ofString "steps") (Str.ofString "MOST_AMOUNT") (Str.ofString "a place lies too far away") (Str.ofString "NUMBERS") (Str.ofString "n0") (Str.ofString "n1") (Str.ofString "n2") (Str.ofString "n3") (Str.ofString "turtlehouse.runs") (Str.ofString "worth") (Str.ofString "amount") (Str.ofString "sources") (Str.ofString "value") (Str.ofString "factor") (Str.ofString "source") (Str.ofString "more") (Str.ofString "an amount comes to more than is allowed") (Str.ofString "Level") (Str.ofString "__init__") (Str.ofString "self") (Str.ofString "at") (Str.ofString "begun") (Str.ofString "rounds") (Str.ofString "is_at_end") (Str.ofString "is_through") (Str.ofString "begin_round") (Str.ofString "count") (Str.ofString "next_statement") (Str.ofString "again_level") (Str.ofString "level") (Str.ofString "dict") (Str.ofString "words") (Str.ofString "bodies") (Str.ofString "name") (Str.ofString "inner") (Str.ofString "many") (Str.ofString "levels") (Str.ofString "pop") (Str.ofString "begin") (Str.ofString "statement") (Str.ofString "first") (Str.ofString "if") (Str.ofString "chosen") (Str.ofString "do") (Str.ofString "handed") (Str.ofString "zip") (Str.ofString "ink") (Str.ofString "times") (Str.ofString "moved") (Str.ofString "place") (Str.ofString "x") (Str.ofString "y") (Str.ofString "STEPS") (Str.ofString "plus") (Str.ofString "turtlehouse.hands") (Str.ofString "INKS") (Str.ofString "BEGINNING") (Str.ofString "turned") (Str.ofString "strokes") (Str.ofString "corners") (Str.ofString "come_to") (Str.ofString "that mark was not made") (Str.ofString "one") (Str.ofString "turtlehouse.floor") (Str.ofString "turtlehouse.errors") (Str.ofString "/claim/cut.py") } := ⟨_, by
 unfold PySem.Challenge.pw_turtlehouse_k26_too_long
 generalize Str.ofString "_law_row" = s0
 generalize Str.ofString "_law_cell_here" = s1
 generalize Str.ofString "_law_most" = s2
 generalize Str.ofString "_law_many" = s3
 generalize Str.ofString "_law_found" = s4
 generalize Str.ofString "_law_rest" = s5
 generalize Str.ofString "_law_k" = s6
 generalize Str.ofString "range" = s7
 generalize Str.ofString "append" = s8
 generalize Str.ofString "_law_mixed" = s9
 generalize Str.ofString ".0" = s10
 generalize Str.ofString "fast" = s11
 generalize Str.ofString "_law_refused" = s12
 generalize Str.ofString "_law_body" = s13
 generalize Str.ofString "" = s14
 generalize Str.ofString "_law_program" = s15
 generalize Str.ofString "put_in" = s16
 generalize Str.ofString "NoMark" = s17
 generalize Str.ofString "mark" = s18
 generalize Str.ofString "TooGreat" = s19
 generalize Str.ofString "great" = s20
 generalize Str.ofString "TooLong" = s21
 generalize Str.ofString "long" = s22
 generalize Str.ofString "HouseError" = s23
 generalize Str.ofString "error" = s24
 generalize Str.ofString "_law_some" = s25
 generalize Str.ofString "isinstance" = s26
 generalize Str.ofString "_law_others" = s27
 generalize Str.ofString "NoProgram" = s28
 generalize Str.ofString "NoText" = s29
 generalize Str.ofString "NotWhole" = s30
 generalize Str.ofString "other" = s31
 generalize Str.ofString "ValueError" = s32
 generalize Str.ofString "_law_by_deeds" = s33
 generalize Str.ofString "_law_row_here" = s34
 generalize Str.ofString "_law_deeds" = s35
 generalize Str.ofString "_law_inner" = s36
 generalize Str.ofString "tuple" = s37
 generalize Str.ofString "turn" = s38
 generalize Str.ofString "_law_turn" = s39
 generalize Str.ofString "again" = s40
 generalize Str.ofString "len" = s41
 generalize Str.ofString "_law_due" = s42
 generalize Str.ofString "_law_again" = s43
 generalize Str.ofString "_law_by_backs" = s44
 generalize Str.ofString "go" = s45
 generalize Str.ofString "back" = s46
 generalize Str.ofString "int" = s47
 generalize Str.ofString "_law_far" = s48
 generalize Str.ofString "_law_by_steps" = s49
 generalize Str.ofString "_law_heading" = s50
 generalize Str.ofString "_law_more" = s51
 generalize Str.ofString "_law_first" = s52
 generalize Str.ofString "up" = s53
 generalize Str.ofString "law" = s54
 generalize Str.ofString "_law_script" = s55
 generalize Str.ofString "_law_cell" = s56
 generalize Str.ofString "max" = s57
 generalize Str.ofString "min" = s58
 generalize Str.ofString "with_pen_up" = s59
 generalize Str.ofString "statements" = s60
 generalize Str.ofString "down" = s61
 generalize Str.ofString "way_back" = s62
 generalize Str.ofString "hand" = s63
 generalize Str.ofString "number" = s64
 generalize Str.ofString "spot" = s65
 generalize Str.ofString "heading" = s66
 generalize Str.ofString "marks" = s67
 generalize Str.ofString "now" = s68
 generalize Str.ofString "way_to" = s69
 generalize Str.ofString "extend" = s70
 generalize Str.ofString "turn_between" = s71
 generalize Str.ofString "program" = s72
 generalize Str.ofString "most" = s73
 generalize Str.ofString "walk" = s74
 generalize Str.ofString "walked" = s75
 generalize Str.ofString "is_done" = s76
 generalize Str.ofString "the run would be stopped" = s77
 generalize Str.ofString "act" = s78
 generalize Str.ofString "acts" = s79
 generalize Str.ofString "MOST_BACKS" = s80
 generalize Str.ofString "there are too many backs" = s81
 generalize Str.ofString "Hand" = s82
 generalize Str.ofString "body" = s83
 generalize Str.ofString "__name__" = s84
 generalize Str.ofString "law_turtlehouse_k26_too_long" = s85
 generalize Str.ofString "_law_number" = s86
 generalize Str.ofString "Walk" = s87
 generalize Str.ofString "deeds" = s88
 generalize Str.ofString "do_deed" = s89
 generalize Str.ofString "turtlehouse.plain" = s90
 generalize Str.ofString "legs_between" = s91
 generalize Str.ofString "start" = s92
 generalize Str.ofString "end" = s93
 generalize Str.ofString "east" = s94
 generalize Str.ofString "easting" = s95
 generalize Str.ofString "minus" = s96
 generalize Str.ofString "north" = s97
 generalize Str.ofString "northing" = s98
 generalize Str.ofString "EAST" = s99
 generalize Str.ofString "NORTH_EAST" = s100
 generalize Str.ofString "NORTH" = s101
 generalize Str.ofString "SOUTH_EAST" = s102
 generalize Str.ofString "wanted" = s103
 generalize Str.ofString "eighths" = s104
 generalize Str.ofString "ROUND" = s105
 generalize Str.ofString "steps" = s106
 generalize Str.ofString "MOST_AMOUNT" = s107
 generalize Str.ofString "a place lies too far away" = s108
 generalize Str.ofString "NUMBERS" = s109
 generalize Str.ofString "n0" = s110
 generalize Str.ofString "n1" = s111
 generalize Str.ofString "n2" = s112
 generalize Str.ofString "n3" = s113
 generalize Str.ofString "turtlehouse.runs" = s114
 generalize Str.ofString "worth" = s115
 generalize Str.ofString "amount" = s116
 generalize Str.ofString "sources" = s117
 generalize Str.ofString "value" = s118
 generalize Str.ofString "factor" = s119
 generalize Str.ofString "source" = s120
 generalize Str.ofString "more" = s121
 generalize Str.ofString "an amount comes to more than is allowed" = s122
 generalize Str.ofString "Level" = s123
 generalize Str.ofString "__init__" = s124
 generalize Str.ofString "self" = s125
 generalize Str.ofString "at" = s126
 generalize Str.ofString "begun" = s127
 generalize Str.ofString "rounds" = s128
 generalize Str.ofString "is_at_end" = s129
 generalize Str.ofString "is_through" = s130
 generalize Str.ofString "begin_round" = s131
 generalize Str.ofString "count" = s132
 generalize Str.ofString "next_statement" = s133
 generalize Str.ofString "again_level" = s134
 generalize Str.ofString "level" = s135
 generalize Str.ofString "dict" = s136
 generalize Str.ofString "words" = s137
 generalize Str.ofString "bodies" = s138
 generalize Str.ofString "name" = s139
 generalize Str.ofString "inner" = s140
 generalize Str.ofString "many" = s141
 generalize Str.ofString "levels" = s142
 generalize Str.ofString "pop" = s143
 generalize Str.ofString "begin" = s144
 generalize Str.ofString "statement" = s145
 generalize Str.ofString "first" = s146
 generalize Str.ofString "if" = s147
 generalize Str.ofString "chosen" = s148
 generalize Str.ofString "do" = s149
 generalize Str.ofString "handed" = s150
 generalize Str.ofString "zip" = s151
 generalize Str.ofString "ink" = s152
 generalize Str.ofString "times" = s153
 generalize Str.ofString "moved" = s154
 generalize Str.ofString "place" = s155
 generalize Str.ofString "x" = s156
 generalize Str.ofString "y" = s157
 generalize Str.ofString "STEPS" = s158
 generalize Str.ofString "plus" = s159
 generalize Str.ofString "turtlehouse.hands" = s160
 generalize Str.ofString "INKS" = s161
 generalize Str.ofString "BEGINNING" = s162
 generalize Str.ofString "turned" = s163
 generalize Str.ofString "strokes" = s164
 generalize Str.ofString "corners" = s165
 generalize Str.ofString "come_to" = s166
 generalize Str.ofString "that mark was not made" = s167
 generalize Str.ofString "one" = s168
 generalize Str.ofString "turtlehouse.floor" = s169
 generalize Str.ofString "turtlehouse.errors" = s170
 generalize Str.ofString "/claim/cut.py" = s171
 exact rfl⟩
noncomputable def GL (l : List Str) : Program := Gp.1 (nm l 0) (nm l 1) (nm l 2) (nm l 3) (nm l 4) (nm l 5) (nm l 6) (nm l 7) (nm l 8) (nm l 9) (nm l 10) (nm l 11) (nm l 12) (nm l 13) (nm l 14) (nm l 15) (nm l 16) (nm l 17) (nm l 18) (nm l 19) (nm l 20) (nm l 21) (nm l 22) (nm l 23) (nm l 24) (nm l 25) (nm l 26) (nm l 27) (nm l 28) (nm l 29) (nm l 30) (nm l 31) (nm l 32) (nm l 33) (nm l 34) (nm l 35) (nm l 36) (nm l 37) (nm l 38) (nm l 39) (nm l 40) (nm l 41) (nm l 42) (nm l 43) (nm l 44) (nm l 45) (nm l 46) (nm l 47) (nm l 48) (nm l 49) (nm l 50) (nm l 51) (nm l 52) (nm l 53) (nm l 54) (nm l 55) (nm l 56) (nm l 57) (nm l 58) (nm l 59) (nm l 60) (nm l 61) (nm l 62) (nm l 63) (nm l 64) (nm l 65) (nm l 66) (nm l 67) (nm l 68) (nm l 69) (nm l 70) (nm l 71) (nm l 72) (nm l 73) (nm l 74) (nm l 75) (nm l 76) (nm l 77) (nm l 78) (nm l 79) (nm l 80) (nm l 81) (nm l 82) (nm l 83) (nm l 84) (nm l 85) (nm l 86) (nm l 87) (nm l 88) (nm l 89) (nm l 90) (nm l 91) (nm l 92) (nm l 93) (nm l 94) (nm l 95) (nm l 96) (nm l 97) (nm l 98) (nm l 99) (nm l 100) (nm l 101) (nm l 102) (nm l 103) (nm l 104) (nm l 105) (nm l 106) (nm l 107) (nm l 108) (nm l 109) (nm l 110) (nm l 111) (nm l 112) (nm l 113) (nm l 114) (nm l 115) (nm l 116) (nm l 117) (nm l 118) (nm l 119) (nm l 120) (nm l 121) (nm l 122) (nm l 123) (nm l 124) (nm l 125) (nm l 126) (nm l 127) (nm l 128) (nm l 129) (nm l 130) (nm l 131) (nm l 132) (nm l 133) (nm l 134) (nm l 135) (nm l 136) (nm l 137) (nm l 138) (nm l 139) (nm l 140) (nm l 141) (nm l 142) (nm l 143) (nm l 144) (nm l 145) (nm l 146) (nm l 147) (nm l 148) (nm l 149) (nm l 150) (nm l 151) (nm l 152) (nm l 153) (nm l 154) (nm l 155) (nm l 156) (nm l 157) (nm l 158) (nm l 159) (nm l 160) (nm l 161) (nm l 162) (nm l 163) (nm l 164) (nm l 165) (nm l 166) (nm l 167) (nm l 168) (nm l 169) (nm l 170) (nm l 171)
theorem hp : PySem.Challenge.pw_turtlehouse_k26_too_long = GL lb := Gp.2.trans (congrArg GL hl)
noncomputable def _root_.PySem.W.Fast.tw11179665502567315611 : Program := GL lb
theorem _root_.PySem.W.Fast.te11179665502567315611 : PySem.Challenge.pw_turtlehouse_k26_too_long = PySem.W.Fast.tw11179665502567315611 := hp
noncomputable def KL (p : Program) (l : List Str) (P : Params) : PySem.W.Frag := [
 (3, ⟨(.type "dict"), none, .dict ⟨[de P (nm l 84) 165 (.str (nm l 85) 710), de P (nm l 172) 166 .none, de P (nm l 173) 167 .none, de P (nm l 174) 168 (.builtin "__main__.__loader__#opaque"), de P (nm l 175) 169 .none, de P (nm l 176) 170 (.ref 6), de P (nm l 177) 171 (.ref 4), de P (nm l 178) 173 (.str (nm l 171) 172), de P (nm l 179) 174 .none, de P (nm l 23) 206 (.ref 24), de P (nm l 28) 222 (.ref 37), de P (nm l 29) 238 (.ref 49), de P (nm l 17) 254 (.ref 61), de P (nm l 19) 270 (.ref 73), de P (nm l 21) 286 (.ref 85), de P (nm l 30) 302 (.ref 97), de P (nm l 105) 306 (.int (8) 305), de P (nm l 99) 308 (.int (0) 307), de P (nm l 100) 310 (.int (1) 309), de P (nm l 101) 312 (.int (2) 311), de P (nm l 102) 314 (.int (7) 313), de P (nm l 162) 319 (.ref 102), de P (nm l 158) 358 (.ref 127), de P (nm l 159) 366 (.ref 134), de P (nm l 96) 374 (.ref 141), de P (nm l 153) 382 (.ref 148), de P (nm l 154) 395 (.ref 155), de P (nm l 161) 399 (.int (8) 398), de P (nm l 82) 485 (.ref 214), de P (nm l 107) 487 (.int (1000000) 486), de P (nm l 109) 492 (.ref 219), de P (nm l 115) 506 (.ref 226), de P (nm l 123) 568 (.ref 271), de P (nm l 134) 578 (.ref 282), de P (nm l 87) 637 (.ref 323), de P (nm l 75) 647 (.ref 334), de P (nm l 80) 651 (.int (100) 650), de P (nm l 91) 663 (.ref 341), de P (nm l 71) 672 (.ref 348), de P (nm l 69) 684 (.ref 355), de P (nm l 59) 691 (.ref 362), de P (nm l 62) 703 (.ref 369), de P (nm l 16) 709 (.ref 374), de P (nm l 56) 720 (.ref 381), de P (nm l 9) 729 (.ref 388), de P (nm l 0) 735 (.ref 393), de P (nm l 12) 748 (.ref 400), de P (nm l 33) 754 (.ref 405), de P (nm l 44) 764 (.ref 412), de P (nm l 49) 775 (.ref 419), de P (nm l 54) 786 (.ref 426)]⟩ 51, ⟨[]⟩⟩),
 (22, ⟨(.type "tuple"), none, .seq ⟨[]⟩ 0, ⟨[]⟩⟩),
 (23, ⟨(.type "dict"), none, .dict ⟨[de P (nm l 180) 196 (.str (nm l 170) 187), de P (nm l 181) 200 (.int (2) 199), de P (nm l 182) 201 (.ref 22), de P (nm l 183) 203 (.ref 25), de P (nm l 172) 204 .none]⟩ 3, ⟨[]⟩⟩),
 (24, ⟨(.type "type"), none, .cls { name := nm l 23, bases := [(.type "ValueError")], mro := [(.ref 24), (.type "ValueError"), (.type "Exception"), (.type "BaseException"), (.type "object")], ns := 23, qualname := nm l 23, hasDict := true, slotNames := [], subclasses := [(.ref 37), (.ref 49), (.ref 61), (.ref 73), (.ref 85), (.ref 97)], abstract := false, collection := none, hasDel := false }, ⟨[(some (.ref 15)), none, (some (.str (nm l 23) 189)), (some (.str (nm l 23) 197)), (some (.builtin "ValueError.__new__")), (some (.bool true))]⟩⟩),
 (25, ⟨(.type "getset_descriptor"), none, .fields ⟨[(.str (nm l 183) 202), (.ref 24), (.builtin "ExceptionGroup.__weakref__"), .none]⟩, ⟨[]⟩⟩),
 (35, ⟨(.type "tuple"), none, .seq ⟨[]⟩ 0, ⟨[]⟩⟩),
 (36, ⟨(.type "dict"), none, .dict ⟨[de P (nm l 180) 214 (.str (nm l 170) 187), de P (nm l 181) 218 (.int (4) 217), de P (nm l 182) 219 (.ref 35), de P (nm l 172) 220 .none]⟩ 2, ⟨[]⟩⟩),
 (37, ⟨(.type "type"), none, .cls { name := nm l 28, bases := [(.ref 24)], mro := [(.ref 37), (.ref 24), (.type "ValueError"), (.type "Exception"), (.type "BaseException"), (.type "object")], ns := 36, qualname := nm l 28, hasDict := true, slotNames := [], subclasses := [], abstract := false, collection := none, hasDel := false }, ⟨[(some (.ref 28)), none, (some (.str (nm l 28) 207)), (some (.str (nm l 28) 215)), (some (.builtin "ValueError.__new__")), (some (.bool true))]⟩⟩),
 (47, ⟨(.type "tuple"), none, .seq ⟨[]⟩ 0, ⟨[]⟩⟩),
 (48, ⟨(.type "dict"), none, .dict ⟨[de P (nm l 180) 230 (.str (nm l 170) 187), de P (nm l 181) 234 (.int (6) 233), de P (nm l 182) 235 (.ref 47), de P (nm l 172) 236 .none]⟩ 2, ⟨[]⟩⟩),
 (49, ⟨(.type "type"), none, .cls { name := nm l 29, bases := [(.ref 24)], mro := [(.ref 49), (.ref 24), (.type "ValueError"), (.type "Exception"), (.type "BaseException"), (.type "object")], ns := 48, qualname := nm l 29, hasDict := true, slotNames := [], subclasses := [], abstract := false, collection := none, hasDel := false }, ⟨[(some (.ref 40)), none, (some (.str (nm l 29) 223)), (some (.str (nm l 29) 231)), (some (.builtin "ValueError.__new__")), (some (.bool true))]⟩⟩),
 (59, ⟨(.type "tuple"), none, .seq ⟨[]⟩ 0, ⟨[]⟩⟩),
 (60, ⟨(.type "dict"), none, .dict ⟨[de P (nm l 180) 246 (.str (nm l 170) 187), de P (nm l 181) 250 (.int (8) 249), de P (nm l 182) 251 (.ref 59), de P (nm l 172) 252 .none]⟩ 2, ⟨[]⟩⟩),
 (61, ⟨(.type "type"), none, .cls { name := nm l 17, bases := [(.ref 24)], mro := [(.ref 61), (.ref 24), (.type "ValueError"), (.type "Exception"), (.type "BaseException"), (.type "object")], ns := 60, qualname := nm l 17, hasDict := true, slotNames := [], subclasses := [], abstract := false, collection := none, hasDel := false }, ⟨[(some (.ref 52)), none, (some (.str (nm l 17) 239)), (some (.str (nm l 17) 247)), (some (.builtin "ValueError.__new__")), (some (.bool true))]⟩⟩),
 (71, ⟨(.type "tuple"), none, .seq ⟨[]⟩ 0, ⟨[]⟩⟩),
 (72, ⟨(.type "dict"), none, .dict ⟨[de P (nm l 180) 262 (.str (nm l 170) 187), de P (nm l 181) 266 (.int (10) 265), de P (nm l 182) 267 (.ref 71), de P (nm l 172) 268 .none]⟩ 2, ⟨[]⟩⟩),
 (73, ⟨(.type "type"), none, .cls { name := nm l 19, bases := [(.ref 24)], mro := [(.ref 73), (.ref 24), (.type "ValueError"), (.type "Exception"), (.type "BaseException"), (.type "object")], ns := 72, qualname := nm l 19, hasDict := true, slotNames := [], subclasses := [], abstract := false, collection := none, hasDel := false }, ⟨[(some (.ref 64)), none, (some (.str (nm l 19) 255)), (some (.str (nm l 19) 263)), (some (.builtin "ValueError.__new__")), (some (.bool true))]⟩⟩),
 (83, ⟨(.type "tuple"), none, .seq ⟨[]⟩ 0, ⟨[]⟩⟩),
 (84, ⟨(.type "dict"), none, .dict ⟨[de P (nm l 180) 278 (.str (nm l 170) 187), de P (nm l 181) 282 (.int (12) 281), de P (nm l 182) 283 (.ref 83), de P (nm l 172) 284 .none]⟩ 2, ⟨[]⟩⟩),
 (85, ⟨(.type "type"), none, .cls { name := nm l 21, bases := [(.ref 24)], mro := [(.ref 85), (.ref 24), (.type "ValueError"), (.type "Exception"), (.type "BaseException"), (.type "object")], ns := 84, qualname := nm l 21, hasDict := true, slotNames := [], subclasses := [], abstract := false, collection := none, hasDel := false }, ⟨[(some (.ref 76)), none, (some (.str (nm l 21) 271)), (some (.str (nm l 21) 279)), (some (.builtin "ValueError.__new__")), (some (.bool true))]⟩⟩),
 (95, ⟨(.type "tuple"), none, .seq ⟨[]⟩ 0, ⟨[]⟩⟩),
 (96, ⟨(.type "dict"), none, .dict ⟨[de P (nm l 180) 294 (.str (nm l 170) 187), de P (nm l 181) 298 (.int (14) 297), de P (nm l 182) 299 (.ref 95), de P (nm l 172) 300 .none]⟩ 2, ⟨[]⟩⟩),
 (97, ⟨(.type "type"), none, .cls { name := nm l 30, bases := [(.ref 24)], mro := [(.ref 97), (.ref 24), (.type "ValueError"), (.type "Exception"), (.type "BaseException"), (.type "object")], ns := 96, qualname := nm l 30, hasDict := true, slotNames := [], subclasses := [], abstract := false, collection := none, hasDel := false }, ⟨[(some (.ref 88)), none, (some (.str (nm l 30) 287)), (some (.str (nm l 30) 295)), (some (.builtin "ValueError.__new__")), (some (.bool true))]⟩⟩),
 (100, ⟨(.type "tuple"), none, .seq ⟨[(.int (0) 315), (.int (0) 316)]⟩ 0, ⟨[]⟩⟩),
 (101, ⟨(.type "tuple"), none, .seq ⟨[(.int (0) 317), (.int (0) 318)]⟩ 0, ⟨[]⟩⟩),
 (102, ⟨(.type "tuple"), none, .seq ⟨[(.ref 100), (.ref 101)]⟩ 0, ⟨[]⟩⟩),
 (103, ⟨(.type "tuple"), none, .seq ⟨[(.int (1) 320), (.int (0) 321)]⟩ 0, ⟨[]⟩⟩),
 (104, ⟨(.type "tuple"), none, .seq ⟨[(.int (0) 322), (.int (0) 323)]⟩ 0, ⟨[]⟩⟩),
 (105, ⟨(.type "tuple"), none, .seq ⟨[(.ref 103), (.ref 104)]⟩ 0, ⟨[]⟩⟩),
 (106, ⟨(.type "tuple"), none, .seq ⟨[(.int (0) 324), (.int (1) 325)]⟩ 0, ⟨[]⟩⟩),
 (107, ⟨(.type "tuple"), none, .seq ⟨[(.int (0) 326), (.int (1) 327)]⟩ 0, ⟨[]⟩⟩),
 (108, ⟨(.type "tuple"), none, .seq ⟨[(.ref 106), (.ref 107)]⟩ 0, ⟨[]⟩⟩),
 (109, ⟨(.type "tuple"), none, .seq ⟨[(.int (0) 328), (.int (0) 329)]⟩ 0, ⟨[]⟩⟩),
 (110, ⟨(.type "tuple"), none, .seq ⟨[(.int (1) 330), (.int (0) 331)]⟩ 0, ⟨[]⟩⟩),
 (111, ⟨(.type "tuple"), none, .seq ⟨[(.ref 109), (.ref 110)]⟩ 0, ⟨[]⟩⟩),
 (112, ⟨(.type "tuple"), none, .seq ⟨[(.int (0) 332), (.int (-1) 334)]⟩ 0, ⟨[]⟩⟩),
 (113, ⟨(.type "tuple"), none, .seq ⟨[(.int (0) 335), (.int (1) 336)]⟩ 0, ⟨[]⟩⟩),
 (114, ⟨(.type "tuple"), none, .seq ⟨[(.ref 112), (.ref 113)]⟩ 0, ⟨[]⟩⟩),
 (115, ⟨(.type "tuple"), none, .seq ⟨[(.int (-1) 338), (.int (0) 339)]⟩ 0, ⟨[]⟩⟩),
 (116, ⟨(.type "tuple"), none, .seq ⟨[(.int (0) 340), (.int (0) 341)]⟩ 0, ⟨[]⟩⟩),
 (117, ⟨(.type "tuple"), none, .seq ⟨[(.ref 115), (.ref 116)]⟩ 0, ⟨[]⟩⟩),
 (118, ⟨(.type "tuple"), none, .seq ⟨[(.int (0) 342), (.int (-1) 344)]⟩ 0, ⟨[]⟩⟩),
 (119, ⟨(.type "tuple"), none, .seq ⟨[(.int (0) 345), (.int (-1) 347)]⟩ 0, ⟨[]⟩⟩),
 (120, ⟨(.type "tuple"), none, .seq ⟨[(.ref 118), (.ref 119)]⟩ 0, ⟨[]⟩⟩),
 (121, ⟨(.type "tuple"), none, .seq ⟨[(.int (0) 348), (.int (0) 349)]⟩ 0, ⟨[]⟩⟩),
 (122, ⟨(.type "tuple"), none, .seq ⟨[(.int (-1) 351), (.int (0) 352)]⟩ 0, ⟨[]⟩⟩),
 (123, ⟨(.type "tuple"), none, .seq ⟨[(.ref 121), (.ref 122)]⟩ 0, ⟨[]⟩⟩),
 (124, ⟨(.type "tuple"), none, .seq ⟨[(.int (0) 353), (.int (1) 354)]⟩ 0, ⟨[]⟩⟩),
 (125, ⟨(.type "tuple"), none, .seq ⟨[(.int (0) 355), (.int (-1) 357)]⟩ 0, ⟨[]⟩⟩),
 (126, ⟨(.type "tuple"), none, .seq ⟨[(.ref 124), (.ref 125)]⟩ 0, ⟨[]⟩⟩),
 (127, ⟨(.type "tuple"), none, .seq ⟨[(.ref 105), (.ref 108), (.ref 111), (.ref 114), (.ref 117), (.ref 120), (.ref 123), (.ref 126)]⟩ 0, ⟨[]⟩⟩),
 (133, ⟨(.type "code"), none, .fields ⟨[(.str (nm l 159) 359), (.str (nm l 159) 360), (.str (nm l 171) 361), (.int (24) 0), (.int (2) 0), (.int (0) 0), (.int (0) 0), (.int (3) 0), (.ref 128), (.bool true), (.int (181) 0), (.ref 129), .none, (.ref 130), (.ref 131), (.ref 132), (.int (364) 0), (.int (24) 0), (.str (nm l 171) 365)]⟩, ⟨[]⟩⟩),
 (134, fnO p (nm l 159) 16 .none .none (.str (nm l 169) 303) none (.ref 133) .none),
 (140, ⟨(.type "code"), none, .fields ⟨[(.str (nm l 96) 367), (.str (nm l 96) 368), (.str (nm l 171) 369), (.int (26) 0), (.int (2) 0), (.int (0) 0), (.int (0) 0), (.int (3) 0), (.ref 135), (.bool true), (.int (181) 0), (.ref 136), .none, (.ref 137), (.ref 138), (.ref 139), (.int (372) 0), (.int (26) 0), (.str (nm l 171) 373)]⟩, ⟨[]⟩⟩),
 (141, fnO p (nm l 96) 17 .none .none (.str (nm l 169) 303) none (.ref 140) .none),
 (147, ⟨(.type "code"), none, .fields ⟨[(.str (nm l 153) 375), (.str (nm l 153) 376), (.str (nm l 171) 377), (.int (28) 0), (.int (2) 0), (.int (0) 0), (.int (0) 0), (.int (3) 0), (.ref 142), (.bool true), (.int (181) 0), (.ref 143), .none, (.ref 144), (.ref 145), (.ref 146), (.int (380) 0), (.int (28) 0), (.str (nm l 171) 381)]⟩, ⟨[]⟩⟩),
 (148, fnO p (nm l 153) 18 .none .none (.str (nm l 169) 303) none (.ref 147) .none),
 (154, ⟨(.type "code"), none, .fields ⟨[(.str (nm l 154) 383), (.str (nm l 154) 384), (.str (nm l 171) 385), (.int (30) 0), (.int (3) 0), (.int (0) 0), (.int (0) 0), (.int (3) 0), (.ref 149), (.bool true), (.int (181) 0), (.ref 150), .none, (.ref 151), (.ref 152), (.ref 153), (.int (393) 0), (.int (30) 0), (.str (nm l 171) 394)]⟩, ⟨[]⟩⟩),
 (155, fnO p (nm l 154) 19 .none .none (.str (nm l 169) 303) none (.ref 154) .none),
 (168, ⟨(.type "code"), none, .fields ⟨[(.str (nm l 124) 412), (.str (nm l 184) 413), (.str (nm l 171) 414), (.int (38) 0), (.int (1) 0), (.int (0) 0), (.int (0) 0), (.int (3) 0), (.ref 163), (.bool true), (.int (181) 0), (.ref 164), .none, (.ref 165), (.ref 166), (.ref 167), (.int (416) 0), (.int (38) 0), (.str (nm l 171) 417)]⟩, ⟨[]⟩⟩),
 (169, fnM p (nm l 124) (nm l 184) 22 0 .none .none (.str (nm l 160) 396) none (.ref 168) .none),
 (175, ⟨(.type "code"), none, .fields ⟨[(.str (nm l 166) 419), (.str (nm l 185) 420), (.str (nm l 171) 421), (.int (48) 0), (.int (2) 0), (.int (0) 0), (.int (0) 0), (.int (3) 0), (.ref 170), (.bool true), (.int (181) 0), (.ref 171), .none, (.ref 172), (.ref 173), (.ref 174), (.int (424) 0), (.int (48) 0), (.str (nm l 171) 425)]⟩, ⟨[]⟩⟩),
 (176, fnM p (nm l 166) (nm l 185) 22 1 .none .none (.str (nm l 160) 396) none (.ref 175) .none),
 (182, ⟨(.type "code"), none, .fields ⟨[(.str (nm l 45) 427), (.str (nm l 186) 428), (.str (nm l 171) 429), (.int (52) 0), (.int (2) 0), (.int (0) 0), (.int (0) 0), (.int (3) 0), (.ref 177), (.bool true), (.int (181) 0), (.ref 178), .none, (.ref 179), (.ref 180), (.ref 181), (.int (433) 0), (.int (52) 0), (.str (nm l 171) 434)]⟩, ⟨[]⟩⟩),
 (183, fnM p (nm l 45) (nm l 186) 22 2 .none .none (.str (nm l 160) 396) none (.ref 182) .none),
 (189, ⟨(.type "code"), none, .fields ⟨[(.str (nm l 38) 436), (.str (nm l 187) 437), (.str (nm l 171) 438), (.int (58) 0), (.int (2) 0), (.int (0) 0), (.int (0) 0), (.int (3) 0), (.ref 184), (.bool true), (.int (181) 0), (.ref 185), .none, (.ref 186), (.ref 187), (.ref 188), (.int (441) 0), (.int (58) 0), (.str (nm l 171) 442)]⟩, ⟨[]⟩⟩),
 (190, fnM p (nm l 38) (nm l 187) 22 3 .none .none (.str (nm l 160) 396) none (.ref 189) .none),
 (196, ⟨(.type "code"), none, .fields ⟨[(.str (nm l 46) 444), (.str (nm l 188) 445), (.str (nm l 171) 446), (.int (62) 0), (.int (2) 0), (.int (0) 0), (.int (0) 0), (.int (3) 0), (.ref 191), (.bool true), (.int (181) 0), (.ref 192), .none, (.ref 193), (.ref 194), (.ref 195), (.int (451) 0), (.int (62) 0), (.str (nm l 171) 452)]⟩, ⟨[]⟩⟩),
 (197, fnM p (nm l 46) (nm l 188) 22 4 .none .none (.str (nm l 160) 396) none (.ref 196) .none),
 (203, ⟨(.type "code"), none, .fields ⟨[(.str (nm l 78) 454), (.str (nm l 189) 455), (.str (nm l 171) 456), (.int (69) 0), (.int (2) 0), (.int (0) 0), (.int (0) 0), (.int (3) 0), (.ref 198), (.bool true), (.int (181) 0), (.ref 199), .none, (.ref 200), (.ref 201), (.ref 202), (.int (460) 0), (.int (69) 0), (.str (nm l 171) 461)]⟩, ⟨[]⟩⟩),
 (204, fnM p (nm l 78) (nm l 189) 22 5 .none .none (.str (nm l 160) 396) none (.ref 203) .none),
 (210, ⟨(.type "code"), none, .fields ⟨[(.str (nm l 93) 463), (.str (nm l 190) 464), (.str (nm l 171) 465), (.int (84) 0), (.int (1) 0), (.int (0) 0), (.int (0) 0), (.int (3) 0), (.ref 205), (.bool true), (.int (181) 0), (.ref 206), .none, (.ref 207), (.ref 208), (.ref 209), (.int (467) 0), (.int (84) 0), (.str (nm l 171) 468)]⟩, ⟨[]⟩⟩),
 (211, fnM p (nm l 93) (nm l 190) 22 6 .none .none (.str (nm l 160) 396) none (.ref 210) .none),
 (212, ⟨(.type "tuple"), none, .seq ⟨[(.str (nm l 165) 470), (.str (nm l 61) 471), (.str (nm l 66) 472), (.str (nm l 152) 473), (.str (nm l 67) 474), (.str (nm l 65) 475), (.str (nm l 164) 476), (.str (nm l 163) 477)]⟩ 0, ⟨[]⟩⟩),
 (213, ⟨(.type "dict"), none, .dict ⟨[de P (nm l 180) 407 (.str (nm l 160) 396), de P (nm l 181) 411 (.int (36) 410), de P (nm l 124) 418 (.ref 169), de P (nm l 166) 426 (.ref 176), de P (nm l 45) 435 (.ref 183), de P (nm l 38) 443 (.ref 190), de P (nm l 46) 453 (.ref 197), de P (nm l 78) 462 (.ref 204), de P (nm l 93) 469 (.ref 211), de P (nm l 182) 478 (.ref 212), de P (nm l 191) 480 (.ref 215), de P (nm l 183) 482 (.ref 216), de P (nm l 172) 483 .none]⟩ 4, ⟨[]⟩⟩),
 (214, ⟨(.type "type"), none, .cls { name := nm l 82, bases := [(.type "object")], mro := [(.ref 214), (.type "object")], ns := 213, qualname := nm l 82, hasDict := true, slotNames := [], subclasses := [], abstract := false, collection := none, hasDel := false }, ⟨[none, none, (some (.str (nm l 82) 400)), (some (.str (nm l 82) 408)), (some (.builtin "object.__new__")), (some (.bool true))]⟩⟩),
 (215, ⟨(.type "getset_descriptor"), none, .fields ⟨[(.str (nm l 191) 479), (.ref 214), (.builtin "function.__dict__"), (.builtin "function.__dict__#set")]⟩, ⟨[]⟩⟩),
 (216, ⟨(.type "getset_descriptor"), none, .fields ⟨[(.str (nm l 183) 481), (.ref 214), (.builtin "ExceptionGroup.__weakref__"), .none]⟩, ⟨[]⟩⟩),
 (219, ⟨(.type "tuple"), none, .seq ⟨[(.str (nm l 110) 488), (.str (nm l 111) 489), (.str (nm l 112) 490), (.str (nm l 113) 491)]⟩ 0, ⟨[]⟩⟩),
 (225, ⟨(.type "code"), none, .fields ⟨[(.str (nm l 115) 495), (.str (nm l 115) 496), (.str (nm l 171) 497), (.int (89) 0), (.int (2) 0), (.int (0) 0), (.int (0) 0), (.int (3) 0), (.ref 220), (.bool true), (.int (181) 0), (.ref 221), .none, (.ref 222), (.ref 223), (.ref 224), (.int (504) 0), (.int (89) 0), (.str (nm l 171) 505)]⟩, ⟨[]⟩⟩),
 (226, fnO p (nm l 115) 26 .none .none (.str (nm l 114) 493) none (.ref 225) .none),
 (239, ⟨(.type "code"), none, .fields ⟨[(.str (nm l 124) 519), (.str (nm l 192) 520), (.str (nm l 171) 521), (.int (99) 0), (.int (3) 0), (.int (0) 0), (.int (0) 0), (.int (3) 0), (.ref 234), (.bool true), (.int (181) 0), (.ref 235), .none, (.ref 236), (.ref 237), (.ref 238), (.int (525) 0), (.int (99) 0), (.str (nm l 171) 526)]⟩, ⟨[]⟩⟩),
 (240, fnM p (nm l 124) (nm l 192) 27 0 .none .none (.str (nm l 114) 493) none (.ref 239) .none),
 (246, ⟨(.type "code"), none, .fields ⟨[(.str (nm l 129) 528), (.str (nm l 193) 529), (.str (nm l 171) 530), (.int (106) 0), (.int (1) 0), (.int (0) 0), (.int (0) 0), (.int (3) 0), (.ref 241), (.bool true), (.int (181) 0), (.ref 242), .none, (.ref 243), (.ref 244), (.ref 245), (.int (532) 0), (.int (106) 0), (.str (nm l 171) 533)]⟩, ⟨[]⟩⟩),
 (247, fnM p (nm l 129) (nm l 193) 27 1 .none .none (.str (nm l 114) 493) none (.ref 246) .none),
 (253, ⟨(.type "code"), none, .fields ⟨[(.str (nm l 130) 535), (.str (nm l 194) 536), (.str (nm l 171) 537), (.int (109) 0), (.int (1) 0), (.int (0) 0), (.int (0) 0), (.int (3) 0), (.ref 248), (.bool true), (.int (181) 0), (.ref 249), .none, (.ref 250), (.ref 251), (.ref 252), (.int (539) 0), (.int (109) 0), (.str (nm l 171) 540)]⟩, ⟨[]⟩⟩),
 (254, fnM p (nm l 130) (nm l 194) 27 2 .none .none (.str (nm l 114) 493) none (.ref 253) .none),
 (260, ⟨(.type "code"), none, .fields ⟨[(.str (nm l 131) 542), (.str (nm l 195) 543), (.str (nm l 171) 544), (.int (112) 0), (.int (1) 0), (.int (0) 0), (.int (0) 0), (.int (3) 0), (.ref 255), (.bool true), (.int (181) 0), (.ref 256), .none, (.ref 257), (.ref 258), (.ref 259), (.int (546) 0), (.int (112) 0), (.str (nm l 171) 547)]⟩, ⟨[]⟩⟩),
 (261, fnM p (nm l 131) (nm l 195) 27 3 .none .none (.str (nm l 114) 493) none (.ref 260) .none),
 (267, ⟨(.type "code"), none, .fields ⟨[(.str (nm l 133) 549), (.str (nm l 196) 550), (.str (nm l 171) 551), (.int (117) 0), (.int (1) 0), (.int (0) 0), (.int (0) 0), (.int (3) 0), (.ref 262), (.bool true), (.int (181) 0), (.ref 263), .none, (.ref 264), (.ref 265), (.ref 266), (.int (553) 0), (.int (117) 0), (.str (nm l 171) 554)]⟩, ⟨[]⟩⟩),
 (268, fnM p (nm l 133) (nm l 196) 27 4 .none .none (.str (nm l 114) 493) none (.ref 267) .none),
 (269, ⟨(.type "tuple"), none, .seq ⟨[(.str (nm l 126) 556), (.str (nm l 127) 557), (.str (nm l 83) 558), (.str (nm l 128) 559), (.str (nm l 117) 560)]⟩ 0, ⟨[]⟩⟩),
 (270, ⟨(.type "dict"), none, .dict ⟨[de P (nm l 180) 514 (.str (nm l 114) 493), de P (nm l 181) 518 (.int (97) 517), de P (nm l 124) 527 (.ref 240), de P (nm l 129) 534 (.ref 247), de P (nm l 130) 541 (.ref 254), de P (nm l 131) 548 (.ref 261), de P (nm l 133) 555 (.ref 268), de P (nm l 182) 561 (.ref 269), de P (nm l 191) 563 (.ref 272), de P (nm l 183) 565 (.ref 273), de P (nm l 172) 566 .none]⟩ 4, ⟨[]⟩⟩),
 (271, ⟨(.type "type"), none, .cls { name := nm l 123, bases := [(.type "object")], mro := [(.ref 271), (.type "object")], ns := 270, qualname := nm l 123, hasDict := true, slotNames := [], subclasses := [], abstract := false, collection := none, hasDel := false }, ⟨[none, none, (some (.str (nm l 123) 507)), (some (.str (nm l 123) 515)), (some (.builtin "object.__new__")), (some (.bool true))]⟩⟩),
 (272, ⟨(.type "getset_descriptor"), none, .fields ⟨[(.str (nm l 191) 562), (.ref 271), (.builtin "function.__dict__"), (.builtin "function.__dict__#set")]⟩, ⟨[]⟩⟩),
 (273, ⟨(.type "getset_descriptor"), none, .fields ⟨[(.str (nm l 183) 564), (.ref 271), (.builtin "ExceptionGroup.__weakref__"), .none]⟩, ⟨[]⟩⟩),
 (281, ⟨(.type "code"), none, .fields ⟨[(.str (nm l 134) 569), (.str (nm l 134) 570), (.str (nm l 171) 571), (.int (120) 0), (.int (3) 0), (.int (0) 0), (.int (0) 0), (.int (3) 0), (.ref 276), (.bool true), (.int (181) 0), (.ref 277), .none, (.ref 278), (.ref 279), (.ref 280), (.int (576) 0), (.int (120) 0), (.str (nm l 171) 577)]⟩, ⟨[]⟩⟩),
 (282, fnO p (nm l 134) 28 .none .none (.str (nm l 114) 493) none (.ref 281) .none),
 (293, ⟨(.type "code"), none, .fields ⟨[(.str (nm l 124) 591), (.str (nm l 197) 592), (.str (nm l 171) 593), (.int (127) 0), (.int (2) 0), (.int (0) 0), (.int (0) 0), (.int (3) 0), (.ref 290), (.bool true), (.int (181) 0), (.ref 291), .none, .none, .none, (.ref 292), (.int (594) 0), (.int (127) 0), (.str (nm l 171) 595)]⟩, ⟨[]⟩⟩),
 (294, fnM p (nm l 124) (nm l 197) 29 0 .none .none (.str (nm l 114) 493) none (.ref 293) .none),
 (300, ⟨(.type "code"), none, .fields ⟨[(.str (nm l 76) 597), (.str (nm l 198) 598), (.str (nm l 171) 599), (.int (134) 0), (.int (1) 0), (.int (0) 0), (.int (0) 0), (.int (3) 0), (.ref 295), (.bool true), (.int (181) 0), (.ref 296), .none, (.ref 297), (.ref 298), (.ref 299), (.int (601) 0), (.int (134) 0), (.str (nm l 171) 602)]⟩, ⟨[]⟩⟩),
 (301, fnM p (nm l 76) (nm l 198) 29 1 .none .none (.str (nm l 114) 493) none (.ref 300) .none),
 (307, ⟨(.type "code"), none, .fields ⟨[(.str (nm l 89) 604), (.str (nm l 199) 605), (.str (nm l 171) 606), (.int (139) 0), (.int (1) 0), (.int (0) 0), (.int (0) 0), (.int (3) 0), (.ref 302), (.bool true), (.int (181) 0), (.ref 303), .none, (.ref 304), (.ref 305), (.ref 306), (.int (609) 0), (.int (139) 0), (.str (nm l 171) 610)]⟩, ⟨[]⟩⟩),
 (308, fnM p (nm l 89) (nm l 199) 29 2 .none .none (.str (nm l 114) 493) none (.ref 307) .none),
 (312, ⟨(.type "code"), none, .fields ⟨[(.str (nm l 144) 612), (.str (nm l 200) 613), (.str (nm l 171) 614), (.int (146) 0), (.int (3) 0), (.int (0) 0), (.int (0) 0), (.int (3) 0), (.ref 309), (.bool true), (.int (181) 0), (.ref 310), .none, .none, .none, (.ref 311), (.int (615) 0), (.int (146) 0), (.str (nm l 171) 616)]⟩, ⟨[]⟩⟩),
 (313, fnM p (nm l 144) (nm l 200) 29 3 .none .none (.str (nm l 114) 493) none (.ref 312) .none),
 (319, ⟨(.type "code"), none, .fields ⟨[(.str (nm l 78) 618), (.str (nm l 201) 619), (.str (nm l 171) 620), (.int (161) 0), (.int (2) 0), (.int (0) 0), (.int (0) 0), (.int (3) 0), (.ref 314), (.bool true), (.int (181) 0), (.ref 315), .none, (.ref 316), (.ref 317), (.ref 318), (.int (623) 0), (.int (161) 0), (.str (nm l 171) 624)]⟩, ⟨[]⟩⟩),
 (320, fnM p (nm l 78) (nm l 201) 29 4 .none .none (.str (nm l 114) 493) none (.ref 319) .none),
 (321, ⟨(.type "tuple"), none, .seq ⟨[(.str (nm l 79) 626), (.str (nm l 138) 627), (.str (nm l 63) 628), (.str (nm l 142) 629)]⟩ 0, ⟨[]⟩⟩),
 (322, ⟨(.type "dict"), none, .dict ⟨[de P (nm l 180) 586 (.str (nm l 114) 493), de P (nm l 181) 590 (.int (125) 589), de P (nm l 124) 596 (.ref 294), de P (nm l 76) 603 (.ref 301), de P (nm l 89) 611 (.ref 308), de P (nm l 144) 617 (.ref 313), de P (nm l 78) 625 (.ref 320), de P (nm l 182) 630 (.ref 321), de P (nm l 191) 632 (.ref 324), de P (nm l 183) 634 (.ref 325), de P (nm l 172) 635 .none]⟩ 4, ⟨[]⟩⟩),
 (323, ⟨(.type "type"), none, .cls { name := nm l 87, bases := [(.type "object")], mro := [(.ref 323), (.type "object")], ns := 322, qualname := nm l 87, hasDict := true, slotNames := [], subclasses := [], abstract := false, collection := none, hasDel := false }, ⟨[none, none, (some (.str (nm l 87) 579)), (some (.str (nm l 87) 587)), (some (.builtin "object.__new__")), (some (.bool true))]⟩⟩),
 (324, ⟨(.type "getset_descriptor"), none, .fields ⟨[(.str (nm l 191) 631), (.ref 323), (.builtin "function.__dict__"), (.builtin "function.__dict__#set")]⟩, ⟨[]⟩⟩),
 (325, ⟨(.type "getset_descriptor"), none, .fields ⟨[(.str (nm l 183) 633), (.ref 323), (.builtin "ExceptionGroup.__weakref__"), .none]⟩, ⟨[]⟩⟩),
 (333, ⟨(.type "code"), none, .fields ⟨[(.str (nm l 75) 638), (.str (nm l 75) 639), (.str (nm l 171) 640), (.int (164) 0), (.int (2) 0), (.int (0) 0), (.int (0) 0), (.int (3) 0), (.ref 328), (.bool true), (.int (181) 0), (.ref 329), .none, (.ref 330), (.ref 331), (.ref 332), (.int (645) 0), (.int (164) 0), (.str (nm l 171) 646)]⟩, ⟨[]⟩⟩),
 (334, fnO p (nm l 75) 30 .none .none (.str (nm l 114) 493) none (.ref 333) .none),
 (340, ⟨(.type "code"), none, .fields ⟨[(.str (nm l 91) 652), (.str (nm l 91) 653), (.str (nm l 171) 654), (.int (173) 0), (.int (2) 0), (.int (0) 0), (.int (0) 0), (.int (3) 0), (.ref 335), (.bool true), (.int (181) 0), (.ref 336), .none, (.ref 337), (.ref 338), (.ref 339), (.int (661) 0), (.int (173) 0), (.str (nm l 171) 662)]⟩, ⟨[]⟩⟩),
 (341, fnO p (nm l 91) 33 .none .none (.str (nm l 90) 648) none (.ref 340) .none),
 (347, ⟨(.type "code"), none, .fields ⟨[(.str (nm l 71) 664), (.str (nm l 71) 665), (.str (nm l 171) 666), (.int (177) 0), (.int (2) 0), (.int (0) 0), (.int (0) 0), (.int (3) 0), (.ref 342), (.bool true), (.int (181) 0), (.ref 343), .none, (.ref 344), (.ref 345), (.ref 346), (.int (670) 0), (.int (177) 0), (.str (nm l 171) 671)]⟩, ⟨[]⟩⟩),
 (348, fnO p (nm l 71) 34 .none .none (.str (nm l 90) 648) none (.ref 347) .none),
 (354, ⟨(.type "code"), none, .fields ⟨[(.str (nm l 69) 673), (.str (nm l 69) 674), (.str (nm l 171) 675), (.int (180) 0), (.int (3) 0), (.int (0) 0), (.int (0) 0), (.int (3) 0), (.ref 349), (.bool true), (.int (181) 0), (.ref 350), .none, (.ref 351), (.ref 352), (.ref 353), (.int (682) 0), (.int (180) 0), (.str (nm l 171) 683)]⟩, ⟨[]⟩⟩),
 (355, fnO p (nm l 69) 35 .none .none (.str (nm l 90) 648) none (.ref 354) .none),
 (361, ⟨(.type "code"), none, .fields ⟨[(.str (nm l 59) 685), (.str (nm l 59) 686), (.str (nm l 171) 687), (.int (189) 0), (.int (1) 0), (.int (0) 0), (.int (0) 0), (.int (3) 0), (.ref 356), (.bool true), (.int (181) 0), (.ref 357), .none, (.ref 358), (.ref 359), (.ref 360), (.int (689) 0), (.int (189) 0), (.str (nm l 171) 690)]⟩, ⟨[]⟩⟩),
 (362, fnO p (nm l 59) 36 .none .none (.str (nm l 90) 648) none (.ref 361) .none),
 (368, ⟨(.type "code"), none, .fields ⟨[(.str (nm l 62) 692), (.str (nm l 62) 693), (.str (nm l 171) 694), (.int (191) 0), (.int (2) 0), (.int (0) 0), (.int (0) 0), (.int (3) 0), (.ref 363), (.bool true), (.int (181) 0), (.ref 364), .none, (.ref 365), (.ref 366), (.ref 367), (.int (701) 0), (.int (191) 0), (.str (nm l 171) 702)]⟩, ⟨[]⟩⟩),
 (369, fnO p (nm l 62) 37 .none .none (.str (nm l 90) 648) none (.ref 368) .none),
 (373, ⟨(.type "code"), none, .fields ⟨[(.str (nm l 16) 704), (.str (nm l 16) 705), (.str (nm l 171) 706), (.int (196) 0), (.int (2) 0), (.int (0) 0), (.int (0) 0), (.int (3) 0), (.ref 370), (.bool true), (.int (181) 0), (.ref 371), .none, .none, .none, (.ref 372), (.int (707) 0), (.int (196) 0), (.str (nm l 171) 708)]⟩, ⟨[]⟩⟩),
 (374, fnO p (nm l 16) 38 .none .none (.str (nm l 90) 648) none (.ref 373) .none),
 (380, ⟨(.type "code"), none, .fields ⟨[(.str (nm l 56) 712), (.str (nm l 56) 713), (.str (nm l 171) 714), (.int (212) 0), (.int (2) 0), (.int (0) 0), (.int (0) 0), (.int (3) 0), (.ref 375), (.bool true), (.int (181) 0), (.ref 376), .none, (.ref 377), (.ref 378), (.ref 379), (.int (718) 0), (.int (212) 0), (.str (nm l 171) 719)]⟩, ⟨[]⟩⟩),
 (381, fnO p (nm l 56) 40 .none .none (.str (nm l 85) 710) none (.ref 380) .none),
 (387, ⟨(.type "code"), none, .fields ⟨[(.str (nm l 9) 721), (.str (nm l 9) 722), (.str (nm l 171) 723), (.int (219) 0), (.int (2) 0), (.int (0) 0), (.int (0) 0), (.int (3) 0), (.ref 382), (.bool true), (.int (181) 0), (.ref 383), .none, (.ref 384), (.ref 385), (.ref 386), (.int (727) 0), (.int (219) 0), (.str (nm l 171) 728)]⟩, ⟨[]⟩⟩),
 (388, fnO p (nm l 9) 41 .none .none (.str (nm l 85) 710) none (.ref 387) .none),
 (392, ⟨(.type "code"), none, .fields ⟨[(.str (nm l 0) 730), (.str (nm l 0) 731), (.str (nm l 171) 732), (.int (224) 0), (.int (3) 0), (.int (0) 0), (.int (0) 0), (.int (3) 0), (.ref 389), (.bool true), (.int (181) 0), (.ref 390), .none, .none, .none, (.ref 391), (.int (733) 0), (.int (224) 0), (.str (nm l 171) 734)]⟩, ⟨[]⟩⟩),
 (393, fnO p (nm l 0) 42 .none .none (.str (nm l 85) 710) none (.ref 392) .none),
 (399, ⟨(.type "code"), none, .fields ⟨[(.str (nm l 12) 736), (.str (nm l 12) 737), (.str (nm l 171) 738), (.int (233) 0), (.int (2) 0), (.int (0) 0), (.int (0) 0), (.int (3) 0), (.ref 394), (.bool true), (.int (181) 0), (.ref 395), .none, (.ref 396), (.ref 397), (.ref 398), (.int (746) 0), (.int (233) 0), (.str (nm l 171) 747)]⟩, ⟨[]⟩⟩),
 (400, fnO p (nm l 12) 43 .none .none (.str (nm l 85) 710) none (.ref 399) .none),
 (404, ⟨(.type "code"), none, .fields ⟨[(.str (nm l 33) 749), (.str (nm l 33) 750), (.str (nm l 171) 751), (.int (254) 0), (.int (1) 0), (.int (0) 0), (.int (0) 0), (.int (3) 0), (.ref 401), (.bool true), (.int (181) 0), (.ref 402), .none, .none, .none, (.ref 403), (.int (752) 0), (.int (254) 0), (.str (nm l 171) 753)]⟩, ⟨[]⟩⟩),
 (405, fnO p (nm l 33) 44 .none .none (.str (nm l 85) 710) none (.ref 404) .none),
 (411, ⟨(.type "code"), none, .fields ⟨[(.str (nm l 44) 755), (.str (nm l 44) 756), (.str (nm l 171) 757), (.int (270) 0), (.int (1) 0), (.int (0) 0), (.int (0) 0), (.int (3) 0), (.ref 406), (.bool true), (.int (181) 0), (.ref 407), .none, (.ref 408), (.ref 409), (.ref 410), (.int (762) 0), (.int (270) 0), (.str (nm l 171) 763)]⟩, ⟨[]⟩⟩),
 (412, fnO p (nm l 44) 45 .none .none (.str (nm l 85) 710) none (.ref 411) .none),
 (418, ⟨(.type "code"), none, .fields ⟨[(.str (nm l 49) 765), (.str (nm l 49) 766), (.str (nm l 171) 767), (.int (279) 0), (.int (1) 0), (.int (0) 0), (.int (0) 0), (.int (3) 0), (.ref 413), (.bool true), (.int (181) 0), (.ref 414), .none, (.ref 415), (.ref 416), (.ref 417), (.int (773) 0), (.int (279) 0), (.str (nm l 171) 774)]⟩, ⟨[]⟩⟩),
 (419, fnO p (nm l 49) 46 .none .none (.str (nm l 85) 710) none (.ref 418) .none),
 (425, ⟨(.type "code"), none, .fields ⟨[(.str (nm l 54) 776), (.str (nm l 54) 777), (.str (nm l 171) 778), (.int (287) 0), (.int (1) 0), (.int (0) 0), (.int (0) 0), (.int (3) 0), (.ref 420), (.bool true), (.int (181) 0), (.ref 421), .none, (.ref 422), (.ref 423), (.ref 424), (.int (784) 0), (.int (287) 0), (.str (nm l 171) 785)]⟩, ⟨[]⟩⟩),
 (426, fnO p (nm l 54) 47 .none .none (.str (nm l 85) 710) none (.ref 425) .none)]
noncomputable def loose (l : List Str) : List Str := [nm l 23, nm l 28, nm l 29, nm l 17, nm l 19, nm l 21, nm l 30, nm l 105, nm l 99, nm l 100, nm l 101, nm l 102, nm l 162, nm l 158, nm l 159, nm l 96, nm l 153, nm l 154, nm l 161, nm l 82, nm l 107, nm l 109, nm l 115, nm l 123, nm l 134, nm l 87, nm l 75, nm l 80, nm l 91, nm l 71, nm l 69, nm l 59, nm l 62, nm l 16, nm l 56, nm l 9, nm l 0, nm l 12, nm l 33, nm l 44, nm l 49]
noncomputable def vw (p : Program) : Program := PySem.W.view p [47]
noncomputable def ad : List Addr := [3, 22, 23, 24, 25, 35, 36, 37, 47, 48, 49, 59, 60, 61, 71, 72, 73, 83, 84, 85, 95, 96, 97, 100, 101, 102, 103, 104, 105, 106, 107, 108, 109, 110, 111, 112, 113, 114, 115, 116, 117, 118, 119, 120, 121, 122, 123, 124, 125, 126, 127, 133, 134, 140, 141, 147, 148, 154, 155, 168, 169, 175, 176, 182, 183, 189, 190, 196, 197, 203, 204, 210, 211, 212, 213, 214, 215, 216, 219, 225, 226, 239, 240, 246, 247, 253, 254, 260, 261, 267, 268, 269, 270, 271, 272, 273, 281, 282, 293, 294, 300, 301, 307, 308, 312, 313, 319, 320, 321, 322, 323, 324, 325, 333, 334, 340, 341, 347, 348, 354, 355, 361, 362, 368, 369, 373, 374, 380, 381, 387, 388, 392, 393, 399, 400, 404, 405, 411, 412, 418, 419, 425, 426]
noncomputable abbrev yf (s : Shared) : List (Option Obj) := ad.map s.heap.get?
noncomputable abbrev ya (p : Program) (l : List Str) (w : World) : List (Option Obj) := (KL p l w.params).map fun x => some x.2
abbrev pT (p : Program) (l : List Str) (w : World) : Prop := cJ p (vw p) (loose l) (fun s => PySem.W.recOk [] s) yf (ya p l) 7162 w
theorem run0 (w : World) : pT (GL lb) lb w := by unfold pT cJ; kernel_rfl
theorem left : PySem.W.LeftO PySem.Challenge.pw_turtlehouse_k26_too_long (vw PySem.Challenge.pw_turtlehouse_k26_too_long) (loose la) (fun s => PySem.W.recOk [] s) yf (ya PySem.Challenge.pw_turtlehouse_k26_too_long la) 7162 :=
 tr2 (C := fun p l => PySem.W.LeftO p (vw p) (loose l) (fun s => PySem.W.recOk [] s) yf (ya p l) 7162) hp hl
  (ZY (by kernel_rfl) (by kernel_rfl) (fun s => by kernel_rfl) run0)
def FN (p : Program) (l : List Str) (P : Params) (x i f c m t : Nat) : Prop := PySem.W.nsIn (KL p l P) mainGlobals (nm l x) = some (some (.ref f)) ∧ (KL p l P).lookup f = some (fnO p (nm l x) i .none .none (.str (nm l m) t) none (.ref c) .none) ∧ PySem.W.codeIn (KL p l P) (.ref c) (nm l x) = true ∧ PySem.W.keepIn (KL p l P) (.ref f) = true
theorem DY {P : Params} (x i f c m t : Nat) (h : FN (GL lb) lb P x i f c m t) : FN PySem.Challenge.pw_turtlehouse_k26_too_long la P x i f c m t := tr2 (C := fun p l => FN p l P x i f c m t) hp hl h
theorem ns_in {P : Params} (x : Nat) (v : Option Value) (h : PySem.W.nsIn (KL (GL lb) lb P) mainGlobals (nm lb x) = some v) : PySem.W.nsIn (KL PySem.Challenge.pw_turtlehouse_k26_too_long la P) mainGlobals (nm la x) = some v := tr2 (C := fun p l => PySem.W.nsIn (KL p l P) mainGlobals (nm l x) = some v) hp hl h
def GS (p : Program) (l : List Str) (P : Params) (a x q i j f c m t : Nat) : Prop := PySem.W.findIn (KL p l P) (.ref a) (nm l x) = some (some (.ref f)) ∧ PySem.W.isFn (KL p l P) (.ref f) = true ∧ (KL p l P).lookup f = some (fnM p (nm l x) (nm l q) i j .none .none (.str (nm l m) t) none (.ref c) .none) ∧ PySem.W.codeIn (KL p l P) (.ref c) (nm l q) = true ∧ PySem.W.keepIn (KL p l P) (.ref f) = true
theorem FI {P : Params} (a x q i j f c m t : Nat) (h : GS (GL lb) lb P a x q i j f c m t) : GS PySem.Challenge.pw_turtlehouse_k26_too_long la P a x q i j f c m t := tr2 (C := fun p l => GS p l P a x q i j f c m t) hp hl h
theorem ff0 (P : Params) : FN PySem.Challenge.pw_turtlehouse_k26_too_long la P 159 16 134 133 169 303 := DY 159 16 134 133 169 303 ⟨by kernel_rfl, by kernel_rfl, by kernel_rfl, by kernel_rfl⟩
theorem ff1 (P : Params) : FN PySem.Challenge.pw_turtlehouse_k26_too_long la P 96 17 141 140 169 303 := DY 96 17 141 140 169 303 ⟨by kernel_rfl, by kernel_rfl, by kernel_rfl, by kernel_rfl⟩
theorem ff2 (P : Params) : FN PySem.Challenge.pw_turtlehouse_k26_too_long la P 153 18 148 147 169 303 := DY 153 18 148 147 169 303 ⟨by kernel_rfl, by kernel_rfl, by kernel_rfl, by kernel_rfl⟩
theorem ff3 (P : Params) : FN PySem.Challenge.pw_turtlehouse_k26_too_long la P 154 19 155 154 169 303 := DY 154 19 155 154 169 303 ⟨by kernel_rfl, by kernel_rfl, by kernel_rfl, by kernel_rfl⟩
theorem mm4 (P : Params) : GS PySem.Challenge.pw_turtlehouse_k26_too_long la P 214 124 184 22 0 169 168 160 396 := FI 214 124 184 22 0 169 168 160 396 ⟨by kernel_rfl, by kernel_rfl, by kernel_rfl, by kernel_rfl, by kernel_rfl⟩
theorem mm5 (P : Params) : GS PySem.Challenge.pw_turtlehouse_k26_too_long la P 214 166 185 22 1 176 175 160 396 := FI 214 166 185 22 1 176 175 160 396 ⟨by kernel_rfl, by kernel_rfl, by kernel_rfl, by kernel_rfl, by kernel_rfl⟩
theorem mm6 (P : Params) : GS PySem.Challenge.pw_turtlehouse_k26_too_long la P 214 45 186 22 2 183 182 160 396 := FI 214 45 186 22 2 183 182 160 396 ⟨by kernel_rfl, by kernel_rfl, by kernel_rfl, by kernel_rfl, by kernel_rfl⟩
theorem mm7 (P : Params) : GS PySem.Challenge.pw_turtlehouse_k26_too_long la P 214 38 187 22 3 190 189 160 396 := FI 214 38 187 22 3 190 189 160 396 ⟨by kernel_rfl, by kernel_rfl, by kernel_rfl, by kernel_rfl, by kernel_rfl⟩
theorem mm8 (P : Params) : GS PySem.Challenge.pw_turtlehouse_k26_too_long la P 214 46 188 22 4 197 196 160 396 := FI 214 46 188 22 4 197 196 160 396 ⟨by kernel_rfl, by kernel_rfl, by kernel_rfl, by kernel_rfl, by kernel_rfl⟩
theorem mm9 (P : Params) : GS PySem.Challenge.pw_turtlehouse_k26_too_long la P 214 78 189 22 5 204 203 160 396 := FI 214 78 189 22 5 204 203 160 396 ⟨by kernel_rfl, by kernel_rfl, by kernel_rfl, by kernel_rfl, by kernel_rfl⟩
theorem mm10 (P : Params) : GS PySem.Challenge.pw_turtlehouse_k26_too_long la P 214 93 190 22 6 211 210 160 396 := FI 214 93 190 22 6 211 210 160 396 ⟨by kernel_rfl, by kernel_rfl, by kernel_rfl, by kernel_rfl, by kernel_rfl⟩
theorem ff11 (P : Params) : FN PySem.Challenge.pw_turtlehouse_k26_too_long la P 115 26 226 225 114 493 := DY 115 26 226 225 114 493 ⟨by kernel_rfl, by kernel_rfl, by kernel_rfl, by kernel_rfl⟩
theorem mm12 (P : Params) : GS PySem.Challenge.pw_turtlehouse_k26_too_long la P 271 124 192 27 0 240 239 114 493 := FI 271 124 192 27 0 240 239 114 493 ⟨by kernel_rfl, by kernel_rfl, by kernel_rfl, by kernel_rfl, by kernel_rfl⟩
theorem mm13 (P : Params) : GS PySem.Challenge.pw_turtlehouse_k26_too_long la P 271 129 193 27 1 247 246 114 493 := FI 271 129 193 27 1 247 246 114 493 ⟨by kernel_rfl, by kernel_rfl, by kernel_rfl, by kernel_rfl, by kernel_rfl⟩
theorem mm14 (P : Params) : GS PySem.Challenge.pw_turtlehouse_k26_too_long la P 271 130 194 27 2 254 253 114 493 := FI 271 130 194 27 2 254 253 114 493 ⟨by kernel_rfl, by kernel_rfl, by kernel_rfl, by kernel_rfl, by kernel_rfl⟩
theorem mm15 (P : Params) : GS PySem.Challenge.pw_turtlehouse_k26_too_long la P 271 131 195 27 3 261 260 114 493 := FI 271 131 195 27 3 261 260 114 493 ⟨by kernel_rfl, by kernel_rfl, by kernel_rfl, by kernel_rfl, by kernel_rfl⟩
theorem mm16 (P : Params) : GS PySem.Challenge.pw_turtlehouse_k26_too_long la P 271 133 196 27 4 268 267 114 493 := FI 271 133 196 27 4 268 267 114 493 ⟨by kernel_rfl, by kernel_rfl, by kernel_rfl, by kernel_rfl, by kernel_rfl⟩
theorem ff17 (P : Params) : FN PySem.Challenge.pw_turtlehouse_k26_too_long la P 134 28 282 281 114 493 := DY 134 28 282 281 114 493 ⟨by kernel_rfl, by kernel_rfl, by kernel_rfl, by kernel_rfl⟩
theorem mm18 (P : Params) : GS PySem.Challenge.pw_turtlehouse_k26_too_long la P 323 124 197 29 0 294 293 114 493 := FI 323 124 197 29 0 294 293 114 493 ⟨by kernel_rfl, by kernel_rfl, by kernel_rfl, by kernel_rfl, by kernel_rfl⟩
theorem mm19 (P : Params) : GS PySem.Challenge.pw_turtlehouse_k26_too_long la P 323 76 198 29 1 301 300 114 493 := FI 323 76 198 29 1 301 300 114 493 ⟨by kernel_rfl, by kernel_rfl, by kernel_rfl, by kernel_rfl, by kernel_rfl⟩
theorem mm20 (P : Params) : GS PySem.Challenge.pw_turtlehouse_k26_too_long la P 323 89 199 29 2 308 307 114 493 := FI 323 89 199 29 2 308 307 114 493 ⟨by kernel_rfl, by kernel_rfl, by kernel_rfl, by kernel_rfl, by kernel_rfl⟩
theorem mm21 (P : Params) : GS PySem.Challenge.pw_turtlehouse_k26_too_long la P 323 144 200 29 3 313 312 114 493 := FI 323 144 200 29 3 313 312 114 493 ⟨by kernel_rfl, by kernel_rfl, by kernel_rfl, by kernel_rfl, by kernel_rfl⟩
theorem mm22 (P : Params) : GS PySem.Challenge.pw_turtlehouse_k26_too_long la P 323 78 201 29 4 320 319 114 493 := FI 323 78 201 29 4 320 319 114 493 ⟨by kernel_rfl, by kernel_rfl, by kernel_rfl, by kernel_rfl, by kernel_rfl⟩
theorem ff23 (P : Params) : FN PySem.Challenge.pw_turtlehouse_k26_too_long la P 75 30 334 333 114 493 := DY 75 30 334 333 114 493 ⟨by kernel_rfl, by kernel_rfl, by kernel_rfl, by kernel_rfl⟩
theorem ff24 (P : Params) : FN PySem.Challenge.pw_turtlehouse_k26_too_long la P 91 33 341 340 90 648 := DY 91 33 341 340 90 648 ⟨by kernel_rfl, by kernel_rfl, by kernel_rfl, by kernel_rfl⟩
theorem ff25 (P : Params) : FN PySem.Challenge.pw_turtlehouse_k26_too_long la P 71 34 348 347 90 648 := DY 71 34 348 347 90 648 ⟨by kernel_rfl, by kernel_rfl, by kernel_rfl, by kernel_rfl⟩
theorem ff26 (P : Params) : FN PySem.Challenge.pw_turtlehouse_k26_too_long la P 69 35 355 354 90 648 := DY 69 35 355 354 90 648 ⟨by kernel_rfl, by kernel_rfl, by kernel_rfl, by kernel_rfl⟩
theorem ff27 (P : Params) : FN PySem.Challenge.pw_turtlehouse_k26_too_long la P 59 36 362 361 90 648 := DY 59 36 362 361 90 648 ⟨by kernel_rfl, by kernel_rfl, by kernel_rfl, by kernel_rfl⟩
theorem ff28 (P : Params) : FN PySem.Challenge.pw_turtlehouse_k26_too_long la P 62 37 369 368 90 648 := DY 62 37 369 368 90 648 ⟨by kernel_rfl, by kernel_rfl, by kernel_rfl, by kernel_rfl⟩
theorem ff29 (P : Params) : FN PySem.Challenge.pw_turtlehouse_k26_too_long la P 16 38 374 373 90 648 := DY 16 38 374 373 90 648 ⟨by kernel_rfl, by kernel_rfl, by kernel_rfl, by kernel_rfl⟩
theorem ff30 (P : Params) : FN PySem.Challenge.pw_turtlehouse_k26_too_long la P 56 40 381 380 85 710 := DY 56 40 381 380 85 710 ⟨by kernel_rfl, by kernel_rfl, by kernel_rfl, by kernel_rfl⟩
theorem ff31 (P : Params) : FN PySem.Challenge.pw_turtlehouse_k26_too_long la P 9 41 388 387 85 710 := DY 9 41 388 387 85 710 ⟨by kernel_rfl, by kernel_rfl, by kernel_rfl, by kernel_rfl⟩
theorem ff32 (P : Params) : FN PySem.Challenge.pw_turtlehouse_k26_too_long la P 0 42 393 392 85 710 := DY 0 42 393 392 85 710 ⟨by kernel_rfl, by kernel_rfl, by kernel_rfl, by kernel_rfl⟩
theorem ff33 (P : Params) : FN PySem.Challenge.pw_turtlehouse_k26_too_long la P 12 43 400 399 85 710 := DY 12 43 400 399 85 710 ⟨by kernel_rfl, by kernel_rfl, by kernel_rfl, by kernel_rfl⟩
theorem ff34 (P : Params) : FN PySem.Challenge.pw_turtlehouse_k26_too_long la P 33 44 405 404 85 710 := DY 33 44 405 404 85 710 ⟨by kernel_rfl, by kernel_rfl, by kernel_rfl, by kernel_rfl⟩
theorem ff35 (P : Params) : FN PySem.Challenge.pw_turtlehouse_k26_too_long la P 44 45 412 411 85 710 := DY 44 45 412 411 85 710 ⟨by kernel_rfl, by kernel_rfl, by kernel_rfl, by kernel_rfl⟩
theorem ff36 (P : Params) : FN PySem.Challenge.pw_turtlehouse_k26_too_long la P 49 46 419 418 85 710 := DY 49 46 419 418 85 710 ⟨by kernel_rfl, by kernel_rfl, by kernel_rfl, by kernel_rfl⟩
theorem ff37 (P : Params) : FN PySem.Challenge.pw_turtlehouse_k26_too_long la P 54 47 426 425 85 710 := DY 54 47 426 425 85 710 ⟨by kernel_rfl, by kernel_rfl, by kernel_rfl, by kernel_rfl⟩
theorem ex_NoProgram (P : Params) : CP (KL PySem.Challenge.pw_turtlehouse_k26_too_long la P) 24 37 = true := tr2 (C := fun p l => CP (KL p l P) 24 37 = true) hp hl (by kernel_rfl)
theorem ex_NoText (P : Params) : CP (KL PySem.Challenge.pw_turtlehouse_k26_too_long la P) 24 49 = true := tr2 (C := fun p l => CP (KL p l P) 24 49 = true) hp hl (by kernel_rfl)
theorem ex_NoMark (P : Params) : CP (KL PySem.Challenge.pw_turtlehouse_k26_too_long la P) 24 61 = true := tr2 (C := fun p l => CP (KL p l P) 24 61 = true) hp hl (by kernel_rfl)
theorem ex_TooGreat (P : Params) : CP (KL PySem.Challenge.pw_turtlehouse_k26_too_long la P) 24 73 = true := tr2 (C := fun p l => CP (KL p l P) 24 73 = true) hp hl (by kernel_rfl)
theorem ex_TooLong (P : Params) : CP (KL PySem.Challenge.pw_turtlehouse_k26_too_long la P) 24 85 = true := tr2 (C := fun p l => CP (KL p l P) 24 85 = true) hp hl (by kernel_rfl)
theorem ex_NotWhole (P : Params) : CP (KL PySem.Challenge.pw_turtlehouse_k26_too_long la P) 24 97 = true := tr2 (C := fun p l => CP (KL p l P) 24 97 = true) hp hl (by kernel_rfl)
theorem hE_x (P : Params) : OW (KL PySem.Challenge.pw_turtlehouse_k26_too_long la P) 24 = true := tr2 (C := fun p l => OW (KL p l P) 24 = true) hp hl (by kernel_rfl)
theorem kE_x (P : Params) : exK (KL PySem.Challenge.pw_turtlehouse_k26_too_long la P) 24 [37, 49, 61, 73, 85, 97] = true := tr2 (C := fun p l => exK (KL p l P) 24 [37, 49, 61, 73, 85, 97] = true) hp hl (by kernel_rfl)
end Hd
open PySem PySem.W PyProof.Rows
set_option maxRecDepth 100000 in
set_option maxHeartbeats 0 in
theorem PySem.Challenge.cw_turtlehouse_k26_too_long_holds : PySem.Challenge.rw_turtlehouse_k26_too_long.Holds := by
 w_on; o_law
 refine PySem.W.holds_open (r := PySem.Challenge.rw_turtlehouse_k26_too_long.row) (q := Hd.vw PySem.Challenge.pw_turtlehouse_k26_too_long) (loose := Hd.loose Hd.la) (Xt := fun s => recOk [] s) (XP := fun _ _ => True) (Yf := Hd.yf) (Ya := Hd.ya PySem.Challenge.pw_turtlehouse_k26_too_long Hd.la) (YP := InK (Hd.KL PySem.Challenge.pw_turtlehouse_k26_too_long Hd.la)) (N := 7162) Hd.left (InK.of fun P => by kernel_rfl) InK.keeps (fun _ _ => trivial) (fun _ _ _ _ _ => trivial) (by rfl) (by rfl) (by rfl) (fun _ e => recFacts_of e) (by rfl) (by assumption) (by decide +kernel) ⟨rfl, rfl, rfl, rfl, rfl, by decide +kernel⟩ ?hw ?hc
 case hw => w_witness2
 case hc =>
  refine My.walk (l := PySem.Challenge.rw_turtlehouse_k26_too_long) rfl rfl (fun w h Y => Y) ?F
  intro w mg fa h KX G hmg
  exact My.all_mk KX G hmg (Hd.ns_in 82 (some (.ref 214)) (by kernel_rfl)) (by kernel_rfl) (by kernel_rfl) (by kernel_rfl) (by kernel_rfl) (by kernel_rfl) (by kernel_rfl) (by kernel_rfl) (by kernel_rfl) (by kernel_rfl) (by kernel_rfl) (by kernel_rfl) (by kernel_rfl) (by kernel_rfl) (by kernel_rfl) (Hd.ns_in 123 (some (.ref 271)) (by kernel_rfl)) (by kernel_rfl) (by kernel_rfl) (by kernel_rfl) (by kernel_rfl) (by kernel_rfl) (by kernel_rfl) (by kernel_rfl) (by kernel_rfl) (by kernel_rfl) (by kernel_rfl) (by kernel_rfl) (Hd.ns_in 87 (some (.ref 323)) (by kernel_rfl)) (by kernel_rfl) (by kernel_rfl) (by kernel_rfl) (by kernel_rfl) (by kernel_rfl) (by kernel_rfl) (by kernel_rfl) (by kernel_rfl) (by kernel_rfl) (by kernel_rfl) (Hd.ff0 _).1 (Hd.ff0 _).2.1 (Hd.ff0 _).2.2.1 (Hd.ff0 _).2.2.2 (Hd.ff1 _).1 (Hd.ff1 _).2.1 (Hd.ff1 _).2.2.1 (Hd.ff1 _).2.2.2 (Hd.ff2 _).1 (Hd.ff2 _).2.1 (Hd.ff2 _).2.2.1 (Hd.ff2 _).2.2.2 (Hd.ff3 _).1 (Hd.ff3 _).2.1 (Hd.ff3 _).2.2.1 (Hd.ff3 _).2.2.2 (Hd.mm4 _).1 (Hd.mm4 _).2.1 (Hd.mm4 _).2.2.1 (Hd.mm4 _).2.2.2.1 (Hd.mm4 _).2.2.2.2 (Hd.mm5 _).1 (Hd.mm5 _).2.1 (Hd.mm5 _).2.2.1 (Hd.mm5 _).2.2.2.1 (Hd.mm5 _).2.2.2.2 (Hd.mm6 _).1 (Hd.mm6 _).2.1 (Hd.mm6 _).2.2.1 (Hd.mm6 _).2.2.2.1 (Hd.mm6 _).2.2.2.2 (Hd.mm7 _).1 (Hd.mm7 _).2.1 (Hd.mm7 _).2.2.1 (Hd.mm7 _).2.2.2.1 (Hd.mm7 _).2.2.2.2 (Hd.mm8 _).1 (Hd.mm8 _).2.1 (Hd.mm8 _).2.2.1 (Hd.mm8 _).2.2.2.1 (Hd.mm8 _).2.2.2.2 (Hd.mm9 _).1 (Hd.mm9 _).2.1 (Hd.mm9 _).2.2.1 (Hd.mm9 _).2.2.2.1 (Hd.mm9 _).2.2.2.2 (Hd.mm10 _).1 (Hd.mm10 _).2.1 (Hd.mm10 _).2.2.1 (Hd.mm10 _).2.2.2.1 (Hd.mm10 _).2.2.2.2 (Hd.ff11 _).1 (Hd.ff11 _).2.1 (Hd.ff11 _).2.2.1 (Hd.ff11 _).2.2.2 (Hd.mm12 _).1 (Hd.mm12 _).2.1 (Hd.mm12 _).2.2.1 (Hd.mm12 _).2.2.2.1 (Hd.mm12 _).2.2.2.2 (Hd.mm13 _).1 (Hd.mm13 _).2.1 (Hd.mm13 _).2.2.1 (Hd.mm13 _).2.2.2.1 (Hd.mm13 _).2.2.2.2 (Hd.mm14 _).1 (Hd.mm14 _).2.1 (Hd.mm14 _).2.2.1 (Hd.mm14 _).2.2.2.1 (Hd.mm14 _).2.2.2.2 (Hd.mm15 _).1 (Hd.mm15 _).2.1 (Hd.mm15 _).2.2.1 (Hd.mm15 _).2.2.2.1 (Hd.mm15 _).2.2.2.2 (Hd.mm16 _).1 (Hd.mm16 _).2.1 (Hd.mm16 _).2.2.1 (Hd.mm16 _).2.2.2.1 (Hd.mm16 _).2.2.2.2 (Hd.ff17 _).1 (Hd.ff17 _).2.1 (Hd.ff17 _).2.2.1 (Hd.ff17 _).2.2.2 (Hd.mm18 _).1 (Hd.mm18 _).2.1 (Hd.mm18 _).2.2.1 (Hd.mm18 _).2.2.2.1 (Hd.mm18 _).2.2.2.2 (Hd.mm19 _).1 (Hd.mm19 _).2.1 (Hd.mm19 _).2.2.1 (Hd.mm19 _).2.2.2.1 (Hd.mm19 _).2.2.2.2 (Hd.mm20 _).1 (Hd.mm20 _).2.1 (Hd.mm20 _).2.2.1 (Hd.mm20 _).2.2.2.1 (Hd.mm20 _).2.2.2.2 (Hd.mm21 _).1 (Hd.mm21 _).2.1 (Hd.mm21 _).2.2.1 (Hd.mm21 _).2.2.2.1 (Hd.mm21 _).2.2.2.2 (Hd.mm22 _).1 (Hd.mm22 _).2.1 (Hd.mm22 _).2.2.1 (Hd.mm22 _).2.2.2.1 (Hd.mm22 _).2.2.2.2 (Hd.ff23 _).1 (Hd.ff23 _).2.1 (Hd.ff23 _).2.2.1 (Hd.ff23 _).2.2.2 (Hd.ff24 _).1 (Hd.ff24 _).2.1 (Hd.ff24 _).2.2.1 (Hd.ff24 _).2.2.2 (Hd.ff25 _).1 (Hd.ff25 _).2.1 (Hd.ff25 _).2.2.1 (Hd.ff25 _).2.2.2 (Hd.ff26 _).1 (Hd.ff26 _).2.1 (Hd.ff26 _).2.2.1 (Hd.ff26 _).2.2.2 (Hd.ff27 _).1 (Hd.ff27 _).2.1 (Hd.ff27 _).2.2.1 (Hd.ff27 _).2.2.2 (Hd.ff28 _).1 (Hd.ff28 _).2.1 (Hd.ff28 _).2.2.1 (Hd.ff28 _).2.2.2 (Hd.ff29 _).1 (Hd.ff29 _).2.1 (Hd.ff29 _).2.2.1 (Hd.ff29 _).2.2.2 (Hd.ff30 _).1 (Hd.ff30 _).2.1 (Hd.ff30 _).2.2.1 (Hd.ff30 _).2.2.2 (Hd.ff31 _).1 (Hd.ff31 _).2.1 (Hd.ff31 _).2.2.1 (Hd.ff31 _).2.2.2 (Hd.ff32 _).1 (Hd.ff32 _).2.1 (Hd.ff32 _).2.2.1 (Hd.ff32 _).2.2.2 (Hd.ff33 _).1 (Hd.ff33 _).2.1 (Hd.ff33 _).2.2.1 (Hd.ff33 _).2.2.2 (Hd.ff34 _).1 (Hd.ff34 _).2.1 (Hd.ff34 _).2.2.1 (Hd.ff34 _).2.2.2 (Hd.ff35 _).1 (Hd.ff35 _).2.1 (Hd.ff35 _).2.2.1 (Hd.ff35 _).2.2.2 (Hd.ff36 _).1 (Hd.ff36 _).2.1 (Hd.ff36 _).2.2.1 (Hd.ff36 _).2.2.2 (Hd.ff37 _).1 (Hd.ff37 _).2.1 (Hd.ff37 _).2.2.1 (Hd.ff37 _).2.2.2 (Hd.ns_in 32 none (by kernel_rfl)) (Hd.ns_in 136 none (by kernel_rfl)) (Hd.ns_in 47 none (by kernel_rfl)) (Hd.ns_in 26 none (by kernel_rfl)) (Hd.ns_in 41 none (by kernel_rfl)) (Hd.ns_in 57 none (by kernel_rfl)) (Hd.ns_in 58 none (by kernel_rfl)) (Hd.ns_in 7 none (by kernel_rfl)) (Hd.ns_in 37 none (by kernel_rfl)) (Hd.ns_in 151 none (by kernel_rfl)) (Hd.ns_in 105 (some (.int (8) 305)) (by kernel_rfl)) (by kernel_rfl) (Hd.ns_in 99 (some (.int (0) 307)) (by kernel_rfl)) (by kernel_rfl) (Hd.ns_in 100 (some (.int (1) 309)) (by kernel_rfl)) (by kernel_rfl) (Hd.ns_in 101 (some (.int (2) 311)) (by kernel_rfl)) (by kernel_rfl) (Hd.ns_in 102 (some (.int (7) 313)) (by kernel_rfl)) (by kernel_rfl) (Hd.ns_in 162 (some (.ref 102)) (by kernel_rfl)) (by kernel_rfl) (Hd.ns_in 158 (some (.ref 127)) (by kernel_rfl)) (by kernel_rfl) (Hd.ns_in 161 (some (.int (8) 398)) (by kernel_rfl)) (by kernel_rfl) (Hd.ns_in 107 (some (.int (1000000) 486)) (by kernel_rfl)) (by kernel_rfl) (Hd.ns_in 109 (some (.ref 219)) (by kernel_rfl)) (by kernel_rfl) (Hd.ns_in 80 (some (.int (100) 650)) (by kernel_rfl)) (by kernel_rfl) (Hd.ns_in 23 (some (.ref 24)) (by kernel_rfl)) (Hd.ns_in 28 (some (.ref 37)) (by kernel_rfl)) (Hd.ns_in 29 (some (.ref 49)) (by kernel_rfl)) (Hd.ns_in 17 (some (.ref 61)) (by kernel_rfl)) (Hd.ns_in 19 (some (.ref 73)) (by kernel_rfl)) (Hd.ns_in 21 (some (.ref 85)) (by kernel_rfl)) (Hd.ns_in 30 (some (.ref 97)) (by kernel_rfl)) (Hd.ex_NoProgram _) (Hd.ex_NoText _) (Hd.ex_NoMark _) (Hd.ex_TooGreat _) (Hd.ex_TooLong _) (Hd.ex_NotWhole _) (Hd.hE_x _) (Hd.kE_x _) (by kernel_rfl)
