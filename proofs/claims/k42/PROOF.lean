import PyProof.Rows.All
import Wide.All
import OpenK.AllK
import Wide.FinOn
import Lean
import PyProof.EqAt
import PyProof.EqKinds
import PyProof.TupleCall
import PyProof.NeKinds
import KE.KRevIter
import PyProof.ZipIter
import PySem.Challenge.RW_turtlehouse_k42_rounds
set_option Elab.async false
set_option linter.all false
set_option maxRecDepth 100000
namespace L2
open PySem PySem.Spec PyProof.Rows

abbrev Key := Sum Int Str
def keyIs : Key → Value → Bool
  | .inl k, v => Value.isInt k v
  | .inr x, v => Value.isStrOf x v
def keyH (w : World) : Key → Int
  | .inl k => hashInt k
  | .inr x => hashStr w x
theorem keyIs_shape : ∀ {k : Key} {v : Value}, keyIs k v = true → (∃ i t, k = Sum.inl i ∧ v = Value.int i t) ∨ (∃ x t, k = Sum.inr x ∧ v = Value.str x t)
  | .inl i, v, h => by
    obtain ⟨t, e⟩ := Value.isInt_shape (k := i) (v := v) h
    exact .inl ⟨i, t, rfl, e⟩
  | .inr x, v, h => by
    obtain ⟨t, e⟩ := Value.isStrOf_shape (x := x) (v := v) h
    exact .inr ⟨x, t, rfl, e⟩
theorem key_ll (a b : Int) : decide ((Sum.inl a : Key) = Sum.inl b) = (a == b) := by
  by_cases e : a = b
  · subst e; simp
  · have h : ¬ (Sum.inl a : Key) = Sum.inl b := fun q => e (Sum.inl.inj q)
    rw [decide_eq_false h]
    exact (beq_eq_false_iff_ne.mpr e).symm
theorem key_rr (a b : Str) : decide ((Sum.inr a : Key) = Sum.inr b) = decide (a = b) := by
  by_cases e : a = b
  · subst e; simp
  · have h : ¬ (Sum.inr a : Key) = Sum.inr b := fun q => e (Sum.inr.inj q)
    rw [decide_eq_false h, decide_eq_false e]
theorem key_lr (a : Int) (b : Str) : decide ((Sum.inl a : Key) = Sum.inr b) = false := decide_eq_false (fun q => nomatch q)
theorem key_rl (a : Str) (b : Int) : decide ((Sum.inr a : Key) = Sum.inl b) = false := decide_eq_false (fun q => nomatch q)

def mixKind (prog : Program) (w : World) : PySem.KeyKind prog w Key where
  is := keyIs
  hash := keyH w
  inj := fun v a b ha hb => by
    rcases keyIs_shape ha with ⟨i, t, rfl, rfl⟩ | ⟨x, t, rfl, rfl⟩
    · rcases keyIs_shape hb with ⟨j, u, rfl, e⟩ | ⟨y, u, rfl, e⟩
      · injection e with e1 _; rw [e1]
      · exact nomatch e
    · rcases keyIs_shape hb with ⟨j, u, rfl, e⟩ | ⟨y, u, rfl, e⟩
      · exact nomatch e
      · injection e with e1 _; rw [e1]
  byValue := fun k v h => by
    rcases keyIs_shape h with ⟨i, t, rfl, rfl⟩ | ⟨x, t, rfl, rfl⟩ <;> rfl
  pyHash := fun hv h => by
    rcases keyIs_shape hv with ⟨i, t, rfl, rfl⟩ | ⟨x, t, rfl, rfl⟩
    · exact wpAny_pyHash_int h
    · exact wpAny_pyHash_str h
  eqBool := fun hu hv h => by
    rcases keyIs_shape hu with ⟨i, t, rfl, rfl⟩ | ⟨x, t, rfl, rfl⟩
    · rcases keyIs_shape hv with ⟨j, u, rfl, rfl⟩ | ⟨y, u, rfl, rfl⟩
      · rw [key_ll] at h; exact wpAny_eqBool_int h
      · rw [key_lr] at h; exact SeqAt.EqAt.int_str i t y u _ _ _ _ h
    · rcases keyIs_shape hv with ⟨j, u, rfl, rfl⟩ | ⟨y, u, rfl, rfl⟩
      · rw [key_rl] at h; exact SeqAt.EqAt.str_int x t j u _ _ _ _ h
      · rw [key_rr] at h; exact wpAny_eqBool_str h
  «strs» := fun k x t v h => by
    rcases keyIs_shape h with ⟨i, u, rfl, e⟩ | ⟨y, u, rfl, e⟩
    · exact nomatch e
    · injection e with e1 _
      subst e1
      cases v <;> rfl

end L2

namespace L2
open PySem PySem.Spec PyProof.Rows

inductive V where
  | non | bl (b : Bool) | int (i : Int) | str (x : Str) | byt (b : Array UInt8) | flt (b : UInt64) | ref (a : Addr) | ty (n : String)
  deriving DecidableEq

def RelV : V → Value → Prop
  | .non, u => u = Value.none
  | .bl b, u => u = Value.bool b
  | .int i, u => ∃ t, u = Value.int i t
  | .str x, u => ∃ t, u = Value.str x t
  | .byt b, u => ∃ t, u = Value.bytes b t
  | .flt b, u => ∃ t, u = Value.float b t
  | .ref a, u => u = Value.ref a
  | .ty n, u => u = Value.type n

abbrev Vals : List V → List Value → Prop := Paired RelV
theorem Vals.length {xs : List V} {us : List Value} (r : Vals xs us) : xs.length = us.length := Paired.length r
theorem Vals.get : ∀ {xs : List V} {us : List Value} {i : Nat} {x : V}, Vals xs us → xs[i]? = some x → ∃ u, us[i]? = some u ∧ RelV x u
  | _, _, _, _, .nil, e => by simp at e
  | _, _, 0, _, .cons r _, e => by simp at e; subst e; exact ⟨_, rfl, r⟩
  | _, _, i + 1, x, .cons _ t, e => by
    obtain ⟨u, h1, h2⟩ := Vals.get (i := i) (x := x) t (by simpa using e)
    exact ⟨u, by simpa using h1, h2⟩
theorem Vals.set {x : V} {u : Value} (r : RelV x u) : ∀ {xs : List V} {us : List Value} (i : Nat), Vals xs us → Vals (xs.set i x) (us.set i u)
  | _, _, _, .nil => .nil
  | _, _, 0, .cons _ t => .cons r t
  | _, _, i + 1, .cons q t => .cons q (Vals.set r i t)
theorem Vals.append : ∀ {xs ys : List V} {us ws : List Value}, Vals xs us → Vals ys ws → Vals (xs ++ ys) (us ++ ws)
  | _, _, _, _, .nil, s => s
  | _, _, _, _, .cons r t, s => .cons r (Vals.append t s)
theorem Vals.take : ∀ {xs : List V} {us : List Value} (n : Nat), Vals xs us → Vals (xs.take n) (us.take n)
  | _, _, 0, _ => .nil
  | _, _, _ + 1, .nil => .nil
  | _, _, n + 1, .cons r t => .cons r (Vals.take n t)
theorem Vals.drop : ∀ {xs : List V} {us : List Value} (n : Nat), Vals xs us → Vals (xs.drop n) (us.drop n)
  | _, _, 0, r => r
  | _, _, _ + 1, .nil => .nil
  | _, _, n + 1, .cons _ t => Vals.drop n t
def RelO : Option V → Option Value → Prop
  | some v, some u => RelV v u
  | none, none => True
  | _, _ => False
def KV {κ : Type} : List (κ × V) → List (κ × Value) → Prop := Paired fun (p : κ × V) (q : κ × Value) => p.1 = q.1 ∧ RelV p.2 q.2

def kV : Key → V
  | .inl i => .int i
  | .inr x => .str x

inductive HO where
  /-- a list -/
  | lst (xs : List V)
  /-- a tuple (never changes) -/
  | tup (xs : List V)
  /-- a dict whose keys are ints and texts; one whose keys are tuples of ints and texts (the empty one is both) -/
  | dK (kvs : List (Key × V)) | dT (kvs : List (List Key × V))
  /-- a set of ints: its members, its size -/
  | set (S : Int → Bool) (n : Nat)
  /-- an instance of the class at C, its dict at dx, its attributes -/
  | ins (C dx : Addr) (fs : List (Str × V))
  /-- the dict of the instance at x -/
  | own (x : Addr)
  /-- the dict of an exception -/
  | xd (fs : List (Str × V))
  /-- a bound method, f of x -/
  | met (f x : Addr)
  /-- a range object lo, lo + 1, .. below hi -/
  | rng (lo hi : Int)
  /-- a thing that is known to the object (the script; a dict while a loop walks it): read, never written while it is so -/
  | frz (o : Obj) (u : HO)
  /-- a code object's table -/
  | tbl (ps : Array Value)
  /-- any other thing, by what is true of its one object (a def of one's own: SetO a S n := HO.ext fun h => ..) -/
  | ext (φ : Heap → Prop)

abbrev Hp := Addr → Option HO
def upd (H : Hp) (a : Addr) (o : HO) : Hp := fun b => if b = a then some o else H b
theorem upd_same {H : Hp} {a : Addr} {o : HO} : upd H a o a = some o := by unfold upd; rw [if_pos rfl]
theorem upd_ne {H : Hp} {a b : Addr} {o : HO} (h : b ≠ a) : upd H a o b = H b := by unfold upd; rw [if_neg h]
theorem upd_upd {H : Hp} {a : Addr} {o u : HO} : upd (upd H a o) a u = upd H a u := by
  funext b; unfold upd; split <;> rfl
theorem ne_of_none {H : Hp} {a b : Addr} {o : HO} (h : H a = some o) (h' : H b = none) : a ≠ b := by
  intro e; subst e; rw [h] at h'; cases h'

section
variable (P : Program) (w : World)
def ObjOk (H : Hp) (h : Heap) (a : Addr) : HO → Prop
  | .lst xs => xs.length ≤ sizeLine ∧ ∃ (its : List Value) (n : Nat), Vals xs its ∧ h.get? a = some { cls := .type "list", data := .seq its.toArray n }
  | .tup xs => xs.length ≤ sizeLine ∧ ∃ its : List Value, Vals xs its ∧ IsTup h a its.toArray
  | .dK kvs => kvs.length ≤ sizeLine ∧ (a == sysModules) = false ∧ ∃ vs, KV kvs vs ∧ h.DictOf (mixKind P w) a vs
  | .dT kvs => kvs.length ≤ sizeLine ∧ (a == sysModules) = false ∧ ∃ xs : List (List Key × Addr × Value),
      Paired (fun (p : List Key × V) (q : List Key × Addr × Value) => p.1 = q.1 ∧ H q.2.1 = some (.tup (p.1.map kV)) ∧ RelV p.2 q.2.2) kvs xs ∧
      ∃ o es ep, h.get? a = some o ∧ o.ExactDict ∧ o.data = .dict es ep ∧ es.toList = xs.map (entryOfKey (tupleKind (mixKind P w))) ∧ (xs.map (·.1)).Nodup
  | .set S n => h.SetOf (intKind P w) a S n
  | .ins C dx fs => H dx = some (.own a) ∧ fs.length ≤ 1000 ∧ dx ≠ a ∧ h.get? a = some (PySem.W.instObj C dx) ∧
      ∃ mA, h.Ns1 dx mA ∧ (∀ f, RelO (fs.lookup f) (mA f)) ∧ PySem.Within mA (fs.map (·.1))
  | .own _ => ∃ o, h.get? a = some o
  | .xd fs => ∃ mA, h.Ns1 a mA ∧ ∀ f, RelO (fs.lookup f) (mA f)
  | .rng lo hi => ∃ t u v, h.get? a = some { cls := .type "range", data := .fields #[.int lo t, .int hi u, .int 1 v] }
  | .frz o u => h.get? a = some o ∧ ObjOk H h a u
  | .tbl ps => h.get? a = some { cls := .none, data := .fields ps }
  | .met f x => h.get? a = some (PySem.W.methodObj (.ref f) (.ref x))
  | .ext φ => φ h ∧ (∃ o, h.get? a = some o) ∧ ∀ h1 h2 : Heap, φ h1 → (∀ o, h1.get? a = some o → h2.get? a = some o) → φ h2
def HOk (H : Hp) (h : Heap) : Prop := ∀ a o, H a = some o → ObjOk P w H h a o
end

section
variable {P : Program} {w : World} {H H' : Hp} {h h' : Heap} {a : Addr} {o : HO}
theorem ObjOk.lt (x : ObjOk P w H h a o) : a < h.objs.size := by
  cases o with
  | lst xs => obtain ⟨_, _, _, _, e⟩ := x; exact Heap.lt_size e
  | tup xs => obtain ⟨_, _, _, p⟩ := x; exact p.lt
  | dK kvs => obtain ⟨_, _, _, _, o, _, _, e, _⟩ := x; exact Heap.lt_size e
  | dT kvs => obtain ⟨_, _, _, _, o, _, _, e, _⟩ := x; exact Heap.lt_size e
  | set S n => obtain ⟨o, _, _, _, e, _⟩ := x; exact Heap.lt_size e
  | ins C dx fs => obtain ⟨_, _, _, e, _⟩ := x; exact Heap.lt_size e
  | own y => obtain ⟨_, e⟩ := x; exact Heap.lt_size e
  | xd fs => obtain ⟨_, ⟨_, _, _, e, _⟩, _⟩ := x; exact Heap.lt_size e
  | rng lo hi => obtain ⟨_, _, _, e⟩ := x; exact Heap.lt_size e
  | frz ob u => obtain ⟨e, _⟩ := x; exact Heap.lt_size e
  | tbl ps => exact Heap.lt_size (show h.get? a = some _ from x)
  | met f y => exact Heap.lt_size (show h.get? a = some _ from x)
  | ext φ => obtain ⟨_, ⟨_, e⟩, _⟩ := x; exact Heap.lt_size e
theorem Paired.mapP {α β : Type} {F G : α → β → Prop} : ∀ {l₁ : List α} {l₂ : List β}, Paired F l₁ l₂ → (∀ a b, F a b → G a b) → Paired G l₁ l₂
  | _, _, .nil, _ => .nil
  | _, _, .cons r t, f => .cons (f _ _ r) (Paired.mapP t f)
theorem ObjOk.stay (x : ObjOk P w H h a o) (k : ∀ b u, (b = a ∨ H b = some (.own a)) → h.get? b = some u → h'.get? b = some u)
    (ho : ∀ b, H b = some (.own a) → H' b = some (.own a)) (ht : ∀ b xs, H b = some (.tup xs) → H' b = some (.tup xs)) : ObjOk P w H' h' a o := by
  induction o with
  | lst xs => obtain ⟨z, its, n, r, e⟩ := x; exact ⟨z, its, n, r, k _ _ (.inl rfl) e⟩
  | tup xs => obtain ⟨z, its, r, ob, e, c⟩ := x; exact ⟨z, its, r, ob, k _ _ (.inl rfl) e, c⟩
  | dK kvs => obtain ⟨z, y, vs, r, ob, es, ep, e, c⟩ := x; exact ⟨z, y, vs, r, ob, es, ep, k _ _ (.inl rfl) e, c⟩
  | dT kvs =>
    obtain ⟨z, y, xs, r, ob, es, ep, e, c⟩ := x
    exact ⟨z, y, xs, Paired.mapP r fun p q z => ⟨z.1, ht _ _ z.2.1, z.2.2⟩, ob, es, ep, k _ _ (.inl rfl) e, c⟩
  | set S n => obtain ⟨ob, es, ep, t, e, c⟩ := x; exact ⟨ob, es, ep, t, k _ _ (.inl rfl) e, c⟩
  | ins C dx fs =>
    obtain ⟨d, z, ne, e, mA, ⟨od, es, ep, e2, c⟩, r⟩ := x
    exact ⟨ho _ d, z, ne, k _ _ (.inl rfl) e, mA, ⟨od, es, ep, k _ _ (.inr d) e2, c⟩, r⟩
  | own y => obtain ⟨ob, e⟩ := x; exact ⟨ob, k _ _ (.inl rfl) e⟩
  | xd fs => obtain ⟨mA, ⟨od, es, ep, e, c⟩, r⟩ := x; exact ⟨mA, ⟨od, es, ep, k _ _ (.inl rfl) e, c⟩, r⟩
  | rng lo hi => obtain ⟨t, u, v, e⟩ := x; exact ⟨t, u, v, k _ _ (.inl rfl) e⟩
  | frz ob u ih => obtain ⟨e, q⟩ := x; exact ⟨k _ _ (.inl rfl) e, ih q⟩
  | tbl ps =>
    have e : h.get? a = some { cls := .none, data := .fields ps } := x
    show h'.get? a = some { cls := .none, data := .fields ps }
    exact k a _ (.inl rfl) e
  | met f y =>
    have e : h.get? a = some (PySem.W.methodObj (.ref f) (.ref y)) := x
    show h'.get? a = some (PySem.W.methodObj (.ref f) (.ref y))
    exact k a _ (.inl rfl) e
  | ext φ => obtain ⟨p, ⟨o, e⟩, st⟩ := x; exact ⟨st _ _ p fun o q => k _ _ (.inl rfl) q, ⟨o, k _ _ (.inl rfl) e⟩, st⟩
theorem HOk.lt (x : HOk P w H h) (e : H a = some o) : a < h.objs.size := (x a o e).lt
theorem HOk.fresh (x : HOk P w H h) (e : h.objs.size ≤ a) : H a = none := by
  cases q : H a with
  | none => rfl
  | some u => exact absurd (Nat.lt_of_lt_of_le (x.lt q) e) (Nat.lt_irrefl _)
theorem HOk.kept (x : HOk P w H h) (k : ∀ b u, h.get? b = some u → h'.get? b = some u) : HOk P w H h' := fun a o e =>
  (x a o e).stay (fun b u _ q => k b u q) (fun _ q => q) fun _ _ q => q
theorem HOk.laid (x : HOk P w H h) (k : ∀ b u, h.get? b = some u → h'.get? b = some u) (hp : h.objs.size ≤ a) (new : ObjOk P w (upd H a o) h' a o) : HOk P w (upd H a o) h' := fun b u e => by
  have hn := x.fresh hp
  by_cases hb : b = a
  · subst hb; rw [upd_same] at e; cases e; exact new
  · rw [upd_ne hb] at e
    exact (x b u e).stay (fun c v _ q => k c v q) (fun c q => by rw [upd_ne (ne_of_none q hn)]; exact q) fun c xs q => by rw [upd_ne (ne_of_none q hn)]; exact q
end

def Rd (H : Hp) (a : Addr) (u : HO) : Prop := H a = some u ∨ ∃ o, H a = some (.frz o u)
theorem Rd.of {H : Hp} {a : Addr} {u : HO} (h : H a = some u) : Rd H a u := .inl h
theorem Rd.ok {P : Program} {w : World} {H : Hp} {h : Heap} {a : Addr} {u : HO} (r : Rd H a u) (x : HOk P w H h) : ObjOk P w H h a u := by
  rcases r with r | ⟨o, r⟩
  · exact x a u r
  · obtain ⟨_, q⟩ := x a _ r
    exact q
def Mut : Option HO → Prop
  | some (.lst _) => True
  | some (.dK _) => True
  | some (.dT _) => True
  | some (.set _ _) => True
  | some (.ins _ _ _) => True
  | some (.ext _) => True
  | _ => False
section
variable {P : Program} {w : World} {H : Hp} {h h' : Heap} {x e : Addr} {o' : HO}
theorem HOk.write (ok : HOk P w H h) (mu : Mut (H x)) (he : e = x ∨ H e = some (.own x)) (k : ∀ b u, b ≠ e → h.get? b = some u → h'.get? b = some u) (heo : ∃ u, h'.get? e = some u)
    (new : ObjOk P w (upd H x o') h' x o') : HOk P w (upd H x o') h' := fun b u q => by
  have nown : ∀ c y, H c = some (.own y) → c ≠ x := fun c y r z => by subst z; rw [r] at mu; exact mu
  have ntup : ∀ c xs, H c = some (.tup xs) → c ≠ x := fun c xs r z => by subst z; rw [r] at mu; exact mu
  by_cases hb : b = x
  · subst hb; rw [upd_same] at q; cases q; exact new
  · rw [upd_ne hb] at q
    by_cases hbe : b = e
    · have q' : H b = some (.own x) := by
        rcases he with z | z
        · exact absurd (hbe.trans z) hb
        · rw [hbe]; exact z
      rw [q] at q'; cases q'
      obtain ⟨v, hv⟩ := heo
      exact ⟨v, by rw [hbe]; exact hv⟩
    · refine (ok b u q).stay (fun c v hc r => k c v ?_ r) (fun c r => by rw [upd_ne (nown c b r)]; exact r) fun c xs r => by rw [upd_ne (ntup c xs r)]; exact r
      rcases hc with rfl | hc
      · exact hbe
      · rintro rfl
        rcases he with z | z
        · exact nown c b hc z
        · rw [hc] at z; cases z; exact hb rfl
end

structure Un (fs ex : List Addr) (H H' : Hp) (h h' : Heap) : Prop where
  keep : ∀ b o, h.get? b = some o → H b = none → b ∉ fs → b ∉ ex → h'.get? b = some o
  slot : ∀ b o, h.get? b = some o → H b = none → b ∈ fs → b ∉ ex → ∃ sl, h'.get? b = some { o with slots := sl }
  free : ∀ b o, h.get? b = some o → H b = none → b ∉ ex → H' b = none
  there : ∀ b o, h.get? b = some o → b ∉ ex → ∃ o', h'.get? b = some o'
  tups : ∀ b xs, H b = some (.tup xs) → H' b = some (.tup xs)
  frzs : ∀ b o u, H b = some (.frz o u) → H' b = some (.frz o u)
  tbls : ∀ b ps, H b = some (.tbl ps) → ∃ more, H' b = some (.tbl (ps ++ more))
section
variable {fs fs' ex ex' : List Addr} {H H1 H2 : Hp} {h h1 h2 h' : Heap} {a x e : Addr} {o : HO}
theorem Un.any (u : Un fs ex H H1 h h1) {b : Addr} {ob : Obj} (q : h.get? b = some ob) (n : H b = none) (hx : b ∉ ex) : ∃ sl, h1.get? b = some { ob with slots := sl } := by
  by_cases hb : b ∈ fs
  · exact u.slot b ob q n hb hx
  · exact ⟨ob.slots, u.keep b ob q n hb hx⟩
theorem Un.trans (a : Un fs ex H H1 h h1) (b : Un fs ex H1 H2 h1 h2) : Un fs ex H H2 h h2 where
  keep := fun c ob q n hc hx => b.keep c ob (a.keep c ob q n hc hx) (a.free c ob q n hx) hc hx
  slot := fun c ob q n hc hx => by
    obtain ⟨sl, e1⟩ := a.slot c ob q n hc hx
    obtain ⟨sl', e2⟩ := b.slot c _ e1 (a.free c ob q n hx) hc hx
    exact ⟨sl', e2⟩
  free := fun c ob q n hx => by
    obtain ⟨o', e1⟩ := a.there c ob q hx
    exact b.free c o' e1 (a.free c ob q n hx) hx
  there := fun c ob q hx => by
    obtain ⟨o', e1⟩ := a.there c ob q hx
    exact b.there c o' e1 hx
  tups := fun c xs q => b.tups c xs (a.tups c xs q)
  frzs := fun c ob xs q => b.frzs c ob xs (a.frzs c ob xs q)
  tbls := fun c ps q => by
    obtain ⟨m1, e1⟩ := a.tbls c ps q
    obtain ⟨m2, e2⟩ := b.tbls c _ e1
    exact ⟨m1 ++ m2, by rw [e2, Array.append_assoc]⟩
theorem Un.kept (k : ∀ b u, h.get? b = some u → h'.get? b = some u) : Un fs ex H H h h' :=
  ⟨fun b ob q _ _ _ => k b ob q, fun b ob q _ _ _ => ⟨ob.slots, k b ob q⟩, fun _ _ _ n _ => n, fun b ob q _ => ⟨ob, k b ob q⟩, fun _ _ q => q, fun _ _ _ q => q, fun _ ps q => ⟨#[], by rw [q]; simp⟩⟩
theorem Un.refl : Un fs ex H H h h := Un.kept fun _ _ q => q
theorem Un.laid (k : ∀ b u, h.get? b = some u → h'.get? b = some u) (hp : h.objs.size ≤ a) (hn : H a = none) : Un fs ex H (upd H a o) h h' where
  keep := fun b u q _ _ _ => k b u q
  slot := fun b u q _ _ _ => ⟨u.slots, k b u q⟩
  free := fun b u q n _ => by rw [upd_ne (Nat.ne_of_lt (Nat.lt_of_lt_of_le (Heap.lt_size q) hp))]; exact n
  there := fun b u q _ => ⟨u, k b u q⟩
  tups := fun b xs q => by rw [upd_ne (ne_of_none q hn)]; exact q
  frzs := fun b u xs q => by rw [upd_ne (ne_of_none q hn)]; exact q
  tbls := fun b ps q => ⟨#[], by rw [upd_ne (ne_of_none q hn), q]; simp⟩
theorem Un.write (mu : Mut (H x)) (he : e = x ∨ H e = some (.own x)) (k : ∀ b u, b ≠ e → h.get? b = some u → h'.get? b = some u) (heo : ∃ u, h'.get? e = some u) : Un fs ex H (upd H x o) h h' := by
  have hx : ∀ b, H b = none → b ≠ x := fun b n z => by subst z; rw [n] at mu; exact mu
  have hb : ∀ b, H b = none → b ≠ e := fun b n z => by
    subst z
    rcases he with r | r
    · exact hx b n r
    · rw [n] at r; cases r
  have hm : ∀ b u, H b = some u → ¬ Mut (some u) → b ≠ x := fun b u q nm z => by subst z; rw [q] at mu; exact nm mu
  refine ⟨fun b u q n _ _ => k b u (hb b n) q, fun b u q n _ _ => ⟨u.slots, k b u (hb b n) q⟩, fun b u q n _ => by rw [upd_ne (hx b n)]; exact n, fun b u q _ => ?_,
    fun b xs q => by rw [upd_ne (hm b _ q fun z => z)]; exact q, fun b u xs q => by rw [upd_ne (hm b _ q fun z => z)]; exact q, fun b ps q => ⟨#[], by rw [upd_ne (hm b _ q fun z => z), q]; simp⟩⟩
  by_cases hbe : b = e
  · subst hbe; exact heo
  · exact ⟨u, k b u hbe q⟩
theorem Un.mono (u : Un fs ex H H1 h h1) (hs : ∀ b ∈ fs, b ∈ fs') (hx : ∀ b ∈ ex, b ∈ ex') : Un fs' ex' H H1 h h1 :=
  ⟨fun b ob q n hb he => u.keep b ob q n (fun z => hb (hs b z)) fun z => he (hx b z), fun _ _ q n _ he => u.any q n fun z => he (hx _ z), fun b ob q n he => u.free b ob q n fun z => he (hx b z), fun b ob q he => u.there b ob q fun z => he (hx b z), u.tups, u.frzs, u.tbls⟩
end

def trk (h : Heap) (H : Hp) : List Addr := (List.range h.objs.size).filter fun a => (H a).isSome
def hidT (h : Heap) (H : Hp) : Heap := PySem.W.hideAll h (trk h H)
theorem hidT_size (h : Heap) (H : Hp) : (hidT h H).objs.size = h.objs.size := PySem.W.hideAll_size _ _
theorem hidT_get {h : Heap} {H : Hp} {b : Addr} {o : Obj} (e : h.get? b = some o) (n : H b = none) : (hidT h H).get? b = some o :=
  PySem.W.hideAll_get _ e fun hm => by
    have q : (H b).isSome = true := (List.mem_filter.mp hm).2
    rw [n] at q; simp at q
theorem of_hidT {h : Heap} {H : Hp} {b : Addr} {o : Obj} (e : (hidT h H).get? b = some o) : h.get? b = some o ∧ H b = none := by
  have e' : h.get? b = some o := PySem.W.of_hideAll (trk h H) e
  refine ⟨e', ?_⟩
  cases q : H b with
  | none => rfl
  | some x =>
    have hm : b ∈ trk h H := List.mem_filter.mpr ⟨List.mem_range.mpr (Heap.lt_size e'), by simp [q]⟩
    have z : (hidT h H).get? b = none := PySem.W.hideAll_none (trk h H) hm
    rw [z] at e; cases e

def allNews (g h : Heap) (L : Addr) : List (Addr × Obj) := (List.range h.objs.size).filterMap fun a => if a = L ∨ (g.get? a).isSome = true then none else (h.get? a).map fun o => (a, o)
def rest (g h : Heap) (L d : Addr) : List (Addr × Obj) := (allNews g h L).filter fun p => decide (p.1 ≠ d)
end L2

namespace L2
open PySem PySem.Spec PyProof.Rows

structure Mod (K : PySem.W.Frag) (mg : Str → Option Value) (base : Heap) : Prop where
  kin : K.In base
  glob : base.Ns mainGlobals mg
  blt : ∃ mb, base.Ns builtinsNs mb ∧ ∀ x : Str, x ≠ "__name__" → mb x = bootBuiltins x
  nolimit : base.NoLimit

structure Cx where
  prog : Program
  w : World
  K : PySem.W.Frag
  mg : Str → Option Value
  base : Heap
  A : Around
  N : List Str
  s₀ : Shared
  H₀ : Hp
  env : Env
  outer : List Env
  stack : List Env
  ex : List Addr
  fn : Str → Bool
  calm : Bool
  pn : List (Addr × Obj)
  xe : Value → Shared → Prop
def frs (l : List Env) : List Addr := l.filterMap (·.frame)
abbrev Cx.fs (X : Cx) : List Addr := frs X.outer

def Vis (sc : Scope) (x : Str) : Prop := sc.names.lookup x = some .local ∨ sc.names.lookup x = some .cell ∨ sc.names.lookup x = some .free
def Loc (sc : Scope) (x : Str) : Prop := sc.names.lookup x = some .local ∨ sc.names.lookup x = some .cell
def Look (env : Env) (h : Heap) (m : Str → Option Value) (x : Str) (u : Value) : Prop :=
  (env.kindOf x = some .local ∧ m x = some u) ∨ ((env.kindOf x = some .cell ∨ env.kindOf x = some .free) ∧ ∃ c, env.cells.lookup x = some c ∧ h.IsCell c (some u))

structure Cx.Ok (X : Cx) : Prop where
  mod : Mod X.K X.mg X.base
  kind : X.env.scope.kind = .function
  glob : X.env.globals = mainGlobals
  blt : X.env.builtins = builtinsNs
  above : X.s₀.heap.objs.size ≤ X.env.locals
  inj : ∀ x y c, X.env.cells.lookup x = some c → X.env.cells.lookup y = some c → x = y
  has : ∀ x, (X.env.kindOf x = some .cell ∨ X.env.kindOf x = some .free) → ∃ c, X.env.cells.lookup x = some c
  cab : ∀ x c, X.fn x = true → X.env.cells.lookup x = some c → X.s₀.heap.objs.size ≤ c
  hd : X.calm = true → X.A.handled = none
  frames : X.A.frames = some X.stack
  stk : X.stack = X.outer ∨ (X.stack = X.env :: X.outer ∧ X.env.frame = some X.env.locals)
  exf : ∀ b ∈ X.ex, b ≠ X.env.locals ∧ ∀ x c, X.env.cells.lookup x = some c → c ≠ b
  bs : ∀ b o, X.base.get? b = some o → X.s₀.heap.get? b = some o ∧ X.H₀ b = none
  bsz : X.base.objs.size ≤ X.s₀.heap.objs.size
  noex : ∀ b o, X.base.get? b = some o → b ∉ X.ex
  exfs : ∀ b ∈ X.ex, b ∉ X.fs
  funs : X.s₀.heap.FunFrames X.base X.outer
  frf : ∀ b ∈ X.fs, X.H₀ b = none

structure Inv (X : Cx) (pins : List (Addr × Obj)) (σ : List (Option V)) (H : Hp) (s : Shared) : Prop where
  ok : X.Ok
  os : s.os = X.s₀.os
  bare : AllBare s.gens
  base : Un X.fs X.ex X.H₀ H X.s₀.heap s.heap
  loc : ∃ m, s.heap.Ns X.env.locals m ∧ ∀ (i : Nat) (x : Str) (v : V), X.N[i]? = some x → σ[i]? = some (some v) → Vis X.env.scope x → ∃ u, RelV v u ∧ Look X.env s.heap m x u
  cell : ∀ x c, X.env.cells.lookup x = some c → ∃ v, s.heap.IsCell c v
  free : H X.env.locals = none
  freeC : ∀ x c, X.env.cells.lookup x = some c → H c = none
  pin : ∀ p ∈ X.pn ++ pins, s.heap.get? p.1 = some p.2 ∧ H p.1 = none ∧ p.1 ≠ X.env.locals ∧ p.1 ∉ X.fs ∧ ∀ v, p.2.data ≠ .cell v
  hok : HOk X.prog X.w H s.heap
  len : σ.length = X.N.length

section
variable {X : Cx} {pins : List (Addr × Obj)} {σ : List (Option V)} {H H' : Hp} {s : Shared} {h' : Heap}

theorem Cx.Ok.nofr (ok : X.Ok) {b : Addr} {o : Obj} (e : X.base.get? b = some o) : b ∉ X.fs := fun hb => by
  have := (ok.funs.mem hb).1
  rw [e] at this; cases this
theorem Inv.bs (I : Inv X pins σ H s) : ∀ b o, X.base.get? b = some o → s.heap.get? b = some o ∧ H b = none := fun b o e =>
  ⟨I.base.keep b o (I.ok.bs b o e).1 (I.ok.bs b o e).2 (I.ok.nofr e) (I.ok.noex b o e), I.base.free b o (I.ok.bs b o e).1 (I.ok.bs b o e).2 (I.ok.noex b o e)⟩
theorem Inv.bk (I : Inv X pins σ H s) : ∀ b o, X.base.get? b = some o → s.heap.get? b = some o := fun b o e => (I.bs b o e).1
theorem Inv.mod (I : Inv X pins σ H s) : Mod X.K X.mg X.base := I.ok.mod
theorem Inv.kIn (I : Inv X pins σ H s) : X.K.In s.heap := I.ok.mod.kin.keeps I.bk
theorem Inv.nolimit (I : Inv X pins σ H s) : s.heap.NoLimit := I.ok.mod.nolimit.keeps I.bk
theorem Inv.lt (I : Inv X pins σ H s) : X.env.locals < s.heap.objs.size := let ⟨_, hn, _⟩ := I.loc; hn.lt
theorem Inv.sz (I : Inv X pins σ H s) : X.s₀.heap.objs.size ≤ s.heap.objs.size := Nat.le_trans I.ok.above (Nat.le_of_lt I.lt)
theorem Inv.nofs (I : Inv X pins σ H s) {a : Addr} (h : s.heap.objs.size ≤ a) : a ∉ X.fs := fun hb => by
  obtain ⟨_, o, ho, _⟩ := I.ok.funs.mem hb
  exact absurd (Nat.lt_of_lt_of_le (Heap.lt_size ho) (Nat.le_trans I.sz h)) (Nat.lt_irrefl _)
theorem Inv.cne (I : Inv X pins σ H s) : ∀ x c, X.env.cells.lookup x = some c → c ≠ X.env.locals := fun x c e z => by
  obtain ⟨v, o, ho, hd⟩ := I.cell x c e
  obtain ⟨m, ⟨o', es, ep, ho', hd', _⟩, _⟩ := I.loc
  rw [z, ho'] at ho; cases ho; rw [hd'] at hd; cases hd
theorem Inv.funs (I : Inv X pins σ H s) : s.heap.FunFrames X.base X.outer := by
  have all : ∀ (l : List Env), (∀ b ∈ frs l, b ∈ X.fs) → X.s₀.heap.FunFrames X.base l → s.heap.FunFrames X.base l := by
    intro l
    induction l with
    | nil => intro _ _; trivial
    | cons env r ih =>
      intro hs hl
      obtain ⟨hk, ⟨L, o, hf, hn, ho, hd⟩, hr⟩ := hl
      have hL : L ∈ X.fs := hs L (by unfold frs; rw [List.filterMap_cons, hf]; exact List.mem_cons_self)
      obtain ⟨sl, e⟩ := I.base.slot L o ho (I.ok.frf L hL) hL fun z => I.ok.exfs L z hL
      exact ⟨hk, ⟨L, _, hf, hn, e, hd⟩, ih (fun b hb => hs b (by unfold frs; rw [List.filterMap_cons, hf]; exact List.mem_cons_of_mem _ hb)) hr⟩
  exact all X.outer (fun _ hb => hb) I.ok.funs

theorem Inv.stack (I : Inv X pins σ H s) : s.heap.FunFrames X.base X.stack := by
  rcases I.ok.stk with e | ⟨e, hf⟩
  · rw [e]; exact I.funs
  · rw [e]
    obtain ⟨m, hn, _⟩ := I.loc
    refine .cons (by rw [I.ok.kind]; decide) hf hn ?_ I.funs
    exact Heap.get?_none_of_le (Nat.le_trans I.ok.bsz I.ok.above)
theorem Inv.stkSub (I : Inv X pins σ H s) : ∀ b ∈ frs X.stack, b ∈ X.env.locals :: X.fs := fun b hb => by
  rcases I.ok.stk with e | ⟨e, hf⟩
  · rw [e] at hb; exact List.mem_cons_of_mem _ hb
  · rw [e] at hb
    unfold frs at hb
    rw [List.filterMap_cons, hf] at hb
    exact hb
theorem Inv.stkFree (I : Inv X pins σ H s) : ∀ b ∈ frs X.stack, H b = none := fun b hb => by
  rcases List.mem_cons.mp (I.stkSub b hb) with e | hb
  · rw [e]; exact I.free
  · obtain ⟨_, o, ho, _⟩ := I.ok.funs.mem hb
    exact I.base.free b o ho (I.ok.frf b hb) fun z => I.ok.exfs b z hb

theorem Inv.step {g' : Array GenState} {t' : Nat} {d' : Drawn} {ch : List Addr} (I : Inv X pins σ H s)
    (hch : ∀ b ∈ ch, (b ∈ X.ex ∨ X.s₀.heap.objs.size ≤ b) ∧ b ≠ X.env.locals ∧ (∀ x c, X.env.cells.lookup x = some c → c ≠ b) ∧ ∀ p ∈ X.pn ++ pins, p.1 ≠ b)
    (keep : ∀ b o, b ≠ X.env.locals → b ∉ X.fs → b ∉ ch → s.heap.get? b = some o → H b = none → h'.get? b = some o)
    (slot : ∀ b o, b ≠ X.env.locals → b ∈ X.fs → b ∉ ch → s.heap.get? b = some o → H b = none → ∃ sl, h'.get? b = some { o with slots := sl }) (free : ∀ b o, b ∉ ch → s.heap.get? b = some o → H b = none → H' b = none)
    (there : ∀ b o, b ∉ ch → s.heap.get? b = some o → ∃ o', h'.get? b = some o')
    (tups : ∀ b xs, H b = some (.tup xs) → H' b = some (.tup xs)) (frzs : ∀ b o u, H b = some (.frz o u) → H' b = some (.frz o u)) (tbls : ∀ b ps, H b = some (.tbl ps) → ∃ more, H' b = some (.tbl (ps ++ more)))
    (ns : ∀ m, s.heap.Ns X.env.locals m → h'.Ns X.env.locals m) (hok : HOk X.prog X.w H' h') (hg : AllBare g') :
    Inv X pins σ H' { s with heap := h', gens := g', drawn := d', toks := t' } := by
  have neL : ∀ b o, X.s₀.heap.get? b = some o → b ≠ X.env.locals := fun b o e => Nat.ne_of_lt (Nat.lt_of_lt_of_le (Heap.lt_size e) I.ok.above)
  have neC : ∀ b o, X.s₀.heap.get? b = some o → b ∉ X.ex → b ∉ ch := fun b o e hx hb => by
    rcases (hch b hb).1 with z | z
    · exact hx z
    · exact absurd (Nat.lt_of_lt_of_le (Heap.lt_size e) z) (Nat.lt_irrefl _)
  have cellK : ∀ x c, X.env.cells.lookup x = some c → ∀ v, s.heap.IsCell c v → h'.IsCell c v := fun x c e v ⟨o, ho, hd⟩ => by
    have nch : c ∉ ch := fun z => (hch c z).2.2.1 x c e rfl
    by_cases hc : c ∈ X.fs
    · obtain ⟨sl, q⟩ := slot c o (I.cne x c e) hc nch ho (I.freeC x c e)
      exact ⟨_, q, hd⟩
    · exact ⟨o, keep c o (I.cne x c e) hc nch ho (I.freeC x c e), hd⟩
  refine ⟨I.ok, I.os, hg, ⟨fun b o e n hb hx => ?_, fun b o e n hb hx => ?_, fun b o e n hx => ?_, fun b o e hx => ?_, fun b xs e => tups b xs (I.base.tups b xs e), fun b o xs e => frzs b o xs (I.base.frzs b o xs e), fun b ps e => ?_⟩, ?_, fun x c e => ?_, ?_, fun x c e => ?_, fun p hp => ?_, hok, I.len⟩
  · exact keep b o (neL b o e) hb (neC b o e hx) (I.base.keep b o e n hb hx) (I.base.free b o e n hx)
  · obtain ⟨sl, e1⟩ := I.base.slot b o e n hb hx
    obtain ⟨sl', e2⟩ := slot b _ (neL b o e) hb (neC b o e hx) e1 (I.base.free b o e n hx)
    exact ⟨sl', e2⟩
  · obtain ⟨o', e1⟩ := I.base.there b o e hx
    exact free b o' (neC b o e hx) e1 (I.base.free b o e n hx)
  · obtain ⟨o', e1⟩ := I.base.there b o e hx
    exact there b o' (neC b o e hx) e1
  · obtain ⟨m1, e1⟩ := I.base.tbls b ps e
    obtain ⟨m2, e2⟩ := tbls b _ e1
    exact ⟨m1 ++ m2, by rw [e2, Array.append_assoc]⟩
  · obtain ⟨m, hn, hl⟩ := I.loc
    refine ⟨m, ns m hn, fun i x v e1 e2 e3 => ?_⟩
    obtain ⟨u, r, l⟩ := hl i x v e1 e2 e3
    refine ⟨u, r, ?_⟩
    rcases l with l | ⟨k, c, e, z⟩
    · exact .inl l
    · exact .inr ⟨k, c, e, cellK x c e _ z⟩
  · obtain ⟨v, z⟩ := I.cell x c e
    exact ⟨v, cellK x c e v z⟩
  · obtain ⟨m, ⟨o, _, _, ho, _⟩, _⟩ := I.loc
    exact free _ o (fun z => (hch _ z).2.1 rfl) ho I.free
  · obtain ⟨v, o, ho, hd⟩ := I.cell x c e
    exact free c o (fun z => (hch c z).2.2.1 x c e rfl) ho (I.freeC x c e)
  · obtain ⟨e, n, ne, nf, d⟩ := I.pin p hp
    have nch : p.1 ∉ ch := fun z => (hch p.1 z).2.2.2 p hp rfl
    exact ⟨keep p.1 p.2 ne nf nch e n, free p.1 p.2 nch e n, ne, nf, d⟩
theorem Inv.un {t' : Nat} (I : Inv X pins σ H s) (u : Un X.fs [] H H' s.heap h') (hok : HOk X.prog X.w H' h') : Inv X pins σ H' { s with heap := h', toks := t' } := by
  obtain ⟨m, ⟨o, es, ep, ho, r⟩, _⟩ := id I.loc
  obtain ⟨sl, hL⟩ := u.any ho I.free (by simp)
  exact I.step (g' := s.gens) (d' := s.drawn) (ch := []) (fun _ z => nomatch z) (fun b o _ hb _ e n => u.keep b o e n hb (by simp)) (fun b o _ hb _ e n => u.slot b o e n hb (by simp)) (fun b o _ e n => u.free b o e n (by simp)) (fun b o _ e => u.there b o e (by simp)) u.tups u.frzs u.tbls (fun m' hm => by
    obtain ⟨o', es', ep', ho', r'⟩ := hm
    rw [ho] at ho'; cases ho'
    exact ⟨_, es', ep', hL, r'⟩) hok I.bare
theorem Inv.call {g' : Array GenState} {t' : Nat} {d' : Drawn} {ch : List Addr} (I : Inv X pins σ H s) (u : Un (frs X.stack) ch H H' s.heap h') (hok : HOk X.prog X.w H' h') (hg : AllBare g')
    (hch : ∀ b ∈ ch, (b ∈ X.ex ∨ X.s₀.heap.objs.size ≤ b) ∧ b ≠ X.env.locals ∧ (∀ x c, X.env.cells.lookup x = some c → c ≠ b) ∧ ∀ p ∈ X.pn ++ pins, p.1 ≠ b) :
    Inv X pins σ H' { s with heap := h', gens := g', drawn := d', toks := t' } := by
  obtain ⟨m, ⟨o, es, ep, ho, r⟩, _⟩ := id I.loc
  obtain ⟨sl, hL⟩ := u.any ho I.free fun z => (hch _ z).2.1 rfl
  exact I.step (ch := ch) hch (fun b o hL hb hc e n => u.keep b o e n (fun z => (List.mem_cons.mp (I.stkSub b z)).elim hL hb) hc) (fun b o _ _ hc e n => u.any e n hc) (fun b o hc e n => u.free b o e n hc) (fun b o hc e => u.there b o e hc) u.tups u.frzs u.tbls (fun m' hm => by
    obtain ⟨o', es', ep', ho', r'⟩ := hm
    rw [ho] at ho'; cases ho'
    exact ⟨_, es', ep', hL, r'⟩) hok hg
theorem Inv.turned {t' : Nat} {it : Addr} (I : Inv X pins σ H s) (k : ∀ b o, b ≠ it → s.heap.get? b = some o → h'.get? b = some o) (hn : H it = none) (hL : it ≠ X.env.locals)
    (h1 : it ∈ X.ex ∨ X.s₀.heap.objs.size ≤ it) (h2 : ∀ x c, X.env.cells.lookup x = some c → c ≠ it) (h3 : ∀ p ∈ X.pn ++ pins, p.1 ≠ it) : Inv X pins σ H { s with heap := h', toks := t' } := by
  have nit : ∀ b u, H b = some u → b ≠ it := fun b u e z => by rw [z, hn] at e; cases e
  refine I.step (g' := s.gens) (d' := s.drawn) (ch := [it]) (fun b hb => ?_) (fun b o _ _ hc e _ => k b o (fun z => hc (by simp [z])) e) (fun b o _ _ hc e _ => ⟨o.slots, k b o (fun z => hc (by simp [z])) e⟩) (fun _ _ _ _ n => n)
    (fun b o hc e => ⟨o, k b o (fun z => hc (by simp [z])) e⟩) (fun _ _ e => e) (fun _ _ _ e => e) (fun b ps e => ⟨#[], by rw [e]; simp⟩) (fun m hm => ?_) (fun b u e => ?_) I.bare
  · have e : b = it := by simpa using hb
    subst e
    exact ⟨h1, hL, h2, h3⟩
  · obtain ⟨o, es, ep, ho, r⟩ := hm
    exact ⟨o, es, ep, k _ o (Ne.symm hL) ho, r⟩
  · refine (I.hok b u e).stay (fun c v hc q => k c v ?_ q) (fun _ q => q) fun _ _ q => q
    rcases hc with z | z
    · rw [z]; exact nit b u e
    · exact nit c _ z
theorem Inv.tok (I : Inv X pins σ H s) (t : Nat) : Inv X pins σ H { s with toks := t } := I.un (h' := s.heap) (t' := t) Un.refl I.hok
theorem Inv.kept {t' : Nat} (I : Inv X pins σ H s) (k : ∀ b u, s.heap.get? b = some u → h'.get? b = some u) : Inv X pins σ H { s with heap := h', toks := t' } := I.un (Un.kept k) (I.hok.kept k)
theorem Inv.laid {a : Addr} {o : HO} {t' : Nat} (I : Inv X pins σ H s) (k : ∀ b u, s.heap.get? b = some u → h'.get? b = some u) (hp : s.heap.objs.size ≤ a) (new : ObjOk X.prog X.w (upd H a o) h' a o) :
    Inv X pins σ (upd H a o) { s with heap := h', toks := t' } := I.un (Un.laid k hp (I.hok.fresh hp)) (I.hok.laid k hp new)
theorem Inv.write {x e : Addr} {o : HO} {t' : Nat} (I : Inv X pins σ H s) (mu : Mut (H x)) (he : e = x ∨ H e = some (.own x)) (k : ∀ b u, b ≠ e → s.heap.get? b = some u → h'.get? b = some u) (heo : ∃ u, h'.get? e = some u)
    (new : ObjOk X.prog X.w (upd H x o) h' x o) : Inv X pins σ (upd H x o) { s with heap := h', toks := t' } := I.un (Un.write mu he k heo) (I.hok.write mu he k heo new)
theorem Inv.pins_of {pins' : List (Addr × Obj)} (I : Inv X pins σ H s) (h : ∀ p ∈ pins', s.heap.get? p.1 = some p.2 ∧ H p.1 = none ∧ p.1 ≠ X.env.locals ∧ p.1 ∉ X.fs ∧ ∀ v, p.2.data ≠ .cell v) : Inv X pins' σ H s :=
  ⟨I.ok, I.os, I.bare, I.base, I.loc, I.cell, I.free, I.freeC, fun p hp => (List.mem_append.mp hp).elim (fun z => I.pin p (List.mem_append_left _ z)) (h p), I.hok, I.len⟩

theorem nodup_ix {N : List Str} (hN : N.Nodup) {i j : Nat} {x : Str} (a : N[i]? = some x) (b : N[j]? = some x) : i = j := by
  obtain ⟨h1, e1⟩ := List.getElem?_eq_some_iff.mp a
  obtain ⟨h2, e2⟩ := List.getElem?_eq_some_iff.mp b
  exact (List.getElem_inj hN).mp (e1.trans e2.symm)

theorem store_ok2 {M : Model} {A : Around} {E : Value → Shared → Prop} {i : Nat} {x : Str} {v : V} {u : Value} {Q : Unit → Shared → Prop} (I : Inv X pins σ H s) (hN : X.N.Nodup) (hi : X.N[i]? = some x) (hx : Loc X.env.scope x) (r : RelV v u)
    (h : ∀ s', Inv X pins (σ.set i (some v)) H s' → (∃ a, Heap.SameBut a s.heap s'.heap ∧ (a = X.env.locals ∨ X.env.cells.lookup x = some a)) → Q () s') (hf : X.fn x = true ∨ X.env.scope.names.lookup x = some .local := by first | exact .inl rfl | exact .inr rfl | assumption) : wpAny M A (storeName X.env x u) Q E s := by
  obtain ⟨m, hn, hl⟩ := id I.loc
  have hcls : (X.env.scope.kind == .class || (X.env.scope.kind == .module && X.env.locals != X.env.globals)) = false := by rw [I.ok.kind]; rfl
  have hiσ : i < σ.length := by rw [I.len]; exact (List.getElem?_eq_some_iff.mp hi).1
  have cne := I.cne
  have tracked : ∀ {a : Addr} {h' : Heap}, (∃ o, s.heap.get? a = some o ∧ H a = none) → Heap.SameBut a s.heap h' → HOk X.prog X.w H h' := fun {a h'} ha hs b ob e => by
    obtain ⟨_, _, hfree⟩ := ha
    refine (I.hok b ob e).stay (fun c w' hc q => (hs.2 c ?_).trans q) (fun _ q => q) fun _ _ q => q
    rintro rfl
    rcases hc with rfl | hc
    · rw [hfree] at e; cases e
    · rw [hfree] at hc; cases hc
  rcases hx with hk | hk
  · refine wpAny_storeName_local hk hn (fun h' hn' hs => ?_) hcls
    obtain ⟨oL, _, _, hoL, _⟩ := id hn
    refine h _ ⟨I.ok, I.os, I.bare, ⟨fun b o e n hb hx => ?_, fun b o e n hb hx => ?_, I.base.free, fun b o e hx => ?_, I.base.tups, I.base.frzs, I.base.tbls⟩, ⟨_, hn', fun j y v' e1 e2 e3 => ?_⟩, fun y c e => ?_, I.free, I.freeC, fun p hp => ?_, tracked ⟨oL, hoL, I.free⟩ hs, by simpa using I.len⟩ ⟨_, hs, .inl rfl⟩
    · exact (hs.2 b (Nat.ne_of_lt (Nat.lt_of_lt_of_le (Heap.lt_size e) I.ok.above))).trans (I.base.keep b o e n hb hx)
    · obtain ⟨sl, e1⟩ := I.base.slot b o e n hb hx
      exact ⟨sl, (hs.2 b (Nat.ne_of_lt (Nat.lt_of_lt_of_le (Heap.lt_size e) I.ok.above))).trans e1⟩
    · obtain ⟨o', e1⟩ := I.base.there b o e hx
      exact ⟨o', (hs.2 b (Nat.ne_of_lt (Nat.lt_of_lt_of_le (Heap.lt_size e) I.ok.above))).trans e1⟩
    · by_cases hj : j = i
      · subst hj
        rw [hi] at e1; cases e1
        rw [List.getElem?_set_self hiσ] at e2
        cases e2
        exact ⟨u, r, .inl ⟨hk, by simp⟩⟩
      · rw [List.getElem?_set_ne (Ne.symm hj)] at e2
        obtain ⟨u', r', q⟩ := hl j y v' e1 e2 e3
        refine ⟨u', r', ?_⟩
        rcases q with ⟨k, e⟩ | ⟨k, c, e, z⟩
        · refine .inl ⟨k, ?_⟩
          have : y ≠ x := fun e => hj (nodup_ix hN e1 (e ▸ hi))
          simp [this, e]
        · exact .inr ⟨k, c, e, z.sameBut hs (cne y c e)⟩
    · obtain ⟨w', z⟩ := I.cell y c e
      exact ⟨w', z.sameBut hs (cne y c e)⟩
    · obtain ⟨e, n, ne, nf, d⟩ := I.pin p hp
      exact ⟨(hs.2 p.1 ne).trans e, n, ne, nf, d⟩
  · have hfn : X.fn x = true := by
      rcases hf with z | z
      · exact z
      · rw [z] at hk; cases hk
    obtain ⟨c, hc⟩ := I.ok.has x (.inl hk)
    obtain ⟨w', z⟩ := I.cell x c hc
    refine wpAny_storeName_cell I.ok.kind hk hc z (fun h' hc' hs => ?_)
    obtain ⟨oc, hoc, hocd⟩ := id z
    refine h { s with heap := h' } ⟨I.ok, I.os, I.bare, ⟨fun b o e n hb hx => ?_, fun b o e n hb hx => ?_, I.base.free, fun b o e hx => ?_, I.base.tups, I.base.frzs, I.base.tbls⟩, ⟨m, hn.sameBut hs (Ne.symm (cne x c hc)), fun j y v' e1 e2 e3 => ?_⟩, fun y c' e => ?_, I.free, I.freeC, fun p hp => ?_, tracked ⟨oc, hoc, I.freeC x c hc⟩ hs, by simpa using I.len⟩ ⟨c, hs, .inr hc⟩
    · exact (hs.2 b (Nat.ne_of_lt (Nat.lt_of_lt_of_le (Heap.lt_size e) (I.ok.cab x c hfn hc)))).trans (I.base.keep b o e n hb hx)
    · obtain ⟨sl, e1⟩ := I.base.slot b o e n hb hx
      exact ⟨sl, (hs.2 b (Nat.ne_of_lt (Nat.lt_of_lt_of_le (Heap.lt_size e) (I.ok.cab x c hfn hc)))).trans e1⟩
    · obtain ⟨o', e1⟩ := I.base.there b o e hx
      exact ⟨o', (hs.2 b (Nat.ne_of_lt (Nat.lt_of_lt_of_le (Heap.lt_size e) (I.ok.cab x c hfn hc)))).trans e1⟩
    · by_cases hj : j = i
      · subst hj
        rw [hi] at e1; cases e1
        rw [List.getElem?_set_self hiσ] at e2
        cases e2
        exact ⟨u, r, .inr ⟨.inl hk, c, hc, hc'⟩⟩
      · rw [List.getElem?_set_ne (Ne.symm hj)] at e2
        obtain ⟨u', r', q⟩ := hl j y v' e1 e2 e3
        refine ⟨u', r', ?_⟩
        rcases q with q | ⟨k, c', e, z'⟩
        · exact .inl q
        · refine .inr ⟨k, c', e, z'.sameBut hs ?_⟩
          rintro rfl
          exact hj (nodup_ix hN e1 (I.ok.inj _ _ _ e hc ▸ hi))
    · by_cases hcc : c' = c
      · subst hcc; exact ⟨_, hc'⟩
      · obtain ⟨w2, z2⟩ := I.cell y c' e
        exact ⟨w2, z2.sameBut hs hcc⟩
    · obtain ⟨e, n, ne, nf, d⟩ := I.pin p hp
      refine ⟨(hs.2 p.1 ?_).trans e, n, ne, nf, d⟩
      intro q
      rw [q, hoc] at e
      have q' : oc = p.2 := Option.some.inj e
      exact d w' (by rw [← q']; exact hocd)
theorem store_ok {M : Model} {A : Around} {E : Value → Shared → Prop} {i : Nat} {x : Str} {v : V} {u : Value} {Q : Unit → Shared → Prop} (I : Inv X pins σ H s) (hN : X.N.Nodup) (hi : X.N[i]? = some x) (hx : Loc X.env.scope x) (r : RelV v u)
    (h : ∀ s', Inv X pins (σ.set i (some v)) H s' → Q () s') (hf : X.fn x = true ∨ X.env.scope.names.lookup x = some .local := by first | exact .inl rfl | exact .inr rfl | assumption) : wpAny M A (storeName X.env x u) Q E s :=
  store_ok2 I hN hi hx r (fun s' I' _ => h s' I') hf
theorem Inv.call' {s' : Shared} {ch : List Addr} (I : Inv X pins σ H s) (ho : s'.os = s.os) (u : Un (frs X.stack) ch H H' s.heap s'.heap) (hok : HOk X.prog X.w H' s'.heap) (hg : AllBare s'.gens)
    (hch : ∀ b ∈ ch, (b ∈ X.ex ∨ X.s₀.heap.objs.size ≤ b) ∧ b ≠ X.env.locals ∧ (∀ x c, X.env.cells.lookup x = some c → c ≠ b) ∧ ∀ p ∈ X.pn ++ pins, p.1 ≠ b) : Inv X pins σ H' s' := by
  obtain ⟨h', g', d', t', o'⟩ := s'
  have e : o' = s.os := ho
  subst e
  exact I.call (g' := g') (t' := t') (d' := d') u hok hg hch
end

abbrev XK := Value → Option Addr → Hp → Prop
abbrev St := List (Option V)
abbrev VK := V → Hp → Prop
abbrev TE := St → Hp → VK → Prop
abbrev TT := St → Hp → (Bool → Hp → Prop) → Prop
abbrev TA := St → Hp → (List V → Hp → Prop) → Prop
structure Ends where
  nx : St → Hp → Prop
  rt : VK
  bk : St → Hp → Prop := fun _ _ => False
  ct : St → Hp → Prop := fun _ _ => False
abbrev TS := Ends → St → Hp → Prop

def EP (X : Cx) (pins : List (Addr × Obj)) (σ : St) (Q : VK) (u : Value) (s' : Shared) : Prop := ∃ v H', Inv X pins σ H' s' ∧ RelV v u ∧ Q v H'
def TP (X : Cx) (pins : List (Addr × Obj)) (σ : St) (Q : Bool → Hp → Prop) (b : Bool) (s' : Shared) : Prop := ∃ H', Inv X pins σ H' s' ∧ Q b H'
def AP (X : Cx) (pins : List (Addr × Obj)) (σ : St) (Q : List V → Hp → Prop) (us : List Value) (s' : Shared) : Prop := ∃ vs H', Inv X pins σ H' s' ∧ Vals vs us ∧ Q vs H'
def SP (X : Cx) (pins : List (Addr × Obj)) (D : Ends) (f : Flow) (s' : Shared) : Prop :=
  match f with
  | .next => ∃ σ' H', Inv X pins σ' H' s' ∧ D.nx σ' H'
  | .brk => ∃ σ' H', Inv X pins σ' H' s' ∧ D.bk σ' H'
  | .cont => ∃ σ' H', Inv X pins σ' H' s' ∧ D.ct σ' H'
  | .ret u => ∃ v σ' H', Inv X pins σ' H' s' ∧ RelV v u ∧ D.rt v H'

def PE (X : Cx) (e : Expr) (t : TE) : Prop :=
  ∀ (pins : List (Addr × Obj)) (s : Shared) (σ : St) (H : Hp) (Q : VK), Inv X pins σ H s → t σ H Q → wpAny (model X.prog X.w) X.A (eval e X.env) (EP X pins σ Q) X.xe s
def PT (X : Cx) (e : Expr) (t : TT) : Prop :=
  ∀ (pins : List (Addr × Obj)) (s : Shared) (σ : St) (H : Hp) (Q : Bool → Hp → Prop), Inv X pins σ H s → t σ H Q → wpAny (model X.prog X.w) X.A (isTrue e X.env (eval e X.env)) (TP X pins σ Q) X.xe s
def PW (X : Cx) (e : Expr) (t : TT) : Prop :=
  ∀ (whole : Sem Value) (pins : List (Addr × Obj)) (s : Shared) (σ : St) (H : Hp) (Q : Bool → Hp → Prop), Inv X pins σ H s → t σ H Q → wpAny (model X.prog X.w) X.A (isTrue e X.env whole) (TP X pins σ Q) X.xe s
theorem PW.pt {X : Cx} {e : Expr} {t : TT} (h : PW X e t) : PT X e t := h _
def PA (X : Cx) (es : List Expr) (t : TA) : Prop :=
  ∀ (pos : Pos) (pins : List (Addr × Obj)) (s : Shared) (σ : St) (H : Hp) (Q : List V → Hp → Prop), Inv X pins σ H s → t σ H Q → wpAny (model X.prog X.w) X.A (spliced (backTo pos (starEach es X.env))) (AP X pins σ Q) X.xe s
def PS (X : Cx) (st : Stmt) (t : TS) : Prop :=
  ∀ (pins : List (Addr × Obj)) (s : Shared) (σ : St) (H : Hp) (D : Ends), Inv X pins σ H s → t D σ H → wpAny (model X.prog X.w) X.A (exec st X.env) (SP X pins D) X.xe s
def PSs (X : Cx) (st : List Stmt) (t : TS) : Prop :=
  ∀ (pins : List (Addr × Obj)) (s : Shared) (σ : St) (H : Hp) (D : Ends), Inv X pins σ H s → t D σ H → wpAny (model X.prog X.w) X.A (execs st X.env) (SP X pins D) X.xe s
theorem thn {α : Type} {t : Sem α} {Q Q' : α → Shared → Prop} {M : Model} {A : Around} {E : Value → Shared → Prop} {s : Shared} (h : wpAny M A t Q E s) (hQ : ∀ a s, Q a s → Q' a s) : wpAny M A t Q' E s := wpAny_mono h hQ fun _ _ x => x
end L2

namespace L2
open PySem PySem.Spec PyProof.Rows
section
variable {X : Cx}

def tVar (i : Nat) : TE := fun σ H Q => ∃ v, σ[i]? = some (some v) ∧ Q v H
def tC (v : V) : TE := fun _ H Q => Q v H
theorem pe_var {i : Nat} {x : Str} {pos : Pos} (hN : X.N[i]? = some x) (hv : Vis X.env.scope x) (hd : (x == ("__debug__" : Str)) = false := by decide) (hcd : (x == ("__classdict__" : Str)) = false := by decide) : PE X (.Name x pos) (tVar i) := by
  intro pins s σ H Q I h
  obtain ⟨v, e, h⟩ := h
  obtain ⟨m, hn, hl⟩ := I.loc
  obtain ⟨u, r, l⟩ := hl i x v hN e hv
  have fin : EP X pins σ Q u s := ⟨v, H, I, r, h⟩
  rcases l with ⟨hk, hm⟩ | ⟨hk, c, hc, hcell⟩
  · exact wpAny_Name (wpAny_loadName_local I.ok.kind hk hn hm fin) hd
  · rcases hk with hk | hk
    · exact wpAny_Name (wpAny_loadName_cell I.ok.kind hk hc hcell fin) hd
    · exact wpAny_Name (wpAny_loadName_free I.ok.kind hk hc hcell fin hcd) hd
theorem pe_int {i j pos} : PE X (.Constant (.int i) j pos) (tC (.int i)) := fun _ _ _ H _ I h => wpAny_Constant_int ⟨.int i, H, I.tok _, ⟨_, rfl⟩, h⟩
theorem pe_bl {b j pos} : PE X (.Constant (.bool b) j pos) (tC (.bl b)) := fun _ _ _ H _ I h => Constant_bool ⟨.bl b, H, I, rfl, h⟩
theorem pe_non {j pos} : PE X (.Constant .none j pos) (tC .non) := fun _ _ _ H _ I h => Constant_none ⟨.non, H, I, rfl, h⟩
def Gl (X : Cx) (x : Str) : Prop := X.env.kindOf x = some .globalImplicit
theorem ld_glob {E : Value → Shared → Prop} {pins : List (Addr × Obj)} {s : Shared} {σ : St} {H : Hp} {x : Str} {u : Value} {pos : Pos} {Q : Value → Shared → Prop} (I : Inv X pins σ H s) (hg : Gl X x) (hm : X.mg x = some u) (h : Q u s)
    (hd : (x == ("__debug__" : Str)) = false := by decide) : wpAny (model X.prog X.w) X.A (eval (.Name x pos) X.env) Q E s :=
  Calls.Name_function_global I.ok.kind hg (Calls.loadGlobal_global (by rw [I.ok.glob]; exact I.mod.glob.keeps I.bk) hm h) hd
theorem ld_blt {E : Value → Shared → Prop} {pins : List (Addr × Obj)} {s : Shared} {σ : St} {H : Hp} {x : Str} {u : Value} {pos : Pos} {Q : Value → Shared → Prop} (I : Inv X pins σ H s) (hg : Gl X x) (hm : X.mg x = none) (hv : bootBuiltins x = some u) (h : Q u s)
    (hn : x ≠ "__name__" := by decide) (hd : (x == ("__debug__" : Str)) = false := by decide) : wpAny (model X.prog X.w) X.A (eval (.Name x pos) X.env) Q E s := by
  obtain ⟨mb, h1, h2⟩ := I.mod.blt
  exact Calls.Name_function_global I.ok.kind hg (Calls.loadGlobal_builtin (by rw [I.ok.glob]; exact I.mod.glob.keeps I.bk) hm (by rw [I.ok.blt]; exact h1.keeps I.bk) ((h2 x hn).trans hv) h) hd
theorem pe_glob {x : Str} {v : V} {u : Value} {pos : Pos} (hg : Gl X x) (hm : X.mg x = some u) (r : RelV v u) (hd : (x == ("__debug__" : Str)) = false := by decide) : PE X (.Name x pos) (tC v) :=
  fun _ _ _ H _ I h => ld_glob I hg hm ⟨v, H, I, r, h⟩ hd
theorem pe_bltn {x : Str} {v : V} {u : Value} {pos : Pos} (hg : Gl X x) (hm : X.mg x = none) (hv : bootBuiltins x = some u) (r : RelV v u) (hn : x ≠ "__name__" := by decide) (hd : (x == ("__debug__" : Str)) = false := by decide) : PE X (.Name x pos) (tC v) :=
  fun _ _ _ H _ I h => ld_blt I hg hm hv ⟨v, H, I, r, h⟩ hn hd

def t2I (ta tb : TE) (k : Int → Int → Hp → Prop) : St → Hp → Prop := fun σ H => ta σ H fun x H1 => tb σ H1 fun y H2 => ∃ i j, x = .int i ∧ y = .int j ∧ k i j H2
def tAdd (ta tb : TE) : TE := fun σ H Q => t2I ta tb (fun i j H2 => Q (.int (i + j)) H2) σ H
def tSub (ta tb : TE) : TE := fun σ H Q => t2I ta tb (fun i j H2 => Q (.int (i - j)) H2) σ H
def tMul (ta tb : TE) : TE := fun σ H Q => t2I ta tb (fun i j H2 => (-(2 ^ 64) < i ∧ i < 2 ^ 64) ∧ Q (.int (i * j)) H2) σ H
variable {a b : Expr} {ta tb : TE} {pos : Pos}
def PC (X : Cx) (op : CmpOp) (a b : Expr) (t : TE) : Prop :=
  ∀ (pins : List (Addr × Obj)) (s : Shared) (σ : St) (H : Hp) (Q : VK), Inv X pins σ H s → t σ H Q →
    wpAny (model X.prog X.w) X.A (eval a X.env) (fun v s₁ => wpAny (model X.prog X.w) X.A (eval b X.env) (fun u s₂ => wpAny (model X.prog X.w) X.A (compareOp op v u) (EP X pins σ Q) X.xe s₂) X.xe s₁) X.xe s
def tCmp (p : Int → Int → Bool) (ta tb : TE) : TE := fun σ H Q => t2I ta tb (fun i j H2 => Q (.bl (p i j)) H2) σ H
abbrev tLt : TE → TE → TE := tCmp fun i j => decide (i < j)
abbrev tLe : TE → TE → TE := tCmp fun i j => decide (i ≤ j)
abbrev tGt : TE → TE → TE := tCmp fun i j => decide (j < i)
abbrev tGe : TE → TE → TE := tCmp fun i j => decide (j ≤ i)
abbrev tEqI : TE → TE → TE := tCmp fun i j => decide (i = j)
abbrev tNeI : TE → TE → TE := tCmp fun i j => !decide (i = j)
def tIsN (ta : TE) : TE := fun σ H Q => ta σ H fun x H1 => Q (.bl (decide (x = .non))) H1
def tNotN (ta : TE) : TE := fun σ H Q => ta σ H fun x H1 => Q (.bl (!decide (x = .non))) H1
def tB (t : TE) : TT := fun σ H Q => t σ H fun x H1 => ∃ c, x = .bl c ∧ Q c H1
theorem pt_val {e : Expr} {t : TE} (h : PE X e t) (he : ∀ whole, isTrue e X.env whole = (do let v ← whole; standAt e.pos; holding [v] (truthy v)) := by intro _; rfl) : PT X e (tB t) := by
  intro pins s σ H Q I hw
  refine isTrue_plain (thn (h pins s σ H _ I hw) fun v s1 ⟨x, H1, I1, r1, q1⟩ => ?_) (he _)
  obtain ⟨d, rfl, q⟩ := q1
  cases r1
  exact wpAny_truthy_bool ⟨H1, I1, q⟩

variable {tA tB' : TT} {rest : List Expr}
def tAnd (t u : TT) : TT := fun σ H Q => t σ H fun c H1 => if c = true then u σ H1 Q else Q false H1
def tOr (t u : TT) : TT := fun σ H Q => t σ H fun c H1 => if c = true then Q true H1 else u σ H1 Q
def tNot (t : TT) : TT := fun σ H Q => t σ H fun c H1 => Q (!c) H1
theorem pw_and1 (ha : PT X a tA) : PW X (.BoolOp .And [a] pos) tA := by
  intro wh pins s σ H Q I h
  refine isTrue_and (thn (ha pins s σ H Q I h) fun c s1 e => ?_)
  cases c with
  | true => exact isTrue_and_nil e
  | false => exact e
theorem pw_or1 (ha : PT X a tA) : PW X (.BoolOp .Or [a] pos) tA := by
  intro wh pins s σ H Q I h
  refine isTrue_or (thn (ha pins s σ H Q I h) fun c s1 e => ?_)
  cases c with
  | false => exact isTrue_or_nil e
  | true => exact e
theorem pw_and (ha : PT X a tA) (hb : PW X (.BoolOp .And (b :: rest) pos) tB') : PW X (.BoolOp .And (a :: b :: rest) pos) (tAnd tA tB') := by
  intro wh pins s σ H Q I h
  refine isTrue_and (thn (ha pins s σ H _ I h) fun c s1 ⟨H1, I1, q1⟩ => ?_)
  cases c with
  | true => exact hb wh pins s1 σ H1 Q I1 q1
  | false => exact ⟨H1, I1, q1⟩
theorem pw_or (ha : PT X a tA) (hb : PW X (.BoolOp .Or (b :: rest) pos) tB') : PW X (.BoolOp .Or (a :: b :: rest) pos) (tOr tA tB') := by
  intro wh pins s σ H Q I h
  refine isTrue_or (thn (ha pins s σ H _ I h) fun c s1 ⟨H1, I1, q1⟩ => ?_)
  cases c with
  | true => exact ⟨H1, I1, q1⟩
  | false => exact hb wh pins s1 σ H1 Q I1 q1
theorem pt_not (ha : PT X a tA) : PT X (.UnaryOp .Not a pos) (tNot tA) := by
  intro pins s σ H Q I h
  exact isTrue_not (ha pins s σ H (fun c H1 => Q (!c) H1) I h)
def tAndV (ta tb : TE) : TE := fun σ H Q => ta σ H fun x H1 => ∃ c, x = .bl c ∧ if c = true then tb σ H1 Q else Q (.bl false) H1
def tOrV (ta tb : TE) : TE := fun σ H Q => ta σ H fun x H1 => ∃ c, x = .bl c ∧ if c = true then Q (.bl true) H1 else tb σ H1 Q
def tNotV (ta : TE) : TE := fun σ H Q => ta σ H fun x H1 => ∃ c, x = .bl c ∧ Q (.bl (!c)) H1
theorem pe_one {op} {t : TE} (h : PE X a t) : PE X (.BoolOp op [a] pos) t := fun pins s σ H Q I hw => BoolOp_one (h pins s σ H Q I hw)
theorem pe_and (ha : PE X a ta) (hb : PE X (.BoolOp .And (b :: rest) pos) tb) : PE X (.BoolOp .And (a :: b :: rest) pos) (tAndV ta tb) := by
  intro pins s σ H Q I h
  refine BoolOp_and (thn (ha pins s σ H _ I h) fun v s1 ⟨x, H1, I1, r1, q1⟩ => ?_)
  obtain ⟨c, rfl, q1⟩ := q1
  cases r1
  refine wpAny_truthy_bool ?_
  cases c with
  | true => exact hb pins s1 σ H1 Q I1 q1
  | false => exact ⟨.bl false, H1, I1, rfl, q1⟩
theorem pe_not (ha : PE X a ta) : PE X (.UnaryOp .Not a pos) (tNotV ta) := by
  intro pins s σ H Q I h
  refine UnaryOp_ (thn (ha pins s σ H _ I h) fun v s1 ⟨x, H1, I1, r1, q1⟩ => ?_)
  obtain ⟨c, rfl, q1⟩ := q1
  cases r1
  exact not_of (wpAny_truthy_bool ⟨.bl (!c), H1, I1, rfl, q1⟩)
def tIf (t : TT) (ta tb : TE) : TE := fun σ H Q => t σ H fun c H1 => if c = true then ta σ H1 Q else tb σ H1 Q
theorem pe_ifExp {c : Expr} (hc : PT X c tA) (ha : PE X a ta) (hb : PE X b tb) : PE X (.IfExp c a b pos) (tIf tA ta tb) := by
  intro pins s σ H Q I h
  refine wpAny_IfExp (thn (hc pins s σ H _ I h) fun d s1 ⟨H1, I1, q1⟩ => ?_)
  cases d with
  | true => exact ha pins s1 σ H1 Q I1 q1
  | false => exact hb pins s1 σ H1 Q I1 q1
end
end L2

namespace L2
open PySem PySem.Spec PyProof.Rows

def SqL (K : PySem.W.Frag) (H : Hp) (a : Addr) (xs : List V) : Prop :=
  Rd H a (.lst xs) ∨
    ∃ (o : Obj) (its : Array Value) (n : Nat), K.lookup a = some o ∧ o.cls = .type "list" ∧ o.dict = none ∧ o.data = .seq its n ∧ its.size ≤ sizeLine ∧ Vals xs its.toList
def SqT (K : PySem.W.Frag) (H : Hp) (a : Addr) (xs : List V) : Prop :=
  Rd H a (.tup xs) ∨
    ∃ (o : Obj) (its : Array Value) (n : Nat), K.lookup a = some o ∧ o.cls = .type "tuple" ∧ o.data = .seq its n ∧ its.size ≤ sizeLine ∧ Vals xs its.toList
def absV : Value → Option V
  | .none => some .non
  | .bool b => some (.bl b)
  | .int i _ => some (.int i)
  | .str x _ => some (.str x)
  | .bytes b _ => some (.byt b)
  | .float b _ => some (.flt b)
  | .ref a => some (.ref a)
  | .type n => some (.ty n)
  | _ => none
theorem RelV.abs {x : V} {u : Value} (r : RelV x u) : absV u = some x := by
  cases x with
  | non => cases r; rfl
  | bl _ => cases r; rfl
  | int _ => obtain ⟨t, rfl⟩ := r; rfl
  | str _ => obtain ⟨t, rfl⟩ := r; rfl
  | byt _ => obtain ⟨t, rfl⟩ := r; rfl
  | flt _ => obtain ⟨t, rfl⟩ := r; rfl
  | ref _ => cases r; rfl
  | ty _ => cases r; rfl
theorem RelV.inj {x y : V} {u : Value} (r : RelV x u) (q : RelV y u) : x = y := Option.some.inj (r.abs.symm.trans q.abs)
theorem Vals.inj : ∀ {xs ys : List V} {us : List Value}, Vals xs us → Vals ys us → xs = ys
  | _, _, _, .nil, .nil => rfl
  | _, _, _, .cons r t, .cons r' t' => by rw [r.inj r', Vals.inj t t']
section
variable {X : Cx} {pins : List (Addr × Obj)} {σ : St} {H : Hp} {s : Shared} {a : Addr} {xs ys : List V}
theorem SqL.of {K : PySem.W.Frag} (h : H a = some (.lst xs)) : SqL K H a xs := .inl (.inl h)
theorem SqT.of {K : PySem.W.Frag} (h : H a = some (.tup xs)) : SqT K H a xs := .inl (.inl h)
theorem Inv.list (I : Inv X pins σ H s) (h : SqL X.K H a xs) : ∃ its : List Value, Vals xs its ∧ PlainL s.heap a its.toArray ∧ xs.length ≤ sizeLine := by
  rcases h with h | ⟨o, its, n, hk, hc, hd, hs, hz, r⟩
  · obtain ⟨z, its, n, r, e⟩ := h.ok I.hok
    exact ⟨its, r, ⟨_, n, e, rfl, rfl, rfl⟩, z⟩
  · refine ⟨its.toList, r, ⟨o, n, I.kIn a o hk, hc, hd, by simpa using hs⟩, ?_⟩
    have e := r.length
    simp only [Array.length_toList] at e
    omega
theorem Inv.tuple (I : Inv X pins σ H s) (h : SqT X.K H a xs) : ∃ its : List Value, Vals xs its ∧ IsTup s.heap a its.toArray ∧ xs.length ≤ sizeLine := by
  rcases h with h | ⟨o, its, n, hk, hc, hs, hz, r⟩
  · obtain ⟨z, its, r, p⟩ := h.ok I.hok
    exact ⟨its, r, p, z⟩
  · refine ⟨its.toList, r, ⟨o, I.kIn a o hk, hc, n, by simpa using hs⟩, ?_⟩
    have e := r.length
    simp only [Array.length_toList] at e
    omega
theorem Inv.list_inj (I : Inv X pins σ H s) (h : SqL X.K H a xs) (h' : SqL X.K H a ys) : xs = ys := by
  obtain ⟨its, r, ⟨o, n, e, _, _, d⟩, _⟩ := I.list h
  obtain ⟨its', r', ⟨o', n', e', _, _, d'⟩, _⟩ := I.list h'
  rw [e] at e'; cases e'
  rw [d] at d'
  injection d' with d1 _
  have : its = its' := by simpa using congrArg Array.toList d1
  subst this
  exact r.inj r'
theorem Inv.tuple_inj (I : Inv X pins σ H s) (h : SqT X.K H a xs) (h' : SqT X.K H a ys) : xs = ys := by
  obtain ⟨its, r, ⟨o, e, _, n, d⟩, _⟩ := I.tuple h
  obtain ⟨its', r', ⟨o', e', _, n', d'⟩, _⟩ := I.tuple h'
  rw [e] at e'; cases e'
  rw [d] at d'
  injection d' with d1 _
  have : its = its' := by simpa using congrArg Array.toList d1
  subst this
  exact r.inj r'
end

abbrev Cx.wish (X : Cx) (E : Value → Shared → Prop) : Cx := { X with xe := E }
abbrev Cx.nox (X : Cx) : Cx := X.wish fun _ _ => False
theorem Cx.Ok.wish {X : Cx} (ok : X.Ok) (E : Value → Shared → Prop) : (X.wish E).Ok :=
  ⟨ok.mod, ok.kind, ok.glob, ok.blt, ok.above, ok.inj, ok.has, ok.cab, ok.hd, ok.frames, ok.stk, ok.exf, ok.bs, ok.bsz, ok.noex, ok.exfs, ok.funs, ok.frf⟩
theorem Cx.Ok.unwish {X : Cx} {E : Value → Shared → Prop} (ok : (X.wish E).Ok) : X.Ok :=
  ⟨ok.mod, ok.kind, ok.glob, ok.blt, ok.above, ok.inj, ok.has, ok.cab, ok.hd, ok.frames, ok.stk, ok.exf, ok.bs, ok.bsz, ok.noex, ok.exfs, ok.funs, ok.frf⟩
section
variable {X : Cx} {pins : List (Addr × Obj)} {σ : St} {H : Hp} {s : Shared} {E : Value → Shared → Prop}
theorem Inv.wish (I : Inv X pins σ H s) (E : Value → Shared → Prop) : Inv (X.wish E) pins σ H s := ⟨I.ok.wish E, I.os, I.bare, I.base, I.loc, I.cell, I.free, I.freeC, I.pin, I.hok, I.len⟩
theorem Inv.unwish (I : Inv (X.wish E) pins σ H s) : Inv X pins σ H s := ⟨I.ok.unwish, I.os, I.bare, I.base, I.loc, I.cell, I.free, I.freeC, I.pin, I.hok, I.len⟩
theorem SP.unwish {D : Ends} {f : Flow} {s' : Shared} (h : SP (X.wish E) pins D f s') : SP X pins D f s' := by
  cases f with
  | next => obtain ⟨σ', H', I, q⟩ := h; exact ⟨σ', H', I.unwish, q⟩
  | brk => obtain ⟨σ', H', I, q⟩ := h; exact ⟨σ', H', I.unwish, q⟩
  | cont => obtain ⟨σ', H', I, q⟩ := h; exact ⟨σ', H', I.unwish, q⟩
  | ret u => obtain ⟨v, σ', H', I, r, q⟩ := h; exact ⟨v, σ', H', I.unwish, r, q⟩
theorem PE.nox {e : Expr} {t : TE} (h : PE X.nox e t) : PE X e t := fun pins s σ H Q I hw =>
  wpAny_mono (h pins s σ H Q (I.wish _) hw) (fun _ _ ⟨v, H', I', r, q⟩ => ⟨v, H', I'.unwish, r, q⟩) fun _ _ z => False.elim z
theorem PT.nox {e : Expr} {t : TT} (h : PT X.nox e t) : PT X e t := fun pins s σ H Q I hw =>
  wpAny_mono (h pins s σ H Q (I.wish _) hw) (fun _ _ ⟨H', I', q⟩ => ⟨H', I'.unwish, q⟩) fun _ _ z => False.elim z
theorem PSs.nox {st : List Stmt} {t : TS} (h : PSs X.nox st t) : PSs X st t := fun pins s σ H D I hw =>
  wpAny_mono (h pins s σ H D (I.wish _) hw) (fun _ _ q => q.unwish) fun _ _ z => False.elim z
end

section
variable {X : Cx} {st : Stmt} {rest : List Stmt} {t u : TS} {e : Expr} {te : TE} {pos : Pos}
def tNext : TS := fun D σ H => D.nx σ H
def tSeq (t u : TS) : TS := fun D σ H => t { D with nx := u D } σ H
theorem pss_nil : PSs X [] tNext := fun _ _ σ H _ I h => wpAny_execs_nil ⟨σ, H, I, h⟩
theorem pss_cons (h1 : PS X st t) (h2 : PSs X rest u) : PSs X (st :: rest) (tSeq t u) := by
  intro pins s σ H D I h
  refine wpAny_execs_cons (thn (h1 pins s σ H { D with nx := u D } I h) fun f s1 q => ?_)
  cases f with
  | next =>
    obtain ⟨σ', H', I', q⟩ := q
    exact h2 pins s1 σ' H' D I' q
  | ret v => exact q
  | brk => exact q
  | cont => exact q
theorem pss_one (h1 : PS X st t) : PSs X [st] t := by
  intro pins s σ H D I h
  refine wpAny_execs_cons (thn (h1 pins s σ H D I h) fun f s1 q => ?_)
  cases f with
  | next => exact wpAny_execs_nil q
  | ret v => exact q
  | brk => exact q
  | cont => exact q
def tBreak : TS := fun D σ H => D.bk σ H
def tCont : TS := fun D σ H => D.ct σ H
theorem Inv.quiet {pins : List (Addr × Obj)} {σ : St} {H : Hp} {s : Shared} (I : Inv X pins σ H s) : interactive X.env = false := by simp [interactive, I.ok.kind]
def tDrop (te : TE) : TS := fun D σ H => te σ H fun _ H1 => D.nx σ H1
theorem ps_expr (he : PE X e te) (hs : swapsWith e none pos.line X.env = pure false := by rfl) : PS X (.Expr e pos) (tDrop te) := by
  intro pins s σ H D I h
  exact wpAny_Expr_any (thn (he pins s σ H _ I h) fun v s1 ⟨x, H1, I1, r1, q1⟩ => ⟨σ, H1, I1, q1⟩) I.quiet hs
def tRet (te : TE) : TS := fun D σ H => te σ H D.rt
theorem ps_ret (he : PE X e te) : PS X (.Return (some e) pos) (tRet te) := by
  intro pins s σ H D I h
  exact wpAny_Return_some (thn (he pins s σ H _ I h) fun v s1 ⟨x, H1, I1, r1, q1⟩ => ⟨x, σ, H1, I1, r1, q1⟩)
def tRetN : TS := fun D _ H => D.rt .non H
def tIfS (c : TT) (t u : TS) : TS := fun D σ H => c σ H fun b H1 => if b = true then t D σ H1 else u D σ H1
theorem ps_if {c : Expr} {a b : List Stmt} {tc : TT} (hc : PT X c tc) (ha : PSs X a t) (hb : PSs X b u) : PS X (.If c a b pos) (tIfS tc t u) := by
  intro pins s σ H D I h
  refine wpAny_If (thn (hc pins s σ H _ I h) fun d s1 ⟨H1, I1, q1⟩ => ?_)
  cases d with
  | true => exact ha pins s1 σ H1 D I1 q1
  | false => exact hb pins s1 σ H1 D I1 q1
def tNever : TS := fun _ _ _ => False
end

abbrev TG := V → St → Hp → (St → Hp → Prop) → Prop
abbrev TGs := List V → St → Hp → (St → Hp → Prop) → Prop
def PG (X : Cx) (target : Expr) (t : TG) : Prop :=
  ∀ (pins : List (Addr × Obj)) (s : Shared) (σ : St) (H : Hp) (v : V) (u : Value) (Q : St → Hp → Prop), Inv X pins σ H s → RelV v u → t v σ H Q →
    wpAny (model X.prog X.w) X.A (assign target X.env u) (fun _ s' => ∃ σ' H', Inv X pins σ' H' s' ∧ Q σ' H') X.xe s
def PGs (X : Cx) (ts : List Expr) (t : TGs) : Prop :=
  ∀ (pins : List (Addr × Obj)) (s : Shared) (σ : St) (H : Hp) (vs : List V) (us : List Value) (Q : St → Hp → Prop), Inv X pins σ H s → Vals vs us → t vs σ H Q →
    wpAny (model X.prog X.w) X.A (assignInOrder ((assignEach ts X.env).map (·.2)) us) (fun _ s' => ∃ σ' H', Inv X pins σ' H' s' ∧ Q σ' H') X.xe s
abbrev TSet := V → V → V → Hp → (Hp → Prop) → Prop
def PSet (X : Cx) (t : TSet) : Prop :=
  ∀ (pins : List (Addr × Obj)) (s : Shared) (σ : St) (H : Hp) (o i v : V) (ov iv u : Value) (Q : Hp → Prop), Inv X pins σ H s → RelV o ov → RelV i iv → RelV v u → t o i v H Q →
    wpAny (model X.prog X.w) X.A (setItem ov iv u) (fun _ s' => ∃ H', Inv X pins σ H' s' ∧ Q H') X.xe s
abbrev TIp := V → V → Hp → VK → Prop
def PIp (X : Cx) (op : Operator) (t : TIp) : Prop :=
  ∀ (pins : List (Addr × Obj)) (s : Shared) (σ : St) (H : Hp) (x y : V) (v u : Value) (Q : VK), Inv X pins σ H s → RelV x v → RelV y u → t x y H Q →
    wpAny (model X.prog X.w) X.A (inplaceOp op v u) (EP X pins σ Q) X.xe s
section
variable {X : Cx} {pos : Pos}
def gName (i : Nat) : TG := fun v σ H Q => Q (σ.set i (some v)) H
theorem pg_name {i : Nat} {x : Str} (hN : X.N.Nodup) (hi : X.N[i]? = some x) (hx : Loc X.env.scope x) (hf : X.fn x = true ∨ X.env.scope.names.lookup x = some .local := by first | exact .inl rfl | exact .inr rfl | assumption) : PG X (.Name x pos) (gName i) := by
  intro pins s σ H v u Q I r h
  exact wpAny_assign_Name (store_ok I hN hi hx r (fun s' I' => ⟨_, H, I', h⟩) hf)
def gNil : TGs := fun vs σ H Q => vs = [] ∧ Q σ H
def gCons (t : TG) (u : TGs) : TGs := fun vs σ H Q => ∃ v r, vs = v :: r ∧ t v σ H fun σ' H' => u r σ' H' Q
theorem pgs_nil : PGs X [] gNil := by
  intro pins s σ H vs us Q I r h
  obtain ⟨e, h⟩ := h
  subst e
  cases r
  exact assignInOrder_nil ⟨σ, H, I, h⟩
theorem pgs_cons {e : Expr} {es : List Expr} {t : TG} {u : TGs} (h1 : PG X e t) (h2 : PGs X es u)
    (hs : (assignEach (e :: es) X.env).map (·.2) = assign e X.env :: (assignEach es X.env).map (·.2) := by rfl) : PGs X (e :: es) (gCons t u) := by
  intro pins s σ H vs us Q I r h
  obtain ⟨v, vr, e1, h⟩ := h
  subst e1
  cases r with
  | cons r rr =>
    rw [hs]
    refine assignInOrder_cons (thn (h1 pins s σ H _ _ _ I r h) fun _ s1 ⟨σ1, H1, I1, q1⟩ => ?_)
    exact h2 pins s1 σ1 H1 _ _ Q I1 rr q1
def gTup (K : PySem.W.Frag) (n : Nat) (t : TGs) : TG := fun v σ H Q => ∃ a xs, v = .ref a ∧ SqT K H a xs ∧ xs.length = n ∧ t xs σ H Q
theorem pg_tup {es : List Expr} {k : Nat} {t : TGs} {n : Nat} (hc : X.calm = true) (h : PGs X es t)
    (hn : (assignEach es X.env).length = n := by rfl) (hst : (assignEach es X.env).findIdx? (·.1) = none := by rfl) : PG X (.Tuple es k pos) (gTup X.K n t) := by
  intro pins s σ H v u Q I r hw
  obtain ⟨a, xs, e1, hq, hl, hw⟩ := hw
  subst e1
  cases r
  obtain ⟨its, rv, ht, hz⟩ := I.tuple hq
  refine assign_Tuple_tuple (I.ok.hd hc) ht (by simp [hn, ← hl, rv.length]) hst fun h' hx => ?_
  have I1 : Inv X pins σ H { s with heap := h' } := I.kept (t' := s.toks) fun b o e => hx b o (Nat.ne_of_lt (Heap.lt_size e)) e
  exact h pins _ σ H xs _ Q I1 (by simpa using rv) hw
def gSub (to ti : TE) (t : TSet) : TG := fun v σ H Q => to σ H fun o H1 => ti σ H1 fun i H2 => t o i v H2 fun H3 => Q σ H3
def tAsg (te : TE) (g : TG) : TS := fun D σ H => te σ H fun x H1 => g x σ H1 D.nx
theorem ps_asg {tg e : Expr} {te : TE} {g : TG} (he : PE X e te) (hg : PG X tg g) (hs : swapsWithSole [tg] e pos.line X.env = pure false := by rfl) (hw : swappedStores [tg] e X.env = pure none := by rfl)
    (h1 : (assignEach [tg] X.env).map (·.2) = [assign tg X.env] := by rfl) : PS X (.Assign [tg] e pos) (tAsg te g) := by
  intro pins s σ H D I h
  refine wpAny_Assign_stores (thn (he pins s σ H _ I h) fun v s1 ⟨x, H1, I1, r1, q1⟩ => ?_) hs hw
  rw [h1]
  exact thn (hg pins s1 σ H1 x v _ I1 r1 q1) fun _ s2 q => q
theorem ps_set {i : Nat} {x : Str} {e : Expr} {te : TE} {pos' : Pos} (hN : X.N.Nodup) (hi : X.N[i]? = some x) (hx : Loc X.env.scope x) (he : PE X e te) (hs : swapsWith e (some (.Name x pos')) pos.line X.env = pure false := by rfl) (hf : X.fn x = true ∨ X.env.scope.names.lookup x = some .local := by first | exact .inl rfl | exact .inr rfl | assumption) :
    PS X (.Assign [.Name x pos'] e pos) (tAsg te (gName i)) := by
  intro pins s σ H D I h
  refine wpAny_Assign_Name (thn (he pins s σ H _ I h) fun v s1 ⟨y, H1, I1, r1, q1⟩ => ?_) hs
  exact store_ok I1 hN hi hx r1 (fun s2 I2 => ⟨_, H1, I2, q1⟩) hf
def tPar (i j : Nat) (ta : TA) : TS := fun D σ H => ta σ H fun vs H1 => ∃ v w, vs = [v, w] ∧ D.nx ((σ.set i (some v)).set j (some w)) H1
def tAug (i : Nat) (te : TE) (ti : TIp) : TS := fun D σ H => ∃ x, σ[i]? = some (some x) ∧ te σ H fun y H1 => ti x y H1 fun z H2 => D.nx (σ.set i (some z)) H2
theorem ps_aug {i : Nat} {x : Str} {e : Expr} {te : TE} {op : Operator} {ti : TIp} {pos' : Pos} (hN : X.N.Nodup) (hi : X.N[i]? = some x) (hx : Loc X.env.scope x) (he : PE X e te) (ho : PIp X op ti) (hf : X.fn x = true ∨ X.env.scope.names.lookup x = some .local := by first | exact .inl rfl | exact .inr rfl | assumption) :
    PS X (.AugAssign (.Name x pos') op e pos) (tAug i te ti) := by
  intro pins s σ H D I h
  obtain ⟨v, e1, h⟩ := h
  obtain ⟨m, hn, hl⟩ := I.loc
  have vis : Vis X.env.scope x := by rcases hx with k | k; exact .inl k; exact .inr (.inl k)
  obtain ⟨u, r, l⟩ := hl i x v hi e1 vis
  refine wpAny_AugAssign_Name ?_
  have go : wpAny (model X.prog X.w) X.A (eval e X.env) (fun w s₂ => wpAny (model X.prog X.w) X.A (inplaceOp op u w) (fun r s₃ => wpAny (model X.prog X.w) X.A (storeName X.env x r) (fun _ => SP X pins D .next) X.xe s₃) X.xe s₂) X.xe s := by
    refine thn (he pins s σ H _ I h) fun w s1 ⟨y, H1, I1, r1, q1⟩ => ?_
    refine thn (ho pins s1 σ H1 v y u w _ I1 r r1 q1) fun z s2 ⟨zv, H2, I2, r2, q2⟩ => ?_
    exact store_ok I2 hN hi hx r2 (fun s3 I3 => ⟨_, H2, I3, q2⟩) hf
  rcases l with ⟨hk, hm⟩ | ⟨hk, c, hc, hcell⟩
  · exact wpAny_loadName_local I.ok.kind hk hn hm go
  · rcases hk with hk | hk
    · exact wpAny_loadName_cell I.ok.kind hk hc hcell go
    · rcases hx with k | k
      · have : X.env.scope.names.lookup x = some .free := hk
        rw [k] at this; cases this
      · have : X.env.scope.names.lookup x = some .free := hk
        rw [k] at this; cases this
def tAugS (to ti te : TE) (tget : V → V → Hp → VK → Prop) (tip : TIp) (tset : TSet) : TS := fun D σ H => to σ H fun o H1 => ti σ H1 fun i H2 => tget o i H2 fun x H3 => te σ H3 fun y H4 => tip x y H4 fun z H5 => tset o i z H5 fun H6 => D.nx σ H6
def PGet (X : Cx) (t : V → V → Hp → VK → Prop) : Prop :=
  ∀ (pins : List (Addr × Obj)) (s : Shared) (σ : St) (H : Hp) (o i : V) (ov iv : Value) (Q : VK), Inv X pins σ H s → RelV o ov → RelV i iv → t o i H Q →
    wpAny (model X.prog X.w) X.A (getItem ov iv) (EP X pins σ Q) X.xe s
def ipI (f : Int → Int → Int) : TIp := fun x y H Q => ∃ i j, x = .int i ∧ y = .int j ∧ Q (.int (f i j)) H
theorem ip_add : PIp X .Add (ipI fun i j => i + j) := by
  intro pins s σ H x y v u Q I r1 r2 h
  obtain ⟨i, j, e1, e2, q⟩ := h
  subst e1; subst e2
  obtain ⟨t, rfl⟩ := r1
  obtain ⟨t', rfl⟩ := r2
  exact iadd_int ⟨.int _, H, I.tok _, ⟨_, rfl⟩, q⟩
end

section
variable {X : Cx} {pos : Pos}
def tWhile (c : TT) (tb : TS) : TS := fun D σ H => ∃ W : Nat → St → Hp → Prop, (∃ m, W m σ H) ∧ ∀ m σ H, W m σ H →
  c σ H fun b H1 => if b = true then ∃ N : St → Hp → Prop, (∀ σ' H', N σ' H' → ∃ m', m' < m ∧ W m' σ' H') ∧ tb { D with nx := N, ct := N, bk := D.nx } σ H1 else D.nx σ H1
end

structure It where
  go : Nat → Hp → Prop
  yld : Nat → Hp → V → Hp → Prop
  stop : Nat → Hp → Prop
def FpOk (X : Cx) (pins : List (Addr × Obj)) (H : Hp) (b : Addr) : Prop :=
  H b = none ∧ b ≠ X.env.locals ∧ b ∉ X.fs ∧ (b ∈ X.ex ∨ X.s₀.heap.objs.size ≤ b) ∧ (∀ x c, X.env.cells.lookup x = some c → c ≠ b) ∧ ∀ p ∈ X.pn ++ pins, p.1 ≠ b
theorem Inv.fpOk {X : Cx} {pins : List (Addr × Obj)} {σ : St} {H H' : Hp} {s : Shared} {b : Addr} (I : Inv X pins σ H s) (hb : s.heap.objs.size ≤ b) (hn : H' b = none) : FpOk X pins H' b := by
  refine ⟨hn, Nat.ne_of_gt (Nat.lt_of_lt_of_le I.lt hb), I.nofs hb, .inr (Nat.le_trans I.sz hb), fun x c e z => ?_, fun p hp z => ?_⟩
  · obtain ⟨v, q⟩ := I.cell x c e
    exact absurd (Nat.lt_of_lt_of_le q.lt (by rw [z]; exact hb)) (Nat.lt_irrefl _)
  · exact absurd (Nat.lt_of_lt_of_le (Heap.lt_size (I.pin p hp).1) (by rw [z]; exact hb)) (Nat.lt_irrefl _)
structure Turn (P : Program) (w : World) (K : PySem.W.Frag) (tg : Expr) (J : It) (fp : List Addr) (it : Addr) (tn : Nat → Heap → Prop) : Prop where
  mem : it ∈ fp
  obj : ∀ i h, tn i h → ∀ b ∈ fp, ∃ o, h.get? b = some o ∧ ∀ v, o.data ≠ .cell v
  keep : ∀ i h h', tn i h → (∀ b ∈ fp, ∀ o, h.get? b = some o → h'.get? b = some o) → tn i h'
  item : ∀ (X : Cx), X.prog = P → X.w = w → X.K = K → X.calm = true → ∀ (i : Nat) (pins : List (Addr × Obj)) (s : Shared) (σ : St) (H : Hp) (E : Value → Shared → Prop), Inv X pins σ H s → (∀ b ∈ fp, FpOk X pins H b) → tn i s.heap → J.go i H →
    wpAny (model P w) X.A (pyNext (.ref it)) (fun r s1 => ∃ u, r = some u ∧
      wpAny (model P w) X.A (letOwnedTupleGo tg (.ref it) u) (fun _ s2 => ∃ x H', Inv X pins σ H' s2 ∧ RelV x u ∧ J.yld i H x H' ∧ tn (i + 1) s2.heap ∧ ∀ b ∈ fp, H' b = none) E s1) E s
  done : ∀ (X : Cx), X.prog = P → X.w = w → X.K = K → X.calm = true → ∀ (i : Nat) (pins : List (Addr × Obj)) (s : Shared) (σ : St) (H : Hp) (E : Value → Shared → Prop), Inv X pins σ H s → (∀ b ∈ fp, FpOk X pins H b) → tn i s.heap → J.stop i H →
    wpAny (model P w) X.A (pyNext (.ref it)) (fun r s1 => r = none ∧ Inv X pins σ H s1) E s
  self : ∀ (A : Around) (i : Nat) (s : Shared) (Q : Value → Shared → Prop) (E : Value → Shared → Prop), tn i s.heap → Q (.ref it) s → wpAny (model P w) A (pyIter (.ref it)) Q E s
abbrev TI := St → Hp → (It → Hp → Prop) → Prop
def PIE (X : Cx) (pins : List (Addr × Obj)) (σ : St) (tg : Expr) (R : It → Hp → Prop) (itv : Value) (s2 : Shared) : Prop :=
  ∃ (it : Addr) (fp : List Addr) (tn : Nat → Heap → Prop) (J : It) (H' : Hp), itv = .ref it ∧ Inv X pins σ H' s2 ∧ Turn X.prog X.w X.K tg J fp it tn ∧ tn 0 s2.heap ∧ (∀ b ∈ fp, FpOk X pins H' b) ∧ R J H'
def PI (X : Cx) (tg iter : Expr) (wi : TI) : Prop :=
  ∀ (pins : List (Addr × Obj)) (s : Shared) (σ : St) (H : Hp) (R : It → Hp → Prop), Inv X pins σ H s → wi σ H R →
    wpAny (model X.prog X.w) X.A (eval iter X.env) (fun v s1 => wpAny (model X.prog X.w) X.A (pyIter v) (PIE X pins σ tg R) X.xe s1) X.xe s

theorem go_of {M : Model} {A : Around} {E : Value → Shared → Prop} {s : Shared} {tg : Expr} {it : Addr} {u : Value} {o : Obj} {n : String} {vs : Array Value} {Q : Unit → Shared → Prop} (ho : s.heap.get? it = some o) (hc : o.cls = .type n) (hd : o.data = .fields vs)
    (hn : ["enumerate", "zip", "dict_itemiterator", "dict_reverseitemiterator", "odict_iterator", "itertools.zip_longest", "itertools.pairwise"].contains n = false) (hQ : Q () s) : wpAny M A (letOwnedTupleGo tg (.ref it) u) Q E s := by
  unfold letOwnedTupleGo
  cases tg <;> first
    | exact wpAny_pure hQ
    | (cases u <;> first
        | exact wpAny_pure hQ
        | (refine wpAny_bind (wpAny_load ho ?_)
           rw [hc, hd]
           show wpAny M A (if (["enumerate", "zip", "dict_itemiterator", "dict_reverseitemiterator", "odict_iterator", "itertools.zip_longest", "itertools.pairwise"].contains n && vs[0]? == some (rawInt _)) = true then _ else _) Q E s
           rw [if_neg (by intro h; rw [hn, Bool.false_and] at h; cases h)]
           exact wpAny_pure hQ))

def Itl (K : PySem.W.Frag) (a : Addr) : It :=
  ⟨fun i H => ∃ xs x, SqL K H a xs ∧ xs[i]? = some x, fun i H x H' => H' = H ∧ ∀ xs, SqL K H a xs → xs[i]? = some x, fun i H => ∃ xs, SqL K H a xs ∧ xs.length ≤ i⟩
def Itt (K : PySem.W.Frag) (a : Addr) : It :=
  ⟨fun i H => ∃ xs x, SqT K H a xs ∧ xs[i]? = some x, fun i H x H' => H' = H ∧ ∀ xs, SqT K H a xs → xs[i]? = some x, fun i H => ∃ xs, SqT K H a xs ∧ xs.length ≤ i⟩
def Itr (lo : Int) (n : Nat) : It := ⟨fun i _ => i < n, fun i H x H' => H' = H ∧ x = .int (lo + i), fun i _ => n ≤ i⟩
theorem turn_list {P : Program} {w : World} {K : PySem.W.Frag} {tg : Expr} (a it : Addr) : Turn P w K tg (Itl K a) [it] it (fun i h => h.IsListIter it a i) where
  mem := by simp
  obj := fun i h st b hb => by
    have e : b = it := by simpa using hb
    subst e
    obtain ⟨o, e, c, d⟩ := st
    exact ⟨o, e, fun v z => by rw [d] at z; cases z⟩
  keep := fun i h h' st k => st.at fun o e => k it (by simp) o e
  item := by
    intro X hP hw hK hc i pins s σ H E I hf st hg
    subst hP hw hK
    obtain ⟨xs, x, hq, hx⟩ := hg
    obtain ⟨its, rv, p, hz⟩ := I.list hq
    obtain ⟨u, hu, ru⟩ := rv.get hx
    obtain ⟨f0, f1, f2, f3, f4, f5⟩ := hf it (by simp)
    refine wpAny_pyNext_list_item st p.isList (x := u) (by simpa using hu) fun h' st' sb => ?_
    have I1 : Inv X pins σ H { s with heap := h' } := I.turned (t' := s.toks) (fun b o hb e => (sb.2 b hb).trans e) f0 f1 f3 f4 f5
    obtain ⟨o, e, c, d⟩ := id st'
    exact ⟨u, rfl, go_of (s := { s with heap := h' }) e c d (by decide) ⟨x, H, I1, ru, ⟨rfl, fun ys hy => by rw [I.list_inj hy hq]; exact hx⟩, st', fun b hb => (hf b hb).1⟩⟩
  done := by
    intro X hP hw hK hc i pins s σ H E I hf st hg
    subst hP hw hK
    obtain ⟨xs, hq, hx⟩ := hg
    obtain ⟨its, rv, p, hz⟩ := I.list hq
    obtain ⟨f0, f1, f2, f3, f4, f5⟩ := hf it (by simp)
    have hl := rv.length
    exact wpAny_pyNext_list_end (I.ok.hd hc) st p.isList (by simp; omega) fun h' eb => ⟨rfl, I.turned (t' := s.toks) (fun b o hb e => eb b o hb e) f0 f1 f3 f4 f5⟩
  self := fun _ _ _ _ _ st h => wpAny_pyIter_listiter st h
theorem turn_range {P : Program} {w : World} {K : PySem.W.Frag} {tg : Expr} (it : Addr) (lo : Int) (n : Nat) : Turn P w K tg (Itr lo n) [it] it (fun i h => IsRangeIter h it (lo + (i : Nat) * 1) ((n : Int) - (i : Nat)) 1) where
  mem := by simp
  obj := fun i h st b hb => by
    have e : b = it := by simpa using hb
    subst e
    exact ⟨_, st, fun v z => by
      have z' : Data.fields _ = Data.cell v := z
      cases z'⟩
  keep := fun i h h' st k => k it (by simp) _ st
  item := by
    intro X hP hw hK hc i pins s σ H E I hf st hg
    subst hP hw hK
    obtain ⟨f0, f1, f2, f3, f4, f5⟩ := hf it (by simp)
    have W := Walks.range (prog := X.prog) (w := X.w) (I.ok.hd hc) it lo 1 n
    refine W.item i s _ _ hg st fun v h' tk hv st' kk => ?_
    obtain ⟨t, rfl⟩ := hv
    have I1 : Inv X pins σ H { s with heap := h', toks := tk } := I.turned (fun b o hb e => kk b o (by simpa using hb) e) f0 f1 f3 f4 f5
    refine ⟨_, rfl, go_of (s := { s with heap := h', toks := tk }) (n := "range_iterator") st' rfl rfl (by decide) ⟨.int (lo + i), H, I1, ⟨t, ?_⟩, ⟨rfl, rfl⟩, st', fun b hb => (hf b hb).1⟩⟩
    rw [Int.mul_one]
  done := by
    intro X hP hw hK hc i pins s σ H E I hf st hg
    subst hP hw hK
    obtain ⟨f0, f1, f2, f3, f4, f5⟩ := hf it (by simp)
    exact wpAny_pyNext_range_end (I.ok.hd hc) st (by have : n ≤ i := hg; omega) fun h' eb => ⟨rfl, I.turned (t' := s.toks) (fun b o hb e => eb b o hb e) f0 f1 f3 f4 f5⟩
  self := fun _ _ _ _ _ st h => wpAny_pyIter_rangeiter st h
end L2

namespace L2
open PySem PySem.Spec PyProof.Rows
section
variable {X : Cx} {tg : Expr}
def iList (K : PySem.W.Frag) (tl : TE) : TI := fun σ H R => tl σ H fun x H1 => ∃ a, x = .ref a ∧ (∃ xs, SqL K H1 a xs) ∧ R (Itl K a) H1
def iTup (K : PySem.W.Frag) (tl : TE) : TI := fun σ H R => tl σ H fun x H1 => ∃ a, x = .ref a ∧ (∃ xs, SqT K H1 a xs) ∧ R (Itt K a) H1
theorem pi_list {l : Expr} {tl : TE} (hl : PE X l tl) : PI X tg l (iList X.K tl) := by
  intro pins s σ H R I h
  refine thn (hl pins s σ H _ I h) fun v s1 ⟨x, H1, I1, r1, q1⟩ => ?_
  obtain ⟨a, e, ⟨xs, hq⟩, q⟩ := q1
  subst e
  cases r1
  obtain ⟨its, rv, p, hz⟩ := I1.list hq
  refine wpAny_pyIter_list p.isList ?_
  refine ⟨s1.heap.objs.size, [s1.heap.objs.size], _, _, H1, rfl, I1.kept (t' := s1.toks) fun b o e => Heap.get?_push_of_some _ e, turn_list a _, ⟨_, Heap.get?_push_size _ rfl, rfl, rfl⟩, fun b hb => ?_, q⟩
  have e : b = s1.heap.objs.size := by simpa using hb
  subst e
  exact I1.fpOk (Nat.le_refl _) (I1.hok.fresh (Nat.le_refl _))
theorem range_it {pins : List (Addr × Obj)} {σ : St} {H : Hp} {s : Shared} {R : It → Hp → Prop} {E : Value → Shared → Prop} {lo hi : Int} {t u v : Tok} {tk : Nat} (I : Inv X pins σ H s) (h1 : -(2 ^ 62) ≤ lo) (h2 : lo < 2 ^ 62) (h3 : -(2 ^ 62) ≤ hi) (h4 : hi < 2 ^ 62)
    (q : R (Itr lo (hi - lo).toNat) H) : wpAny (model X.prog X.w) X.A (pyIter (.ref s.heap.objs.size)) (PIE X pins σ tg R) E { s with heap := s.heap.push { cls := .type "range", data := .fields #[.int lo t, .int hi u, .int 1 v] }, toks := tk } := by
  refine wpAny_pyIter_range (IsRange.new ..) (small_one h1 h2 h3 h4) ?_
  have I1 : Inv X pins σ H { s with heap := s.heap.push { cls := .type "range", data := .fields #[.int lo t, .int hi u, .int 1 v] }, toks := tk } := I.kept fun b o e => Heap.get?_push_of_some _ e
  refine ⟨(s.heap.push { cls := .type "range", data := .fields #[.int lo t, .int hi u, .int 1 v] }).objs.size, [(s.heap.push { cls := .type "range", data := .fields #[.int lo t, .int hi u, .int 1 v] }).objs.size], _, _, H, rfl,
    I1.kept (t' := tk) fun b o e => Heap.get?_push_of_some _ e, turn_range _ lo (hi - lo).toNat, ?_, fun b hb => ?_, q⟩
  · have e1 : lo + ((0 : Nat) : Int) * 1 = lo := by simp
    have e2 : (((hi - lo).toNat : Nat) : Int) - ((0 : Nat) : Int) = Builtin.Range.rangeSize lo hi 1 := by rw [rangeSize_one]; split <;> omega
    show IsRangeIter _ _ (lo + ((0 : Nat) : Int) * 1) ((((hi - lo).toNat : Nat) : Int) - ((0 : Nat) : Int)) 1
    rw [e1, e2]
    exact Heap.get?_push_size _ rfl
  · have e : b = (s.heap.push { cls := .type "range", data := .fields #[.int lo t, .int hi u, .int 1 v] }).objs.size := by simpa using hb
    subst e
    exact I1.fpOk (Nat.le_refl _) (I1.hok.fresh (Nat.le_refl _))
def iRng1 (ta : TA) : TI := fun σ H R => ta σ H fun vs H1 => ∃ j : Int, vs = [.int j] ∧ -(2 ^ 62) ≤ j ∧ j < 2 ^ 62 ∧ R (Itr 0 j.toNat) H1
def iRng2 (ta : TA) : TI := fun σ H R => ta σ H fun vs H1 => ∃ i j : Int, vs = [.int i, .int j] ∧ (-(2 ^ 62) ≤ i ∧ i < 2 ^ 62 ∧ -(2 ^ 62) ≤ j ∧ j < 2 ^ 62) ∧ R (Itr i (j - i).toNat) H1
theorem pi_range1 {a : Expr} {ta : TA} {p pos : Pos} (hg : Gl X "range") (hm : X.mg "range" = none) (ha : PA X [a] ta) (hs : starEach [a] X.env = [(false, eval a X.env)] := by rfl) : PI X tg (.Call (.Name "range" p) [a] [] pos) (iRng1 ta) := by
  intro pins s σ H R I h
  refine Call_ (ld_blt I hg hm boot_range (PyProof.Rows.callWith_type1 (thn (ha pos pins s σ H _ I h) fun us s1 ⟨vs, H1, I1, r1, q1⟩ => ?_) hs rfl))
  obtain ⟨j, e, q1, q2, q⟩ := q1
  subst e
  cases r1 with
  | cons r rr =>
    cases rr
    obtain ⟨t, rfl⟩ := r
    exact call_range_1 (range_it I1 (by omega) (by omega) q1 q2 (by simpa using q))
theorem pi_range2 {a b : Expr} {ta : TA} {p pos : Pos} (hg : Gl X "range") (hm : X.mg "range" = none) (ha : PA X [a, b] ta) (hs : starEach [a, b] X.env = [(false, eval a X.env), (false, eval b X.env)] := by rfl) (hs2 : starEach [b] X.env = [(false, eval b X.env)] := by rfl) :
    PI X tg (.Call (.Name "range" p) [a, b] [] pos) (iRng2 ta) := by
  intro pins s σ H R I h
  refine Call_ (ld_blt I hg hm boot_range (PyProof.Rows.callWith_type1 (thn (ha pos pins s σ H _ I h) fun us s1 ⟨vs, H1, I1, r1, q1⟩ => ?_) (by rw [hs, hs2]) (by rw [hs2]; rfl)))
  obtain ⟨i, j, e, ⟨q1, q2, q3, q4⟩, q⟩ := q1
  subst e
  cases r1 with
  | cons r rr =>
    cases rr with
    | cons r' rr =>
      cases rr
      obtain ⟨t, rfl⟩ := r
      obtain ⟨t', rfl⟩ := r'
      exact call_range_2 (range_it I1 q1 q2 q3 q4 q)

def tFor (wi : TI) (g : TG) (tb : TS) : TS := fun D σ H => wi σ H fun J H1 => ∃ W : Nat → Nat → St → Hp → Prop, (∃ m, W 0 m σ H1) ∧ ∀ i m σ H, W i m σ H →
  (J.stop i H ∧ D.nx σ H) ∨ (J.go i H ∧ ∃ N : St → Hp → Prop, (∀ σ' H', N σ' H' → ∃ m', m' < m ∧ W (i + 1) m' σ' H') ∧ ∀ x H', J.yld i H x H' → g x σ H' fun σ2 H2 => tb { D with nx := N, ct := N, bk := D.nx } σ2 H2)
def pinsAt (fp : List Addr) (h : Heap) : List (Addr × Obj) := fp.filterMap fun b => (h.get? b).map fun o => (b, o)
theorem mem_pinsAt {fp : List Addr} {h : Heap} {b : Addr} {o : Obj} (hb : b ∈ fp) (e : h.get? b = some o) : (b, o) ∈ pinsAt fp h := List.mem_filterMap.mpr ⟨b, hb, by rw [e]; rfl⟩
theorem of_pinsAt {fp : List Addr} {h : Heap} {p : Addr × Obj} (hp : p ∈ pinsAt fp h) : p.1 ∈ fp ∧ h.get? p.1 = some p.2 := by
  obtain ⟨b, hb, e⟩ := List.mem_filterMap.mp hp
  cases q : h.get? b with
  | none => rw [q] at e; cases e
  | some o =>
    rw [q] at e
    have e' : (b, o) = p := Option.some.inj e
    subst e'
    exact ⟨hb, q⟩
theorem Inv.pinned {pins : List (Addr × Obj)} {σ : St} {H : Hp} {s : Shared} {fp : List Addr} (I : Inv X pins σ H s) (hf : ∀ b ∈ fp, FpOk X pins H b) (ho : ∀ b ∈ fp, ∃ o, s.heap.get? b = some o ∧ ∀ v, o.data ≠ .cell v) : Inv X (pins ++ pinsAt fp s.heap) σ H s :=
  I.pins_of fun p hp => (List.mem_append.mp hp).elim (fun z => I.pin p (List.mem_append_right _ z)) fun z => by
    obtain ⟨hb, e⟩ := of_pinsAt z
    obtain ⟨f0, f1, f2, _⟩ := hf p.1 hb
    obtain ⟨o, e', d⟩ := ho p.1 hb
    rw [e] at e'; cases e'
    exact ⟨e, f0, f1, f2, d⟩
theorem Inv.unpinned {pins pl : List (Addr × Obj)} {σ : St} {H : Hp} {s : Shared} (I : Inv X (pins ++ pl) σ H s) : Inv X pins σ H s := I.pins_of fun p hp => I.pin p (List.mem_append_right _ (List.mem_append_left _ hp))
theorem ps_for {iter : Expr} {body : List Stmt} {wi : TI} {g : TG} {tb : TS} {pos : Pos} (hp : PassesOwn (model X.prog X.w) X.A X.env X.xe) (hc : X.calm = true) (hi : PI X tg iter wi) (hg : PG X tg g) (hb : PSs X body tb)
    (hs : ∀ x, foldedSetIterable iter X.env x = pure x := by intro _; rfl) : PS X (.For tg iter body [] pos) (tFor wi g tb) := by
  intro pins s σ H D I h
  refine wpAny_For (thn (hi pins s σ H _ I h) fun v s1 h1 => thn h1 fun itv s2 h2 => ?_) hs
  obtain ⟨it, fp, tn, J, H2, e, I2, T, st2, f2, W, ⟨m0, w0⟩, turn⟩ := h2
  subst e
  -- what stays true of the iterator's objects through the loop
  have stat : ∀ {H' : Hp}, (∀ b ∈ fp, H' b = none) → ∀ b ∈ fp, FpOk X pins H' b := fun hn b hb => ⟨hn b hb, (f2 b hb).2⟩
  refine codeAny_forLoop_any (fun n s' => ∃ i σ' H', Inv X pins σ' H' s' ∧ tn i s'.heap ∧ (∀ b ∈ fp, H' b = none) ∧ W i n σ' H') ?_ m0 ⟨0, σ, H2, I2, st2, fun b hb => (f2 b hb).1, w0⟩
  rintro n s3 ⟨i, σ3, H3, I3, st3, fr3, w3⟩
  rcases turn i n σ3 H3 w3 with ⟨stop, qn⟩ | ⟨go, N, hN, step⟩
  · refine wpAny_passesOwn hp (thn (T.done X rfl rfl rfl hc i pins s3 σ3 H3 X.xe I3 (stat fr3) st3 stop) fun r s4 ⟨hr, I4⟩ => ?_)
    subst hr
    exact wpAny_execs_nil ⟨σ3, H3, I4, qn⟩
  · refine wpAny_passesOwn hp (thn (T.item X rfl rfl rfl hc i pins s3 σ3 H3 X.xe I3 (stat fr3) st3 go) fun r s4 ⟨u, hr, h4⟩ => ?_)
    subst hr
    refine wpAny_passesOwn hp (thn h4 fun _ s5 ⟨x, H5, I5, r5, y5, st5, fr5⟩ => ?_)
    have I5' := I5.pinned (stat fr5) (T.obj _ _ st5)
    refine wpAny_passesOwn hp (thn (hg _ s5 σ3 H5 x u _ I5' r5 (step x H5 y5)) fun _ s6 ⟨σ6, H6, I6, q6⟩ => ?_)
    refine wpAny_passesOwn hp (thn (hb _ s6 σ6 H6 _ I6 q6) fun f s7 q7 => ?_)
    have again : ∀ {σ7 : St} {H7 : Hp}, Inv X (pins ++ pinsAt fp s5.heap) σ7 H7 s7 → N σ7 H7 → ∃ m, m < n ∧ ∃ i σ' H', Inv X pins σ' H' s7 ∧ tn i s7.heap ∧ (∀ b ∈ fp, H' b = none) ∧ W i m σ' H' := fun {σ7 H7} I7 n7 => by
      obtain ⟨m', hm, w7⟩ := hN σ7 H7 n7
      refine ⟨m', hm, i + 1, σ7, H7, I7.unpinned, T.keep _ _ _ st5 fun b hb o e => (I7.pin (b, o) (List.mem_append_right _ (List.mem_append_right _ (mem_pinsAt hb e)))).1, fun b hb => ?_, w7⟩
      obtain ⟨o, e, d⟩ := T.obj _ _ st5 b hb
      exact (I7.pin (b, o) (List.mem_append_right _ (List.mem_append_right _ (mem_pinsAt hb e)))).2.1
    cases f with
    | next => obtain ⟨σ7, H7, I7, n7⟩ := q7; exact again I7 n7
    | cont => obtain ⟨σ7, H7, I7, n7⟩ := q7; exact again I7 n7
    | brk => obtain ⟨σ7, H7, I7, q7⟩ := q7; exact ⟨σ7, H7, I7.unpinned, q7⟩
    | ret v => obtain ⟨x7, σ7, H7, I7, r7, q7⟩ := q7; exact ⟨x7, σ7, H7, I7.unpinned, r7, q7⟩
end

theorem for_list {K : PySem.W.Frag} {a : Addr} {xs : List V} {g : TG} {tb : TS} {D : Ends} {σ : St} {H : Hp} (Pv : Nat → St → Hp → Prop) (h0 : Pv 0 σ H) (hl : ∀ i σ H, i ≤ xs.length → Pv i σ H → SqL K H a xs)
    (hs : ∀ i x σ H, xs[i]? = some x → Pv i σ H → g x σ H fun σ2 H2 => tb { D with nx := Pv (i + 1), ct := Pv (i + 1), bk := D.nx } σ2 H2) (hd : ∀ σ H, Pv xs.length σ H → D.nx σ H) :
    ∃ W : Nat → Nat → St → Hp → Prop, (∃ m, W 0 m σ H) ∧ ∀ i m σ H, W i m σ H →
      ((Itl K a).stop i H ∧ D.nx σ H) ∨ ((Itl K a).go i H ∧ ∃ N : St → Hp → Prop, (∀ σ' H', N σ' H' → ∃ m', m' < m ∧ W (i + 1) m' σ' H') ∧ ∀ x H', (Itl K a).yld i H x H' → g x σ H' fun σ2 H2 => tb { D with nx := N, ct := N, bk := D.nx } σ2 H2) := by
  refine ⟨fun i m σ H => m = xs.length - i ∧ i ≤ xs.length ∧ Pv i σ H, ⟨xs.length, by simp, Nat.zero_le _, h0⟩, ?_⟩
  rintro i m σ H ⟨rfl, hi, p⟩
  have q := hl i σ H hi p
  by_cases hlt : i < xs.length
  · refine .inr ⟨⟨xs, xs[i], q, by simp [hlt]⟩, Pv (i + 1), fun σ' H' p' => ⟨xs.length - (i + 1), by omega, rfl, hlt, p'⟩, fun x H' y => ?_⟩
    obtain ⟨e, y⟩ := y
    subst e
    exact hs i x σ _ (y xs q) p
  · have e : i = xs.length := by omega
    subst e
    exact .inl ⟨⟨xs, q, Nat.le_refl _⟩, hd σ H p⟩
theorem for_range {lo : Int} {n : Nat} {g : TG} {tb : TS} {D : Ends} {σ : St} {H : Hp} (Pv : Nat → St → Hp → Prop) (h0 : Pv 0 σ H)
    (hs : ∀ i σ H, i < n → Pv i σ H → g (.int (lo + i)) σ H fun σ2 H2 => tb { D with nx := Pv (i + 1), ct := Pv (i + 1), bk := D.nx } σ2 H2) (hd : ∀ σ H, Pv n σ H → D.nx σ H) :
    ∃ W : Nat → Nat → St → Hp → Prop, (∃ m, W 0 m σ H) ∧ ∀ i m σ H, W i m σ H →
      ((Itr lo n).stop i H ∧ D.nx σ H) ∨ ((Itr lo n).go i H ∧ ∃ N : St → Hp → Prop, (∀ σ' H', N σ' H' → ∃ m', m' < m ∧ W (i + 1) m' σ' H') ∧ ∀ x H', (Itr lo n).yld i H x H' → g x σ H' fun σ2 H2 => tb { D with nx := N, ct := N, bk := D.nx } σ2 H2) := by
  refine ⟨fun i m σ H => m = n - i ∧ i ≤ n ∧ Pv i σ H, ⟨n, by simp, Nat.zero_le _, h0⟩, ?_⟩
  rintro i m σ H ⟨rfl, hi, p⟩
  by_cases hlt : i < n
  · refine .inr ⟨hlt, Pv (i + 1), fun σ' H' p' => ⟨n - (i + 1), by omega, rfl, hlt, p'⟩, fun x H' y => ?_⟩
    obtain ⟨e, y⟩ := y
    subst e y
    exact hs i σ _ hlt p
  · have e : i = n := by omega
    subst e
    exact .inl ⟨Nat.le_refl _, hd σ H p⟩
end L2

namespace L2
open PySem PySem.Spec PyProof.Rows

abbrev R2 := V → V → Hp → VK → Prop
def OpR (X : Cx) (f : Value → Value → Sem Value) (r : R2) : Prop :=
  ∀ (pins : List (Addr × Obj)) (s : Shared) (σ : St) (H : Hp) (x y : V) (v u : Value) (Q : VK), Inv X pins σ H s → RelV x v → RelV y u → r x y H Q →
    wpAny (model X.prog X.w) X.A (f v u) (EP X pins σ Q) X.xe s
def UnR (X : Cx) (f : Value → Sem Value) (r : V → Hp → VK → Prop) : Prop :=
  ∀ (pins : List (Addr × Obj)) (s : Shared) (σ : St) (H : Hp) (x : V) (v : Value) (Q : VK), Inv X pins σ H s → RelV x v → r x H Q →
    wpAny (model X.prog X.w) X.A (f v) (EP X pins σ Q) X.xe s
def CallR (X : Cx) (f : Value) (r : List V → Hp → VK → Prop) : Prop :=
  ∀ (pins : List (Addr × Obj)) (s : Shared) (σ : St) (H : Hp) (xs : List V) (us : List Value) (Q : VK), Inv X pins σ H s → Vals xs us → r xs H Q →
    wpAny (model X.prog X.w) X.A (call f us) (EP X pins σ Q) X.xe s
def TruR (X : Cx) (r : V → Hp → (Bool → Hp → Prop) → Prop) : Prop :=
  ∀ (pins : List (Addr × Obj)) (s : Shared) (σ : St) (H : Hp) (x : V) (v : Value) (Q : Bool → Hp → Prop), Inv X pins σ H s → RelV x v → r x H Q →
    wpAny (model X.prog X.w) X.A (truthy v) (TP X pins σ Q) X.xe s

def tOp (r : R2) (ta tb : TE) : TE := fun σ H Q => ta σ H fun x H1 => tb σ H1 fun y H2 => r x y H2 Q
def tUn (r : V → Hp → VK → Prop) (ta : TE) : TE := fun σ H Q => ta σ H fun x H1 => r x H1 Q
def rI (C : Int → Int → Prop) (g : Int → Int → V) : R2 := fun x y H Q => ∃ i j, x = .int i ∧ y = .int j ∧ C i j ∧ Q (g i j) H
def rI0 (g : Int → Int → V) : R2 := fun x y H Q => ∃ i j, x = .int i ∧ y = .int j ∧ Q (g i j) H
def rU (g : Int → V) : V → Hp → VK → Prop := fun x H Q => ∃ i, x = .int i ∧ Q (g i) H

section
variable {X : Cx} {a b c : Expr} {ta tb tc : TE} {pos : Pos}

theorem binT (ha : PE X a ta) (hb : PE X b tb) {pins : List (Addr × Obj)} {s : Shared} {σ : St} {H : Hp} {R : V → V → Hp → Prop} (I : Inv X pins σ H s)
    (h : ta σ H fun x H1 => tb σ H1 fun y H2 => R x y H2) {Q : Value → Shared → Prop} {f : Value → Value → Sem Value}
    (hf : ∀ v u s2 x y H2, Inv X pins σ H2 s2 → RelV x v → RelV y u → R x y H2 → wpAny (model X.prog X.w) X.A (f v u) Q X.xe s2) :
    wpAny (model X.prog X.w) X.A (eval a X.env) (fun v s₁ => wpAny (model X.prog X.w) X.A (eval b X.env) (fun u s₂ => wpAny (model X.prog X.w) X.A (f v u) Q X.xe s₂) X.xe s₁) X.xe s := by
  refine thn (ha pins s σ H _ I h) fun v s1 ⟨x, H1, I1, r1, q1⟩ => ?_
  refine thn (hb pins s1 σ H1 _ I1 q1) fun u s2 ⟨y, H2, I2, r2, q2⟩ => ?_
  exact hf v u s2 x y H2 I2 r1 r2 q2

theorem pe_op {op : Operator} {r : R2} (ho : OpR X (binaryOp op) r) (ha : PE X a ta) (hb : PE X b tb) : PE X (.BinOp a op b pos) (tOp r ta tb) := by
  intro pins s σ H Q I h
  exact wpAny_BinOp (binT ha hb I h fun v u s2 x y H2 I2 rx ry q => ho pins s2 σ H2 x y v u Q I2 rx ry q)
theorem pe_un {op : UnaryOp} {r : V → Hp → VK → Prop} (ho : UnR X (unaryOp op) r) (ha : PE X a ta) : PE X (.UnaryOp op a pos) (tUn r ta) := by
  intro pins s σ H Q I h
  exact UnaryOp_ (thn (ha pins s σ H _ I h) fun v s1 ⟨x, H1, I1, r1, q1⟩ => ho pins s1 σ H1 x v Q I1 r1 q1)
theorem opI {f : Value → Value → Sem Value} {C : Int → Int → Prop} {g : Int → Int → Int}
    (rule : ∀ (i j : Int) (t u : Tok) (s : Shared) (Q : Value → Shared → Prop) (E : Value → Shared → Prop), C i j → Q (.int (g i j) s.toks) { s with toks := s.toks + 1 } → wpAny (model X.prog X.w) X.A (f (.int i t) (.int j u)) Q E s) :
    OpR X f (rI C fun i j => .int (g i j)) := by
  intro pins s σ H x y v u Q I rx ry h
  obtain ⟨i, j, rfl, rfl, hc, q⟩ := h
  obtain ⟨t, rfl⟩ := rx
  obtain ⟨t', rfl⟩ := ry
  exact rule i j t t' s _ _ hc ⟨.int (g i j), H, I.tok _, ⟨_, rfl⟩, q⟩
theorem opI0 {f : Value → Value → Sem Value} {g : Int → Int → Int}
    (rule : ∀ (i j : Int) (t u : Tok) (s : Shared) (Q : Value → Shared → Prop) (E : Value → Shared → Prop), Q (.int (g i j) s.toks) { s with toks := s.toks + 1 } → wpAny (model X.prog X.w) X.A (f (.int i t) (.int j u)) Q E s) :
    OpR X f (rI0 fun i j => .int (g i j)) := by
  intro pins s σ H x y v u Q I rx ry h
  obtain ⟨i, j, rfl, rfl, q⟩ := h
  obtain ⟨t, rfl⟩ := rx
  obtain ⟨t', rfl⟩ := ry
  exact rule i j t t' s _ _ ⟨.int (g i j), H, I.tok _, ⟨_, rfl⟩, q⟩
theorem opB0 {f : Value → Value → Sem Value} {g : Int → Int → Bool}
    (rule : ∀ (i j : Int) (t u : Tok) (s : Shared) (Q : Value → Shared → Prop) (E : Value → Shared → Prop), Q (.bool (g i j)) s → wpAny (model X.prog X.w) X.A (f (.int i t) (.int j u)) Q E s) :
    OpR X f (rI0 fun i j => .bl (g i j)) := by
  intro pins s σ H x y v u Q I rx ry h
  obtain ⟨i, j, rfl, rfl, q⟩ := h
  obtain ⟨t, rfl⟩ := rx
  obtain ⟨t', rfl⟩ := ry
  exact rule i j t t' s _ _ ⟨.bl (g i j), H, I, rfl, q⟩

def CDiv (i j : Int) : Prop := 0 < j ∧ j < 1073741824
def CDivN (i j : Int) : Prop := j ≠ 0 ∧ j.natAbs < 1073741824
def CPow (i j : Int) : Prop := 0 ≤ j ∧ j ≤ 1000000 ∧ i.natAbs < 2 ^ 64
def CMul (i j : Int) : Prop := (-(2 ^ 64) < i ∧ i < 2 ^ 64) ∨ (-(2 ^ 64) < j ∧ j < 2 ^ 64)
theorem CMul.ok {i j : Int} (h : CMul i j) : IntMulOk i j := by
  rcases h with ⟨h1, h2⟩ | ⟨h1, h2⟩
  · exact .of_left (intBits_le_64 h1 h2)
  · exact .of_right (intBits_le_64 h1 h2)
theorem op_add : OpR X (binaryOp .Add) (rI0 fun i j => .int (i + j)) := opI0 fun _ _ _ _ _ _ _ q => add_int q
theorem op_sub : OpR X (binaryOp .Sub) (rI0 fun i j => .int (i - j)) := opI0 fun _ _ _ _ _ _ _ q => sub_int q
theorem op_mod : OpR X (binaryOp .Mod) (rI (fun _ j => 0 < j) fun i j => .int (i % j)) := opI fun i j _ _ _ _ _ hc q => by
  have h1 : (0 : Int) < j := hc
  exact mod_int' (by omega) (by rw [Int.fmod_eq_emod_of_nonneg i (by omega)]; exact q)
theorem op_pow : OpR X (binaryOp .Pow) (rI CPow fun i j => .int (i ^ j.toNat)) := opI fun _ _ _ _ _ _ _ hc q => pow_int_small hc.1 hc.2.1 hc.2.2 q
theorem unI {f : Value → Sem Value} {g : Int → Int}
    (rule : ∀ (i : Int) (t : Tok) (s : Shared) (Q : Value → Shared → Prop) (E : Value → Shared → Prop), Q (.int (g i) s.toks) { s with toks := s.toks + 1 } → wpAny (model X.prog X.w) X.A (f (.int i t)) Q E s) :
    UnR X f (rU fun i => .int (g i)) := by
  intro pins s σ H x v Q I rx h
  obtain ⟨i, rfl, q⟩ := h
  obtain ⟨t, rfl⟩ := rx
  exact rule i t s _ _ ⟨.int (g i), H, I.tok _, ⟨_, rfl⟩, q⟩
theorem un_neg : UnR X (unaryOp .USub) (rU fun i => .int (-i)) := unI fun _ _ _ _ _ q => neg_int q
end

def scal : V → V → Bool
  | .non, .non => true | .non, .int _ => true | .int _, .non => true | .non, .bl _ => true | .bl _, .non => true | .non, .str _ => true | .str _, .non => true
  | .int _, .int _ => true | .bl _, .bl _ => true | .str _, .str _ => true | .byt _, .byt _ => true
  | .int _, .str _ => true | .str _, .int _ => true | .bl _, .str _ => true | .str _, .bl _ => true
  | _, _ => false
def rEq : R2 := fun x y H Q => scal x y = true ∧ Q (.bl (decide (x = y))) H
def rNe : R2 := fun x y H Q => scal x y = true ∧ Q (.bl (!decide (x = y))) H

theorem dec_int {i j : Int} : decide (V.int i = V.int j) = (i == j) := by
  rw [Bool.eq_iff_iff]
  simp
theorem dec_bl {i j : Bool} : decide (V.bl i = V.bl j) = (i == j) := by
  rw [Bool.eq_iff_iff]
  simp
theorem dec_str {i j : Str} : decide (V.str i = V.str j) = (i == j) := by
  rw [Bool.eq_iff_iff]
  simp
theorem dec_byt {i j : Array UInt8} : decide (V.byt i = V.byt j) = (i.toList == j.toList) := by
  rw [Bool.eq_iff_iff]
  cases i
  cases j
  simp

section
variable {X : Cx} {a b c : Expr} {ta tb tc : TE} {pos : Pos}
theorem fin_bl {pins : List (Addr × Obj)} {σ : St} {H : Hp} {s : Shared} {Q : VK} {k k' : Bool} (I : Inv X pins σ H s) (q : Q (.bl k) H) (e : k = k') : EP X pins σ Q (.bool k') s := by
  subst e
  exact ⟨.bl k, H, I, rfl, q⟩
theorem op_eq : OpR X (compareOp .Eq) rEq := by
  intro pins s σ H x y v u Q I rx ry h
  obtain ⟨hs, q⟩ := h
  cases x with
  | non =>
    cases rx
    cases y with
    | non => cases ry; exact PySem.EqNone.eq_none_none (fin_bl I q (by simp))
    | bl j => cases ry; exact PySem.EqNone.eq_none_bool (fin_bl I q (by simp))
    | int j => obtain ⟨t', rfl⟩ := ry; exact PySem.EqNone.eq_none_int (fin_bl I q (by simp))
    | str j => obtain ⟨t', rfl⟩ := ry; exact PySem.EqNone.eq_none_str (fin_bl I q (by simp))
    | _ => exact absurd (show false = true from hs) Bool.false_ne_true
  | bl i =>
    cases rx
    cases y with
    | non => cases ry; exact PySem.EqNone.eq_bool_none (fin_bl I q (by simp))
    | bl j => cases ry; exact eq_bool (fin_bl I q dec_bl)
    | str j => obtain ⟨t', rfl⟩ := ry; exact PySem.EqMixed.eq_bool_str (fin_bl I q (by simp))
    | _ => exact absurd (show false = true from hs) Bool.false_ne_true
  | int i =>
    obtain ⟨t, rfl⟩ := rx
    cases y with
    | non => cases ry; exact PySem.EqNone.eq_int_none (fin_bl I q (by simp))
    | int j => obtain ⟨t', rfl⟩ := ry; exact eq_int (fin_bl I q dec_int)
    | str j => obtain ⟨t', rfl⟩ := ry; exact PySem.EqMixed.eq_int_str (fin_bl I q (by simp))
    | _ => exact absurd (show false = true from hs) Bool.false_ne_true
  | str i =>
    obtain ⟨t, rfl⟩ := rx
    cases y with
    | non => cases ry; exact PySem.EqNone.eq_str_none (fin_bl I q (by simp))
    | bl j => cases ry; exact PySem.EqMixed.eq_str_bool (fin_bl I q (by simp))
    | int j => obtain ⟨t', rfl⟩ := ry; exact PySem.EqMixed.eq_str_int (fin_bl I q (by simp))
    | str j => obtain ⟨t', rfl⟩ := ry; exact eq_str (fin_bl I q dec_str)
    | _ => exact absurd (show false = true from hs) Bool.false_ne_true
  | byt i =>
    obtain ⟨t, rfl⟩ := rx
    cases y with
    | byt j => obtain ⟨t', rfl⟩ := ry; exact PySem.W.eq_bytes (fin_bl I q dec_byt)
    | _ => exact absurd (show false = true from hs) Bool.false_ne_true
  | _ => cases y <;> exact absurd (show false = true from hs) Bool.false_ne_true
theorem op_ne : OpR X (compareOp .NotEq) rNe := by
  intro pins s σ H x y v u Q I rx ry h
  obtain ⟨hs, q⟩ := h
  cases x with
  | non =>
    cases rx
    cases y with
    | non => cases ry; exact PySem.EqNone.ne_none_none (fin_bl I q (by simp))
    | bl j => cases ry; exact PySem.EqNone.ne_none_bool (fin_bl I q (by simp))
    | int j => obtain ⟨t', rfl⟩ := ry; exact PySem.EqNone.ne_none_int (fin_bl I q (by simp))
    | str j => obtain ⟨t', rfl⟩ := ry; exact PySem.EqNone.ne_none_str (fin_bl I q (by simp))
    | _ => exact absurd (show false = true from hs) Bool.false_ne_true
  | bl i =>
    cases rx
    cases y with
    | non => cases ry; exact PySem.EqNone.ne_bool_none (fin_bl I q (by simp))
    | bl j => cases ry; exact ne_bool (fin_bl I q (congrArg not dec_bl))
    | str j => obtain ⟨t', rfl⟩ := ry; exact PySem.EqMixed.ne_bool_str (fin_bl I q (by simp))
    | _ => exact absurd (show false = true from hs) Bool.false_ne_true
  | int i =>
    obtain ⟨t, rfl⟩ := rx
    cases y with
    | non => cases ry; exact PySem.EqNone.ne_int_none (fin_bl I q (by simp))
    | int j => obtain ⟨t', rfl⟩ := ry; exact ne_int (fin_bl I q (congrArg not dec_int))
    | str j => obtain ⟨t', rfl⟩ := ry; exact PySem.EqMixed.ne_int_str (fin_bl I q (by simp))
    | _ => exact absurd (show false = true from hs) Bool.false_ne_true
  | str i =>
    obtain ⟨t, rfl⟩ := rx
    cases y with
    | non => cases ry; exact PySem.EqNone.ne_str_none (fin_bl I q (by simp))
    | bl j => cases ry; exact PySem.EqMixed.ne_str_bool (fin_bl I q (by simp))
    | int j => obtain ⟨t', rfl⟩ := ry; exact PySem.EqMixed.ne_str_int (fin_bl I q (by simp))
    | str j => obtain ⟨t', rfl⟩ := ry; exact ne_str (fin_bl I q (congrArg not dec_str))
    | _ => exact absurd (show false = true from hs) Bool.false_ne_true
  | byt i =>
    obtain ⟨t, rfl⟩ := rx
    cases y with
    | byt j => obtain ⟨t', rfl⟩ := ry; exact PySem.W.ne_bytes (fin_bl I q (congrArg not dec_byt))
    | _ => exact absurd (show false = true from hs) Bool.false_ne_true
  | _ => cases y <;> exact absurd (show false = true from hs) Bool.false_ne_true

theorem op_lt : OpR X (compareOp .Lt) (rI0 fun i j => .bl (decide (i < j))) := opB0 fun _ _ _ _ _ _ _ q => lt_int q
theorem op_le : OpR X (compareOp .LtE) (rI0 fun i j => .bl (decide (i ≤ j))) := opB0 fun _ _ _ _ _ _ _ q => le_int q
theorem op_gt : OpR X (compareOp .Gt) (rI0 fun i j => .bl (decide (j < i))) := opB0 fun _ _ _ _ _ _ _ q => gt_int q
theorem op_ge : OpR X (compareOp .GtE) (rI0 fun i j => .bl (decide (j ≤ i))) := opB0 fun _ _ _ _ _ _ _ q => ge_int q
theorem op_isN : OpR X (compareOp .Is) (fun x y H Q => y = .non ∧ Q (.bl (decide (x = .non))) H) := by
  intro pins s σ H x y v u Q I rx ry h
  obtain ⟨rfl, q⟩ := h
  cases ry
  refine is_none_gen (fin_bl I q ?_)
  cases x <;> first
    | (cases rx; rfl)
    | (obtain ⟨t, rfl⟩ := rx; rfl)
theorem op_notN : OpR X (compareOp .IsNot) (fun x y H Q => y = .non ∧ Q (.bl (!decide (x = .non))) H) := by
  intro pins s σ H x y v u Q I rx ry h
  obtain ⟨rfl, q⟩ := h
  cases ry
  refine isnot_none_gen (fin_bl I q ?_)
  cases x <;> first
    | (cases rx; rfl)
    | (obtain ⟨t, rfl⟩ := rx; rfl)

def isObj : HO → Bool
  | .lst _ => true
  | .ins _ _ _ => true
  | _ => false
theorem OpR.or {f : Value → Value → Sem Value} {r r' : R2} (h : OpR X f r) (h' : OpR X f r') : OpR X f (fun x y H Q => r x y H Q ∨ r' x y H Q) := by
  intro pins s σ H x y v u Q I rx ry q
  rcases q with q | q
  · exact h pins s σ H x y v u Q I rx ry q
  · exact h' pins s σ H x y v u Q I rx ry q

theorem nomark (b : Expr) {op : CmpOp} (h : op ≠ .In := by decide) (h2 : op ≠ .NotIn := by decide) : behindInMarks op b = false := by
  have e1 : (op == CmpOp.In) = false := by cases op <;> first | rfl | exact absurd rfl h
  have e2 : (op == CmpOp.NotIn) = false := by cases op <;> first | rfl | exact absurd rfl h2
  cases b <;> simp [behindInMarks, e1, e2]
theorem pe_cmpR {op : CmpOp} {r : R2} (ho : OpR X (compareOp op) r) (ha : PE X a ta) (hb : PE X b tb) (hm : behindInMarks op b = false) : PE X (.Compare a [op] [b] pos) (tOp r ta tb) := by
  intro pins s σ H Q I h
  exact wpAny_Compare1 (binT ha hb I h fun v u s2 x y H2 I2 rx ry q => ho pins s2 σ H2 x y v u Q I2 rx ry q) hm
def tTest (t : TE) : TT := fun σ H Q => t σ H fun x H' => ∃ k, x = .bl k ∧ Q k H'
theorem pt_cmpR {op : CmpOp} {r : R2} (ho : OpR X (compareOp op) r) (ha : PE X a ta) (hb : PE X b tb) (hm : behindInMarks op b = false) : PT X (.Compare a [op] [b] pos) (tTest (tOp r ta tb)) := by
  intro pins s σ H Q I h
  refine wpAny_isTrue_Compare1 (thn (ha pins s σ H _ I h) fun v s1 ⟨x, H1, I1, r1, q1⟩ => thn (hb pins s1 σ H1 _ I1 q1) fun u s2 ⟨y, H2, I2, r2, q2⟩ =>
    thn (ho pins s2 σ H2 x y v u _ I2 r1 r2 q2) fun c s3 ⟨z, H3, I3, r3, k, e, q3⟩ => ?_) hm
  subst e
  cases r3
  exact wpAny_truthy_bool ⟨H3, I3, q3⟩
def tChain (r r' : R2) (ta tb tc : TE) : TE := fun σ H Q => ta σ H fun x H1 => tb σ H1 fun y H2 => r x y H2 fun z H3 => ∃ k, z = .bl k ∧
  (if k = true then tc σ H3 fun w' H4 => r' y w' H4 Q else Q (.bl false) H3)
def TruV (K : PySem.W.Frag) (x : V) (H : Hp) (k : Bool) : Prop :=
  match x with
  | .non => k = false
  | .bl b => k = b
  | .int i => k = (i != 0)
  | .str y => y.length ≤ sizeLine ∧ k = ((y.length : Int) != 0)
  | .byt y => y.size ≤ sizeLine ∧ k = ((y.size : Int) != 0)
  | .ref p => (∃ xs, SqL K H p xs ∧ k = !xs.isEmpty) ∨ (∃ xs, SqT K H p xs ∧ k = !xs.isEmpty) ∨ ∃ kvs, H p = some (.dK kvs) ∧ k = !kvs.isEmpty
  | _ => False
theorem line63 : (sizeLine : Nat) < 2 ^ 63 := by rw [sizeLine_eq]; decide
def PlainIxT (b : Expr) : Prop := ∀ o i, subscripted b false o i = operate [o, i] (getItem o i)
theorem vals1 {x : V} {us : List Value} (r : Vals [x] us) : ∃ u, us = [u] ∧ RelV x u := by
  cases r with
  | cons r1 r2 => cases r2; exact ⟨_, rfl, r1⟩
theorem vals2 {x y : V} {us : List Value} (r : Vals [x, y] us) : ∃ u w', us = [u, w'] ∧ RelV x u ∧ RelV y w' := by
  cases r with
  | cons r1 r2 =>
    cases r2 with
    | cons r3 r4 => cases r4; exact ⟨_, _, rfl, r1, r3⟩
theorem call_max2 (hc : X.calm = true) : CallR X (.builtin "max") (fun xs H Q => ∃ i j, xs = [.int i, .int j] ∧ Q (.int (if j > i then j else i)) H) := by
  intro pins s σ H xs us Q I r h
  obtain ⟨i, j, rfl, q⟩ := h
  obtain ⟨u, w', rfl, ⟨t, rfl⟩, ⟨t', rfl⟩⟩ := vals2 r
  refine max_two_ints (I.ok.hd hc) fun h' tk k => ⟨_, H, I.kept k, ?_, q⟩
  by_cases hj : j > i
  · rw [if_pos hj, if_pos hj]; exact ⟨_, rfl⟩
  · rw [if_neg hj, if_neg hj]; exact ⟨_, rfl⟩
theorem call_min2 (hc : X.calm = true) : CallR X (.builtin "min") (fun xs H Q => ∃ i j, xs = [.int i, .int j] ∧ Q (.int (if j < i then j else i)) H) := by
  intro pins s σ H xs us Q I r h
  obtain ⟨i, j, rfl, q⟩ := h
  obtain ⟨u, w', rfl, ⟨t, rfl⟩, ⟨t', rfl⟩⟩ := vals2 r
  refine min_two_ints (I.ok.hd hc) fun h' tk k => ⟨_, H, I.kept k, ?_, q⟩
  by_cases hj : j < i
  · rw [if_pos hj, if_pos hj]; exact ⟨_, rfl⟩
  · rw [if_neg hj, if_neg hj]; exact ⟨_, rfl⟩
theorem call_int1 : CallR X (.type "int") (fun xs H Q => (∃ i, xs = [.int i] ∧ Q (.int i) H) ∨ ∃ k, xs = [.bl k] ∧ Q (.int (if k then 1 else 0)) H) := by
  intro pins s σ H xs us Q I r h
  rcases h with ⟨i, rfl, q⟩ | ⟨k, rfl, q⟩
  · obtain ⟨u, rfl, t, rfl⟩ := vals1 r
    exact call_int_int ⟨.int i, H, I, ⟨_, rfl⟩, q⟩
  · obtain ⟨u, rfl, r1⟩ := vals1 r
    cases r1
    exact call_int_bool ⟨.int (if k then 1 else 0), H, I.tok _, ⟨_, rfl⟩, q⟩
def LenV (K : PySem.W.Frag) (x : V) (H : Hp) (n : Nat) : Prop :=
  match x with
  | .str y => y.length ≤ sizeLine ∧ n = y.length
  | .byt y => y.size ≤ sizeLine ∧ n = y.size
  | .ref p => (∃ xs, SqL K H p xs ∧ n = xs.length) ∨ ∃ xs, SqT K H p xs ∧ n = xs.length
  | _ => False
end
end L2

namespace L2
open PySem PySem.Spec PyProof.Rows

structure ObjM (h : Heap) (x dx C : Addr) (mA : Str → Option Value) : Prop where
  obj : h.get? x = some (PySem.W.instObj C dx)
  ns : h.Ns1 dx mA
  ne : dx ≠ x

theorem lookIn_ns {h : Heap} {dx : Addr} {mA : Str → Option Value} (n : h.Ns1 dx mA) : ∃ od, h.get? dx = some od ∧ ∀ name, PySem.W.lookIn name od = some (mA name) := by
  obtain ⟨o, es, ep, ho, hd, hk, _, hm⟩ := n
  refine ⟨o, ho, fun name => ?_⟩
  have e := hm name
  unfold nsFind findBy at e
  rw [← Array.find?_toList] at e
  unfold PySem.W.lookIn
  rw [hd]
  dsimp only
  split
  · rename_i y q
    rw [q] at e
    exact congrArg some e
  · rename_i q
    rw [q] at e
    have a : es.toList.any (·.refKey) = false := by
      rw [List.any_eq_false]
      intro y hy
      obtain ⟨z, t, hkey⟩ := hk y (Array.mem_toList_iff.mp hy)
      simp [DictEntry.refKey, hkey]
    have a' : ¬ es.toList.any (·.refKey) = true := by rw [a]; exact Bool.false_ne_true
    rw [if_neg a']
    exact congrArg some e

theorem ObjM.look {h : Heap} {x dx C : Addr} {mA : Str → Option Value} (I : ObjM h x dx C mA) : ∃ od, PySem.W.InstAt h x (PySem.W.instObj C dx) C (some od) ∧ ∀ name, PySem.W.lookIn name od = some (mA name) :=
  let ⟨od, ho, hl⟩ := lookIn_ns I.ns
  ⟨od, ⟨I.obj, rfl, rfl, ho⟩, hl⟩

section
variable {prog : Program} {w : World} {A : Around} {E : Value → Shared → Prop} {s : Shared} {K : PySem.W.Frag} {x dx C f : Addr} {mA : Str → Option Value} {name : Str} {v : Value}

end

def putF (f : Str) (v : V) : List (Str × V) → List (Str × V)
  | [] => [(f, v)]
  | (g, x) :: r => if g = f then (g, v) :: r else (g, x) :: putF f v r
section
variable {P : Program} {w : World} {H H' : Hp} {h h' : Heap} {a C dx : Addr} {fs fs' : List (Str × V)}
theorem ins_get (hok : HOk P w H h) (e : H a = some (.ins C dx fs)) : ∃ mA, ObjM h a dx C mA ∧ (∀ f, RelO (fs.lookup f) (mA f)) ∧ PySem.Within mA (fs.map (·.1)) ∧ fs.length ≤ 1000 ∧ H dx = some (.own a) := by
  obtain ⟨d, z, ne, ob, mA, n, r, q⟩ := (show ObjOk P w H h a (.ins C dx fs) from hok a _ e)
  exact ⟨mA, ⟨ob, n, ne⟩, r, q, z, d⟩
end

structure Cls (K : PySem.W.Frag) (C : Addr) : Prop where
  pg : PySem.W.plainGet K C Str.empty = true
  hd : PySem.W.hasDictIn K C = true
  po : PySem.W.plainOver K C = true
  sa : PySem.W.findIn K (.ref C) "__setattr__" = some (some (.builtin "object.__setattr__"))
theorem Cls.get {K : PySem.W.Frag} {C : Addr} (c : Cls K C) (f : Str) : PySem.W.plainGet K C f = true := c.pg
def NoAttr (K : PySem.W.Frag) (C : Addr) (f : Str) : Prop := PySem.W.findIn K (.ref C) f = some none
structure Con (K : PySem.W.Frag) (C : Addr) (f : Str) (v : V) (u : Value) : Prop where
  at_ : PySem.W.findIn K (.ref C) f = some (some u)
  rel : RelV v u
  get : PySem.W.specialIn K u "__get__" = some none
  cp : PySem.W.copiedNames.contains f = false
structure Meth (K : PySem.W.Frag) (C : Addr) (m : Str) (f : Addr) : Prop where
  at_ : PySem.W.findIn K (.ref C) m = some (some (.ref f))
  fn : PySem.W.isFn K (.ref f) = true
  kp : PySem.W.keepIn K (.ref f) = true

section
variable {X : Cx} {pins : List (Addr × Obj)} {σ : St} {H : Hp} {s : Shared} {a C dx : Addr} {fs : List (Str × V)} {f : Str} {v : V} {A : Around} {E : Value → Shared → Prop}

theorem Inv.made (I : Inv X pins σ H s) : Inv X pins σ (upd (upd H s.heap.objs.size (.own (s.heap.objs.size + 1))) (s.heap.objs.size + 1) (.ins C s.heap.objs.size []))
    { s with heap := (s.heap.push PySem.W.emptyDict).push (PySem.W.instObj C s.heap.objs.size) } := by
  have e1 : (s.heap.push PySem.W.emptyDict).get? s.heap.objs.size = some PySem.W.emptyDict := Heap.get?_push_size s.heap rfl
  have e2 : ((s.heap.push PySem.W.emptyDict).push (PySem.W.instObj C s.heap.objs.size)).get? (s.heap.objs.size + 1) = some (PySem.W.instObj C s.heap.objs.size) := by
    have := Heap.get?_push_size (s.heap.push PySem.W.emptyDict) (o := PySem.W.instObj C s.heap.objs.size) rfl
    rwa [Heap.size_push] at this
  have e3 : (s.heap.push PySem.W.emptyDict).Ns s.heap.objs.size (fun _ => none) := ⟨PySem.W.emptyDict, #[], _, e1, rfl, (fun e he => absurd he (by simp)), fun _ => rfl⟩
  have I1 := I.laid (a := s.heap.objs.size) (o := .own (s.heap.objs.size + 1)) (h' := s.heap.push PySem.W.emptyDict) (t' := s.toks) (fun b u q => Heap.get?_push_of_some _ q) (Nat.le_refl _) ⟨_, e1⟩
  refine I1.laid (a := s.heap.objs.size + 1) (o := .ins C s.heap.objs.size []) (t' := s.toks) (fun b u q => Heap.get?_push_of_some _ q) (Nat.le_of_eq (Heap.size_push _ _)) ?_
  have ne : s.heap.objs.size ≠ s.heap.objs.size + 1 := Nat.ne_of_lt (Nat.lt_succ_self _)
  refine ⟨by rw [upd_ne ne, upd_same], Nat.zero_le _, ne, e2, fun _ => none, (Heap.Ns1.of_empty e3).at fun o q => Heap.get?_push_of_some _ q, fun _ => True.intro, fun y hy => absurd rfl hy⟩

end

def tFld (K : PySem.W.Frag) (ta : TE) (f : Str) : TE := fun σ H Q => ta σ H fun x H1 => ∃ a C dx fs v, x = .ref a ∧ H1 a = some (.ins C dx fs) ∧ Cls K C ∧ NoAttr K C f ∧ fs.lookup f = some v ∧ Q v H1
def tCon (K : PySem.W.Frag) (ta : TE) (f : Str) : TE := fun σ H Q => ta σ H fun x H1 => ∃ a C dx fs v u, x = .ref a ∧ H1 a = some (.ins C dx fs) ∧ Cls K C ∧ Con K C f v u ∧ fs.lookup f = none ∧ Q v H1
def sFld (K : PySem.W.Frag) (ta tv : TE) (f : Str) : TS := fun D σ H => tv σ H fun y H1 => ta σ H1 fun x H2 => ∃ a C dx fs, x = .ref a ∧ H2 a = some (.ins C dx fs) ∧ Cls K C ∧ NoAttr K C f ∧ fs.length < 1000 ∧
  D.nx σ (upd H2 a (.ins C dx (putF f y fs)))
def InOp (X : Cx) (op : Operator) (rd : V → V → Hp → VK → Prop) : Prop :=
  ∀ (pins : List (Addr × Obj)) (s : Shared) (σ : St) (H : Hp) (x y : V) (u v : Value) (Q : VK), Inv X pins σ H s → RelV x u → RelV y v → rd x y H Q → wpAny (model X.prog X.w) X.A (inplaceOp op u v) (EP X pins σ Q) X.xe s
def sFldAug (K : PySem.W.Frag) (ta tv : TE) (rd : V → V → Hp → VK → Prop) (f : Str) : TS := fun D σ H => ta σ H fun x H1 => ∃ a C dx fs v, x = .ref a ∧ H1 a = some (.ins C dx fs) ∧ Cls K C ∧ NoAttr K C f ∧ fs.lookup f = some v ∧
  tv σ H1 fun y H2 => rd v y H2 fun z H3 => ∃ dx' fs', H3 a = some (.ins C dx' fs') ∧ fs'.length < 1000 ∧ D.nx σ (upd H3 a (.ins C dx' (putF f z fs')))

section
variable {X : Cx} {o e value : Expr} {f : Str} {pos pos' tpos : Pos} {ta tv : TE}
def rAdd : V → V → Hp → VK → Prop := fun x y H Q => ∃ i j, x = .int i ∧ y = .int j ∧ Q (.int (i + j)) H
def rSub : V → V → Hp → VK → Prop := fun x y H Q => ∃ i j, x = .int i ∧ y = .int j ∧ Q (.int (i - j)) H
end

section
variable {X : Cx} {pins : List (Addr × Obj)} {σ : St} {H : Hp} {s : Shared} {A : Around} {E : Value → Shared → Prop} {Q : Value → Shared → Prop} {c : Value} {b : Bool}
inductive TyOf (K : PySem.W.Frag) (H : Hp) : V → Value → Prop where
  | non : TyOf K H .non (.type "NoneType")
  | bl (x : Bool) : TyOf K H (.bl x) (.type "bool")
  | int (i : Int) : TyOf K H (.int i) (.type "int")
  | str (x : Str) : TyOf K H (.str x) (.type "str")
  | flt (x : UInt64) : TyOf K H (.flt x) (.type "float")
  | lst {a : Addr} {xs : List V} (e : H a = some (.lst xs)) : TyOf K H (.ref a) (.type "list")
  | frz {a : Addr} {o : Obj} {xs : List V} (e : H a = some (.frz o (.lst xs))) : TyOf K H (.ref a) (.type "list")
  | tup {a : Addr} {xs : List V} (e : H a = some (.tup xs)) : TyOf K H (.ref a) (.type "tuple")
  | dK {a : Addr} {kvs : List (Key × V)} (e : H a = some (.dK kvs)) : TyOf K H (.ref a) (.type "dict")
  | dT {a : Addr} {kvs : List (List Key × V)} (e : H a = some (.dT kvs)) : TyOf K H (.ref a) (.type "dict")
  | ins {a C dx : Addr} {fs : List (Str × V)} (e : H a = some (.ins C dx fs)) (cl : Cls K C) (ha : PySem.W.findIn K (.ref C) "__class__" = some (some (.builtin "object.__class__")))
      (hn : PySem.W.specialIn K (.builtin "object.__class__") "__get__" = some (some (.builtin "getset_descriptor.__get__"))) (htk : PySem.W.takesIn K (.builtin "object.__class__") = some true)
      (hm : PySem.W.mroIn K C (.type "object") = some true) : TyOf K H (.ref a) (.ref C)
theorem isinst_ok {x : V} {u t : Value} (I : Inv X pins σ H s) (rx : RelV x u) (ty : TyOf X.K H x t) (e : PySem.W.kitOne X.K t c = some b) (h : ∀ tk, Q (.bool b) { s with toks := tk }) :
    wpAny (model X.prog X.w) A (call (.builtin "isinstance") [u, c]) Q E s := by
  cases ty with
  | non => cases (show u = Value.none from rx); exact PySem.W.kia_one PySem.W.kitx_none I.kIn True.intro e (fun z => nomatch z) h
  | bl y => cases (show u = Value.bool y from rx); exact PySem.W.kia_one PySem.W.kitx_bool I.kIn True.intro e (fun z => nomatch z) h
  | int i => obtain ⟨t, q⟩ := (show ∃ t, u = Value.int i t from rx); cases q; exact PySem.W.kia_one PySem.W.kitx_int I.kIn True.intro e (fun z => nomatch z) h
  | str y => obtain ⟨t, q⟩ := (show ∃ t, u = Value.str y t from rx); cases q; exact PySem.W.kia_one PySem.W.kitx_str I.kIn True.intro e (fun z => nomatch z) h
  | flt y => obtain ⟨t, q⟩ := (show ∃ t, u = Value.float y t from rx); cases q; exact PySem.W.kia_one PySem.W.kitx_float I.kIn True.intro e (fun z => nomatch z) h
  | @lst a xs ea =>
    cases (show u = Value.ref a from rx)
    obtain ⟨_, _, n, _, h1⟩ := (show ObjOk X.prog X.w H s.heap a (.lst xs) from I.hok a _ ea)
    exact PySem.W.kia_one PySem.W.kitx_list I.kIn ⟨_, h1, rfl⟩ e (fun z => nomatch z) h
  | @frz a ob xs ea =>
    cases (show u = Value.ref a from rx)
    obtain ⟨_, _, _, n, _, h1⟩ := (show ObjOk X.prog X.w H s.heap a (.frz ob (.lst xs)) from I.hok a _ ea)
    exact PySem.W.kia_one PySem.W.kitx_list I.kIn ⟨_, h1, rfl⟩ e (fun z => nomatch z) h
  | @tup a xs ea =>
    cases (show u = Value.ref a from rx)
    obtain ⟨_, _, _, p⟩ := (show ObjOk X.prog X.w H s.heap a (.tup xs) from I.hok a _ ea)
    obtain ⟨o, h1, h2, _⟩ := p
    exact PySem.W.kia_one PySem.W.kitx_tuple I.kIn ⟨o, h1, h2⟩ e (fun z => nomatch z) h
  | @dK a kvs ea =>
    cases (show u = Value.ref a from rx)
    obtain ⟨_, _, vs, _, p⟩ := (show ObjOk X.prog X.w H s.heap a (.dK kvs) from I.hok a _ ea)
    obtain ⟨o, es, ep, h1, h2, _⟩ := p
    exact PySem.W.kia_one PySem.W.kitx_dict I.kIn ⟨o, h1, h2.1⟩ e (fun z => nomatch z) h
  | @dT a kvs ea =>
    cases (show u = Value.ref a from rx)
    obtain ⟨_, _, xs, _, o, es, ep, h1, h2, _⟩ := (show ObjOk X.prog X.w H s.heap a (.dT kvs) from I.hok a _ ea)
    exact PySem.W.kia_one PySem.W.kitx_dict I.kIn ⟨o, h1, h2.1⟩ e (fun z => nomatch z) h
  | @ins a C dx fs ea cl ha hn htk hm =>
    cases (show u = Value.ref a from rx)
    obtain ⟨mA, O, _⟩ := ins_get I.hok ea
    obtain ⟨od, J, _⟩ := O.look
    exact PySem.W.kia_one (PySem.W.kitx_own (cl.get _) cl.hd ha hn htk hm) I.kIn J e (fun z => nomatch z) h
end
end L2

namespace L2
open PySem PySem.Spec PyProof.Rows

structure Room (k : Nat) (A : Around) : Prop where
  hd : A.handled = none
  dp : A.depth + 3 * k + 5 < recursionLimit
  un : A.units + 16 * k + 200 < cLine
theorem Room.mono {j k : Nat} {A : Around} (r : Room k A) (h : j ≤ k) : Room j A := ⟨r.hd, by have := r.dp; omega, by have := r.un; omega⟩
theorem Room.deeper {k : Nat} {A : Around} (r : Room (k + 1) A) (env : Env) : Room k (A.deeper env) :=
  ⟨r.hd, by have := r.dp; show A.depth + 1 + 3 * k + 5 < _; omega, by have := r.un; show A.units + 3 + 16 * k + 200 < _; omega⟩
theorem Room.in1 {k : Nat} {A : Around} (r : Room (k + 1) A) : Room k A.in1 :=
  ⟨r.hd, by have := r.dp; show A.depth + 3 * k + 5 < _; omega, by have := r.un; show A.units + 1 + 16 * k + 200 < _; omega⟩
theorem Room.depth {k : Nat} {A : Around} (r : Room k A) : A.depth < recursionLimit := by have := r.dp; omega
theorem Room.units {k : Nat} {A : Around} (r : Room k A) : A.units + 64 < cLine := by have := r.un; omega
def tNil : TA := fun _ H Q => Q [] H
def tCons (ta : TE) (tr : TA) : TA := fun σ H Q => ta σ H fun x H1 => tr σ H1 fun xs H2 => Q (x :: xs) H2
section
variable {X : Cx} {e : Expr} {es : List Expr} {te : TE} {t : TA} {pos : Pos}
theorem pa_nil : PA X [] tNil := fun _ _ _ _ H Q I h => Calls.spliced_nil ⟨[], H, I, .nil, h⟩
theorem pa_cons (ha : PE X e te) (hr : PA X es t) (hs : starEach (e :: es) X.env = (false, eval e X.env) :: starEach es X.env := by rfl) : PA X (e :: es) (tCons te t) := by
  intro pos pins s σ H Q I h
  rw [hs]
  show wpAny _ _ (spliced ((false, eval e X.env) :: backTo pos (starEach es X.env))) _ _ s
  refine Calls.spliced_cons (thn (ha pins s σ H _ I h) fun u s1 ⟨x, H1, I1, r1, q1⟩ => ?_)
  exact thn (hr pos pins s1 σ H1 _ I1 q1) fun us s2 ⟨xs, H2, I2, r2, q2⟩ => ⟨x :: xs, H2, I2, .cons r1 r2, q2⟩

def tTup (t : TA) : TE := fun σ H Q => t σ H fun xs H1 => xs.length ≤ sizeLine ∧ ∀ p, H1 p = none → Q (.ref p) (upd H1 p (.tup xs))
def tLst (t : TA) : TE := fun σ H Q => t σ H fun xs H1 => xs.length ≤ sizeLine ∧ ∀ p, H1 p = none → Q (.ref p) (upd H1 p (.lst xs))
theorem pe_tup {x1} (h : PA X es t) : PE X (.Tuple es x1 pos) (tTup t) := by
  intro pins s σ H Q I hq
  refine wpAny_Tuple_spliced (thn (h pos pins s σ H _ I hq) fun us s1 ⟨xs, H1, I1, r, z, q⟩ => ⟨by rw [← r.length]; exact z, ?_⟩)
  have hf : H1 s1.heap.objs.size = none := I1.hok.fresh (Nat.le_refl _)
  refine ⟨.ref s1.heap.objs.size, upd H1 s1.heap.objs.size (.tup xs), I1.laid (t' := s1.toks) (fun b u e => Heap.get?_push_of_some _ e) (Nat.le_refl _) ?_, rfl, q _ hf⟩
  exact ⟨z, us, r, ⟨_, Heap.get?_push_size _ rfl, rfl, _, rfl⟩⟩
theorem pe_lst (h : PA X es t) : PE X (.List es pos) (tLst t) := by
  intro pins s σ H Q I hq
  refine wpAny_List_spliced (thn (h pos pins s σ H _ I hq) fun us s1 ⟨xs, H1, I1, r, z, q⟩ => ⟨by rw [← r.length]; exact z, ?_⟩)
  have hf : H1 s1.heap.objs.size = none := I1.hok.fresh (Nat.le_refl _)
  refine ⟨.ref s1.heap.objs.size, upd H1 s1.heap.objs.size (.lst xs), I1.laid (t' := s1.toks) (fun b u e => Heap.get?_push_of_some _ e) (Nat.le_refl _) ?_, rfl, q _ hf⟩
  exact ⟨z, us, 0, r, Heap.get?_push_size _ rfl⟩
end

abbrev Sp := List V → Hp → VK → XK → Prop
abbrev CXT := List Env → Hp → Shared → XK → Value → Shared → Prop

structure Env0 (P : Program) (w : World) (K : PySem.W.Frag) (mg : Str → Option Value) (base : Heap) (A : Around) (outer : List Env) (s : Shared) (H : Hp) : Prop where
  frames : A.frames = some outer
  mod : Mod K mg base
  bs : ∀ b o, base.get? b = some o → s.heap.get? b = some o ∧ H b = none
  bsz : base.objs.size ≤ s.heap.objs.size
  funs : s.heap.FunFrames base outer
  frf : ∀ b ∈ frs outer, H b = none
  hok : HOk P w H s.heap
  bare : AllBare s.gens
def CE (outer : List Env) (P : Program) (w : World) (H : Hp) (s : Shared) (Q : VK) (u : Value) (s' : Shared) : Prop :=
  ∃ v H', s'.os = s.os ∧ AllBare s'.gens ∧ Un (frs outer) [] H H' s.heap s'.heap ∧ HOk P w H' s'.heap ∧ RelV v u ∧ Q v H'
def CR (CX : CXT) (outer : List Env) (P : Program) (w : World) (H : Hp) (s : Shared) (Q : VK) (E : XK) (r : Result) (s' : Shared) : Prop :=
  match r with
  | .ok (.ret u) => CE outer P w H s Q u s'
  | .ok _ => False
  | .error e => CX outer H s E e s'
structure FnOk (P : Program) (w : World) (K : PySem.W.Frag) (mg : Str → Option Value) (base : Heap) (CX : CXT) (k : Nat) (f : Addr) (fd : FuncData) (ps : List Str) (sp : Sp) : Prop where
  len : ∀ vs H Q E, sp vs H Q E → vs.length = ps.length
  run : ∀ (A : Around) (outer : List Env) (s : Shared) (H : Hp) (args : Args) (us : List Value) (vs : List V) (Q : VK) (E : XK), Room k A → Env0 P w K mg base A outer s H → BindsTo s fd args (ps.zip us) → Vals vs us → sp vs H Q E →
    codeAny (model P w) A (.call (.ref f) args) (CR CX outer P w H s Q E) s
theorem FnOk.mono {P : Program} {w : World} {K : PySem.W.Frag} {mg : Str → Option Value} {base : Heap} {CX : CXT} {j k : Nat} {f : Addr} {fd : FuncData} {ps : List Str} {sp : Sp} (F : FnOk P w K mg base CX j f fd ps sp) (h : j ≤ k) :
    FnOk P w K mg base CX k f fd ps sp := ⟨F.len, fun A outer s H args us vs Q E hr => F.run A outer s H args us vs Q E (hr.mono h)⟩
theorem FnOk.imp {P : Program} {w : World} {K : PySem.W.Frag} {mg : Str → Option Value} {base : Heap} {CX : CXT} {k : Nat} {f : Addr} {fd : FuncData} {ps : List Str} {sp sp' : Sp} (F : FnOk P w K mg base CX k f fd ps sp)
    (h : ∀ vs H Q E, sp' vs H Q E → sp vs H Q E) : FnOk P w K mg base CX k f fd ps sp' :=
  ⟨fun vs H Q E q => F.len vs H Q E (h _ _ _ _ q), fun A outer s H args us vs Q E hr he hb hv hs => F.run A outer s H args us vs Q E hr he hb hv (h _ _ _ _ hs)⟩

theorem Env0.in1 {P : Program} {w : World} {K : PySem.W.Frag} {mg : Str → Option Value} {base : Heap} {A : Around} {outer : List Env} {s : Shared} {H : Hp} (e : Env0 P w K mg base A outer s H) :
    Env0 P w K mg base A.in1 outer s H := ⟨e.frames, e.mod, e.bs, e.bsz, e.funs, e.frf, e.hok, e.bare⟩

section
variable {X : Cx} {pins : List (Addr × Obj)} {σ : St} {H : Hp} {s s' : Shared}
theorem Inv.env0 (I : Inv X pins σ H s) : Env0 X.prog X.w X.K X.mg X.base X.A X.stack s H :=
  ⟨I.ok.frames, I.ok.mod, I.bs, Nat.le_trans I.ok.bsz I.sz, I.stack, I.stkFree, I.hok, I.bare⟩
theorem Inv.after {Q : VK} {u : Value} (I : Inv X pins σ H s) (h : CE X.stack X.prog X.w H s Q u s') : EP X pins σ Q u s' := by
  obtain ⟨v, H', os, bare, un, hok, r, q⟩ := h
  obtain ⟨hh, g, d, t, os'⟩ := s'
  obtain rfl : os' = s.os := os
  exact ⟨v, H', I.call (h' := hh) (g' := g) (d' := d) (t' := t) (ch := []) un hok bare (fun b z => absurd z (by simp)), r, q⟩
end

def tCall (sp : Sp) (dvs : List V) (E : XK) (t : TA) : TE := fun σ H Q => t σ H fun vs H1 => sp (vs ++ dvs) H1 Q E
def tMeth (C : Addr) (m : Str) (sp : Sp) (dvs : List V) (E : XK) (ta : TE) (t : TA) : TE := fun σ H Q => ta σ H fun x H1 => ∃ a dx fs, x = .ref a ∧ H1 a = some (.ins C dx fs) ∧ fs.lookup m = none ∧
  t σ H1 fun vs H2 => sp (x :: (vs ++ dvs)) H2 Q E
def tMake (C : Addr) (sp : Sp) (dvs : List V) (E : XK) (t : TA) : TE := fun σ H Q => t σ H fun vs H1 => ∀ x dx, H1 x = none → H1 dx = none → dx ≠ x →
  sp (.ref x :: (vs ++ dvs)) (upd (upd H1 dx (.own x)) x (.ins C dx [])) (fun v H2 => v = .non ∧ Q (.ref x) H2) E

def Binds (K : PySem.W.Frag) (fd : FuncData) (ps : List Str) (ds : List Value) : Prop :=
  ∀ (s : Shared) (us : List Value), K.In s.heap → (us ++ ds).length = ps.length → BindsTo s fd ⟨us, []⟩ (ps.zip (us ++ ds))
theorem Binds.all {K : PySem.W.Frag} {fd : FuncData} {ps : List Str} (h : ∀ us : List Value, us.length = ps.length → bindArgs fd ⟨us, []⟩ = pure (ps.zip us)) : Binds K fd ps [] := fun s us _ hl => by
  rw [List.append_nil] at hl ⊢
  exact .of_eq (h us hl)

def Passes (CX : CXT) (X : Cx) (E : XK) : Prop := ∀ (pins : List (Addr × Obj)) (σ : St) (H : Hp) (s : Shared) (e : Value) (s' : Shared), Inv X pins σ H s → CX X.stack H s E e s' → X.xe e s'

section
variable {X : Cx} {CX : CXT} {k : Nat} {f C : Addr} {fd : FuncData} {ps : List Str} {sp : Sp} {dvs : List V} {ds : List Value} {E : XK} {x m : Str} {p pos apos : Pos} {e o : Expr} {es : List Expr} {ta : TE} {t : TA}

theorem run_fn {pins : List (Addr × Obj)} {σ : St} {H : Hp} {s : Shared} {Q : VK} {us : List Value} {vs : List V} (F : FnOk X.prog X.w X.K X.mg X.base CX k f fd ps sp) (hr : Room k X.A) (hb : Binds X.K fd ps ds) (hd : Vals dvs ds) (hx : Passes CX X E)
    (I : Inv X pins σ H s) (r : Vals vs us) (h : sp (vs ++ dvs) H Q E) : wpAny (model X.prog X.w) X.A (call (.ref f) us) (EP X pins σ Q) X.xe s := by
  have r2 : Vals (vs ++ dvs) (us ++ ds) := r.append hd
  have hl : (us ++ ds).length = ps.length := by rw [← r2.length]; exact F.len _ _ _ _ h
  refine wpAny_call (codeAny_mono (F.run X.A X.stack s H ⟨us, []⟩ (us ++ ds) (vs ++ dvs) Q E hr I.env0 (hb s us I.kIn hl) r2 h) fun r s' hq => ?_)
  cases r with
  | error e => exact hx pins σ H s e s' I hq
  | ok fl =>
    cases fl with
    | ret u => exact I.after hq
    | next => exact False.elim hq
    | brk => exact False.elim hq
    | cont => exact False.elim hq

theorem pe_call (F : FnOk X.prog X.w X.K X.mg X.base CX k f fd ps sp) (hr : Room k X.A) (hg : Gl X x) (hm : X.mg x = some (.ref f)) (hk : PySem.W.keepIn X.K (.ref f) = true) (hb : Binds X.K fd ps ds) (hd : Vals dvs ds) (hx : Passes CX X E)
    (ha : PA X (e :: es) t) (hdb : (x == ("__debug__" : Str)) = false := by decide) (he : starEach (e :: es) X.env = (false, eval e X.env) :: starEach es X.env := by rfl) (hpl : (backTo pos (starEach es X.env)).any (·.1) = false := by rfl) :
    PE X (.Call (.Name x p) (e :: es) [] pos) (tCall sp dvs E t) := by
  intro pins s σ H Q I h
  refine wpAny_Call_Name_kw (ld_glob I hg hm ?_ hdb)
  refine PySem.W.callWith_K (h₀ := X.base) I.ok.mod.kin hk (thn (ha pos pins s σ H _ I h) fun us s1 ⟨vs, H1, I1, r, q⟩ => ⟨I1.kIn, ?_⟩) he hpl
  exact run_fn F hr hb hd hx I1 r q
structure Mk (K : PySem.W.Frag) (C f : Addr) : Prop where
  makes : PySem.W.makesIn K C = true
  init : PySem.W.findIn K (.ref C) "__init__" = some (some (.ref f))
  fn : PySem.W.isFn K (.ref f) = true
  kp : PySem.W.keepIn K (.ref C) = true

end

def PK (X : Cx) (kws : List Keyword) (t : TA) : Prop :=
  ∀ (pos : Pos) (pins : List (Addr × Obj)) (s : Shared) (σ : St) (H : Hp) (Q : List V → Hp → Prop), Inv X pins σ H s → t σ H Q → wpAny (model X.prog X.w) X.A (evalAll ((backToKw pos (keywordEach kws X.env)).map (·.2))) (AP X pins σ Q) X.xe s
section
variable {X : Cx} {CX : CXT} {k : Nat} {f C : Addr} {fd : FuncData} {ps ks : List Str} {sp : Sp} {E : XK} {x m : Str} {p pos apos kpos : Pos} {e o : Expr} {es : List Expr} {kws : List Keyword} {te ta : TE} {t tk : TA} {nm : Option Str}
structure KBinds (K : PySem.W.Frag) (fd : FuncData) (ps ks : List Str) (g : List Value → List Value → List Value) (gV : List V → List V → List V) : Prop where
  to : ∀ (s : Shared) (us ws : List Value), K.In s.heap → (g us ws).length = ps.length → BindsTo s fd ⟨us, ks.zip ws⟩ (ps.zip (g us ws))
  rel : ∀ {vs : List V} {us : List Value} {zs : List V} {ws : List Value}, Vals vs us → Vals zs ws → Vals (gV vs zs) (g us ws)
def tCallK (sp : Sp) (gV : List V → List V → List V) (E : XK) (t tk : TA) : TE := fun σ H Q => t σ H fun vs H1 => tk σ H1 fun zs H2 => sp (gV vs zs) H2 Q E
variable {g : List Value → List Value → List Value} {gV : List V → List V → List V}
end

structure FnScope (N P : List Str) (sc : Scope) : Prop where
  kind : sc.kind = .function
  co : sc.isCoroutine = false
  gen : sc.isGenerator = false
  nd : N.Nodup
  pre : N.take P.length = P
  par : ∀ x ∈ P, sc.names.lookup x = some .local ∨ sc.names.lookup x = some .cell
  nofree : ∀ y ∈ sc.names, y.2 ≠ .free

theorem bindL_out {kindOf : Str → Option NameKind} {x : Str} : ∀ {binds : List (Str × Value)} {m : Str → Option Value}, (∀ v, (x, v) ∉ binds) → bindL kindOf binds m x = m x
  | [], _, _ => rfl
  | (n, v) :: r, m, h => by
    unfold bindL
    rw [bindL_out fun w hw => h w (List.mem_cons_of_mem _ hw)]
    split
    · have : x ≠ n := by rintro rfl; exact h v List.mem_cons_self
      simp [this]
    · rfl
theorem bindC_out {kindOf : Str → Option NameKind} {x : Str} : ∀ {binds : List (Str × Value)} {m : Str → Option Value}, (∀ v, (x, v) ∉ binds) → bindC kindOf binds m x = m x
  | [], _, _ => rfl
  | (n, v) :: r, m, h => by
    unfold bindC
    rw [bindC_out fun w hw => h w (List.mem_cons_of_mem _ hw)]
    split
    · rfl
    · have : x ≠ n := by rintro rfl; exact h v List.mem_cons_self
      simp [this]
theorem bindL_get {kindOf : Str → Option NameKind} {x : Str} {v : Value} : ∀ {P : List Str} {vs : List Value} {i : Nat} {m : Str → Option Value}, P.Nodup → P[i]? = some x → vs[i]? = some v → kindOf x = some .local →
    bindL kindOf (P.zip vs) m x = some v
  | [], _, _, _, _, h, _, _ => by simp at h
  | _ :: _, [], _, _, _, _, h, _ => by simp at h
  | p :: P, w :: vs, 0, m, nd, h1, h2, hk => by
    simp at h1 h2; subst h1; subst h2
    show bindL kindOf ((p, w) :: P.zip vs) m p = _
    unfold bindL
    rw [bindL_out fun v hv => (List.nodup_cons.mp nd).1 (List.of_mem_zip hv).1, if_pos hk]
    simp
  | p :: P, w :: vs, i + 1, m, nd, h1, h2, hk => by
    show bindL kindOf ((p, w) :: P.zip vs) m x = _
    unfold bindL
    exact bindL_get (i := i) (List.nodup_cons.mp nd).2 (by simpa using h1) (by simpa using h2) hk
theorem bindC_get {kindOf : Str → Option NameKind} {x : Str} {v : Value} : ∀ {P : List Str} {vs : List Value} {i : Nat} {m : Str → Option Value}, P.Nodup → P[i]? = some x → vs[i]? = some v → kindOf x ≠ some .local →
    bindC kindOf (P.zip vs) m x = some v
  | [], _, _, _, _, h, _, _ => by simp at h
  | _ :: _, [], _, _, _, _, h, _ => by simp at h
  | p :: P, w :: vs, 0, m, nd, h1, h2, hk => by
    simp at h1 h2; subst h1; subst h2
    show bindC kindOf ((p, w) :: P.zip vs) m p = _
    unfold bindC
    rw [bindC_out fun v hv => (List.nodup_cons.mp nd).1 (List.of_mem_zip hv).1, if_neg hk]
    simp
  | p :: P, w :: vs, i + 1, m, nd, h1, h2, hk => by
    show bindC kindOf ((p, w) :: P.zip vs) m x = _
    unfold bindC
    exact bindC_get (i := i) (List.nodup_cons.mp nd).2 (by simpa using h1) (by simpa using h2) hk

def start (N : List Str) (vs : List V) : St := vs.map some ++ List.replicate (N.length - vs.length) none

def cxOf (CX : CXT) (P : Program) (w : World) (K : PySem.W.Frag) (mg : Str → Option Value) (base : Heap) (N : List Str) (qual : Str) (scope : Scope) (f : Addr) (cd : Value) (A : Around) (outer : List Env) (s : Shared) (H : Hp) (E : XK) : Cx where
  prog := P
  w := w
  K := K
  mg := mg
  base := base
  A := A.deeper (envOfC qual scope s.heap.objs.size f cd)
  N := N
  s₀ := s
  H₀ := H
  env := envOfC qual scope s.heap.objs.size f cd
  outer := outer
  stack := envOfC qual scope s.heap.objs.size f cd :: outer
  ex := []
  calm := true
  fn := fun _ => true
  pn := []
  xe := fun e s' => wpAny (model P w) (A.deeper (envOfC qual scope s.heap.objs.size f cd)) (leaving (envOfC qual scope s.heap.objs.size f cd) e) (fun _ s'' => CX outer H s E e s'') (fun e' s'' => CX outer H s E e' s'') s'

theorem cell_has {sc : Scope} {n : Nat} {x : Str} (h : sc.names.lookup x = some .cell) : ∃ c, (cellsFrom n sc.names []).lookup x = some c := by
  have q := PySem.W.cellsFrom_some sc.names n [] (.inl h)
  exact Option.isSome_iff_exists.mp q

theorem inv_start {CX : CXT} {P : Program} {w : World} {K : PySem.W.Frag} {mg : Str → Option Value} {base : Heap} {N ps : List Str} {qual : Str} {scope : Scope} {f : Addr} {cd : Value} {A : Around} {outer : List Env} {s s1 : Shared} {H : Hp} {E : XK} {us : List Value} {vs : List V}
    (S : FnScope N ps scope) (hd : A.handled = none) (e0 : Env0 P w K mg base A outer s H) (hl : vs.length = ps.length) (r : Vals vs us)
    (x : InCallC s s.heap.objs.size (bindL (envOfC qual scope s.heap.objs.size f cd).kindOf (ps.zip us) fun _ => none) (cellsFrom (s.heap.objs.size + 1) scope.names []) (bindC (envOfC qual scope s.heap.objs.size f cd).kindOf (ps.zip us) fun _ => none) s1) :
    Inv (cxOf CX P w K mg base N qual scope f cd A outer s H E) [] (start N vs) H s1 := by
  have hpl : ps.length ≤ N.length := by have := congrArg List.length S.pre; rw [List.length_take] at this; omega
  obtain ⟨h1, tk, rfl, hk⟩ := x.done
  have noA : ∀ b : Addr, b ∉ (cxOf CX P w K mg base N qual scope f cd A outer s H E).ex := fun b z => absurd (show b ∈ ([] : List Addr) from z) (by simp)
  refine ⟨⟨e0.mod, S.kind, rfl, rfl, Nat.le_refl _, fun y z c h1 h2 => ?_, fun y hy => ?_, fun y c _ h => ?_, fun _ => hd, Around.frames_deeper e0.frames, .inr ⟨rfl, rfl⟩, fun b z => absurd z (noA b), e0.bs, e0.bsz, fun b _ _ => noA b, fun b z => absurd z (noA b), e0.funs, e0.frf⟩,
    rfl, e0.bare, Un.kept hk, ⟨_, x.toInCall.ns, fun i y v h1 h2 h3 => ?_⟩, fun y c h => ⟨_, x.cell y c h⟩, e0.hok.fresh (Nat.le_refl _), fun y c h => ?_, fun p hp => absurd (show p ∈ ([] : List (Addr × Obj)) from hp) (by simp), e0.hok.kept hk, ?_⟩
  · exact name_of_addr x.apart (PySem.mem_of_lookup h1) (PySem.mem_of_lookup h2)
  · have hy : scope.names.lookup y = some .cell ∨ scope.names.lookup y = some .free := hy
    rcases hy with hy | hy
    · exact cell_has hy
    · exact absurd rfl (S.nofree _ (PySem.mem_of_lookup hy))
  · exact Nat.le_of_lt (x.above y c (PySem.mem_of_lookup h))
  · have hi : i < vs.length := by
      unfold start at h2
      by_cases hi : i < vs.length
      · exact hi
      · rw [List.getElem?_append_right (by simpa using hi)] at h2
        rw [List.getElem?_replicate] at h2
        split at h2 <;> cases h2
    have ha : vs[i]? = some v := by
      unfold start at h2
      rw [List.getElem?_append_left (by simpa using hi), List.getElem?_map] at h2
      cases e : vs[i]? with
      | none => rw [e] at h2; cases h2
      | some a => rw [e] at h2; cases h2; rfl
    obtain ⟨u, hu, rv⟩ := r.get ha
    have hp : ps[i]? = some y := by
      rw [← S.pre, List.getElem?_take_of_lt (by omega)]; exact h1
    have ndP : ps.Nodup := by rw [← S.pre]; exact S.nd.sublist (List.take_sublist _ _)
    refine ⟨u, rv, ?_⟩
    rcases S.par y (List.mem_of_getElem? hp) with k | k
    · exact .inl ⟨k, bindL_get ndP hp hu k⟩
    · obtain ⟨c, e⟩ := cell_has (n := s.heap.objs.size + 1) k
      refine .inr ⟨.inl k, c, e, ?_⟩
      have q := x.cell y c e
      rw [bindC_get ndP hp hu (by show scope.names.lookup y ≠ _; rw [k]; decide)] at q
      exact q
  · exact e0.hok.fresh (Nat.le_of_lt (x.above y c (PySem.mem_of_lookup h)))
  · unfold start
    show _ = N.length
    rw [List.length_append, List.length_map, List.length_replicate]
    omega

theorem fn_of {CX : CXT} {P : Program} {w : World} {K : PySem.W.Frag} {mg : Str → Option Value} {base : Heap} {k : Nat} {f : Addr} {name qual : Str} {params : Arguments} {body : List Stmt} {scope : Scope} {dV kV doc pm cdv ct oc : Value} {an od : Option Addr}
    {osl : Array (Option Value)} {N ps : List Str} {sp : Sp} (lk : K.lookup f = some ⟨oc, od, .func (PySem.W.fnOf name qual params body scope dV kV doc pm an cdv ct), osl⟩) (hcd : PySem.W.codeIn K cdv qual = true) (S : FnScope N ps scope)
    (len : ∀ vs H Q E, sp vs H Q E → vs.length = ps.length)
    (hbody : ∀ (A : Around) (outer : List Env) (s : Shared) (H : Hp) (vs : List V) (Q : VK) (E : XK), Room k (A.deeper (envOfC qual scope s.heap.objs.size f cdv)) → sp vs H Q E →
      ∃ t, PSs (cxOf CX P w K mg base N qual scope f cdv A outer s H E) body t ∧ t { nx := fun _ H' => Q .non H', rt := Q } (start N vs) H) :
    FnOk P w K mg base CX (k + 1) f (PySem.W.fnOf name qual params body scope dV kV doc pm an cdv ct) ps sp := by
  refine ⟨len, fun A outer s H args us vs Q E hr e0 hb r hsp => ?_⟩
  have hl := len _ _ _ _ hsp
  have KX : K.In s.heap := e0.mod.kin.keeps fun b o e => (e0.bs b o e).1
  have lim : s.heap.NoLimit := e0.mod.nolimit.keeps fun b o e => (e0.bs b o e).1
  have hkind : ∀ y ∈ ps.zip us, scope.names.lookup y.1 = some .local ∨ (scope.names.lookup y.1 = some .cell ∧ ((cellsFrom (s.heap.objs.size + 1) scope.names []).lookup y.1).isSome = true) := fun ⟨n, v⟩ hy => by
    rcases S.par n (List.of_mem_zip hy).1 with q | q
    · exact .inl q
    · exact .inr ⟨q, PySem.W.cellsFrom_some _ _ _ (.inl q)⟩
  refine codeAny_call_function hr.depth (KX _ _ lk) rfl S.co S.gen rfl (PySem.W.codeRec_of KX hcd) (hb _ _ _ _ ?_)
  refine wpAny_newFunctionEnv_cells S.kind hkind fun env he s1 x => ?_
  subst he
  refine ⟨lim.keeps x.toInCall.keep, codeAny_func ?_⟩
  obtain ⟨t, ht, hq⟩ := hbody A outer s H vs Q E (hr.deeper _) hsp
  have I : Inv (cxOf CX P w K mg base N qual scope f cdv A outer s H E) [] (start N vs) H s1 := inv_start S hr.hd e0 hl r x
  refine wpAny_mono (ht [] s1 (start N vs) H _ I hq) (fun fl s' hs => ?_) fun e s' hs => hs
  have fin : ∀ {σ' : St} {H' : Hp} {v : V} {u : Value}, Inv (cxOf CX P w K mg base N qual scope f cdv A outer s H E) [] σ' H' s' → RelV v u → Q v H' → CE outer P w H s Q u s' :=
    fun {σ' H' v u} J rv q => ⟨v, H', J.os, J.bare, J.base, J.hok, rv, q⟩
  cases fl with
  | ret u =>
    obtain ⟨v, σ', H', J, rv, q⟩ := hs
    exact fin J rv q
  | next =>
    obtain ⟨σ', H', J, q⟩ := hs
    exact fin (v := V.non) (u := Value.none) J rfl q
  | brk =>
    obtain ⟨_, _, _, q⟩ := hs
    exact False.elim q
  | cont =>
    obtain ⟨_, _, _, q⟩ := hs
    exact False.elim q
end L2

namespace L2
open PySem PySem.Spec PyProof.Rows
section
variable {X : Cx} {x : Str} {p pos : Pos} {e : Expr} {es : List Expr} {t : TA} {id T : String} {r : List V → Hp → VK → Prop}

def tCB (r : List V → Hp → VK → Prop) (t : TA) : TE := fun σ H Q => t σ H fun vs H1 => r vs H1 Q
theorem pe_callB (hc : CallR X (.builtin id) r) (hg : Gl X x) (hm : X.mg x = none) (hv : bootBuiltins x = some (.builtin id)) (ha : PA X (e :: es) t) (hn : x ≠ "__name__" := by decide) (hdb : (x == ("__debug__" : Str)) = false := by decide)
    (he : starEach (e :: es) X.env = (false, eval e X.env) :: starEach es X.env := by rfl) (hpl : (backTo pos (starEach es X.env)).any (·.1) = false := by rfl) : PE X (.Call (.Name x p) (e :: es) [] pos) (tCB r t) := by
  intro pins s σ H Q I h
  refine wpAny_Call_Name_kw (ld_blt I hg hm hv ?_ hn hdb)
  exact PyProof.Rows.callWith_builtin1 (thn (ha pos pins s σ H _ I h) fun us s1 ⟨vs, H1, I1, r1, q1⟩ => hc pins s1 σ H1 vs us Q I1 r1 q1) he hpl
theorem pe_callTy (hc : CallR X (.type T) r) (hg : Gl X x) (hm : X.mg x = none) (hv : bootBuiltins x = some (.type T)) (ha : PA X (e :: es) t) (hn : x ≠ "__name__" := by decide) (hdb : (x == ("__debug__" : Str)) = false := by decide)
    (he : starEach (e :: es) X.env = (false, eval e X.env) :: starEach es X.env := by rfl) (hpl : (backTo pos (starEach es X.env)).any (·.1) = false := by rfl) : PE X (.Call (.Name x p) (e :: es) [] pos) (tCB r t) := by
  intro pins s σ H Q I h
  refine wpAny_Call_Name_kw (ld_blt I hg hm hv ?_ hn hdb)
  exact PyProof.Rows.callWith_type1 (thn (ha pos pins s σ H _ I h) fun us s1 ⟨vs, H1, I1, r1, q1⟩ => hc pins s1 σ H1 vs us Q I1 r1 q1) he hpl
end
end L2

namespace HT
open PySem PyProof.Rows

def lexLt : List Int → List Int → Bool
  | [], [] => false
  | [], _ :: _ => true
  | _ :: _, [] => false
  | x :: xs, y :: ys => if x = y then lexLt xs ys else decide (x < y)
section
open PySem.SeqAt
open PySem.AutoSeq1 (wpAny_loadPart')
open PySem.MeetsSeq PySem.MeetsSeq2 PySem.MeetsSeq3

end

section
variable {prog : Program} {w : World} {A : Around} {E : Value → Shared → Prop} {s : Shared}

def sIx (n d : Nat) : Option Int → Nat
  | none => d
  | some v => if v < 0 then (v + (n : Int)).toNat else min v.toNat n
theorem sIx_none (n d : Nat) : sIx n d none = d := rfl
theorem sIx_nat (n d k : Nat) : sIx n d (some (k : Int)) = min k n := by
  show (if (k : Int) < 0 then ((k : Int) + (n : Int)).toNat else min (k : Int).toNat n) = min k n
  rw [if_neg (by omega), Int.toNat_natCast]
end
end HT

namespace L2
open PySem PySem.Spec PyProof.Rows

abbrev TO := St → Hp → (Option Int → Hp → Prop) → Prop
def PO (X : Cx) (e : Option Expr) (t : TO) : Prop :=
  ∀ (pins : List (Addr × Obj)) (s : Shared) (σ : St) (H : Hp) (Q : Option Int → Hp → Prop), Inv X pins σ H s → t σ H Q →
    wpAny (model X.prog X.w) X.A (evalPart e X.env) (fun u s' => ∃ o H', Inv X pins σ H' s' ∧ IsPart u o ∧ Q o H') X.xe s
def tNoPart : TO := fun _ H Q => Q none H
def tPart (t : TE) : TO := fun σ H Q => t σ H fun x H1 => ∃ i, x = .int i ∧ Q (some i) H1

section
variable {X : Cx} {e : Expr} {te : TE} {lo hi : Option Expr} {tl th : TO} {pos p2 : Pos}

theorem po_none : PO X none tNoPart := by
  intro pins s σ H Q I h
  rw [evalPart_none]
  exact wpAny_pure ⟨none, H, I, .none, h⟩
theorem po_some (h : PE X e te) : PO X (some e) (tPart te) := by
  intro pins s σ H Q I hw
  rw [evalPart_some]
  refine thn (h pins s σ H _ I hw) fun u s1 ⟨x, H1, I1, r1, q1⟩ => ?_
  obtain ⟨i, rfl, q⟩ := q1
  obtain ⟨t, rfl⟩ := r1
  exact ⟨some i, H1, I1, .int i t, q⟩

def SlR (X : Cx) (r : V → Option Int → Option Int → Hp → VK → Prop) : Prop :=
  ∀ (pins : List (Addr × Obj)) (s : Shared) (σ : St) (H : Hp) (x : V) (v vl vu : Value) (lo hi : Option Int) (sl : Addr) (Q : VK), Inv X pins σ H s → RelV x v → s.heap.IsSliceOf sl vl vu .none → IsPart vl lo → IsPart vu hi → r x lo hi H Q →
    ∃ T id, typeLookup (.type T) "__getitem__" = pure (some (.builtin id)) ∧ s.TypeIs v T ∧ wpAny (model X.prog X.w) X.A (getItem v (.ref sl)) (EP X pins σ Q) X.xe s
theorem SlR.or {r r' : V → Option Int → Option Int → Hp → VK → Prop} (h : SlR X r) (h' : SlR X r') : SlR X (fun x lo hi H Q => r x lo hi H Q ∨ r' x lo hi H Q) := by
  intro pins s σ H x v vl vu lo hi sl Q I rx hs pl pu q
  rcases q with q | q
  · exact h pins s σ H x v vl vu lo hi sl Q I rx hs pl pu q
  · exact h' pins s σ H x v vl vu lo hi sl Q I rx hs pl pu q
def tSl (r : V → Option Int → Option Int → Hp → VK → Prop) (te : TE) (tl th : TO) : TE := fun σ H Q => te σ H fun x H1 => tl σ H1 fun l H2 => th σ H2 fun u H3 => r x l u H3 Q
theorem pe_slice {r : V → Option Int → Option Int → Hp → VK → Prop} (hr : SlR X r) (he : PE X e te) (hl : PO X lo tl) (hu : PO X hi th) : PE X (.Subscript e (.Slice lo hi none p2) pos) (tSl r te tl th) := by
  intro pins s σ H Q I h
  refine Subscript_ (thn (he pins s σ H _ I h) fun v s1 ⟨x, H1, I1, r1, q1⟩ => ?_)
  refine wpAny_Slice (thn (hl pins s1 σ H1 _ I1 q1) fun vl s2 ⟨l, H2, I2, pl, q2⟩ => thn (hu pins s2 σ H2 _ I2 q2) fun vu s3 ⟨u, H3, I3, pu, q3⟩ => ?_)
  rw [evalPart_none]
  refine wpAny_pure ?_
  have I4 : Inv X pins σ H3 { s3 with heap := s3.heap.push { cls := .type "slice", data := .fields #[vl, vu, .none] } } := I3.kept (t' := s3.toks) fun b ob q => Heap.get?_push_of_some _ q
  obtain ⟨T, id, hT, ht, hg⟩ := hr pins { s3 with heap := s3.heap.push { cls := .type "slice", data := .fields #[vl, vu, .none] } } σ H3 x v vl vu l u s3.heap.objs.size Q I4 r1 (Heap.IsSliceOf.new ..) pl pu q3
  show wpAny (model X.prog X.w) X.A (subscriptTail e (.Slice lo hi none p2) v (.ref s3.heap.objs.size)) (EP X pins σ Q) X.xe { s3 with heap := s3.heap.push { cls := .type "slice", data := .fields #[vl, vu, .none] } }
  exact tail_any (ops := [.ref s3.heap.objs.size, v]) ht hT hg (by with_unfolding_all rfl)

def cutV (xs : List V) (lo hi : Option Int) : List V := (xs.drop (HT.sIx xs.length 0 lo)).take (HT.sIx xs.length xs.length hi - HT.sIx xs.length 0 lo)
theorem cutV_length (xs : List V) (lo hi : Option Int) : (cutV xs lo hi).length ≤ xs.length := by
  unfold cutV
  rw [List.length_take, List.length_drop]
  omega
def rSlT (K : PySem.W.Frag) : V → Option Int → Option Int → Hp → VK → Prop := fun x lo hi H Q => ∃ a xs, x = .ref a ∧ SqT K H a xs ∧
  ¬ (HT.sIx xs.length 0 lo = 0 ∧ HT.sIx xs.length xs.length hi = xs.length) ∧ ∀ p, H p = none → Q (.ref p) (upd H p (.tup (cutV xs lo hi)))
def rLtT (K : PySem.W.Frag) : R2 := fun x y H Q => ∃ a b ns ms, x = .ref a ∧ y = .ref b ∧ SqT K H a (ns.map V.int) ∧ SqT K H b (ms.map V.int) ∧ Q (.bl (HT.lexLt ns ms)) H
def rCatT (K : PySem.W.Frag) : R2 := fun x y H Q => ∃ a b xs ys, x = .ref a ∧ y = .ref b ∧ SqT K H a xs ∧ SqT K H b ys ∧ xs ≠ [] ∧ xs.length + ys.length ≤ sizeLine ∧
  (ys = [] → Q (.ref a) H) ∧ (ys ≠ [] → ∀ p, H p = none → Q (.ref p) (upd H p (.tup (xs ++ ys))))
end
end L2

namespace L2
open PySem PySem.Spec PyProof.Rows

def ixN (n : Nat) (i : Int) : Option Nat := if 0 ≤ i then (if i < n then some i.toNat else none) else if -(n : Int) ≤ i then some (i + n).toNat else none
def atI {α : Type} (xs : List α) (i : Int) : Option α := (ixN xs.length i).bind fun j => xs[j]?
theorem ixN_seq {n : Nat} {i : Int} {j : Nat} (h : ixN n i = some j) : seqIndex? i n = some j ∧ j < n ∧ -(n : Int) ≤ i ∧ i < n := by
  unfold ixN at h
  by_cases h0 : 0 ≤ i
  · rw [if_pos h0] at h
    by_cases h1 : i < n
    · rw [if_pos h1] at h
      have e : i.toNat = j := Option.some.inj h
      exact ⟨by rw [seqIndex_of h0 h1, e], by omega, by omega, h1⟩
    · rw [if_neg h1] at h; cases h
  · rw [if_neg h0] at h
    by_cases h1 : -(n : Int) ≤ i
    · rw [if_pos h1] at h
      have e : (i + n).toNat = j := Option.some.inj h
      exact ⟨by rw [seqIndex_neg (by omega) h1, e], by omega, h1, by omega⟩
    · rw [if_neg h1] at h; cases h
theorem atI_get {α : Type} {xs : List α} {i : Int} {v : α} (h : atI xs i = some v) : ∃ j, seqIndex? i xs.length = some j ∧ xs[j]? = some v ∧ j < xs.length ∧ -(xs.length : Int) ≤ i ∧ i < xs.length := by
  unfold atI at h
  cases e : ixN xs.length i with
  | none => rw [e] at h; cases h
  | some j =>
    rw [e] at h
    obtain ⟨h1, h2, h3, h4⟩ := ixN_seq e
    exact ⟨j, h1, h, h2, h3, h4⟩
theorem atI_nat {α : Type} {xs : List α} {j : Nat} {v : α} (h : xs[j]? = some v) : atI xs (j : Int) = some v := by
  have hj : j < xs.length := (List.getElem?_eq_some_iff.mp h).1
  have e : ixN xs.length (j : Int) = some j := by
    unfold ixN
    rw [if_pos (by omega), if_pos (by omega)]; simp
  unfold atI; rw [e]; exact h
def PlainIx (b : Expr) : Prop := ∀ o i, subscripted b false o i = operate [o, i] (getItem o i)
def IxR (X : Cx) (r : R2) : Prop :=
  ∀ (value slice : Expr) (pins : List (Addr × Obj)) (s : Shared) (σ : St) (H : Hp) (x y : V) (v u : Value) (Q : VK), Inv X pins σ H s → RelV x v → RelV y u → r x y H Q →
    subscripted slice false v u = operate [v, u] (getItem v u) → wpAny (model X.prog X.w) X.A (subscriptTail value slice v u) (EP X pins σ Q) X.xe s
def MtR (X : Cx) (id : String) (r : V → List V → Hp → VK → Prop) : Prop :=
  ∀ (pins : List (Addr × Obj)) (s : Shared) (σ : St) (H : Hp) (x : V) (xs : List V) (v : Value) (us : List Value) (Q : VK), Inv X pins σ H s → RelV x v → Vals xs us → r x xs H Q →
    wpAny (model X.prog X.w) X.A (call (.builtin id) (v :: us)) (EP X pins σ Q) X.xe s
section
variable {X : Cx} {a b : Expr} {ta tb : TE} {pos : Pos}
theorem IxR.or {r r' : R2} (h : IxR X r) (h' : IxR X r') : IxR X (fun x y H Q => r x y H Q ∨ r' x y H Q) := by
  intro value slice pins s σ H x y v u Q I rx ry q hs
  rcases q with q | q
  · exact h value slice pins s σ H x y v u Q I rx ry q hs
  · exact h' value slice pins s σ H x y v u Q I rx ry q hs
theorem MtR.or {id : String} {r r' : V → List V → Hp → VK → Prop} (h : MtR X id r) (h' : MtR X id r') : MtR X id (fun x xs H Q => r x xs H Q ∨ r' x xs H Q) := by
  intro pins s σ H x xs v us Q I rx rs q
  rcases q with q | q
  · exact h pins s σ H x xs v us Q I rx rs q
  · exact h' pins s σ H x xs v us Q I rx rs q
theorem pe_ix {r : R2} (hr : IxR X r) (ha : PE X a ta) (hb : PE X b tb) (hs : PlainIx b) : PE X (.Subscript a b pos) (tOp r ta tb) := by
  intro pins s σ H Q I h
  exact Subscript_ (binT ha hb I h fun v u s2 x y H2 I2 rx ry q => hr a b pins s2 σ H2 x y v u Q I2 rx ry q (hs _ _))

def rIxL (K : PySem.W.Frag) : R2 := fun x y H Q => ∃ p xs i v, x = .ref p ∧ y = .int i ∧ SqL K H p xs ∧ atI xs i = some v ∧ Q v H
def rIxT (K : PySem.W.Frag) : R2 := fun x y H Q => ∃ p xs i v, x = .ref p ∧ y = .int i ∧ SqT K H p xs ∧ atI xs i = some v ∧ Q v H
def rIxS : R2 := fun x y H Q => ∃ z i c, x = .str z ∧ y = .int i ∧ z.length ≤ sizeLine ∧ atI z.cps.toList i = some c ∧ Q (.str ⟨#[c]⟩) H
theorem ix_list : IxR X (rIxL X.K) := by
  intro value slice pins s σ H x y v u Q I rx ry h hs
  obtain ⟨p, xs, i, z, rfl, rfl, hq, he, q⟩ := h
  cases rx
  obtain ⟨t, rfl⟩ := ry
  obtain ⟨its, r, pl, hz⟩ := I.list hq
  obtain ⟨j, h1, h2, h3, h4, h5⟩ := atI_get he
  obtain ⟨w, ew, rw'⟩ := r.get h2
  have hl := r.length
  have hn := line63
  have fin : EP X pins σ Q w s := ⟨z, H, I, rw', q⟩
  by_cases h0 : 0 ≤ i
  · have hj : i.toNat = j := by
      rw [seqIndex_of h0 h5] at h1
      exact Option.some.inj h1
    exact item_listR pl.isList h0 (by omega) (by rw [hj]; simpa using ew) fin hs
  · have hj : (i + (its.toArray.size : Int)).toNat = j := by
      rw [seqIndex_neg (by omega) h4] at h1
      rw [List.size_toArray, ← hl]
      exact Option.some.inj h1
    exact subscriptTail_builtinR (x := w) pl.isList.typeIs slot_list_getitem.lookup
      (wpAny_getItem_list_neg (Q := fun r s' => r = w ∧ EP X pins σ Q r s') pl.isList (by omega) (by rw [List.size_toArray] <;> omega) (by omega) (by rw [hj]; simpa using ew) ⟨rfl, fin⟩) hs
theorem ix_tup : IxR X (rIxT X.K) := by
  intro value slice pins s σ H x y v u Q I rx ry h hs
  obtain ⟨p, xs, i, z, rfl, rfl, hq, he, q⟩ := h
  cases rx
  obtain ⟨t, rfl⟩ := ry
  obtain ⟨its, r, pl, hz⟩ := I.tuple hq
  obtain ⟨j, h1, h2, h3, h4, h5⟩ := atI_get he
  obtain ⟨w, ew, rw'⟩ := r.get h2
  have hl := r.length
  have hn := line63
  have fin : EP X pins σ Q w s := ⟨z, H, I, rw', q⟩
  exact subscriptTail_builtinR (x := w) pl.typeIs slot_tuple_getitem.lookup
    (getItem_tuple (j := j) (Q := fun r s' => r = w ∧ EP X pins σ Q r s') pl (by omega) (by omega) (by rw [List.size_toArray, ← hl]; exact h1) (by simpa using ew) ⟨rfl, fin⟩) hs
def rIx (K : PySem.W.Frag) : R2 := fun x y H Q => rIxL K x y H Q ∨ rIxT K x y H Q ∨ rIxS x y H Q
theorem Inv.lst {pins : List (Addr × Obj)} {σ : St} {H : Hp} {s : Shared} {p : Addr} {xs : List V} (I : Inv X pins σ H s) (h : H p = some (.lst xs)) :
    ∃ (its : List Value) (n : Nat), Vals xs its ∧ s.heap.get? p = some { cls := .type "list", data := .seq its.toArray n } ∧ xs.length ≤ sizeLine := by
  obtain ⟨z, its, n, r, e⟩ := I.hok p _ h
  exact ⟨its, n, r, e, z⟩
def rSetL : V → V → V → Hp → (Hp → Prop) → Prop := fun o i v H Q => ∃ p xs k j, o = .ref p ∧ i = .int k ∧ H p = some (.lst xs) ∧ ixN xs.length k = some j ∧ Q (upd H p (.lst (xs.set j v)))
theorem slice_bounds (lo hi : Option Int) (n : Nat) : (sliceBounds lo hi none n).1 = ((HT.sIx n 0 lo : Nat) : Int) ∧ (sliceBounds lo hi none n).2.1 = ((HT.sIx n n hi : Nat) : Int) ∧ (sliceBounds lo hi none n).2.2 = 1 := by
  refine ⟨?_, ?_, rfl⟩
  · cases lo with
    | none => simp [sliceBounds, HT.sIx]
    | some i =>
      simp only [sliceBounds, HT.sIx, Option.getD_none, show (1 : Int) > 0 by decide, if_true]
      by_cases h : i < 0
      · simp only [h, if_true] <;> omega
      · simp only [h, if_false] <;> omega
  · cases hi with
    | none => simp [sliceBounds, HT.sIx]
    | some i =>
      simp only [sliceBounds, HT.sIx, Option.getD_none, show (1 : Int) > 0 by decide, if_true]
      by_cases h : i < 0
      · simp only [h, if_true] <;> omega
      · simp only [h, if_false] <;> omega
theorem slicePick_cut (its : List Value) (lo hi : Option Int) : slicePick its.toArray lo hi none = ((its.drop (HT.sIx its.length 0 lo)).take (HT.sIx its.length its.length hi - HT.sIx its.length 0 lo)).toArray := by
  obtain ⟨h1, h2, h3⟩ := slice_bounds lo hi its.toArray.size
  unfold slicePick
  rw [h1, h2, h3]
  simp only [sliceRange_one, pick_run, List.size_toArray] <;> rfl
def rSlL (K : PySem.W.Frag) : V → Option Int → Option Int → Hp → VK → Prop := fun x lo hi H Q => ∃ a xs, x = .ref a ∧ SqL K H a xs ∧ ∀ p, H p = none → Q (.ref p) (upd H p (.lst (cutV xs lo hi)))
theorem sl_list : SlR X (rSlL X.K) := by
  intro pins s σ H x v vl vu lo hi sl Q I rx hs pl pu h
  obtain ⟨a, xs, rfl, hx, q⟩ := h
  cases rx
  obtain ⟨its, r, ht, hz⟩ := I.list hx
  have hlen := r.length
  refine ⟨"list", _, slot_list_getitem.lookup, ht.isList.typeIs, ?_⟩
  refine wpAny_getItem_list_slice ht.isList hs pl pu .none (by simp) ?_ (by rw [List.size_toArray] <;> omega)
  rw [slicePick_cut, ← hlen]
  refine ⟨.ref s.heap.objs.size, _, I.laid (t' := s.toks) (o := .lst (cutV xs lo hi)) (fun b ob q => Heap.get?_push_of_some _ q) (Nat.le_refl _) ?_, rfl, q _ (I.hok.fresh (Nat.le_refl _))⟩
  exact ⟨Nat.le_trans (cutV_length xs lo hi) hz, _, 0, (r.drop (HT.sIx xs.length 0 lo)).take (HT.sIx xs.length xs.length hi - HT.sIx xs.length 0 lo), Heap.get?_push_size _ rfl⟩

def flatV : V → Bool
  | .non => true
  | .bl _ => true
  | .int _ => true
  | .str _ => true
  | _ => false
def eqV : V → V → Bool
  | .non, .non => true
  | .bl a, .bl b => a == b
  | .bl a, .int b => (if a then 1 else 0) == b
  | .int a, .bl b => a == (if b then 1 else 0)
  | .int a, .int b => a == b
  | .str a, .str b => a == b
  | _, _ => false
def eqU (x : V) (u : Value) : Bool := match u with
  | .none => eqV .non x
  | .bool b => eqV (.bl b) x
  | .int i _ => eqV (.int i) x
  | .str z _ => eqV (.str z) x
  | _ => false
def inV (x : V) (xs : List V) : Bool := xs.any fun y => eqV y x
def rIn (K : PySem.W.Frag) (neg : Bool) : R2 := fun x y H Q => ∃ p xs, y = .ref p ∧ (SqL K H p xs ∨ SqT K H p xs) ∧ flatV x = true ∧ xs.all flatV = true ∧ Q (.bl (if neg then !inV x xs else inV x xs)) H
theorem call_len_seq : CallR X (.builtin "len") (fun xs H Q => ∃ p ys, xs = [.ref p] ∧ (SqL X.K H p ys ∨ SqT X.K H p ys) ∧ Q (.int ys.length) H) := by
  intro pins s σ H xs us Q I r h
  obtain ⟨p, ys, rfl, hq, q⟩ := h
  obtain ⟨u, rfl, rx⟩ := vals1 r
  cases rx
  have hn := line63
  rcases hq with hq | hq
  · obtain ⟨its, r', pl, hz⟩ := I.list hq
    have hlen := r'.length
    exact Calls.call_len_list pl.isList (by simp only [List.size_toArray] <;> omega) ⟨.int ys.length, H, I.tok _, ⟨s.toks + 1, by rw [List.size_toArray, hlen]⟩, q⟩
  · obtain ⟨its, r', pl, hz⟩ := I.tuple hq
    have hlen := r'.length
    exact len_tuple pl (by simp only [List.size_toArray] <;> omega) ⟨.int ys.length, H, I.tok _, ⟨s.toks + 1, by rw [List.size_toArray, hlen]⟩, q⟩
theorem CallR.or {f : Value} {r r' : List V → Hp → VK → Prop} (h : CallR X f r) (h' : CallR X f r') : CallR X f (fun xs H Q => r xs H Q ∨ r' xs H Q) := by
  intro pins s σ H xs us Q I rs q
  rcases q with q | q
  · exact h pins s σ H xs us Q I rs q
  · exact h' pins s σ H xs us Q I rs q
theorem call_list_of : CallR X (.type "list") (fun xs H Q => ∃ p ys, xs = [.ref p] ∧ (SqL X.K H p ys ∨ SqT X.K H p ys) ∧ ∀ l, H l = none → Q (.ref l) (upd H l (.lst ys))) := by
  intro pins s σ H xs us Q I r h
  obtain ⟨p, ys, rfl, hq, q⟩ := h
  obtain ⟨u, rfl, rx⟩ := vals1 r
  cases rx
  have fin : ∀ (its : List Value), Vals ys its → ys.length ≤ sizeLine → ∀ (h' : Heap) (c' : Nat), (∀ b o', s.heap.get? b = some o' → h'.get? b = some o') →
      h'.get? s.heap.objs.size = some { cls := .type "list", dict := none, data := .seq its.toArray c', slots := #[] } → EP X pins σ Q (.ref s.heap.objs.size) { s with heap := h' } := fun its r' hz h' c' kp e =>
    ⟨.ref s.heap.objs.size, _, I.laid (t' := s.toks) kp (Nat.le_refl _) (show ObjOk X.prog X.w _ h' _ (.lst ys) from ⟨hz, its, c', r', e⟩), rfl, q _ (I.hok.fresh (Nat.le_refl _))⟩
  rcases hq with hq | hq
  · obtain ⟨its, r', pl, hz⟩ := I.list hq
    have hlen := r'.length
    obtain ⟨o, ho, hc, n, hd⟩ := pl.isList
    exact call_list_seq p (.inl rfl) ho hc hd (fun h' c' kp e => fin its r' hz h' c' kp e) (by simp only [List.size_toArray] <;> omega)
  · obtain ⟨its, r', pl, hz⟩ := I.tuple hq
    have hlen := r'.length
    obtain ⟨o, ho, hc, n, hd⟩ := pl
    exact call_list_seq p (.inr rfl) ho hc hd (fun h' c' kp e => fin its r' hz h' c' kp e) (by simp only [List.size_toArray] <;> omega)
def tyV (K : PySem.W.Frag) (T : String) (x : V) (H : Hp) : Prop := match x with
  | .str _ => T = "str"
  | .int _ => T = "int"
  | .ref p => (T = "list" ∧ ∃ xs, SqL K H p xs) ∨ (T = "tuple" ∧ ∃ o, K.lookup p = some o ∧ o.cls = .type "tuple" ∧ o.dict = none) ∨
      (T = "dict" ∧ ((∃ kvs, H p = some (.dK kvs)) ∨ ∃ kvs, H p = some (.dT kvs))) ∨ (T = "set" ∧ ∃ S n, H p = some (.set S n))
  | _ => False
theorem tyV_is {pins : List (Addr × Obj)} {σ : St} {H : Hp} {s : Shared} {T : String} {x : V} {v : Value} (I : Inv X pins σ H s) (r : RelV x v) (ty : tyV X.K T x H) :
    s.TypeIs v T ∧ ∀ a, v = .ref a → ∃ ob, s.heap.get? a = some ob ∧ ob.dict = none := by
  cases x with
  | str z =>
    obtain ⟨t, rfl⟩ := r
    cases (show T = "str" from ty)
    exact ⟨typeIs_str s z t, fun _ e => nomatch e⟩
  | int i =>
    obtain ⟨t, rfl⟩ := r
    cases (show T = "int" from ty)
    exact ⟨typeIs_int s i t, fun _ e => nomatch e⟩
  | ref p =>
    cases r
    rcases ty with ⟨rfl, xs, hq⟩ | ⟨rfl, o, hk, hc, hd⟩ | ⟨rfl, hk⟩ | ⟨rfl, S, n, hk⟩
    · obtain ⟨its, _, pl, _⟩ := I.list hq
      refine ⟨pl.isList.typeIs, fun a e => ?_⟩
      cases e
      obtain ⟨o, n, e, c, hd, _⟩ := pl
      exact ⟨o, e, hd⟩
    · refine ⟨⟨o, I.kIn p o hk, hc⟩, fun a e => ?_⟩
      cases e
      exact ⟨o, I.kIn _ o hk, hd⟩
    · have z : ∃ o, s.heap.get? p = some o ∧ o.ExactDict := by
        rcases hk with ⟨kvs, hk⟩ | ⟨kvs, hk⟩
        · obtain ⟨_, _, _, _, o, _, _, e, ex, _⟩ := I.hok p _ hk
          exact ⟨o, e, ex⟩
        · obtain ⟨_, _, _, _, o, _, _, e, ex, _⟩ := I.hok p _ hk
          exact ⟨o, e, ex⟩
      obtain ⟨o, e, ex⟩ := z
      refine ⟨⟨o, e, ex.1⟩, fun a e2 => ?_⟩
      cases e2
      exact ⟨o, e, ex.2.1⟩
    · obtain ⟨o, _, _, _, e, ex, _⟩ := I.hok p _ hk
      refine ⟨⟨o, e, ex.1⟩, fun a e2 => ?_⟩
      cases e2
      exact ⟨o, e, ex.2.1⟩
  | _ => exact False.elim ty
def tBM0 (K : PySem.W.Frag) (T : String) (r : V → List V → Hp → VK → Prop) (to : TE) : TE := fun σ H Q => to σ H fun x H1 => tyV K T x H1 ∧ r x [] H1 Q
def tBM (K : PySem.W.Frag) (T : String) (r : V → List V → Hp → VK → Prop) (to : TE) (t : TA) : TE := fun σ H Q => to σ H fun x H1 => tyV K T x H1 ∧ t σ H1 fun xs H2 => r x xs H2 Q
variable {o e : Expr} {es : List Expr} {to : TE} {t : TA} {name : Str} {apos cpos : Pos} {T id : String} {r : V → List V → Hp → VK → Prop}
theorem pe_bm (pa : PlainAttrs T) (slot : Slot T name id) (hty : typeOf (.builtin id) = pure (.type "method_descriptor")) (hm : MtR X id r) (ho : PE X o to) (ha : PA X (e :: es) t)
    (hbase : attributeBase o name X.env (eval o X.env) = eval o X.env := by rfl)
    (hfew : ((backTo cpos (starEach (e :: es) X.env)).all (fun x => !x.1) && (backToKw cpos (keywordEach [] X.env)).all (fun x => x.1.isSome)
      && decide ((e :: es).length + ([] : List Keyword).length + (if ([] : List Keyword).isEmpty then 0 else 1) < 30)) = true := by rfl)
    (hline : (apos.endLine == cpos.line) = true := by rfl) (hs : starEach (e :: es) X.env = (false, eval e X.env) :: starEach es X.env := by rfl) (hplain : (backTo cpos (starEach es X.env)).any (·.1) = false := by rfl) :
    PE X (.Call (.Attribute o name apos) (e :: es) [] cpos) (tBM X.K T r to t) := by
  intro pins s σ H Q I h
  refine wpAny_Call_method_late hbase hfew hline rfl (thn (ho pins s σ H _ I h) fun v s1 ⟨x, H1, I1, r1, ty, q1⟩ => ?_)
  obtain ⟨h1, h2⟩ := tyV_is I1 r1 ty
  refine ⟨T, id, pa, slot, hty, h1, h2, ?_⟩
  have hA := ha cpos pins s1 σ H1 _ I1 q1
  rw [hs] at hA ⊢
  refine Calls.callWith_builtin (by show (false || (backTo cpos (starEach es X.env)).any (·.1)) = false; rw [hplain] <;> rfl) (Calls.evalArgs_plain ?_)
  exact thn hA fun us s2 ⟨vs, H2, I2, r2, q2⟩ => hm pins s2 σ H2 x vs v us Q I2 r1 r2 q2
/- xs.append(e), list.index on a module's tuple .. are MtR facts of 06m -/
end
end L2

namespace L2
open PySem PySem.Spec PyProof.Rows

def MtM (X : Cx) (id : String) (r : V → List V → Hp → VK → Prop) : Prop :=
  ∀ (pins : List (Addr × Obj)) (s : Shared) (σ : St) (H : Hp) (x : V) (xs : List V) (v : Value) (us : List Value) (Q : VK), Inv X pins σ H s → RelV x v → Vals xs us → r x xs H Q →
    wpAny (model X.prog X.w) X.A (call (.builtin id) (v :: us)) (EP X pins σ Q) X.xe s

theorem Vals.one : ∀ {x : V} {us : List Value}, Vals [x] us → ∃ u, us = [u] ∧ RelV x u
  | _, _, .cons r .nil => ⟨_, rfl, r⟩
theorem Vals.two : ∀ {x y : V} {us : List Value}, Vals [x, y] us → ∃ u v, us = [u, v] ∧ RelV x u ∧ RelV y v
  | _, _, _, .cons r (.cons q .nil) => ⟨_, _, rfl, r, q⟩
theorem Vals.zero : ∀ {us : List Value}, Vals [] us → us = []
  | _, .nil => rfl
theorem Vals.dropLast {xs : List V} {us : List Value} (h : Vals xs us) : Vals xs.dropLast us.dropLast := by
  induction h with
  | nil => exact .nil
  | cons r t ih =>
    cases t with
    | nil => exact .nil
    | cons q t' => exact .cons r ih
theorem Vals.eraseIdx : ∀ {xs : List V} {us : List Value} (i : Nat), Vals xs us → Vals (xs.eraseIdx i) (us.eraseIdx i)
  | _, _, _, .nil => .nil
  | _, _, 0, .cons _ t => t
  | _, _, i + 1, .cons r t => .cons r (Vals.eraseIdx i t)
theorem Vals.reverse {xs : List V} {us : List Value} (h : Vals xs us) : Vals xs.reverse us.reverse := by
  induction h with
  | nil => exact .nil
  | cons r t ih => rw [List.reverse_cons, List.reverse_cons]; exact Vals.append ih (.cons r .nil)
section
variable {X : Cx} {pins : List (Addr × Obj)} {σ : St} {H : Hp} {s : Shared} {l b : Addr} {xs ys zs : List V}

theorem Inv.lset {its its' : List Value} {n : Nat} {f : Array Value → Array Value} {t' : Nat} (I : Inv X pins σ H s) (hH : H l = some (.lst xs))
    (e : s.heap.get? l = some { cls := .type "list", data := .seq its.toArray n }) (hf : f its.toArray = its'.toArray) (hv : Vals ys its') (hz : ys.length ≤ sizeLine) :
    Inv X pins σ (upd H l (.lst ys)) { s with heap := s.heap.update l (Obj.mapSeq f), toks := t' } := by
  have q := PySem.IsL.update e f
  rw [hf] at q
  refine I.write (x := l) (e := l) (by rw [hH]; exact trivial) (.inl rfl) (fun b' u hb hu => (Heap.get?_update_other s.heap (Obj.mapSeq f) (Ne.symm hb)).trans hu) ⟨_, q⟩ ?_
  exact ⟨hz, its', _, hv, q⟩
theorem Inv.lnew {its : List Value} {t' : Nat} (I : Inv X pins σ H s) (hv : Vals ys its) (hz : ys.length ≤ sizeLine) :
    Inv X pins σ (upd H s.heap.objs.size (.lst ys)) { s with heap := s.heap.push { cls := .type "list", data := .seq its.toArray }, toks := t' } :=
  I.laid (fun _ _ q => Heap.get?_push_of_some _ q) (Nat.le_refl _) ⟨hz, its, 0, hv, Heap.get?_push_size _ rfl⟩
theorem Inv.fresh (I : Inv X pins σ H s) : H s.heap.objs.size = none := I.hok.fresh (Nat.le_refl _)
theorem Inv.lstM (I : Inv X pins σ H s) (hH : H l = some (.lst xs)) : xs.length ≤ sizeLine ∧ ∃ (its : List Value) (n : Nat), Vals xs its ∧ xs.length = its.length ∧ s.heap.get? l = some { cls := .type "list", data := .seq its.toArray n } := by
  obtain ⟨z, its, n, r, e⟩ := I.hok l _ hH
  exact ⟨z, its, n, r, r.length, e⟩

end

section
variable {X : Cx}

def rAppend : V → List V → Hp → VK → Prop := fun x vs H Q => ∃ l xs y, x = .ref l ∧ vs = [y] ∧ H l = some (.lst xs) ∧ xs.length < sizeLine ∧ Q .non (upd H l (.lst (xs ++ [y])))
theorem mt_append : MtM X "list.append" rAppend := by
  intro pins s σ H x vs v us Q I rx rv h
  obtain ⟨l, xs, y, rfl, rfl, hH, hz, q⟩ := h
  cases rx
  obtain ⟨u, rfl, ru⟩ := rv.one
  obtain ⟨z, its, n, r, hl, e⟩ := I.lstM hH
  refine call_meets F.slot_list_append ⟨_, e, rfl⟩ F.entry_list_append (F.args_list_append_2 _ _) (PySem.list_append l its.toArray n u (by rw [List.size_toArray]; omega)) ⟨e, ?_⟩
  refine ⟨.non, _, I.lset (its' := its ++ [u]) hH e (by simp) (r.append (.cons ru .nil)) ?_, rfl, q⟩
  rw [List.length_append, List.length_singleton]
  omega

def rExtend : V → List V → Hp → VK → Prop := fun x vs H Q => ∃ l b xs zs, x = .ref l ∧ vs = [.ref b] ∧ H l = some (.lst xs) ∧ H b = some (.lst zs) ∧ xs.length + zs.length ≤ sizeLine ∧ Q .non (upd H l (.lst (xs ++ zs)))
def rPop : V → List V → Hp → VK → Prop := fun x vs H Q => ∃ l xs y, x = .ref l ∧ vs = [] ∧ H l = some (.lst xs) ∧ xs[xs.length - 1]? = some y ∧ Q y (upd H l (.lst xs.dropLast))
def rPopAt : V → List V → Hp → VK → Prop := fun x vs H Q => ∃ l xs i k y, x = .ref l ∧ vs = [.int i] ∧ H l = some (.lst xs) ∧ -(2 ^ 63) ≤ i ∧ i < 2 ^ 63 ∧ seqIndex? i xs.length = some k ∧ xs[k]? = some y ∧ Q y (upd H l (.lst (xs.eraseIdx k)))
def rReverse : V → List V → Hp → VK → Prop := fun x vs H Q => ∃ l xs, x = .ref l ∧ vs = [] ∧ H l = some (.lst xs) ∧ Q .non (upd H l (.lst xs.reverse))
def rClear : V → List V → Hp → VK → Prop := fun x vs H Q => ∃ l xs, x = .ref l ∧ vs = [] ∧ H l = some (.lst xs) ∧ Q .non (upd H l (.lst []))
def rCat : R2 := fun x y H Q => ∃ l b xs zs, x = .ref l ∧ y = .ref b ∧ H l = some (.lst xs) ∧ H b = some (.lst zs) ∧ xs.length + zs.length ≤ sizeLine ∧ ∀ p, H p = none → Q (.ref p) (upd H p (.lst (xs ++ zs)))
theorem op_cat : OpR X (binaryOp .Add) rCat := by
  intro pins s σ H x y v u Q I rx ry h
  obtain ⟨l, b, xs, zs, rfl, rfl, hH, hB, hz, q⟩ := h
  cases rx
  cases ry
  obtain ⟨z, its, n, r, hl, e⟩ := I.lstM hH
  obtain ⟨z2, its2, n2, r2, hl2, e2⟩ := I.lstM hB
  refine PySem.P.add_list e e2 ?_ (by rw [List.size_toArray, List.size_toArray]; omega)
  have ea : its.toArray ++ its2.toArray = (its ++ its2).toArray := by simp
  rw [ea]
  exact ⟨.ref _, _, I.lnew (t' := s.toks) (r.append r2) (by rw [List.length_append]; omega), rfl, q _ I.fresh⟩
def rRep : R2 := fun x y H Q => ∃ l k xs, x = .ref l ∧ y = .int k ∧ H l = some (.lst xs) ∧ -(2 ^ 63) ≤ k ∧ k < 2 ^ 63 ∧ xs.length * k.toNat ≤ sizeLine ∧
  ∀ p, H p = none → Q (.ref p) (upd H p (.lst (List.replicate k.toNat xs).flatten))
end

section
variable {prog : Program} {w : World} {A : Around} {E : Value → Shared → Prop} {s : Shared}
end

section
variable {X : Cx}
end
end L2

namespace Att
open PySem PySem.W PySem.Calls PyProof.Rows

theorem ints_of_wellAll {P : Params} {h : Heap} : ∀ (ns : List Int) (vs : List Value), WellAll P h vs (ns.map WData.int) → IntsAre vs ns := by
  intro ns
  induction ns with
  | nil =>
    intro vs w
    rw [List.map_nil] at w
    cases w
    exact .nil
  | cons n ns ih =>
    intro vs w
    rw [List.map_cons] at w
    cases w with
    | cons a b =>
      cases a
      exact .cons _ _ (ih _ b)

theorem script_of {l : OpenLaw} {n : Nat} (hn : l.most = some n) {P : Params} {h : Heap} {args : List WData} {vals : List Value}
    (hpre : l.row.toRowW.claim.pre args = true) (hwl : WellAll P h vals args) :
    ∃ a vs ns, vals = [Value.ref a] ∧ args = [WData.list (ns.map WData.int)] ∧ h.get? a = some { cls := .type "list", data := .seq vs.toArray } ∧ IntsAre vs ns ∧ ns.length ≤ n := by
  have hsh : WShape.hasAll [] args [.list .int] = true := (pre_splitW hpre).1
  have hc : l.pre.holds [] { args := args } = true := (pre_splitW hpre).2
  obtain ⟨d, r, rfl, h1, h2⟩ := hasAllW_cons hsh
  obtain rfl := hasAllW_nil h2
  obtain ⟨xs, rfl, h3⟩ := hasW_list h1
  obtain ⟨ns, rfl⟩ := items_int h3
  have hlen : ns.length ≤ n := by
    unfold OpenLaw.pre at hc
    have h4 : (WTm.not (.lt (.lit (.int (n : Int))) (.len (.arg 0)))).holds [] { args := [.list (ns.map .int)] } = true := by
      have h4 := (holds_andW hc).1
      rw [hn] at h4
      exact h4
    have h5 := condW_of h4 (w_not (w_lt w_lit (w_len_list (w_arg rfl))))
    rw [List.length_map] at h5
    refine Nat.le_of_not_lt fun q => ?_
    have q' : (n : Int) < ((ns.length : Nat) : Int) := by omega
    first
      | (rw [decide_eq_true q'] at h5; exact absurd h5 (by decide))
      | (simp at h5; omega)
  cases hwl with
  | cons w1 w2 =>
    cases w2
    cases w1 with
    | list ho hall => exact ⟨_, _, ns, rfl, rfl, ho, ints_of_wellAll ns _ hall, hlen⟩

theorem post_true (l : OpenLaw) (args : List WData) : l.row.toRowW.claim.post args (.bool true) args = true :=
  postW_of (r := l.row.toRowW) (X := (true == true))
    (show WShape.has [] (.bool true) .bool = true by first | rfl | decide | simp [WShape.has, WShape.arms, WShape.armsAll])
    (show (WTm.eq .res (.lit (.bool true))).value [] { args := args, res := some (.bool true), after := args } = some (.bool (true == true)) from w_eq_bool (w_res rfl) w_lit) rfl

theorem attach_call {l : OpenLaw} {n : Nat} {q : Program} {loose : List Str} {XP : (Str → Option Value) → Heap → Prop} {YP : World → Heap → Prop} {d : DefRec}
    (hn : l.most = some n) (hdf : d.params.defaults = [])
    (call : ∀ (w : World) (s₀ s₁ : Shared) (mg mb : Str → Option Value) (fa : Addr) (o : Obj) (pm cd doc : Value) (a : Addr) (vs : List Value) (ns : List Int),
      Ground q loose [] XP w s₀ mg mb s₁.heap → YP w s₁.heap →
      s₁.heap.get? fa = some o → o.data = .func (docDef d.name d.params d.body d.scope pm cd doc) → s₁.heap.CodeRec cd d.name → mg d.name = some (.ref fa) →
      s₁.heap.get? a = some { cls := .type "list", data := .seq vs.toArray } → IntsAre vs ns → ns.length ≤ n → s₁.gens = #[] →
      codeAny (model l.prog w) callerA (.call (.ref fa) ⟨[.ref a], []⟩) (fun r s' => r = .ok (.ret (.bool true)) ∧ OldK s₁.heap s'.heap ∧ s'.os = s₁.os ∧ AllBare s'.gens) s₁) :
    WalkO q loose XP YP l.row.toRowW d [] (fun f vs => PySem.call f vs) := by
  intro w s₀ s₁ mg mb G Y fa o pm cd doc dV kV ho hd hcd hD hmg hg args vals as hpre hlay hrd hwl hlo
  obtain rfl : dV = .none := Dflts.none hD hdf
  obtain rfl : kV = .none := Dflts.noKw hD
  obtain ⟨a, vs, ns, rfl, rfl, hobj, hints, hlen⟩ := script_of hn hpre hwl
  refine enter_call (codeAny_mono (call w s₀ s₁ mg mb fa o pm cd doc a vs ns G Y ho (fd_plain hd) hcd hmg hobj hints hlen hg) fun r s' hq => ?_)
  obtain ⟨rfl, h2, h3, h4⟩ := hq
  exact ⟨.inl ⟨.bool true, .bool true, [], rfl, fun _ => rfl, .bool true, post_true l _, fun _ => ⟨List.Pairwise.nil, fun _ hm => (nomatch hm)⟩⟩, h2, h3, h4⟩

section
variable {prog : Program} {w : World} {A : Around} {E : Value → Shared → Prop} {s : Shared} {K : Frag}

def noObjs (h : Heap) : Heap := { h with objs := #[] }
def ledger (h : Heap) (L d : Addr) : List (Addr × Obj) := (List.range h.objs.size).filterMap fun a => if a = L ∨ a = d then none else (h.get? a).map fun o => (a, o)
end
end Att

namespace L2
open PySem PySem.Spec PyProof.Rows

theorem vals_ints : ∀ {vs : List Value} {ns : List Int}, IntsAre vs ns → Vals (ns.map V.int) vs
  | _, _, .nil => .nil
  | _, _, .cons n t h => .cons ⟨t, rfl⟩ (vals_ints h)

def Only (H : Hp) : Prop := ∀ b, H b = none ∨ ∃ o xs, H b = some (.frz o (.lst xs))

theorem law_call {P : Program} {w : World} {K : PySem.W.Frag} {mg mb : Str → Option Value} {CX : CXT} {k : Nat} {fa a : Addr} {fd : FuncData} {x : Str} {sp : Sp} {s₁ : Shared} {vs : List Value} {ns : List Int}
    (KX : K.In s₁.heap) (hns : s₁.heap.Ns mainGlobals mg) (hb : s₁.heap.Ns builtinsNs mb) (hbb : ∀ x : Str, x ≠ "__name__" → mb x = bootBuiltins x) (hlim : s₁.heap.NoLimit) (hg : s₁.gens = #[])
    (ha : s₁.heap.get? a = some { cls := .type "list", data := .seq vs.toArray }) (hi : IntsAre vs ns) (hl : ns.length ≤ sizeLine) (hr : Room k callerA)
    (F : ∀ base : Heap, K.In base → base.Ns mainGlobals mg → FnOk P w K mg base CX k fa fd [x] sp) (hbind : ∀ (s : Shared) (u : Value), BindsTo s fd ⟨[u], []⟩ [(x, u)])
    (hsp : ∀ H : Hp, Only H → SqL K H a (ns.map V.int) → sp [.ref a] H (fun v _ => v = .bl true) fun _ _ _ => False)
    (hCX : ∀ H e s', CX [] H s₁ (fun _ _ _ => False) e s' → False) :
    codeAny (model P w) callerA (.call (.ref fa) ⟨[.ref a], []⟩) (fun r s' => r = .ok (.ret (.bool true)) ∧ OldK s₁.heap s'.heap ∧ s'.os = s₁.os ∧ AllBare s'.gens) s₁ := by
  have rv := vals_ints hi
  have lenV := hi.length
  -- from an abstract heap in which nothing but the script may be tracked
  have core : ∀ H : Hp, Only H → SqL K H a (ns.map V.int) → HOk P w H s₁.heap → (∀ b, H b ≠ none → b = a) → (H a ≠ none → K.lookup a = none) →
      codeAny (model P w) callerA (.call (.ref fa) ⟨[.ref a], []⟩) (fun r s' => r = .ok (.ret (.bool true)) ∧ OldK s₁.heap s'.heap ∧ s'.os = s₁.os ∧ AllBare s'.gens) s₁ := by
    intro H hO hS hok hA hK
    have base_of : ∀ {b : Addr} {o : Obj}, s₁.heap.get? b = some o → H b = none → (hidT s₁.heap H).get? b = some o := fun e n => hidT_get e n
    have noA : ∀ {b : Addr} {o : Obj} {es : Array DictEntry} {ep : Nat}, s₁.heap.get? b = some o → o.data = .dict es ep → H b = none := fun {b o es ep} e d => by
      cases q : H b with
      | none => rfl
      | some u =>
        have e' : b = a := hA b (by rw [q]; simp)
        subst e'
        rw [ha] at e; cases e
        have d' : Data.seq vs.toArray _ = Data.dict es ep := d
        cases d'
    have nsK : ∀ {b : Addr} {m : Str → Option Value}, s₁.heap.Ns b m → (hidT s₁.heap H).Ns b m := fun {b m} ⟨o, es, ep, e, d, r⟩ => ⟨o, es, ep, base_of e (noA e d), d, r⟩
    have hKb : K.In (hidT s₁.heap H) := fun b o e => base_of (KX b o e) (by
      cases q : H b with
      | none => rfl
      | some u =>
        have e' : b = a := hA b (by rw [q]; simp)
        subst e'
        rw [hK (by rw [q]; simp)] at e; cases e)
    have hM : Mod K mg (hidT s₁.heap H) := ⟨hKb, nsK hns, ⟨mb, nsK hb, hbb⟩, let ⟨mc, h1, h2⟩ := hlim; ⟨mc, nsK h1, h2⟩⟩
    have e0 : Env0 P w K mg (hidT s₁.heap H) callerA [] s₁ H := ⟨rfl, hM, fun b o e => of_hidT e, Nat.le_of_eq (hidT_size _ _), trivial, fun b hb => absurd (show b ∈ ([] : List Addr) from hb) (by simp), hok, .of_eq hg⟩
    refine codeAny_mono ((F _ hKb (nsK hns)).run callerA [] s₁ H ⟨[.ref a], []⟩ [.ref a] [.ref a] _ _ hr e0 (hbind s₁ (.ref a)) (.cons rfl .nil) (hsp H hO hS)) fun r s' h => ?_
    cases r with
    | error e => exact (hCX H e s' h).elim
    | ok fl =>
      cases fl with
      | next => exact False.elim h
      | brk => exact False.elim h
      | cont => exact False.elim h
      | ret u =>
        obtain ⟨v, H', os, bare, un, hok', r', q⟩ := h
        have q' : v = .bl true := q
        subst q'
        obtain rfl : u = Value.bool true := r'
        refine ⟨rfl, OldK.of_keep fun b o e => ?_, os, bare⟩
        cases q : H b with
        | none => exact un.keep b o e q (by intro z; exact absurd (show b ∈ ([] : List Addr) from z) (by simp)) (by simp)
        | some u =>
          rcases hO b with z | ⟨ob, xs, z⟩
          · rw [q] at z; cases z
          · have z2 := un.frzs b ob _ z
            obtain ⟨e1, _⟩ := hok b _ z
            obtain ⟨e2, _⟩ := hok' b _ z2
            rw [e] at e1; cases e1
            exact e2
  cases hk : K.lookup a with
  | some o =>
    -- the script is one of the module's own objects
    have e := KX a o hk
    rw [ha] at e
    cases e
    refine core (fun _ => none) (fun _ => .inl rfl) (.inr ⟨_, vs.toArray, _, hk, rfl, rfl, rfl, by rw [List.size_toArray, lenV]; exact hl, by simpa using rv⟩) (fun b u z => by have z' : (none : Option HO) = some u := z; cases z') (fun b z => absurd rfl z) fun z => absurd rfl z
  | none =>
    refine core (fun b => if b = a then some (.frz { cls := .type "list", data := .seq vs.toArray } (.lst (ns.map V.int))) else none) (fun b => ?_) (.inl (.inr ⟨{ cls := .type "list", data := .seq vs.toArray }, if_pos rfl⟩)) (fun b u z => ?_) (fun b z => ?_) fun _ => hk
    · by_cases hb : b = a
      · exact .inr ⟨_, _, if_pos hb⟩
      · exact .inl (if_neg hb)
    · by_cases hb : b = a
      · have z' := (if_pos hb).symm.trans z
        cases z'
        subst hb
        exact ⟨ha, by rw [List.length_map]; exact hl, vs, _, rv, ha⟩
      · have z' := (if_neg hb).symm.trans z
        cases z'
    · by_cases hb : b = a
      · exact hb
      · exact absurd (if_neg hb) z
end L2

namespace L2
open PySem PySem.Spec PyProof.Rows

abbrev KOf {K : PySem.W.Frag} {h : Heap} (_ : K.In h) : PySem.W.Frag := K

theorem walk_of {l : PySem.W.OpenLaw} {n k : Nat} {q : Program} {loose : List Str} {XP : (Str → Option Value) → Heap → Prop} {YP : World → Heap → Prop} {d : DefRec} {K : Params → PySem.W.Frag} {CX : World → CXT} {sp : World → Sp} {x : Str}
    (hn : l.most = some n) (hn2 : n ≤ sizeLine) (hdf : d.params.defaults = []) (hr : Room k callerA)
    (hY : ∀ (w : World) (h : Heap), YP w h → (K w.params).In h)
    (F : ∀ (w : World) (mg : Str → Option Value) (fa : Addr) (h : Heap), (K w.params).In h → h.Ns mainGlobals mg → mg d.name = some (.ref fa) →
      ∃ fd : FuncData, (∀ (s : Shared) (u : Value), BindsTo s fd ⟨[u], []⟩ [(x, u)]) ∧
        ∀ base : Heap, (K w.params).In base → base.Ns mainGlobals mg → FnOk l.prog w (K w.params) mg base (CX w) k fa fd [x] (sp w))
    (hsp : ∀ (w : World) (H : Hp) (a : Addr) (ns : List Int), ns.length ≤ n → Only H → SqL (K w.params) H a (ns.map V.int) → sp w [.ref a] H (fun v _ => v = .bl true) fun _ _ _ => False)
    (hCX : ∀ (w : World) (H : Hp) (s : Shared) (e : Value) (s' : Shared), CX w [] H s (fun _ _ _ => False) e s' → False) :
    PySem.W.WalkO q loose XP YP l.row.toRowW d [] (fun f vs => PySem.call f vs) := by
  refine Att.attach_call hn hdf fun w s₀ s₁ mg mb fa o pm cd doc a vs ns G Y ho hd hcd hmg hobj hints hlen hg => ?_
  have KX := hY w _ Y
  obtain ⟨fd, hb, hF⟩ := F w mg fa _ KX G.T.g hmg
  exact law_call KX G.T.g G.T.b G.T.builtins G.T.nolimit hg hobj hints (Nat.le_trans hlen hn2) hr hF hb (fun H hO hS => hsp w H a ns hlen hO hS) fun H e s' => hCX w H s₁ e s'
end L2

/- THE LAST THEOREM (shape; LID, My.* are yours):
   My.Adr: a structure of the addresses that your layer names (classes, functions); My.Txt K t: a structure (Prop) of the equations over K;
   My.txt_mk : {K} {implicit addresses ..} (e1 : nsIn K mainGlobals "law" = some (some (.ref f))) (e2 : K.lookup f = some ⟨oc, od, .func (fnOf "law" "law" params body scope dV kV doc pm an cdv ct), sl⟩) (e3 : codeIn K cdv "law" = true) .. : ∃ t, My.Txt K t

set_option maxRecDepth 100000 in
set_option maxHeartbeats 0 in
theorem PySem.Challenge.cw_LID_holds : PySem.Challenge.rw_LID.Holds := by
  w_on; o_law; k_head; (case hw => w_witness2)
  k_fill
  refine L2.walk_of (l := PySem.Challenge.rw_LID) (n := 63) (k := 40) (x := "script") (CX := fun w => ..) (sp := fun _ => My.sp_law) rfl (by decide) rfl ⟨rfl, by decide, by decide⟩ (fun w h Y => PySem.W.kIn_of Y) ?F ?S ?C
  case F =>
    intro w mg fa h KX G hmg
    have T : ∃ t, My.Txt (L2.KOf KX) t := by
      dsimp only [L2.KOf]                          -- K must stand as «<heap const> w.params» for k_is
      refine' My.txt_mk ?e1 ?e2 ?e3 ..
      (case e1 => PySem.W.k_is)                    -- in the order: a name -> its address -> its object -> its parts
      (case e2 => PySem.W.k_is)
      ..
    obtain ⟨t, T⟩ := T
    have e0 := hmg.symm.trans (PySem.W.mg_of KX G T.law)
    cases e0                                       -- fa is the law's own address
    exact ⟨_, fun s u => .of_eq rfl, fun base kb nb => My.law_fn T kb nb⟩     -- if «.of_eq rfl» comes too early: refine' ⟨_, ?b, fun base kb nb => My.law_fn T kb nb⟩; exact fun s u => .of_eq rfl
  case S => exact fun w H a ns hl hO hS => ..
  case C => exact ..
(the tactic k_is has no namespace: write k_is) -/

namespace L2
open PySem PySem.Spec PyProof.Rows

def inClass (s : Stmt) (j : Nat) : Stmt := match s with
  | .ClassDef _ _ _ body _ _ _ _ _ _ _ => body.getD j (.Pass ⟨0, 0, 0, 0⟩)
  | _ => .Pass ⟨0, 0, 0, 0⟩
def defArgs (s : Stmt) : Arguments := match s with
  | .FunctionDef _ a _ _ _ _ _ _ _ _ => a
  | _ => { posonlyargs := [], args := [], vararg := none, kwonlyargs := [], kw_defaults := [], kwarg := none, defaults := [] }
def defBody (s : Stmt) : List Stmt := match s with
  | .FunctionDef _ _ b _ _ _ _ _ _ _ => b
  | _ => []
def defScope (s : Stmt) : Scope := match s with
  | .FunctionDef _ _ _ _ _ _ sc _ _ _ => sc
  | _ => { kind := .function, names := [], isGenerator := false, isCoroutine := false }

abbrev CX0 : CXT := fun _ _ _ _ _ _ => False
abbrev E0 : XK := fun _ _ _ => False
theorem pass0 {X : Cx} : Passes CX0 X E0 := fun _ _ _ _ _ _ _ h => h.elim

structure Fun (K : PySem.W.Frag) (x qual : Str) (st : Stmt) (f : Addr) (fd : FuncData) : Prop where
  ex : ∃ (oc : Value) (od : Option Addr) (kV doc pm : Value) (an : Option Addr) (cdv ct : Value) (osl : Array (Option Value)),
    fd = PySem.W.fnOf x qual (defArgs st) (defBody st) (defScope st) .none kV doc pm an cdv ct ∧ K.lookup f = some ⟨oc, od, .func fd, osl⟩ ∧ PySem.W.codeIn K cdv qual = true
  kp : PySem.W.keepIn K (.ref f) = true
section
variable {P : Program} {w : World} {K : PySem.W.Frag} {mg : Str → Option Value} {base : Heap}
theorem Fun.ok {x qual : Str} {st : Stmt} {f : Addr} {fd : FuncData} {N ps : List Str} {k : Nat} {sp : Sp} (F : Fun K x qual st f fd) (S : FnScope N ps (defScope st)) (len : ∀ vs H Q E, sp vs H Q E → vs.length = ps.length)
    (hbody : ∀ (cdv : Value) (A : Around) (outer : List Env) (s : Shared) (H : Hp) (vs : List V) (Q : VK) (E : XK), Room k (A.deeper (envOfC qual (defScope st) s.heap.objs.size f cdv)) → sp vs H Q E →
      ∃ t, PSs (cxOf CX0 P w K mg base N qual (defScope st) f cdv A outer s H E).nox (defBody st) t ∧ t { nx := fun _ H' => Q .non H', rt := Q } (start N vs) H) : FnOk P w K mg base CX0 (k + 1) f fd ps sp := by
  obtain ⟨oc, od, kV, doc, pm, an, cdv, ct, osl, rfl, lk, hcd⟩ := F.ex
  refine fn_of lk hcd S len fun A outer s H vs Q E hr hsp => ?_
  obtain ⟨t, h, q⟩ := hbody cdv A outer s H vs Q E hr hsp
  exact ⟨t, h.nox, q⟩
theorem Fun.binds {x qual : Str} {st : Stmt} {f : Addr} {fd : FuncData} {ps : List Str} (F : Fun K x qual st f fd)
    (h : ∀ (kV doc pm : Value) (an : Option Addr) (cdv ct : Value) (us : List Value), us.length = ps.length → bindArgs (PySem.W.fnOf x qual (defArgs st) (defBody st) (defScope st) .none kV doc pm an cdv ct) ⟨us, []⟩ = pure (ps.zip us)) : Binds K fd ps [] := by
  obtain ⟨oc, od, kV, doc, pm, an, cdv, ct, osl, rfl, lk, hcd⟩ := F.ex
  exact .all (h kV doc pm an cdv ct)
theorem fun_mk {x qual : Str} {st : Stmt} {f : Addr} {oc : Value} {od an : Option Addr} {osl : Array (Option Value)} {kV doc pm cdv ct : Value} (l : K.lookup f = some ⟨oc, od, .func (PySem.W.fnOf x qual (defArgs st) (defBody st) (defScope st) .none kV doc pm an cdv ct), osl⟩)
    (c : PySem.W.codeIn K cdv qual = true) (k : PySem.W.keepIn K (.ref f) = true) : Fun K x qual st f (PySem.W.fnOf x qual (defArgs st) (defBody st) (defScope st) .none kV doc pm an cdv ct) := ⟨⟨oc, od, kV, doc, pm, an, cdv, ct, osl, rfl, l, c⟩, k⟩
end
theorem small1000 {n : Nat} (h : n ≤ 1000) : n < sizeLine := Nat.lt_of_le_of_lt h (by decide)

section
variable {X : Cx}
theorem pv (i : Nat) {x : Str} {pos : Pos} (hN : X.N[i]? = some x := by rfl) (hv : Vis X.env.scope x := by first | exact Or.inl rfl | exact Or.inr (Or.inl rfl) | exact Or.inr (Or.inr rfl)) (hd : (x == ("__debug__" : Str)) = false := by decide)
    (hcd : (x == ("__classdict__" : Str)) = false := by decide) : PE X (.Name x pos) (tVar i) := pe_var hN hv hd hcd
end

def Same (H H' : Hp) : Prop := ∀ b o, H b = some o → H' b = some o
theorem Same.refl (H : Hp) : Same H H := fun _ _ h => h
theorem Same.trans {H H1 H2 : Hp} (a : Same H H1) (b : Same H1 H2) : Same H H2 := fun c o h => b c o (a c o h)
theorem Same.free {H H' : Hp} (e : Same H H') {l : Addr} (h : H' l = Option.none) : H l = Option.none := by
  cases q : H l with
  | none => rfl
  | some o =>
    rw [e l o q] at h
    cases h
theorem Same.seq {K : PySem.W.Frag} {H H' : Hp} {a : Addr} {xs : List V} (e : Same H H') (h : SqL K H a xs) : SqL K H' a xs := by
  rcases h with (h | ⟨o, h⟩) | h
  · exact .inl (.inl (e _ _ h))
  · exact .inl (.inr ⟨o, e _ _ h⟩)
  · exact .inr h

end L2

set_option Elab.async false
set_option linter.all false
set_option maxRecDepth 100000
set_option maxHeartbeats 4000000
namespace L2
open PySem PySem.Spec PyProof.Rows

theorem comp_loop {prog : Program} {w : World} {A : Around} {R : Result → Shared → Prop} {s : Shared} {elt target iter : Expr} {ifs : List Expr} {scope : Scope} {pos : Pos} {it acc : Value} {env : Env} (I : Nat → Shared → Prop)
    (turn : ∀ n s, I n s → wpAny (model prog w) A (pyNext it) (fun r s₁ => match r with
      | none => R (.ok .next) s₁
      | some v => wpAny (model prog w) A (letOwnedTupleGo target it v) (fun _ s₁' => wpAny (model prog w) A (assign target env v) (fun _ s₂ =>
          wpAny (model prog w) A (forIn ifs true fun c r => if r = true then do let ok ← isTrue c env (eval c env); pure (ForInStep.yield ok) else pure (ForInStep.yield r)) (fun ok s₃ =>
            if ok = true then wpAny (model prog w) A (eval elt env) (fun x s₄ =>
              wpAny (model prog w) A (call (.builtin "list.append") [acc, x]) (fun _ s₅ => ∃ m, m < n ∧ I m s₅) (fun _ _ => False) s₄) (fun _ _ => False) s₃
            else ∃ m, m < n ∧ I m s₃) (fun _ _ => False) s₂) (fun _ _ => False) s₁') (fun _ _ => False) s₁) (fun _ _ => False) s)
    (n : Nat) (h : I n s) :
    codeAny (model prog w) A (.compLoop (.ListComp elt [⟨target, iter, ifs, 0⟩] scope pos) 0 it acc env) R s := by
  refine codeAny_loop rfl I (fun n s hI => ?_) n h
  show wpAny _ A ((compTurn (.ListComp elt [⟨target, iter, ifs, 0⟩] scope pos) 0 it acc env).onRaise (fun x => do noteFrame x env; theTreesLotGoes x)) _ _ s
  refine wpAny_noted ?_
  rw [compTurn_list]
  refine wpAny_bind (wpAny_standAt (wpAny_bind (wpAny_mono (turn n s hI) (fun r s₁ h₁ => ?_) fun _ _ z => False.elim z)))
  cases r with
  | none => exact wpAny_pure h₁
  | some v =>
    refine wpAny_bind (wpAny_mono h₁ (fun _ s₁' h₁' => ?_) fun _ _ z => False.elim z)
    refine wpAny_bind (wpAny_mono h₁' (fun _ s₂ h₂ => wpAny_bind (wpAny_mono h₂ (fun ok s₃ h₃ => ?_) fun _ _ z => False.elim z)) fun _ _ z => False.elim z)
    cases ok with
    | false => exact wpAny_pure ⟨rfl, h₃⟩
    | true =>
      exact wpAny_bind (wpAny_bind (wpAny_mono h₃ (fun x s₄ h₄ => wpAny_bind (wpAny_mono h₄ (fun _ s₅ h₅ => wpAny_pure (wpAny_pure ⟨rfl, h₅⟩)) fun _ _ z => False.elim z)) fun _ _ z => False.elim z))

def clGo (cells : List (Str × Addr)) : List (Str × NameKind) → List (Str × Addr) → List (Str × Addr)
  | [], acc => acc
  | (n, k) :: r, acc => if k == .free then clGo cells r ((n, (cells.lookup n).getD 0) :: acc) else clGo cells r acc
theorem clos_go {env : Env} : ∀ (names : List (Str × NameKind)) (acc : List (Str × Addr)), (∀ y ∈ names, y.2 = .free → ∃ c, env.cells.lookup y.1 = some c) →
    (forIn names acc fun x r => if (x.snd == NameKind.free) = true then do let a ← cellOf env x.fst; pure (ForInStep.yield ((x.fst, a) :: r)) else pure (ForInStep.yield r)) = (pure (clGo env.cells names acc) : Sem _)
  | [], acc, _ => rfl
  | (n, k) :: r, acc, h => by
    rw [List.forIn_cons]
    have hr : ∀ y ∈ r, y.2 = .free → ∃ c, env.cells.lookup y.1 = some c := fun y hy => h y (List.mem_cons_of_mem _ hy)
    by_cases hk : k = .free
    · subst hk
      obtain ⟨c, hc⟩ := h (n, .free) List.mem_cons_self rfl
      have ih := clos_go r ((n, c) :: acc) hr
      simp only [clGo, beq_self_eq_true, if_true, cellOf, hc, Option.getD_some, pure_bind]
      exact ih
    · have hb : (k == NameKind.free) = false := by simpa using hk
      have ih := clos_go r acc hr
      simp only [clGo, hb, Bool.false_eq_true, if_false, pure_bind]
      exact ih
theorem clos_eq {scope : Scope} {env : Env} (h : ∀ y ∈ scope.names, y.2 = .free → ∃ c, env.cells.lookup y.1 = some c) : closureFor scope env = pure (clGo env.cells scope.names []) := by
  have e := clos_go (env := env) scope.names [] h
  simp only [closureFor]
  rw [e]
  rfl
theorem clGo_sub {cells : List (Str × Addr)} : ∀ (names : List (Str × NameKind)) (acc : List (Str × Addr)), (∀ y ∈ names, y.2 = .free → ∃ c, cells.lookup y.1 = some c) → (∀ y c, acc.lookup y = some c → cells.lookup y = some c) →
    ∀ y c, (clGo cells names acc).lookup y = some c → cells.lookup y = some c
  | [], acc, _, ha, y, c, e => ha y c e
  | (n, k) :: r, acc, h, ha, y, c, e => by
    have hr : ∀ y ∈ r, y.2 = .free → ∃ c, cells.lookup y.1 = some c := fun y hy => h y (List.mem_cons_of_mem _ hy)
    by_cases hk : k = .free
    · subst hk
      obtain ⟨d, hd⟩ := h (n, .free) List.mem_cons_self rfl
      simp only [clGo, beq_self_eq_true, if_true] at e
      refine clGo_sub r _ hr (fun z b q => ?_) y c e
      rw [List.lookup_cons] at q
      cases hz : z == n with
      | true =>
        rw [hz] at q
        have : z = n := by simpa using hz
        subst this
        rw [hd] at q ⊢
        exact q
      | false => rw [hz] at q; exact ha z b q
    · have hb : (k == NameKind.free) = false := by simpa using hk
      simp only [clGo, hb, Bool.false_eq_true, if_false] at e
      exact clGo_sub r acc hr ha y c e
theorem clGo_acc {cells : List (Str × Addr)} : ∀ (names : List (Str × NameKind)) (acc : List (Str × Addr)) (y : Str), (∃ c, acc.lookup y = some c) → ∃ c, (clGo cells names acc).lookup y = some c
  | [], acc, y, h => h
  | (n, k) :: r, acc, y, h => by
    by_cases hk : (k == NameKind.free) = true
    · simp only [clGo, hk, if_true]
      refine clGo_acc r _ y ?_
      rw [List.lookup_cons]
      cases hz : y == n with
      | true => exact ⟨_, rfl⟩
      | false => exact h
    · simp only [clGo, hk, if_false]
      exact clGo_acc r acc y h
theorem clGo_has {cells : List (Str × Addr)} : ∀ (names : List (Str × NameKind)) (acc : List (Str × Addr)) (y : Str), (y, NameKind.free) ∈ names → ∃ c, (clGo cells names acc).lookup y = some c
  | (n, k) :: r, acc, y, h => by
    rcases List.mem_cons.mp h with e | h
    · cases e
      simp only [clGo, beq_self_eq_true, if_true]
      refine clGo_acc r _ _ ?_
      rw [List.lookup_cons]
      simp
    · by_cases hk : (k == NameKind.free) = true
      · simp only [clGo, hk, if_true]
        exact clGo_has r _ y h
      · simp only [clGo, hk, if_false]
        exact clGo_has r _ y h
theorem lookup_memC {β : Type} : ∀ {l : List (Str × β)} {y : Str} {b : β}, l.lookup y = some b → (y, b) ∈ l
  | [], _, _, e => by cases e
  | (n, k) :: r, y, b, e => by
    rw [List.lookup_cons] at e
    cases hz : y == n with
    | true =>
      rw [hz] at e
      have : y = n := by simpa using hz
      subst this
      cases e
      exact List.mem_cons_self
    | false => rw [hz] at e; exact List.mem_cons_of_mem _ (lookup_memC e)
theorem relabel_free {scope : Scope} {env : Env} {y : Str} (hc : ∀ z ∈ scope.names, z.2 ≠ .cell) (h : (relabel scope env).names.lookup y = some .cell ∨ (relabel scope env).names.lookup y = some .free) : (y, NameKind.free) ∈ scope.names := by
  have key : ∀ k, (relabel scope env).names.lookup y = some k → (k = .cell ∨ k = .free) → (y, NameKind.free) ∈ scope.names := fun k e hk => by
    have m := lookup_memC e
    obtain ⟨⟨n, k0⟩, hm, e0⟩ := List.mem_map.mp m
    dsimp only at e0
    split at e0
    · rename_i hh
      cases e0
      have : k0 = .free := by
        simp only [Bool.and_eq_true, beq_iff_eq] at hh
        exact hh.1.1
      subst this
      exact hm
    · cases e0
      rcases hk with rfl | rfl
      · exact absurd rfl (hc _ hm)
      · exact hm
  rcases h with h | h
  · exact key _ h (.inl rfl)
  · exact key _ h (.inr rfl)
theorem relabel_vis {env : Env} : ∀ {names : List (Str × NameKind)} {y : Str}, names.lookup y = some .free →
    (names.map fun (n, k) => if (k == NameKind.free && env.scope.kind == .function && env.kindOf n == some .cell) then (n, NameKind.cell) else (n, k)).lookup y = some .cell ∨
    (names.map fun (n, k) => if (k == NameKind.free && env.scope.kind == .function && env.kindOf n == some .cell) then (n, NameKind.cell) else (n, k)).lookup y = some .free
  | [], _, h => by simp at h
  | (n, k) :: r, y, h => by
    have ih := @relabel_vis env r y
    simp only [List.map_cons]
    cases hx : y == n with
    | true =>
      simp only [List.lookup_cons, hx] at h
      cases h
      by_cases hc : (NameKind.free == NameKind.free && env.scope.kind == .function && env.kindOf n == some .cell) = true
      · rw [if_pos hc]; left; simp only [List.lookup_cons, hx]
      · rw [if_neg hc]; right; simp only [List.lookup_cons, hx]
    | false =>
      simp only [List.lookup_cons, hx] at h
      by_cases hc : (k == NameKind.free && env.scope.kind == .function && env.kindOf n == some .cell) = true
      · rw [if_pos hc]; simp only [List.lookup_cons, hx]; exact ih h
      · rw [if_neg hc]; simp only [List.lookup_cons, hx]; exact ih h

def cxC (X : Cx) (scope : Scope) (cl : List (Str × Addr)) (N : List Str) (s₃ : Shared) (H₃ : Hp) (fp : List Addr) : Cx where
  prog := X.prog
  w := X.w
  K := X.K
  mg := X.mg
  base := X.base
  A := X.A
  N := N
  s₀ := s₃
  H₀ := H₃
  env := compEnvC scope cl s₃.heap.objs.size X.env
  outer := X.stack
  stack := X.stack
  ex := fp
  fn := fun _ => false
  calm := true
  pn := []
  xe := fun _ _ => False

structure CompOk (scope sc : Scope) (N0 : List Str) (js : List Nat) (os N : List Str) : Prop where
  kind : scope.kind = .function
  cell : ∀ y ∈ scope.names, y.2 ≠ .cell
  names : ∀ y ∈ scope.names, y.2 = .local → scope.names.lookup y.1 = some .local
  free : ∀ y ∈ scope.names, y.2 = .free → (sc.names.lookup y.1 = some .cell ∨ sc.names.lookup y.1 = some .free)
  slots : ∀ j ∈ js, ((N0[j]?).bind fun y => scope.names.lookup y) = some .free
  eq : N.map some = js.map (N0[·]?) ++ os.map some

def stC (js : List Nat) (os : List Str) (σ : St) : St := js.map (fun j => (σ[j]?).join) ++ List.replicate os.length none

def PIfs (X : Cx) (ifs : List Expr) (t : TT) : Prop :=
  ∀ (pins : List (Addr × Obj)) (s : Shared) (σ : St) (H : Hp) (Q : Bool → Hp → Prop), Inv X pins σ H s → t σ H Q →
    wpAny (model X.prog X.w) X.A (forIn ifs true fun c r => if r = true then do let ok ← isTrue c X.env (eval c X.env); pure (ForInStep.yield ok) else pure (ForInStep.yield r)) (TP X pins σ Q) X.xe s
def tYes : TT := fun _ H Q => Q true H
theorem pifs_nil {X : Cx} : PIfs X [] tYes := fun _ _ _ H _ I h => wpAny_pure ⟨H, I, h⟩
def tComp (js : List Nat) (os : List Str) (wi : TI) (g : TG) (tt : TT) (te : TE) : TE := fun σ H Q => wi σ H fun J H1 => ∀ p, H1 p = none →
  ∃ W : Nat → Nat → St → Hp → Prop, (∃ m, W 0 m (stC js os σ) (upd H1 p (.lst []))) ∧ ∀ i m σ H, W i m σ H →
    (J.stop i H ∧ Q (.ref p) H) ∨ (J.go i H ∧ ∀ x H', J.yld i H x H' → g x σ H' fun σ2 H2 => tt σ2 H2 fun b H3 =>
      if b = true then te σ2 H3 fun y H4 => ∃ ys, H4 p = some (.lst ys) ∧ ys.length < sizeLine ∧ ∃ m', m' < m ∧ W (i + 1) m' σ2 (upd H4 p (.lst (ys ++ [y])))
      else ∃ m', m' < m ∧ W (i + 1) m' σ2 H3)

section
variable {X : Cx}
theorem inv_comp {scope sc : Scope} {N0 N os : List Str} {js fp : List Nat} {pins : List (Addr × Obj)} {σ : St} {H₃ : Hp} {s₃ : Shared} {h' : Heap} {t' : Nat} {m : Str → Option Value}
    (hc : X.calm = true) (hsc : X.env.scope = sc) (hN : X.N = N0) (ok : CompOk scope sc N0 js os N) (I : Inv X pins σ H₃ s₃) (hf : ∀ b ∈ fp, FpOk X pins H₃ b) (hfs : ∀ b ∈ fp, b < s₃.heap.objs.size)
    (hns : h'.Ns s₃.heap.objs.size m) (hk : ∀ b o, s₃.heap.get? b = some o → h'.get? b = some o) :
    Inv (cxC X scope (clGo X.env.cells scope.names []) N s₃ H₃ fp) [] (stC js os σ) H₃ { s₃ with heap := h', toks := t' } := by
  have hfree : ∀ y ∈ scope.names, y.2 = .free → ∃ c, X.env.cells.lookup y.1 = some c := fun y hy e => I.ok.has _ (by
    have := ok.free y hy e
    rw [← hsc] at this
    exact this)
  have sub := clGo_sub (cells := X.env.cells) scope.names [] hfree (fun _ _ e => by cases e)
  have has : ∀ y, (y, NameKind.free) ∈ scope.names → ∃ c, (clGo X.env.cells scope.names []).lookup y = some c := fun y hy => clGo_has scope.names [] y hy
  refine ⟨⟨I.ok.mod, ok.kind, I.ok.glob, I.ok.blt, Nat.le_refl _, fun x y c e1 e2 => I.ok.inj x y c (sub _ _ e1) (sub _ _ e2), fun x e => has x (relabel_free ok.cell e), (fun _ _ e => by cases e), (fun _ => I.ok.hd hc), I.ok.frames, .inl rfl, ?_, ?_, ?_, ?_, ?_, I.stack, I.stkFree⟩,
    rfl, I.bare, Un.kept hk, ⟨m, hns, ?_⟩, ?_, I.hok.fresh (Nat.le_refl _), ?_, ?_, I.hok.kept hk, ?_⟩
  · exact fun b hb => ⟨Nat.ne_of_lt (hfs b hb), fun x c e => (hf b hb).2.2.2.2.1 x c (sub _ _ e)⟩
  · exact I.bs
  · exact Nat.le_trans I.ok.bsz I.sz
  · intro b o e hb
    rcases (hf b hb).2.2.2.1 with z | z
    · exact I.ok.noex b o e z
    · exact absurd (Nat.lt_of_lt_of_le (Heap.lt_size e) (Nat.le_trans I.ok.bsz z)) (Nat.lt_irrefl _)
  · intro b hb z
    rcases List.mem_cons.mp (I.stkSub b z) with e | e
    · exact (hf b hb).2.1 e
    · exact (hf b hb).2.2.1 e
  · intro i x v e1 e2 e3
    have hl : i < js.length := by
      apply Classical.byContradiction
      intro hh
      have e2' : (stC js os σ)[i]? = some (some v) := e2
      unfold stC at e2'
      rw [List.getElem?_append_right (by simpa using Nat.le_of_not_lt hh)] at e2'
      rw [List.getElem?_replicate] at e2'
      split at e2' <;> cases e2'
    have ej : js[i]? = some js[i] := List.getElem?_eq_getElem hl
    have e2' : (stC js os σ)[i]? = some (some v) := e2
    unfold stC at e2'
    rw [List.getElem?_append_left (by simpa using hl), List.getElem?_map, ej] at e2'
    have e2'' : (σ[js[i]]?).join = some v := Option.some.inj e2'
    have e1' : N[i]? = some x := e1
    have en : N0[js[i]]? = some x := by
      have q : (N.map some)[i]? = some (some x) := by rw [List.getElem?_map, e1']; rfl
      rw [ok.eq, List.getElem?_append_left (by simpa using hl), List.getElem?_map, ej] at q
      exact Option.some.inj q
    have hfr := ok.slots _ (List.getElem_mem hl)
    rw [en] at hfr
    replace hfr : scope.names.lookup x = some .free := hfr
    have eσ : σ[js[i]]? = some (some v) := by
      cases q : σ[js[i]]? with
      | none => rw [q] at e2''; cases e2''
      | some o => rw [q] at e2''; exact congrArg some e2''
    have kk := ok.free (x, .free) (lookup_memC hfr) rfl
    obtain ⟨m0, hn0, hl0⟩ := I.loc
    obtain ⟨u, r, l⟩ := hl0 js[i] x v (by rw [hN]; exact en) eσ (by rw [hsc]; exact .inr kk)
    refine ⟨u, r, .inr ⟨relabel_vis hfr, ?_⟩⟩
    rcases l with ⟨k, _⟩ | ⟨k, c, e, z⟩
    · have k' : sc.names.lookup x = some .local := by rw [← hsc]; exact k
      rcases kk with q | q <;> (dsimp only at q; rw [q] at k'; cases k')
    · obtain ⟨c', hc'⟩ := has x (lookup_memC hfr)
      have := sub _ _ hc'
      rw [e] at this; cases this
      exact ⟨c, hc', z.keeps hk⟩
  · intro x c e
    obtain ⟨v, z⟩ := I.cell x c (sub _ _ e)
    exact ⟨v, z.keeps hk⟩
  · exact fun x c e => I.freeC x c (sub _ _ e)
  · intro p hp
    cases hp
  · show (stC js os σ).length = N.length
    have := congrArg List.length ok.eq
    simp at this
    simp [stC, this]

theorem pe_comp {elt iter tg : Expr} {ifs : List Expr} {scope sc : Scope} {pos : Pos} {wi : TI} {g : TG} {tt : TT} {te : TE} {N0 N os : List Str} {js : List Nat}
    (hc : X.calm = true) (hsc : X.env.scope = sc) (hN : X.N = N0) (ok : CompOk scope sc N0 js os N) (hi : PI X tg iter wi)
    (hg : ∀ s₃ H₃ fp cl, PG (cxC X scope cl N s₃ H₃ fp) tg g) (ht : ∀ s₃ H₃ fp cl, PIfs (cxC X scope cl N s₃ H₃ fp) ifs tt) (he : ∀ s₃ H₃ fp cl, PE (cxC X scope cl N s₃ H₃ fp) elt te)
    (hs : ∀ x, foldedSetIterable iter X.env x = pure x := by intro _; rfl) :
    PE X (.ListComp elt [⟨tg, iter, ifs, 0⟩] scope pos) (tComp js os wi g tt te) := by
  intro pins s σ H Q I h
  rw [eval_ListComp]
  have hfree : ∀ y ∈ scope.names, y.2 = .free → ∃ c, X.env.cells.lookup y.1 = some c := fun y hy e => I.ok.has _ (by
    have := ok.free y hy e
    rw [← hsc] at this
    exact this)
  refine wpAny_comprehension_free (use := none) rfl hs (clos_eq hfree) ok.kind ok.names (thn (hi pins s σ H _ I h) fun v s1 h1 => thn h1 fun itv s2 h2 => ?_)
  obtain ⟨it, fp, tn, J, H1, e, I2, T, st2, f2, hW⟩ := h2
  subst e
  refine wpAny_newObj_type (wpAny_newFunctionEnv ok.cell (by intro y hy; simp at hy) (fun h₁ hns₁ hsb₁ => ?_) ok.kind)
  dsimp only at hns₁ hsb₁ ⊢
  have hfr : H1 s2.heap.objs.size = none := I2.fresh
  have I3 := I2.lnew (ys := []) (its := []) (t' := s2.toks) .nil (Nat.zero_le _)
  generalize hs3 : ({ s2 with heap := s2.heap.push { cls := .type "list", data := .seq ([] : List Value).toArray }, toks := s2.toks } : Shared) = s₃ at I3
  have eh : s2.heap.push { cls := .type "list", dict := none, data := .seq ([] : List Value).toArray } = s₃.heap := by rw [← hs3]
  rw [eh] at hns₁ hsb₁ ⊢
  have k23 : ∀ b o, s2.heap.get? b = some o → s₃.heap.get? b = some o := fun b o q => by rw [← eh]; exact Heap.get?_push_of_some _ q
  have lt2 : ∀ b ∈ fp, b < s2.heap.objs.size := fun b hb => by
    obtain ⟨o, q, _⟩ := T.obj _ _ st2 b hb
    exact Heap.lt_size q
  have sz3 : s2.heap.objs.size ≤ s₃.heap.objs.size := by rw [← eh, Heap.size_push]; exact Nat.le_succ _
  have f3 : ∀ b ∈ fp, FpOk X pins (upd H1 s2.heap.objs.size (.lst [])) b := fun b hb => ⟨by rw [upd_ne (Nat.ne_of_lt (lt2 b hb))]; exact (f2 b hb).1, (f2 b hb).2⟩
  have k34 : ∀ b o, s₃.heap.get? b = some o → h₁.get? b = some o := fun b o q => hsb₁.extBut b o (Nat.ne_of_lt (Heap.lt_size q)) (Heap.get?_push_of_some _ q)
  have I4 := inv_comp (t' := s₃.toks) hc hsc hN ok I3 f3 (fun b hb => Nat.lt_of_lt_of_le (lt2 b hb) sz3) hns₁ k34
  generalize hX' : cxC X scope (clGo X.env.cells scope.names []) N s₃ (upd H1 s2.heap.objs.size (.lst [])) fp = X' at I4
  obtain ⟨W, ⟨m0, w0⟩, turn⟩ := hW _ hfr
  have st4 : tn 0 h₁ := T.keep _ _ _ st2 fun b hb o q => k34 b o (k23 b o q)
  have stat : ∀ {H' : Hp}, (∀ b ∈ fp, H' b = none) → ∀ b ∈ fp, FpOk X' [] H' b := fun {H'} hn b hb => by
    subst hX'
    refine ⟨hn b hb, Nat.ne_of_lt (Nat.lt_of_lt_of_le (lt2 b hb) sz3), fun z => ?_, .inl hb, fun x c e => ?_, fun p hp => by cases hp⟩
    · rcases List.mem_cons.mp (I2.stkSub b z) with q | q
      · exact (f2 b hb).2.1 q
      · exact (f2 b hb).2.2.1 q
    · exact (f2 b hb).2.2.2.2.1 x c (clGo_sub (cells := X.env.cells) scope.names [] hfree (fun _ _ e => by cases e) _ _ e)
  have ePr : X'.prog = X.prog := by subst hX'; rfl
  have eW : X'.w = X.w := by subst hX'; rfl
  have eK : X'.K = X.K := by subst hX'; rfl
  have eA : X'.A = X.A := by subst hX'; rfl
  have eE : X'.env = compEnvC scope (clGo X.env.cells scope.names []) s₃.heap.objs.size X.env := by subst hX'; rfl
  have eC : X'.calm = true := by subst hX'; rfl
  have eX : X'.xe = fun _ _ => False := by subst hX'; rfl
  have hg' : PG X' tg g := by subst hX'; exact hg _ _ _ _
  have ht' : PIfs X' ifs tt := by subst hX'; exact ht _ _ _ _
  have he' : PE X' elt te := by subst hX'; exact he _ _ _ _
  have fin : ∀ {σ' : St} {H' : Hp} {s' : Shared}, Inv X' [] σ' H' s' → (∀ b ∈ fp, H' b = none) → Q (.ref s2.heap.objs.size) H' → compPost (model X.prog X.w) X.A X.xe none (EP X pins σ Q) (.ref s2.heap.objs.size) s₃.heap.objs.size (.ok .next) s' := by
    intro σ' H' s' I' hn q
    obtain ⟨m, hm, _⟩ := id I'.loc
    subst hX'
    refine ⟨m, hm, fun h'' sb => ⟨.ref s2.heap.objs.size, H', ?_, rfl, q⟩⟩
    have fC : H' s₃.heap.objs.size = none := I'.free
    have hok' : HOk X.prog X.w H' h'' := fun b ob e => by
      refine (I'.hok b ob e).stay (fun c w' hc' q' => (sb.2 c ?_).trans q') (fun _ q' => q') fun _ _ q' => q'
      rintro rfl
      rcases hc' with z | z
      · have e' := e; rw [← z] at e'; rw [fC] at e'; cases e'
      · rw [fC] at z; cases z
    have u1 : Un (frs X.stack) fp (upd H1 s2.heap.objs.size (.lst [])) H' s₃.heap h'' := by
      have b0 := I'.base
      have ne : ∀ b o, s₃.heap.get? b = some o → b ≠ s₃.heap.objs.size := fun b o e => Nat.ne_of_lt (Heap.lt_size e)
      exact ⟨fun b o e n hb hx => (sb.2 b (ne b o e)).trans (b0.keep b o e n hb hx), fun b o e n hb hx => by
          obtain ⟨sl, z⟩ := b0.slot b o e n hb hx
          exact ⟨sl, (sb.2 b (ne b o e)).trans z⟩, b0.free, fun b o e hx => by
          obtain ⟨o', z⟩ := b0.there b o e hx
          exact ⟨o', (sb.2 b (ne b o e)).trans z⟩, b0.tups, b0.frzs, b0.tbls⟩
    exact I3.call' (s' := { s' with heap := h'' }) (ch := fp) I'.os u1 hok' I'.bare fun b hb => ⟨(f2 b hb).2.2.2.1, (f2 b hb).2.1, (f2 b hb).2.2.2.2.1, (f2 b hb).2.2.2.2.2⟩
  have loop : codeAny (model X.prog X.w) X.A (.compLoop (.ListComp elt [⟨tg, iter, ifs, 0⟩] scope pos) 0 (.ref it) (.ref s2.heap.objs.size) (compEnvC scope (clGo X.env.cells scope.names []) s₃.heap.objs.size X.env))
      (compPost (model X.prog X.w) X.A X.xe none (EP X pins σ Q) (.ref s2.heap.objs.size) s₃.heap.objs.size) { s₃ with heap := h₁, toks := s₃.toks } := by
    refine comp_loop (fun n s' => ∃ i σ' H', Inv X' [] σ' H' s' ∧ tn i s'.heap ∧ (∀ b ∈ fp, H' b = none) ∧ W i n σ' H') ?_ m0 ⟨0, _, _, I4, st4, fun b hb => (f3 b hb).1, w0⟩
    rintro n s5 ⟨i, σ5, H5, I5, st5, fr5, w5⟩
    rw [← ePr, ← eW, ← eA, ← eE]
    rcases turn i n σ5 H5 w5 with ⟨stop, qn⟩ | ⟨go, step⟩
    · have := T.done X' ePr eW eK eC i [] s5 σ5 H5 X'.xe I5 (stat fr5) st5 stop
      rw [eX] at this
      rw [← ePr, ← eW] at this
      refine thn this fun r s6 ⟨hr, I6⟩ => ?_
      subst hr
      dsimp only
      rw [ePr, eW, eA]
      exact fin I6 fr5 qn
    · have := T.item X' ePr eW eK eC i [] s5 σ5 H5 X'.xe I5 (stat fr5) st5 go
      rw [eX] at this
      rw [← ePr, ← eW] at this
      refine thn this fun r s6 ⟨u, hr, h6⟩ => ?_
      subst hr
      dsimp only
      refine thn h6 fun _ s7 ⟨x, H7, I7, r7, y7, st7, fr7⟩ => ?_
      have I7' := I7.pinned (stat fr7) (T.obj _ _ st7)
      have g7 := hg' _ s7 σ5 H7 x u _ I7' r7 (step x H7 y7)
      rw [eX] at g7
      refine thn g7 fun _ s8 ⟨σ8, H8, I8, q8⟩ => ?_
      have t8 := ht' _ s8 σ8 H8 _ I8 q8
      rw [eX] at t8
      have again : ∀ {σ9 : St} {H9 : Hp} {s9 : Shared}, Inv X' ([] ++ pinsAt fp s7.heap) σ9 H9 s9 → tn (i + 1) s9.heap ∧ ∀ b ∈ fp, H9 b = none := fun {σ9 H9 s9} I9 => by
        refine ⟨T.keep _ _ _ st7 fun b hb o e => (I9.pin (b, o) (List.mem_append_right _ (List.mem_append_right _ (mem_pinsAt hb e)))).1, fun b hb => ?_⟩
        obtain ⟨o, e, d⟩ := T.obj _ _ st7 b hb
        exact (I9.pin (b, o) (List.mem_append_right _ (List.mem_append_right _ (mem_pinsAt hb e)))).2.1
      refine thn t8 fun b s9 ⟨H9, I9, q9⟩ => ?_
      cases b with
      | false =>
        rw [if_neg Bool.false_ne_true] at q9 ⊢
        obtain ⟨m', hm, w9⟩ := q9
        exact ⟨m', hm, i + 1, σ8, H9, I9.unpinned, (again I9).1, (again I9).2, w9⟩
      | true =>
        rw [if_pos rfl] at q9 ⊢
        have e9 := he' _ s9 σ8 H9 _ I9 q9
        rw [eX] at e9
        refine thn e9 fun y s10 ⟨z, H10, I10, r10, ys, hy, hlen, m', hm, w10⟩ => ?_
        have a10 := mt_append (X := X') _ s10 σ8 H10 (.ref s2.heap.objs.size) [z] _ _ (fun _ H11 => H11 = upd H10 s2.heap.objs.size (.lst (ys ++ [z]))) I10 rfl (.cons r10 .nil) ⟨_, ys, z, rfl, rfl, hy, hlen, rfl⟩
        rw [eX] at a10
        refine thn a10 fun _ s11 ⟨_, H11, I11, _, e11⟩ => ?_
        subst e11
        exact ⟨m', hm, i + 1, σ8, _, I11.unpinned, (again I11).1, (again I11).2, w10⟩
  have es : ({ s2 with heap := h₁, toks := s2.toks + ([] : List (Str × Value)).length } : Shared) = { s₃ with heap := h₁, toks := s₃.toks } := by rw [← hs3]; rfl
  rw [show ({ s2 with heap := h₁, toks := s2.toks + ([] : List (Str × Value)).length } : Shared) = { s₃ with heap := h₁, toks := s₃.toks } from es]
  exact codeAny_compStart_list loop (T.self _ 0 _ _ _ st4 loop)
end
end L2

set_option Elab.async false
set_option linter.all false
set_option maxRecDepth 100000
set_option maxHeartbeats 4000000
namespace L2
open PySem PySem.Spec PyProof.Rows
section
variable {prog : Program} {w : World} {A : Around} {E : Value → Shared → Prop} {s : Shared}
theorem draw_list {it t : Addr} {items : Array Value} (hne : t ≠ it) : ∀ (n i : Nat) (s : Shared) (Q : List Value → Shared → Prop), s.heap.IsListIter it t i → s.heap.IsList t items → i + n ≤ items.size →
    (∀ h', h'.IsListIter it t (i + n) → Heap.SameBut it s.heap h' → Q ((items.toList.drop i).take n) { s with heap := h' }) → wpAny (model prog w) A (draw (.ref it) n) Q E s
  | 0, i, s, Q, hit, _, _, hQ => by
    show wpAny _ _ (pure []) Q E s
    exact wpAny_pure (by simpa using hQ s.heap hit (Heap.SameBut.refl ..))
  | n + 1, i, s, Q, hit, ht, hle, hQ => by
    have hlt : i < items.size := by omega
    show wpAny _ _ (pyNext (.ref it) >>= _) Q E s
    refine wpAny_bind (wpAny_pyNext_list_item hit ht (x := items[i]) (by simp [hlt]) fun h₁ hit₁ hs₁ => ?_)
    refine wpAny_bind (wpAny_holding (draw_list hne n (i + 1) _ _ hit₁ (ht.extBut hs₁.extBut hne) (by omega) fun h₂ hit₂ hs₂ => wpAny_pure ?_))
    have hd : items.toList.drop i = items[i] :: items.toList.drop (i + 1) := by simp [List.drop_eq_getElem_cons, hlt]
    have := hQ h₂ (by rw [show i + (n + 1) = i + 1 + n by omega]; exact hit₂) (hs₁.trans hs₂)
    rw [hd, List.take_succ_cons] at this
    exact this
theorem unpackItems_list {t : Addr} {items : Array Value} {Q : List Value → Shared → Prop} (hh : A.handled = none) (ht : s.heap.IsList t items)
    (hQ : ∀ h', Heap.ExtBut s.heap.objs.size s.heap h' → Q items.toList { s with heap := h' }) : wpAny (model prog w) A (unpackItems (.ref t) items.size none) Q E s := by
  have hlt : t ≠ s.heap.objs.size := by obtain ⟨o, ho, _⟩ := ht; exact Nat.ne_of_lt (Heap.lt_size ho)
  unfold unpackItems
  refine wpAny_bind ?_
  · unfold notIterableAtAll
    refine wpAny_bind (wpAny_specialOf ht.typeIs PySem.slot_list_iter.lookup ?_)
    refine wpAny_pure ?_
    simp only [Bool.false_eq_true, if_false]
    refine wpAny_bind (wpAny_holding (wpAny_pyIter_list ht ?_))
    have ht0 : (s.heap.push { cls := .type "list_iterator", data := .fields #[.ref t, .int 0 0] }).IsList t items := by
      obtain ⟨o, ho, hr⟩ := ht
      exact ⟨o, Heap.get?_push_of_some _ ho, hr⟩
    refine wpAny_bind (wpAny_holding (draw_list hlt items.size 0 _ _ ⟨_, Heap.get?_push_size _ rfl, rfl, rfl⟩ ht0 (by omega) fun h₁ hit₁ hs₁ => ?_))
    have hall : List.take items.size (List.drop 0 items.toList) = items.toList := by
      rw [List.drop_zero]; exact List.take_of_length_le (by simp)
    rw [hall]
    rw [if_neg (by simp)]
    have ht₁ : h₁.IsList t items := ht0.extBut hs₁.extBut hlt
    refine wpAny_bind (wpAny_holding (wpAny_pyNext_list_end hh hit₁ ht₁ (by simp) fun h₂ he₂ => ?_))
    simp only [Option.isSome_none, Bool.false_eq_true, if_false]
    refine wpAny_pure (hQ h₂ fun b o hb e => he₂ b o hb (hs₁.extBut b o hb (Heap.get?_push_of_some _ e)))
theorem unpack_listL {t : Addr} {items : Array Value} {targets : List (Bool × (Value → Sem Unit))} {Q : Unit → Shared → Prop} (hh : A.handled = none) (ht : s.heap.IsList t items)
    (hn : targets.length = items.size) (hstar : targets.findIdx? (·.1) = none)
    (h : ∀ h', Heap.ExtBut s.heap.objs.size s.heap h' → wpAny (model prog w) A (assignInOrder (targets.map (·.2)) items.toList) Q E { s with heap := h' }) :
    wpAny (model prog w) A (unpack (.ref t) targets) Q E s := by
  unfold unpack
  rw [hn, hstar]
  exact wpAny_bind (wpAny_holding (unpackItems_list hh ht h))
end
section
variable {X : Cx} {pos : Pos}
def gLst (K : PySem.W.Frag) (n : Nat) (t : TGs) : TG := fun v σ H Q => ∃ a xs, v = .ref a ∧ SqL K H a xs ∧ xs.length = n ∧ t xs σ H Q
theorem pg_lst {es : List Expr} {k : Nat} {t : TGs} {n : Nat} (hc : X.calm = true) (h : PGs X es t)
    (hn : (assignEach es X.env).length = n := by rfl) (hst : (assignEach es X.env).findIdx? (·.1) = none := by rfl) : PG X (.Tuple es k pos) (gLst X.K n t) := by
  intro pins s σ H v u Q I r hw
  obtain ⟨a, xs, e1, hq, hl, hw⟩ := hw
  subst e1
  cases r
  obtain ⟨its, rv, ht, hz⟩ := I.list hq
  rw [assign_Tuple]
  refine wpAny_bind (wpAny_standAt (unpack_listL (I.ok.hd hc) ht.isList (by simp [hn, ← hl, rv.length]) hst fun h' hx => ?_))
  have I1 : Inv X pins σ H { s with heap := h' } := I.kept (t' := s.toks) fun b o e => hx b o (Nat.ne_of_lt (Heap.lt_size e)) e
  exact h pins _ σ H xs _ Q I1 (by simpa using rv) hw

def CMulW (i j : Int) : Prop := i.natAbs < 2 ^ 1048576 ∧ j.natAbs < 2 ^ 1048576
theorem op_mulW : OpR X (binaryOp .Mult) (rI (fun i j => IntMulOk i j) fun i j => .int (i * j)) := opI fun _ _ _ _ _ _ _ hc q => mul_int q hc
theorem mulOk_bits {i j : Int} (m n : Nat) (h1 : i.natAbs < 2 ^ m) (h2 : j.natAbs < 2 ^ n) (h : m + n ≤ 134217728) : IntMulOk i j := IntMulOk.of_le (intBits_le h1) (intBits_le h2) h
theorem mulOk_l {i j : Int} (h1 : -(2 ^ 64) < i) (h2 : i < 2 ^ 64) : IntMulOk i j := .of_left (intBits_le_64 h1 h2)
theorem mulOk_r {i j : Int} (h1 : -(2 ^ 64) < j) (h2 : j < 2 ^ 64) : IntMulOk i j := .of_right (intBits_le_64 h1 h2)
theorem op_fdivW : OpR X (binaryOp .FloorDiv) (rI (fun _ j => 0 < j ∧ j < 2 ^ 100) fun i j => .int (i / j)) := opI fun i j _ _ s Q E hc q => by
  refine floordiv_int (Int.ne_of_gt hc.1) (by rw [Int.fdiv_eq_ediv_of_nonneg _ (Int.le_of_lt hc.1)]; exact q) (.inl (PyProof.noPylong_of_log2 ?_))
  have h1 : j.natAbs < 2 ^ 100 := by omega
  have h0 : j.natAbs ≠ 0 := by omega
  have := (Nat.log2_lt h0).mpr h1
  omega

def tIsi (K : PySem.W.Frag) (c : Value) (t : TA) : TE := fun σ H Q => t σ H fun xs H1 => ∃ x y ty b, xs = [x, y] ∧ RelV y c ∧ TyOf K H1 x ty ∧ PySem.W.kitOne K ty c = some b ∧ Q (.bl b) H1
theorem call_isi {c : Value} : CallR X (.builtin "isinstance") (fun xs H Q => ∃ x y ty b, xs = [x, y] ∧ RelV y c ∧ (∃ n, c = .type n) ∧ TyOf X.K H x ty ∧ PySem.W.kitOne X.K ty c = some b ∧ Q (.bl b) H) := by
  intro pins s σ H xs us Q I rv h
  obtain ⟨x, y, ty, b, rfl, ry, ⟨n, rfl⟩, hty, hk, q⟩ := h
  obtain ⟨u, u', rfl, ru, ru'⟩ := rv.two
  have e : u' = .type n := by
    cases y with
    | ty m => have := (show Value.type n = Value.type m from ry); cases this; exact ru'
    | non => cases ry
    | bl _ => cases ry
    | int _ => obtain ⟨_, z⟩ := ry; cases z
    | str _ => obtain ⟨_, z⟩ := ry; cases z
    | byt _ => obtain ⟨_, z⟩ := ry; cases z
    | flt _ => obtain ⟨_, z⟩ := ry; cases z
    | ref _ => cases ry
  subst e
  exact isinst_ok I ru hty hk fun tk => ⟨.bl b, H, I.tok _, rfl, q⟩
theorem kit_int_int {K : PySem.W.Frag} : PySem.W.kitOne K (.type "int") (.type "int") = some true := rfl
theorem kit_of {K : PySem.W.Frag} {T U : String} {b : Bool} (h0 : (Value.type T == Value.type U) = false) (h1 : PySem.W.kitMeta U = true) (h2 : ((fastBuiltinMro T).map (·.contains (.type U))) = some b) : PySem.W.kitOne K (.type T) (.type U) = some b := by
  unfold PySem.W.kitOne
  rw [h0, if_neg Bool.false_ne_true]
  unfold PySem.W.kitCls
  dsimp only
  rw [h1, if_pos rfl]
  exact h2
theorem kit_int_bool {K : PySem.W.Frag} : PySem.W.kitOne K (.type "int") (.type "bool") = some false := kit_of (by decide +kernel) (by decide +kernel) (by decide +kernel)
end
end L2

set_option Elab.async false
set_option linter.all false
set_option maxRecDepth 100000
set_option maxHeartbeats 4000000
namespace L2
open PySem PySem.Spec PyProof.Rows
def FW (J : It) (g : TG) (tb : TS) (D : Ends) (σ : St) (H1 : Hp) : Prop := ∃ W : Nat → Nat → St → Hp → Prop, (∃ m, W 0 m σ H1) ∧ ∀ i m σ H, W i m σ H →
  (J.stop i H ∧ D.nx σ H) ∨ (J.go i H ∧ ∃ N : St → Hp → Prop, (∀ σ' H', N σ' H' → ∃ m', m' < m ∧ W (i + 1) m' σ' H') ∧ ∀ x H', J.yld i H x H' → g x σ H' fun σ2 H2 => tb { D with nx := N, ct := N, bk := D.nx } σ2 H2)
theorem tFor_eq (wi : TI) (g : TG) (tb : TS) (D : Ends) (σ : St) (H : Hp) : tFor wi g tb D σ H = wi σ H fun J H1 => FW J g tb D σ H1 := rfl
theorem FW_range {lo : Int} {n : Nat} {g : TG} {tb : TS} {D : Ends} {σ : St} {H : Hp} (Pv : Nat → St → Hp → Prop) (h0 : Pv 0 σ H)
    (hs : ∀ i σ H, i < n → Pv i σ H → g (.int (lo + i)) σ H fun σ2 H2 => tb { D with nx := Pv (i + 1), ct := Pv (i + 1), bk := D.nx } σ2 H2) (hd : ∀ σ H, Pv n σ H → D.nx σ H) : FW (Itr lo n) g tb D σ H := for_range Pv h0 hs hd
theorem FW_list {K : PySem.W.Frag} {a : Addr} {xs : List V} {g : TG} {tb : TS} {D : Ends} {σ : St} {H : Hp} (Pv : Nat → St → Hp → Prop) (h0 : Pv 0 σ H) (hl : ∀ i σ H, i ≤ xs.length → Pv i σ H → SqL K H a xs)
    (hs : ∀ i x σ H, xs[i]? = some x → Pv i σ H → g x σ H fun σ2 H2 => tb { D with nx := Pv (i + 1), ct := Pv (i + 1), bk := D.nx } σ2 H2) (hd : ∀ σ H, Pv xs.length σ H → D.nx σ H) : FW (Itl K a) g tb D σ H := for_list Pv h0 hl hs hd
def CW (J : It) (g : TG) (tt : TT) (te : TE) (p : Addr) (Q : VK) (σ : St) (H1 : Hp) : Prop :=
  ∃ W : Nat → Nat → St → Hp → Prop, (∃ m, W 0 m σ H1) ∧ ∀ i m σ H, W i m σ H →
    (J.stop i H ∧ Q (.ref p) H) ∨ (J.go i H ∧ ∀ x H', J.yld i H x H' → g x σ H' fun σ2 H2 => tt σ2 H2 fun b H3 =>
      if b = true then te σ2 H3 fun y H4 => ∃ ys, H4 p = some (.lst ys) ∧ ys.length < sizeLine ∧ ∃ m', m' < m ∧ W (i + 1) m' σ2 (upd H4 p (.lst (ys ++ [y])))
      else ∃ m', m' < m ∧ W (i + 1) m' σ2 H3)
theorem tComp_eq (js : List Nat) (os : List Str) (wi : TI) (g : TG) (tt : TT) (te : TE) (σ : St) (H : Hp) (Q : VK) : tComp js os wi g tt te σ H Q = wi σ H fun J H1 => ∀ p, H1 p = none → CW J g tt te p Q (stC js os σ) (upd H1 p (.lst [])) := rfl
def Nx (n i : Nat) (P : Prop) : Prop := ∃ m', m' < n - i ∧ m' = n - (i + 1) ∧ i + 1 ≤ n ∧ P
theorem nx {n i : Nat} {P : Prop} (h : i < n) (p : P) : Nx n i P := ⟨n - (i + 1), by omega, rfl, h, p⟩
theorem CW_range {lo : Int} {n : Nat} {g : TG} {tt : TT} {te : TE} {p : Addr} {Q : VK} {σ : St} {H : Hp} (Pv : Nat → St → Hp → Prop) (h0 : Pv 0 σ H)
    (hs : ∀ i σ H, i < n → Pv i σ H → g (.int (lo + i)) σ H fun σ2 H2 => tt σ2 H2 fun b H3 => if b = true then te σ2 H3 fun y H4 => ∃ ys, H4 p = some (.lst ys) ∧ ys.length < sizeLine ∧ Nx n i (Pv (i + 1) σ2 (upd H4 p (.lst (ys ++ [y])))) else Nx n i (Pv (i + 1) σ2 H3))
    (hd : ∀ σ H, Pv n σ H → Q (.ref p) H) : CW (Itr lo n) g tt te p Q σ H := by
  refine ⟨fun i m σ H => m = n - i ∧ i ≤ n ∧ Pv i σ H, ⟨n, by simp, Nat.zero_le _, h0⟩, ?_⟩
  rintro i m σ H ⟨rfl, hi, q⟩
  by_cases hlt : i < n
  · refine .inr ⟨hlt, fun x H' y => ?_⟩
    obtain ⟨e, y⟩ := y
    subst e y
    exact hs i σ _ hlt q
  · have e : i = n := by omega
    subst e
    exact .inl ⟨Nat.le_refl _, hd σ H q⟩
theorem CW_list {K : PySem.W.Frag} {a : Addr} {xs : List V} {g : TG} {tt : TT} {te : TE} {p : Addr} {Q : VK} {σ : St} {H : Hp} (Pv : Nat → St → Hp → Prop) (h0 : Pv 0 σ H) (hl : ∀ i σ H, i ≤ xs.length → Pv i σ H → SqL K H a xs)
    (hs : ∀ i x σ H, xs[i]? = some x → Pv i σ H → g x σ H fun σ2 H2 => tt σ2 H2 fun b H3 => if b = true then te σ2 H3 fun y H4 => ∃ ys, H4 p = some (.lst ys) ∧ ys.length < sizeLine ∧ Nx xs.length i (Pv (i + 1) σ2 (upd H4 p (.lst (ys ++ [y])))) else Nx xs.length i (Pv (i + 1) σ2 H3))
    (hd : ∀ σ H, Pv xs.length σ H → Q (.ref p) H) : CW (Itl K a) g tt te p Q σ H := by
  refine ⟨fun i m σ H => m = xs.length - i ∧ i ≤ xs.length ∧ Pv i σ H, ⟨xs.length, by simp, Nat.zero_le _, h0⟩, ?_⟩
  rintro i m σ H ⟨rfl, hi, q⟩
  have w := hl i σ H hi q
  by_cases hlt : i < xs.length
  · refine .inr ⟨⟨xs, xs[i], w, by simp [hlt]⟩, fun x H' y => ?_⟩
    obtain ⟨e, y⟩ := y
    subst e
    exact hs i x σ _ (y xs w) q
  · have e : i = xs.length := by omega
    subst e
    exact .inl ⟨⟨xs, w, Nat.le_refl _⟩, hd σ H q⟩
theorem qb {Q : VK} {H : Hp} {a b : Bool} (k : Q (.bl a) H) (e : a = b) : Q (.bl b) H := e ▸ k
theorem Same.upd {H : Hp} {p : Addr} {o : HO} (h : H p = none) : Same H (upd H p o) := fun b u e => by rw [upd_ne (ne_of_none e h)]; exact e
theorem Same.upd2 {H H' : Hp} {p : Addr} {o : HO} (s : Same H H') (h : H p = none) : Same H (L2.upd H' p o) := fun b u e => by rw [upd_ne (ne_of_none e h)]; exact s b u e
theorem Same.tup {K : PySem.W.Frag} {H H' : Hp} {a : Addr} {xs : List V} (e : Same H H') (h : SqT K H a xs) : SqT K H' a xs := by
  rcases h with (h | ⟨o, h⟩) | h
  · exact .inl (.inl (e _ _ h))
  · exact .inl (.inr ⟨o, e _ _ h⟩)
  · exact .inr h
theorem atI_ints {ns : List Int} {k : Int} (h0 : 0 ≤ k) (h1 : k < ns.length) : ∃ z ∈ ns, atI (ns.map V.int) k = some (.int z) := by
  have hk : k.toNat < ns.length := by omega
  refine ⟨ns[k.toNat], List.getElem_mem hk, ?_⟩
  have e : ((k.toNat : Nat) : Int) = k := by omega
  have := atI_nat (xs := ns.map V.int) (j := k.toNat) (v := .int ns[k.toNat]) (by rw [List.getElem?_map, List.getElem?_eq_getElem hk]; rfl)
  rw [e] at this
  exact this
end L2

set_option Elab.async false
set_option linter.all false
set_option maxRecDepth 100000
set_option maxHeartbeats 4000000
namespace L2
open PySem PySem.Spec PyProof.Rows
inductive D where
  | int (i : Int) | str (x : Str) | non | tup (ds : List D)
mutual
def Rp (K : PySem.W.Frag) (H : Hp) : D → V → Prop
  | .int i, v => v = .int i
  | .str x, v => v = .str x
  | .non, v => v = .non
  | .tup ds, v => ∃ p xs, v = .ref p ∧ SqT K H p xs ∧ RpL K H ds xs
def RpL (K : PySem.W.Frag) (H : Hp) : List D → List V → Prop
  | [], xs => xs = []
  | d :: ds, xs => ∃ v r, xs = v :: r ∧ Rp K H d v ∧ RpL K H ds r
end
mutual
def deq : D → D → Bool
  | .int i, .int j => i == j
  | .str x, .str y => x == y
  | .non, .non => true
  | .tup ds, .tup es => deqL ds es
  | _, _ => false
def deqL : List D → List D → Bool
  | [], [] => true
  | d :: ds, e :: es => deq d e && deqL ds es
  | _, _ => false
end
mutual
def dep : D → Nat
  | .tup ds => depL ds + 1
  | _ => 0
def depL : List D → Nat
  | [] => 0
  | d :: ds => max (dep d) (depL ds)
end
mutual
theorem deq_self : ∀ d : D, deq d d = true
  | .int i => by simp [deq]
  | .str x => by simp [deq]
  | .non => by simp [deq]
  | .tup ds => by rw [deq]; exact deqL_self ds
theorem deqL_self : ∀ ds : List D, deqL ds ds = true
  | [] => by simp [deqL]
  | d :: ds => by rw [deqL, deq_self d, deqL_self ds]; rfl
end
theorem RpL.length {K : PySem.W.Frag} {H : Hp} : ∀ {ds : List D} {xs : List V}, RpL K H ds xs → xs.length = ds.length
  | [], xs, h => by rw [RpL] at h; subst h; rfl
  | d :: ds, xs, h => by
    rw [RpL] at h
    obtain ⟨v, r, rfl, _, h⟩ := h
    rw [List.length_cons, List.length_cons, RpL.length h]
mutual
theorem Rp.same {K : PySem.W.Frag} {H H' : Hp} (s : Same H H') : ∀ {d : D} {v : V}, Rp K H d v → Rp K H' d v
  | .int i, v, h => by rw [Rp] at h ⊢; exact h
  | .str x, v, h => by rw [Rp] at h ⊢; exact h
  | .non, v, h => by rw [Rp] at h ⊢; exact h
  | .tup ds, v, h => by
    rw [Rp] at h ⊢
    obtain ⟨p, xs, e, hs, hl⟩ := h
    exact ⟨p, xs, e, s.tup hs, RpL.same s hl⟩
theorem RpL.same {K : PySem.W.Frag} {H H' : Hp} (s : Same H H') : ∀ {ds : List D} {xs : List V}, RpL K H ds xs → RpL K H' ds xs
  | [], xs, h => by rw [RpL] at h ⊢; exact h
  | d :: ds, xs, h => by
    rw [RpL] at h ⊢
    obtain ⟨v, r, e, h1, h2⟩ := h
    exact ⟨v, r, e, Rp.same s h1, RpL.same s h2⟩
end
section
variable {X : Cx} {pins : List (Addr × Obj)} {σ : L2.St} {H : Hp} {s : Shared}
mutual
theorem Rp.inj (I : Inv X pins σ H s) : ∀ {d e : D} {v : V}, Rp X.K H d v → Rp X.K H e v → deq d e = true
  | .int i, e, v, h1, h2 => by
    rw [Rp] at h1
    subst h1
    cases e with
    | int j => rw [Rp] at h2; cases h2; simp [deq]
    | str _ => rw [Rp] at h2; cases h2
    | non => rw [Rp] at h2; cases h2
    | tup _ => rw [Rp] at h2; obtain ⟨_, _, h, _⟩ := h2; cases h
  | .str x, e, v, h1, h2 => by
    rw [Rp] at h1
    subst h1
    cases e with
    | int j => rw [Rp] at h2; cases h2
    | str _ => rw [Rp] at h2; cases h2; simp [deq]
    | non => rw [Rp] at h2; cases h2
    | tup _ => rw [Rp] at h2; obtain ⟨_, _, h, _⟩ := h2; cases h
  | .non, e, v, h1, h2 => by
    rw [Rp] at h1
    subst h1
    cases e with
    | int j => rw [Rp] at h2; cases h2
    | str _ => rw [Rp] at h2; cases h2
    | non => simp [deq]
    | tup _ => rw [Rp] at h2; obtain ⟨_, _, h, _⟩ := h2; cases h
  | .tup ds, e, v, h1, h2 => by
    rw [Rp] at h1
    obtain ⟨p, xs, rfl, hs, hl⟩ := h1
    cases e with
    | int j => rw [Rp] at h2; cases h2
    | str _ => rw [Rp] at h2; cases h2
    | non => rw [Rp] at h2; cases h2
    | tup es =>
      rw [Rp] at h2
      obtain ⟨p', xs', e', hs', hl'⟩ := h2
      cases e'
      rw [I.tuple_inj hs' hs] at hl'
      rw [deq]
      exact RpL.inj I hl hl'
theorem RpL.inj (I : Inv X pins σ H s) : ∀ {ds es : List D} {xs : List V}, RpL X.K H ds xs → RpL X.K H es xs → deqL ds es = true
  | [], es, xs, h1, h2 => by
    rw [RpL] at h1
    subst h1
    cases es with
    | nil => simp [deqL]
    | cons e es => rw [RpL] at h2; obtain ⟨_, _, h, _⟩ := h2; cases h
  | d :: ds, es, xs, h1, h2 => by
    rw [RpL] at h1
    obtain ⟨v, r, rfl, h1, h1'⟩ := h1
    cases es with
    | nil => rw [RpL] at h2; cases h2
    | cons e es =>
      rw [RpL] at h2
      obtain ⟨v', r', e', h2, h2'⟩ := h2
      cases e'
      rw [deqL, Rp.inj I h1 h2, RpL.inj I h1' h2']
      rfl
end
theorem deqL_range : ∀ (ds es : List D), ((List.range (min ds.length es.length)).all (fun j => deq (ds.getD j .non) (es.getD j .non)) && ds.length == es.length) = deqL ds es
  | [], [] => by simp [deqL]
  | [], e :: es => by simp [deqL]
  | d :: ds, [] => by simp [deqL]
  | d :: ds, e :: es => by
    have ih := deqL_range ds es
    rw [deqL, ← ih]
    have e1 : min (d :: ds).length (e :: es).length = min ds.length es.length + 1 := by simp only [List.length_cons]; omega
    rw [e1, List.range_succ_eq_map, List.all_cons, List.all_map]
    have e2 : ((d :: ds).length == (e :: es).length) = (ds.length == es.length) := by
      simp only [List.length_cons]
      by_cases h : ds.length = es.length
      · rw [h]; simp
      · have h1 : (ds.length == es.length) = false := by simpa using h
        rw [h1]
        have : ¬ ds.length + 1 = es.length + 1 := by omega
        simpa using this
    rw [e2, Bool.and_assoc]
    rfl
mutual
theorem eqAt_D (I : Inv X pins σ H s) : ∀ {d e : D} {A : Around} {v u : V} {x y : Value}, Rp X.K H d v → Rp X.K H e u → RelV v x → RelV u y → A.units + dep d < cLine → SeqAt.EqAt A s x y (deq d e)
  | .int i, e, A, v, u, x, y, h1, h2, r1, r2, hu => by
    rw [Rp] at h1
    subst h1
    obtain ⟨t, rfl⟩ := r1
    cases e with
    | int j => rw [Rp] at h2; subst h2; obtain ⟨t', rfl⟩ := r2; exact SeqAt.EqAt.int_int i t j t'
    | str z => rw [Rp] at h2; subst h2; obtain ⟨t', rfl⟩ := r2; exact SeqAt.EqAt.int_str i t z t'
    | non => rw [Rp] at h2; subst h2; cases r2; exact SeqAt.EqAt.int_none i t
    | tup es =>
      rw [Rp] at h2
      obtain ⟨p, xs, rfl, hs, _⟩ := h2
      cases r2
      obtain ⟨its, _, ht, _⟩ := I.tuple hs
      exact SeqAt.EqAt.int_tuple i t ht (by omega)
  | .str z, e, A, v, u, x, y, h1, h2, r1, r2, hu => by
    rw [Rp] at h1
    subst h1
    obtain ⟨t, rfl⟩ := r1
    cases e with
    | int j => rw [Rp] at h2; subst h2; obtain ⟨t', rfl⟩ := r2; exact SeqAt.EqAt.str_int z t j t'
    | str z' => rw [Rp] at h2; subst h2; obtain ⟨t', rfl⟩ := r2; exact SeqAt.EqAt.str_str z t z' t'
    | non => rw [Rp] at h2; subst h2; cases r2; exact SeqAt.EqAt.str_none z t
    | tup es =>
      rw [Rp] at h2
      obtain ⟨p, xs, rfl, hs, _⟩ := h2
      cases r2
      obtain ⟨its, _, ht, _⟩ := I.tuple hs
      exact SeqAt.EqAt.str_tuple z t ht (by omega)
  | .non, e, A, v, u, x, y, h1, h2, r1, r2, hu => by
    rw [Rp] at h1
    subst h1
    cases r1
    cases e with
    | int j => rw [Rp] at h2; subst h2; obtain ⟨t', rfl⟩ := r2; exact SeqAt.EqAt.none_int j t'
    | str z' => rw [Rp] at h2; subst h2; obtain ⟨t', rfl⟩ := r2; exact SeqAt.EqAt.none_str z' t'
    | non => rw [Rp] at h2; subst h2; cases r2; exact SeqAt.EqAt.same _
    | tup es =>
      rw [Rp] at h2
      obtain ⟨p, xs, rfl, hs, _⟩ := h2
      cases r2
      obtain ⟨its, _, ht, _⟩ := I.tuple hs
      exact SeqAt.EqAt.none_tuple ht (by omega)
  | .tup ds, e, A, v, u, x, y, h1, h2, r1, r2, hu => by
    have h1' := h1
    rw [Rp] at h1
    obtain ⟨p, xs, rfl, hs, hl⟩ := h1
    cases r1
    obtain ⟨its, rv, ht, _⟩ := I.tuple hs
    cases e with
    | int j => rw [Rp] at h2; subst h2; obtain ⟨t', rfl⟩ := r2; exact SeqAt.EqAt.tuple_int j t' ht (by omega)
    | str z' => rw [Rp] at h2; subst h2; obtain ⟨t', rfl⟩ := r2; exact SeqAt.EqAt.tuple_str z' t' ht (by omega)
    | non => rw [Rp] at h2; subst h2; cases r2; exact SeqAt.EqAt.tuple_none ht (by omega)
    | tup es =>
      have h2' := h2
      rw [Rp] at h2
      obtain ⟨p', xs', rfl, hs', hl'⟩ := h2
      cases r2
      obtain ⟨its', rv', ht', _⟩ := I.tuple hs'
      by_cases hp : p = p'
      · subst hp
        rw [Rp.inj I h1' h2']
        exact SeqAt.EqAt.same _
      · refine SeqAt.EqAt.of_refs hp ?_
        have l1 : its.length = ds.length := by rw [← rv.length, hl.length]
        have l2 : its'.length = es.length := by rw [← rv'.length, hl'.length]
        have key := SeqAt.RcAt.tuples (e := fun j => deq (ds.getD j .non) (es.getD j .non)) ht ht' (show A.units < cLine by omega) (fun j h1 h2 => by
          rw [dep] at hu
          exact eqAtL_D I hl hl' rv rv' (show A.in1.units + depL ds < cLine by show A.units + 1 + depL ds < cLine; omega) j (by simpa using h1) (by simpa using h2))
        have e0 : ((List.range (min its.toArray.size its'.toArray.size)).all (fun j => deq (ds.getD j .non) (es.getD j .non)) && its.toArray.size == its'.toArray.size) = deqL ds es := by
          rw [← deqL_range]
          simp only [List.size_toArray, l1, l2]
        rw [deq, ← e0]
        exact key
theorem eqAtL_D (I : Inv X pins σ H s) : ∀ {ds es : List D} {A : Around} {vs us : List V} {xs ys : List Value}, RpL X.K H ds vs → RpL X.K H es us → Vals vs xs → Vals us ys → A.units + depL ds < cLine →
    ∀ (j : Nat) (h1 : j < xs.length) (h2 : j < ys.length), SeqAt.EqAt A s xs[j] ys[j] (deq (ds.getD j .non) (es.getD j .non))
  | [], es, A, vs, us, xs, ys, h1, h2, r1, r2, hu, j, j1, j2 => by
    rw [RpL] at h1
    subst h1
    cases r1
    exact absurd j1 (Nat.not_lt_zero _)
  | d :: ds, es, A, vs, us, xs, ys, h1, h2, r1, r2, hu, j, j1, j2 => by
    rw [RpL] at h1
    obtain ⟨v, r, rfl, h1, h1'⟩ := h1
    cases r1 with
    | cons q1 q1' =>
    cases es with
    | nil =>
      rw [RpL] at h2
      subst h2
      cases r2
      exact absurd j2 (Nat.not_lt_zero _)
    | cons e es =>
      rw [RpL] at h2
      obtain ⟨v', r', rfl, h2, h2'⟩ := h2
      cases r2 with
      | cons q2 q2' =>
      rw [depL] at hu
      cases j with
      | zero => exact eqAt_D (d := d) (e := e) I h1 h2 q1 q2 (by omega)
      | succ j => exact eqAtL_D I h1' h2' q1' q2' (by omega) j (by simpa using j1) (by simpa using j2)
end
def rEqD (K : PySem.W.Frag) (ne : Bool) : R2 := fun x y H Q => ∃ ds es, Rp K H (.tup ds) x ∧ Rp K H (.tup es) y ∧ depL ds ≤ 60 ∧ Q (.bl (if ne then !deqL ds es else deqL ds es)) H
theorem op_eqS (hu : X.A.units + 64 < cLine) : OpR X (compareOp .Eq) (rEqD X.K false) := by
  intro pins s σ H x y v u Q I rx ry h
  obtain ⟨ds, es, h1, h2, hd, q⟩ := h
  rw [Rp] at h1 h2
  obtain ⟨p, xs, rfl, hs, hl⟩ := h1
  obtain ⟨p', xs', rfl, hs', hl'⟩ := h2
  cases rx
  cases ry
  obtain ⟨its, rv, ht, _⟩ := I.tuple hs
  obtain ⟨its', rv', ht', _⟩ := I.tuple hs'
  have l1 : its.length = ds.length := by rw [← rv.length, hl.length]
  have l2 : its'.length = es.length := by rw [← rv'.length, hl'.length]
  refine SeqAt.eq_tupleAt (e := fun j => deq (ds.getD j .non) (es.getD j .non)) ht ht' (by omega) (fun j h1 h2 => eqAtL_D I hl hl' rv rv' (show X.A.in1.units + depL ds < cLine by show X.A.units + 1 + depL ds < cLine; omega) j (by simpa using h1) (by simpa using h2)) ?_
  exact fin_bl I q (by
    simp only [if_false, Bool.false_eq_true]
    rw [← deqL_range]
    simp only [List.size_toArray, l1, l2])
end
end L2

set_option Elab.async false
set_option linter.all false
set_option maxRecDepth 100000
set_option maxHeartbeats 4000000
namespace L2
open PySem PySem.Spec PyProof.Rows
mutual
def kdIn (K : PySem.W.Frag) : D → Value → Bool
  | .int i, .int j _ => i == j
  | .str x, .str y _ => x == y
  | .non, .none => true
  | .tup ds, .ref p => (match K.lookup p with
    | some o => (match o.cls, o.data with
      | .type n, .seq its _ => n == "tuple" && decide (its.size ≤ 1000) && kdInL K ds its.toList
      | _, _ => false)
    | none => false)
  | _, _ => false
def kdInL (K : PySem.W.Frag) : List D → List Value → Bool
  | [], [] => true
  | d :: ds, u :: us => kdIn K d u && kdInL K ds us
  | _, _ => false
end
mutual
theorem kd_rp {K : PySem.W.Frag} : ∀ {d : D} {u : Value}, kdIn K d u = true → ∃ v, RelV v u ∧ ∀ H, Rp K H d v
  | .int i, u, h => by
    cases u with
    | int j t =>
      rw [kdIn] at h
      have e : i = j := by simpa using h
      subst e
      exact ⟨.int i, ⟨t, rfl⟩, fun H => by rw [Rp]⟩
    | _ => simp [kdIn] at h
  | .str x, u, h => by
    cases u with
    | str y t =>
      rw [kdIn] at h
      have e : x = y := by simpa using h
      subst e
      exact ⟨.str x, ⟨t, rfl⟩, fun H => by rw [Rp]⟩
    | _ => simp [kdIn] at h
  | .non, u, h => by
    cases u with
    | none => exact ⟨.non, rfl, fun H => by rw [Rp]⟩
    | _ => simp [kdIn] at h
  | .tup ds, u, h => by
    cases u with
    | ref p =>
      rw [kdIn] at h
      cases e : K.lookup p with
      | none => rw [e] at h; cases h
      | some o =>
        rw [e] at h
        dsimp only at h
        split at h
        · rename_i n its k ec ed
          simp only [Bool.and_eq_true, beq_iff_eq, decide_eq_true_eq] at h
          obtain ⟨⟨rfl, hz⟩, hl⟩ := h
          obtain ⟨vs, rv, hv⟩ := kd_rpL hl
          exact ⟨.ref p, rfl, fun H => by
            rw [Rp]
            exact ⟨p, vs, rfl, .inr ⟨o, its, k, e, ec, ed, Nat.le_trans hz (by decide), rv⟩, hv H⟩⟩
        · cases h
    | _ => simp [kdIn] at h
theorem kd_rpL {K : PySem.W.Frag} : ∀ {ds : List D} {us : List Value}, kdInL K ds us = true → ∃ vs, Vals vs us ∧ ∀ H, RpL K H ds vs
  | [], us, h => by
    cases us with
    | nil => exact ⟨[], .nil, fun H => by rw [RpL]⟩
    | cons _ _ => simp [kdInL] at h
  | d :: ds, us, h => by
    cases us with
    | nil => simp [kdInL] at h
    | cons u us =>
      rw [kdInL, Bool.and_eq_true] at h
      obtain ⟨v, r, hv⟩ := kd_rp h.1
      obtain ⟨vs, rs, hvs⟩ := kd_rpL h.2
      exact ⟨v :: vs, .cons r rs, fun H => by rw [RpL]; exact ⟨v, vs, rfl, hv H, hvs H⟩⟩
end
theorem RpL.at {K : PySem.W.Frag} {H : Hp} : ∀ {ds : List D} {xs : List V} {j : Nat}, RpL K H ds xs → j < ds.length → ∃ v, xs[j]? = some v ∧ Rp K H (ds.getD j .non) v
  | [], xs, j, h, hj => absurd hj (Nat.not_lt_zero _)
  | d :: ds, xs, j, h, hj => by
    rw [RpL] at h
    obtain ⟨v, r, rfl, h1, h2⟩ := h
    cases j with
    | zero => exact ⟨v, rfl, h1⟩
    | succ j =>
      obtain ⟨u, e, q⟩ := RpL.at (ds := ds) (xs := r) (j := j) h2 (by simpa using hj)
      exact ⟨u, e, q⟩
theorem RpL.atI {K : PySem.W.Frag} {H : Hp} {ds : List D} {xs : List V} {i : Int} (h : RpL K H ds xs) (h0 : 0 ≤ i) (h1 : i < ds.length) : ∃ v, L2.atI xs i = some v ∧ Rp K H (ds.getD i.toNat .non) v := by
  obtain ⟨v, e, r⟩ := h.at (j := i.toNat) (by omega)
  have := atI_nat e
  rw [show ((i.toNat : Nat) : Int) = i by omega] at this
  exact ⟨v, this, r⟩
abbrev num (a b : Int) : D := .tup [.int a, .int b]
abbrev plc (a b c d : Int) : D := .tup [num a b, num c d]
theorem num_iff {K : PySem.W.Frag} {H : Hp} {a b : Int} {v : V} : Rp K H (num a b) v ↔ ∃ p, v = .ref p ∧ SqT K H p [.int a, .int b] := by
  constructor
  · intro h
    rw [Rp] at h
    obtain ⟨p, xs, rfl, hs, hl⟩ := h
    rw [RpL] at hl
    obtain ⟨v, r, rfl, h1, hl⟩ := hl
    rw [RpL] at hl
    obtain ⟨v', r', rfl, h2, hl⟩ := hl
    rw [RpL] at hl
    rw [Rp] at h1 h2
    subst h1 h2 hl
    exact ⟨p, rfl, hs⟩
  · rintro ⟨p, rfl, hs⟩
    rw [Rp]
    refine ⟨p, _, rfl, hs, ?_⟩
    rw [RpL]
    refine ⟨_, _, rfl, by rw [Rp], ?_⟩
    rw [RpL]
    refine ⟨_, _, rfl, by rw [Rp], ?_⟩
    rw [RpL]
theorem pair_iff {K : PySem.W.Frag} {H : Hp} {d e : D} {v : V} : Rp K H (.tup [d, e]) v ↔ ∃ p x y, v = .ref p ∧ SqT K H p [x, y] ∧ Rp K H d x ∧ Rp K H e y := by
  constructor
  · intro h
    rw [Rp] at h
    obtain ⟨p, xs, rfl, hs, hl⟩ := h
    rw [RpL] at hl
    obtain ⟨v, r, rfl, h1, hl⟩ := hl
    rw [RpL] at hl
    obtain ⟨v', r', rfl, h2, hl⟩ := hl
    rw [RpL] at hl
    subst hl
    exact ⟨p, v, v', rfl, hs, h1, h2⟩
  · rintro ⟨p, x, y, rfl, hs, h1, h2⟩
    rw [Rp]
    refine ⟨p, _, rfl, hs, ?_⟩
    rw [RpL]
    refine ⟨_, _, rfl, h1, ?_⟩
    rw [RpL]
    refine ⟨_, _, rfl, h2, ?_⟩
    rw [RpL]
section
variable {X : Cx}
theorem call_isiX {c : Value} : CallR X (.builtin "isinstance") (fun xs H Q => ∃ x y, xs = [x, y] ∧ RelV y c ∧ (∃ n, c = .type n) ∧ ∃ ty, (TyOf X.K H x ty ∨ ∃ p ys, x = .ref p ∧ SqT X.K H p ys ∧ ty = .type "tuple") ∧ ∃ b, PySem.W.kitOne X.K ty c = some b ∧ Q (.bl b) H) := by
  intro pins s σ H xs us Q I rv h
  obtain ⟨x, y, rfl, ry, ⟨n, rfl⟩, ty, hty, b, hk, q⟩ := h
  rcases hty with hty | ⟨p, ys, rfl, hs, rfl⟩
  · exact call_isi (c := .type n) pins s σ H [x, y] us Q I rv ⟨x, y, ty, b, rfl, ry, ⟨n, rfl⟩, hty, hk, q⟩
  · obtain ⟨u, u', rfl, ru, ru'⟩ := rv.two
    have e : u' = .type n := by
      cases y with
      | ty m => have := (show Value.type n = Value.type m from ry); cases this; exact ru'
      | non => cases ry
      | bl _ => cases ry
      | int _ => obtain ⟨_, z⟩ := ry; cases z
      | str _ => obtain ⟨_, z⟩ := ry; cases z
      | byt _ => obtain ⟨_, z⟩ := ry; cases z
      | flt _ => obtain ⟨_, z⟩ := ry; cases z
      | ref _ => cases ry
    subst e
    cases ru
    obtain ⟨its, _, ⟨o, h1, h2, _⟩, _⟩ := I.tuple hs
    exact PySem.W.kia_one PySem.W.kitx_tuple I.kIn ⟨o, h1, h2⟩ hk (fun z => nomatch z) fun tk => ⟨.bl b, H, I.tok _, rfl, q⟩
end
end L2

set_option Elab.async false
set_option linter.all false
set_option maxRecDepth 100000
set_option maxHeartbeats 4000000
namespace L2
open PySem PySem.Spec PyProof.Rows
def tLit (K : PySem.W.Frag) (d : D) : TE := fun _ H Q => ∀ v H', Same H H' → Rp K H' d v → Q v H'
def tLits (K : PySem.W.Frag) (ds : List D) : TA := fun _ H Q => ∀ vs H', Same H H' → RpL K H' ds vs → Q vs H'
section
variable {X : Cx} {e : Expr} {es : List Expr} {pos : Pos} {d : D} {ds : List D}
theorem PE.imp {t t' : TE} (h : PE X e t) (i : ∀ σ H Q, t' σ H Q → t σ H Q) : PE X e t' := fun pins s σ H Q I q => h pins s σ H Q I (i _ _ _ q)
theorem PA.imp {t t' : TA} (h : PA X es t) (i : ∀ σ H Q, t' σ H Q → t σ H Q) : PA X es t' := fun p pins s σ H Q I q => h p pins s σ H Q I (i _ _ _ q)
theorem pl_int {i : Int} {j pos} : PE X (.Constant (.int i) j pos) (tLit X.K (.int i)) := pe_int.imp fun _ H Q q => q _ _ (Same.refl H) (by rw [Rp])
theorem pl_neg {i : Int} {j pos pos'} : PE X (.UnaryOp .USub (.Constant (.int i) j pos) pos') (tLit X.K (.int (-i))) := (pe_un un_neg pe_int).imp fun _ H Q q => ⟨_, rfl, q _ _ (Same.refl H) (by rw [Rp])⟩
theorem pls_nil : PA X [] (tLits X.K []) := pa_nil.imp fun _ H Q q => q _ _ (Same.refl H) (by rw [RpL])
theorem pls_cons (h : PE X e (tLit X.K d)) (hs : PA X es (tLits X.K ds)) (he : starEach (e :: es) X.env = (false, eval e X.env) :: starEach es X.env := by rfl) : PA X (e :: es) (tLits X.K (d :: ds)) :=
  (pa_cons h hs he).imp fun _ H Q q => fun v H1 s1 r1 vs H2 s2 r2 => q _ _ (s1.trans s2) (by rw [RpL]; exact ⟨v, vs, rfl, r1.same s2, r2⟩)
theorem pl_tup {x1} (h : PA X es (tLits X.K ds)) (hz : ds.length ≤ 1000 := by decide) : PE X (.Tuple es x1 pos) (tLit X.K (.tup ds)) :=
  (pe_tup h).imp fun _ H Q q => fun vs H1 s1 r1 => ⟨by rw [r1.length]; exact Nat.le_trans hz (by decide), fun p hp => q _ _ (s1.upd2 (s1.free hp)) (by
    rw [Rp]; exact ⟨p, vs, rfl, SqT.of upd_same, r1.same (Same.upd hp)⟩)⟩
end
end L2
namespace L2
open PySem PySem.Spec PyProof.Rows L2
section
variable {X : Cx} {es es' : List Expr} {pos pos' p : Pos} {d : D} {ds : List D}
theorem pa_consT {x1} {te : TE} {t : TA} (ha : PE X (.Tuple es' x1 p) te) (hr : PA X es t) : PA X (.Tuple es' x1 p :: es) (tCons te t) := pa_cons ha hr (by rfl)
theorem pls_consT {x1} (ha : PE X (.Tuple es' x1 p) (tLit X.K d)) (hr : PA X es (tLits X.K ds)) : PA X (.Tuple es' x1 p :: es) (tLits X.K (d :: ds)) := pls_cons ha hr (by rfl)
theorem pls_consI {i : Int} {j} (hr : PA X es (tLits X.K ds)) : PA X (.Constant (.int i) j p :: es) (tLits X.K (.int i :: ds)) := pls_cons pl_int hr (by rfl)
theorem pls_consN {i : Int} {j} (hr : PA X es (tLits X.K ds)) : PA X (.UnaryOp .USub (.Constant (.int i) j p) pos :: es) (tLits X.K (.int (-i) :: ds)) := pls_cons pl_neg hr (by rfl)
end
theorem cxOf_K {CX P w K mg base N nm sc fa cdv A outer s H E} : (cxOf CX P w K mg base N nm sc fa cdv A outer s H E).K = K := rfl
end L2

set_option Elab.async false
set_option linter.all false
set_option maxRecDepth 100000
set_option maxHeartbeats 4000000
namespace L2
open PySem PySem.Spec PyProof.Rows
section
variable {κ : Type} [DecidableEq κ]
def valV (kvs : List (κ × V)) (k : κ) : Option V := (kvs.find? fun kv => decide (kv.1 = k)).map (·.2)
def putK (kvs : List (κ × V)) (k : κ) (v : V) : List (κ × V) :=
  if (kvs.any fun kv => decide (kv.1 = k)) = true then kvs.map (fun kv => if kv.1 = k then (kv.1, v) else kv) else kvs ++ [(k, v)]
def dropK (kvs : List (κ × V)) (k : κ) : List (κ × V) := kvs.filter fun kv => decide (kv.1 ≠ k)

theorem RelO.getD {o : Option V} {u : Option Value} {d : V} {d' : Value} (r : RelO o u) (rd : RelV d d') : RelV (o.getD d) (u.getD d') := by
  cases o with
  | none => cases u with
    | none => exact rd
    | some _ => exact (show False from r).elim
  | some _ => cases u with
    | none => exact (show False from r).elim
    | some _ => exact r

theorem KV.any {kvs : List (κ × V)} {vs : List (κ × Value)} (r : KV kvs vs) (k : κ) : (kvs.any fun kv => decide (kv.1 = k)) = vs.any fun kv => decide (kv.1 = k) := by
  unfold KV at r
  induction r with
  | nil => rfl
  | cons h t ih => rw [List.any_cons, List.any_cons, ih, h.1]
theorem KV.drop {kvs : List (κ × V)} {vs : List (κ × Value)} (r : KV kvs vs) (k : κ) : KV (dropK kvs k) (without vs k) := by
  unfold KV at r ⊢
  unfold dropK without
  induction r with
  | nil => exact .nil
  | @cons p q ps qs h t ih =>
    obtain ⟨h1, h2⟩ := h
    rw [List.filter_cons, List.filter_cons]
    by_cases e : p.1 = k
    · have a : ¬ decide (p.1 ≠ k) = true := by simp [e]
      have b : ¬ decide (q.1 ≠ k) = true := by simp [h1.symm.trans e]
      rw [if_neg a, if_neg b]; exact ih
    · have e' : ¬ q.1 = k := fun z => e (h1.trans z)
      have a : decide (p.1 ≠ k) = true := by simp [e]
      have b : decide (q.1 ≠ k) = true := by simp [e']
      rw [if_pos a, if_pos b]; exact .cons ⟨h1, h2⟩ ih
theorem KV.keys {kvs : List (κ × V)} {vs : List (κ × Value)} (r : KV kvs vs) : kvs.map (·.1) = vs.map (·.1) := by
  unfold KV at r
  induction r with
  | nil => rfl
  | cons h t ih => rw [List.map_cons, List.map_cons, ih, h.1]
theorem KV.length {kvs : List (κ × V)} {vs : List (κ × Value)} (r : KV kvs vs) : kvs.length = vs.length := Paired.length r
end


abbrev KT (H : Hp) : List (List Key × V) → List (List Key × Addr × Value) → Prop := Paired fun p q => p.1 = q.1 ∧ H q.2.1 = some (.tup (p.1.map kV)) ∧ RelV p.2 q.2.2
theorem KT.keeps {H H' : Hp} {kvs : List (List Key × V)} {xs : List (List Key × Addr × Value)} (r : KT H kvs xs) (ht : ∀ b ys, H b = some (.tup ys) → H' b = some (.tup ys)) : KT H' kvs xs :=
  Paired.mapP r fun _ _ z => ⟨z.1, ht _ _ z.2.1, z.2.2⟩

section
variable {P : Program} {w : World} {H : Hp} {h : Heap} {a : Addr}
end

def DGet (H : Hp) (a : Addr) (y : V) (r : Option V) : Prop :=
  (∃ kvs k, Rd H a (.dK kvs) ∧ y = kV k ∧ r = valV kvs k) ∨ ∃ kvs k b, Rd H a (.dT kvs) ∧ y = .ref b ∧ H b = some (.tup (k.map kV)) ∧ r = valV kvs k
def DPut (H : Hp) (a : Addr) (y v : V) (H' : Hp) : Prop :=
  (∃ kvs k, H a = some (.dK kvs) ∧ y = kV k ∧ kvs.length < sizeLine ∧ H' = upd H a (.dK (putK kvs k v))) ∨
  ∃ kvs k b, H a = some (.dT kvs) ∧ y = .ref b ∧ H b = some (.tup (k.map kV)) ∧ kvs.length < sizeLine ∧ H' = upd H a (.dT (putK kvs k v))
theorem DGet.k {H : Hp} {a : Addr} {kvs : List (Key × V)} {k : Key} (e : H a = some (.dK kvs)) : DGet H a (kV k) (valV kvs k) := .inl ⟨kvs, k, .inl e, rfl, rfl⟩
theorem DGet.t {H : Hp} {a b : Addr} {kvs : List (List Key × V)} {k : List Key} (e : H a = some (.dT kvs)) (eb : H b = some (.tup (k.map kV))) : DGet H a (.ref b) (valV kvs k) := .inr ⟨kvs, k, b, .inl e, rfl, eb, rfl⟩
theorem DPut.k {H : Hp} {a : Addr} {kvs : List (Key × V)} {k : Key} {v : V} (e : H a = some (.dK kvs)) (hl : kvs.length < sizeLine) : DPut H a (kV k) v (upd H a (.dK (putK kvs k v))) := .inl ⟨kvs, k, e, rfl, hl, rfl⟩
theorem DPut.t {H : Hp} {a b : Addr} {kvs : List (List Key × V)} {k : List Key} {v : V} (e : H a = some (.dT kvs)) (eb : H b = some (.tup (k.map kV))) (hl : kvs.length < sizeLine) :
    DPut H a (.ref b) v (upd H a (.dT (putK kvs k v))) := .inr ⟨kvs, k, b, e, rfl, eb, hl, rfl⟩


section
variable {X : Cx} {pins : List (Addr × Obj)} {σ : St} {H : Hp} {s : Shared} {a : Addr} {y v : V} {u r : Value} {o : Option V} {A : Around} {E : Value → Shared → Prop}

end

section
variable {X : Cx} {pins : List (Addr × Obj)} {σ : St} {H : Hp} {s : Shared} {a : Addr} {kvs : List (Key × V)} {k : Key} {u : Value} {A : Around} {E : Value → Shared → Prop}
end


def NoSl (i : Expr) : Prop := ∀ ov iv, subscripted i false ov iv = operate [ov, iv] (getItem ov iv)
def tDGet (td ty : TE) : TE := fun σ H Q => td σ H fun x H1 => ty σ H1 fun y H2 => ∃ a v, x = .ref a ∧ DGet H2 a y (some v) ∧ Q v H2
def tDIn (ty td : TE) : TE := fun σ H Q => ty σ H fun y H1 => td σ H1 fun x H2 => ∃ a o, x = .ref a ∧ DGet H2 a y o ∧ Q (.bl o.isSome) H2
def tDNotIn (ty td : TE) : TE := fun σ H Q => ty σ H fun y H1 => td σ H1 fun x H2 => ∃ a o, x = .ref a ∧ DGet H2 a y o ∧ Q (.bl (!o.isSome)) H2
def sDPut (td ty tv : TE) : TS := fun D σ H => tv σ H fun v H1 => td σ H1 fun x H2 => ty σ H2 fun y H3 => ∃ a H4, x = .ref a ∧ DPut H3 a y v H4 ∧ D.nx σ H4
def sDAug (td ty tv : TE) (rd : V → V → Hp → VK → Prop) : TS := fun D σ H => td σ H fun x H1 => ty σ H1 fun y H2 => ∃ a v, x = .ref a ∧ DGet H2 a y (some v) ∧
  tv σ H2 fun y2 H3 => rd v y2 H3 fun z H4 => ∃ H5, DPut H4 a y z H5 ∧ D.nx σ H5
def sDDel (td ty : TE) : TS := fun D σ H => td σ H fun x H1 => ty σ H1 fun y H2 => ∃ a kvs k, x = .ref a ∧ H2 a = some (.dK kvs) ∧ y = kV k ∧ (valV kvs k).isSome = true ∧ D.nx σ (upd H2 a (.dK (dropK kvs k)))

section
variable {X : Cx} {o i e value : Expr} {pos pos' tpos : Pos} {td ty tv : TE}
end


def tDNewK : TE := fun _ H Q => ∀ p, H p = none → Q (.ref p) (upd H p (.dK []))
def tDNewT : TE := fun _ H Q => ∀ p, H p = none → Q (.ref p) (upd H p (.dT []))
section
variable {X : Cx} {pos : Pos}
end

def tPairs : List (TE × TE) → St → Hp → (List (V × V) → Hp → Prop) → Prop
  | [], _, H, Q => Q [] H
  | (tk, tv) :: r, σ, H, Q => tk σ H fun x H1 => tv σ H1 fun y H2 => tPairs r σ H2 fun ps H3 => Q ((x, y) :: ps) H3
abbrev VV : List (V × V) → List (Value × Value) → Prop := Paired fun p q => RelV p.1 q.1 ∧ RelV p.2 q.2
def PPs (X : Cx) (pos : Pos) (keys : List (Option Expr)) (values : List Expr) (trs : List (TE × TE)) : Prop :=
  ∀ (pins : List (Addr × Obj)) (s : Shared) (σ : St) (H : Hp) (Q : List (V × V) → Hp → Prop), Inv X pins σ H s → tPairs trs σ H Q →
    wpAny (model X.prog X.w) X.A (evalPairs (pairTrees keys values X.env pos)) (fun vs s' => ∃ ps H', Inv X pins σ H' s' ∧ VV ps vs ∧ Q ps H') X.xe s
def mergeK (kvs more : List (Key × V)) : List (Key × V) := more.foldl (fun acc kv => putK acc kv.1 kv.2) kvs
def tDisp (trs : List (TE × TE)) : TE := fun σ H Q => ∀ p, H p = none → tPairs trs σ (upd H p (.dK [])) fun ps H2 => H2 p = some (.dK []) ∧ ∃ kvs : List (Key × V), ps = kvs.map (fun kv => (kV kv.1, kv.2)) ∧ kvs.length ≤ 15 ∧ Q (.ref p) (upd H2 p (.dK (mergeK [] kvs)))
structure M1 (X : Cx) (o : Expr) (m : Str) (apos : Pos) (e : Expr) (cpos : Pos) : Prop where
  base : attributeBase o m X.env (eval o X.env) = eval o X.env
  few : ((backTo cpos (starEach [e] X.env)).all (fun x => !x.1) && (backToKw cpos (keywordEach [] X.env)).all (fun x => x.1.isSome)
    && decide (([e] : List Expr).length + ([] : List Keyword).length + (if ([] : List Keyword).isEmpty then 0 else 1) < 30)) = true
  line : (apos.endLine == cpos.line) = true
  trees : backTo cpos (starEach [e] X.env) = [(false, eval e X.env)]
structure M2 (X : Cx) (o : Expr) (m : Str) (apos : Pos) (e f : Expr) (cpos : Pos) : Prop where
  base : attributeBase o m X.env (eval o X.env) = eval o X.env
  few : ((backTo cpos (starEach [e, f] X.env)).all (fun x => !x.1) && (backToKw cpos (keywordEach [] X.env)).all (fun x => x.1.isSome)
    && decide (([e, f] : List Expr).length + ([] : List Keyword).length + (if ([] : List Keyword).isEmpty then 0 else 1) < 30)) = true
  line : (apos.endLine == cpos.line) = true
  trees : backTo cpos (starEach [e, f] X.env) = [(false, eval e X.env), (false, eval f X.env)]

def IsD (H : Hp) (a : Addr) : Prop := (∃ kvs, Rd H a (.dK kvs)) ∨ ∃ kvs, Rd H a (.dT kvs)
section
variable {X : Cx} {pins : List (Addr × Obj)} {σ : St} {H : Hp} {s : Shared} {a : Addr} {y d : V} {u r : Value} {o : Option V} {A : Around} {E : Value → Shared → Prop}
end

def tDGet1 (td ty : TE) : TE := fun σ H Q => td σ H fun x H1 => ∃ a, x = .ref a ∧ IsD H1 a ∧ ty σ H1 fun y H2 => ∃ o, DGet H2 a y o ∧ Q (o.getD .non) H2
def tDGet2 (td ty tx : TE) : TE := fun σ H Q => td σ H fun x H1 => ∃ a, x = .ref a ∧ IsD H1 a ∧ ty σ H1 fun y H2 => tx σ H2 fun z H3 => ∃ o, DGet H3 a y o ∧ Q (o.getD z) H3
def tDPop1 (td ty : TE) : TE := fun σ H Q => td σ H fun x H1 => ∃ a, x = .ref a ∧ IsD H1 a ∧ ty σ H1 fun y H2 => ∃ kvs k v, H2 a = some (.dK kvs) ∧ y = kV k ∧ valV kvs k = some v ∧ Q v (upd H2 a (.dK (dropK kvs k)))
def tDPop2 (td ty tx : TE) : TE := fun σ H Q => td σ H fun x H1 => ∃ a, x = .ref a ∧ IsD H1 a ∧ ty σ H1 fun y H2 => tx σ H2 fun z H3 => ∃ kvs k, H3 a = some (.dK kvs) ∧ y = kV k ∧
  (∀ v, valV kvs k = some v → Q v (upd H3 a (.dK (dropK kvs k)))) ∧ (valV kvs k = none → Q z H3)
section
variable {X : Cx} {o e f : Expr} {apos cpos : Pos} {td ty tx : TE}
end

section
variable {X : Cx} {pins : List (Addr × Obj)} {σ : St} {H : Hp} {s : Shared} {a : Addr} {kvs : List (Key × V)} {A : Around} {E : Value → Shared → Prop}
end


section
variable {X : Cx} {pins : List (Addr × Obj)} {σ : St} {H : Hp} {s : Shared} {a : Addr} {y : V} {u : Value} {A : Around} {E : Value → Shared → Prop}
end
end L2

namespace L2
open PySem PySem.Spec PyProof.Rows
section
variable {κ : Type} [DecidableEq κ]
end
end L2


set_option Elab.async false
set_option linter.all false
set_option maxRecDepth 100000
set_option maxHeartbeats 4000000
namespace L2
open PySem PySem.Spec PyProof.Rows
def rSlW (K : PySem.W.Frag) : V → Option Int → Option Int → Hp → VK → Prop := fun x lo hi H Q => ∃ a xs, x = .ref a ∧ SqT K H a xs ∧
  ∀ p H', Same H H' → SqT K H' p (cutV xs lo hi) → Q (.ref p) H'
section
variable {X : Cx}
end
def SameT (H H' : Hp) : Prop := ∀ b o, H b = some o → ((∃ xs, o = .tup xs) ∨ ∃ o1 o2, o = .frz o1 o2) → H' b = some o
theorem Same.t {H H' : Hp} (s : Same H H') : SameT H H' := fun b o e _ => s b o e
theorem SameT.refl (H : Hp) : SameT H H := fun b o e _ => e
theorem SameT.trans {H H' H'' : Hp} (a : SameT H H') (b : SameT H' H'') : SameT H H'' := fun x o e h => b x o (a x o e h) h
theorem SameT.upd {H H' : Hp} {p : Addr} {o : HO} (s : SameT H H') (h : ∀ u, H p = some u → ¬ ((∃ xs, u = .tup xs) ∨ ∃ o1 o2, u = .frz o1 o2)) : SameT H (L2.upd H' p o) := fun b u e k => by
  by_cases hb : b = p
  · subst hb; exact absurd k (h u e)
  · rw [upd_ne hb]; exact s b u e k
theorem SameT.tup {K : PySem.W.Frag} {H H' : Hp} {a : Addr} {xs : List V} (e : SameT H H') (h : SqT K H a xs) : SqT K H' a xs := by
  rcases h with (h | ⟨o, h⟩) | h
  · exact .inl (.inl (e _ _ h (.inl ⟨_, rfl⟩)))
  · exact .inl (.inr ⟨o, e _ _ h (.inr ⟨_, _, rfl⟩)⟩)
  · exact .inr h
mutual
theorem Rp.t {K : PySem.W.Frag} {H H' : Hp} (s : SameT H H') : ∀ {d : D} {v : V}, Rp K H d v → Rp K H' d v
  | .int i, v, h => by rw [Rp] at h ⊢; exact h
  | .str x, v, h => by rw [Rp] at h ⊢; exact h
  | .non, v, h => by rw [Rp] at h ⊢; exact h
  | .tup ds, v, h => by
    rw [Rp] at h ⊢
    obtain ⟨p, xs, e, hs, hl⟩ := h
    exact ⟨p, xs, e, s.tup hs, RpL.t s hl⟩
theorem RpL.t {K : PySem.W.Frag} {H H' : Hp} (s : SameT H H') : ∀ {ds : List D} {xs : List V}, RpL K H ds xs → RpL K H' ds xs
  | [], xs, h => by rw [RpL] at h ⊢; exact h
  | d :: ds, xs, h => by
    rw [RpL] at h ⊢
    obtain ⟨v, r, e, h1, h2⟩ := h
    exact ⟨v, r, e, Rp.t s h1, RpL.t s h2⟩
end
theorem RpL.app {K : PySem.W.Frag} {H : Hp} : ∀ {ds es : List D} {xs ys : List V}, RpL K H ds xs → RpL K H es ys → RpL K H (ds ++ es) (xs ++ ys)
  | [], es, xs, ys, h, g => by rw [RpL] at h; subst h; exact g
  | d :: ds, es, xs, ys, h, g => by
    rw [RpL] at h
    obtain ⟨v, r, rfl, h1, h2⟩ := h
    rw [List.cons_append, List.cons_append, RpL]
    exact ⟨v, r ++ ys, rfl, h1, RpL.app h2 g⟩
theorem RpL.one {K : PySem.W.Frag} {H : Hp} {d : D} {v : V} (h : Rp K H d v) : RpL K H [d] [v] := by
  rw [RpL]; exact ⟨v, [], rfl, h, by rw [RpL]⟩
theorem RpL.nil {K : PySem.W.Frag} {H : Hp} : RpL K H [] [] := by rw [RpL]
def But (l : List Addr) (H H' : Hp) : Prop := ∀ b o, H b = some o → b ∉ l → H' b = some o
theorem Same.but {H H' : Hp} {l : List Addr} (s : Same H H') : But l H H' := fun b o e _ => s b o e
theorem But.trans {l : List Addr} {H H' H'' : Hp} (a : But l H H') (b : But l H' H'') : But l H H'' := fun x o e h => b x o (a x o e h) h
theorem But.upd {l : List Addr} {H H' : Hp} {p : Addr} {o : HO} (s : But l H H') (h : H p = none ∨ p ∈ l) : But l H (L2.upd H' p o) := fun b u e k => by
  have hb : b ≠ p := by
    rintro rfl
    rcases h with h | h
    · rw [h] at e; cases e
    · exact k h
  rw [upd_ne hb]; exact s b u e k
theorem But.mono {l l' : List Addr} {H H' : Hp} (s : But l H H') (h : ∀ b ∈ l, b ∈ l') : But l' H H' := fun b o e k => s b o e fun z => k (h b z)
def tNotT (K : PySem.W.Frag) (ta : TE) : TE := fun σ H Q => ta σ H fun x H1 => ∃ k, TruV K x H1 k ∧ Q (.bl (!k)) H1
section
variable {X : Cx} {a : Expr} {ta : TE} {pos : Pos}
end
theorem nt_lst {H : Hp} {p : Addr} {xs : List V} (h : H p = some (.lst xs)) : ∀ u, H p = some u → ¬ ((∃ xs, u = .tup xs) ∨ ∃ o1 o2, u = .frz o1 o2) := fun u e => by
  rw [h] at e; cases e
  rintro (⟨xs, e⟩ | ⟨o1, o2, e⟩) <;> cases e
theorem un {H : Hp} {p b : Addr} {o : HO} (h : upd H p o b = none) : b ≠ p ∧ H b = none := by
  have hb : b ≠ p := by rintro rfl; rw [upd_same] at h; cases h
  rw [upd_ne hb] at h
  exact ⟨hb, h⟩
theorem But.free {l : List Addr} {H G : Hp} {b : Addr} (bt : But l H G) (hl : ∀ c ∈ l, ∃ o, G c = some o) (h : G b = none) : H b = none := by
  cases e : H b with
  | none => rfl
  | some o =>
    by_cases m : b ∈ l
    · obtain ⟨o, z⟩ := hl b m; rw [h] at z; cases z
    · have := bt b o e m; rw [h] at this; cases this
theorem But.refl (l : List Addr) (H : Hp) : But l H H := fun _ _ e _ => e
end L2

set_option Elab.async false
set_option linter.all false
set_option maxRecDepth 100000
set_option maxHeartbeats 4000000
namespace L2
open PySem PySem.Spec PyProof.Rows
def tDComp0 (wi : TI) : TE := fun σ H Q => wi σ H fun J H1 => ∀ p, H1 p = none → J.stop 0 (upd H1 p (.dK [])) ∧ Q (.ref p) (upd H1 p (.dK []))
section
variable {X : Cx}
end
end L2

set_option Elab.async false
set_option linter.all false
set_option maxRecDepth 100000
set_option maxHeartbeats 4000000
namespace L2
open PySem PySem.Spec PyProof.Rows
section
variable {X : Cx} {st : Stmt} {rest : List Stmt} {t u : TS}
def hold {α : Sort u} (a : α) : α := a
def tSeqH (a b : TS) : TS := fun D σ H => a { D with nx := hold (b D) } σ H
theorem pss_consH (h1 : PS X st t) (h2 : PSs X rest u) : PSs X (st :: rest) (tSeqH t u) := pss_cons h1 h2
theorem hold_at {R : St → Hp → Prop} {σ : St} {H : Hp} (h : R σ H) : hold R σ H := h
theorem if_same {α : Type} {c : Prop} [Decidable c] {R : α → Prop} {a b : α} (h : ∀ z, z = (if c then a else b) → R z) : if c then R a else R b := by
  split
  · exact h a (by rw [if_pos ‹_›])
  · exact h b (by rw [if_neg ‹_›])
end
end L2

set_option Elab.async false
set_option linter.all false
set_option maxRecDepth 100000
set_option maxHeartbeats 4000000
namespace L2
open PySem PySem.Spec PyProof.Rows
def oRef (x : V) (P : Addr → Prop) : Prop := match x with | .ref a => P a | _ => False
def oInt (x : V) (P : Int → Prop) : Prop := match x with | .int a => P a | _ => False
def oBl (x : V) (P : Bool → Prop) : Prop := match x with | .bl a => P a | _ => False
def oGet (σ : St) (i : Nat) (P : V → Prop) : Prop := match σ[i]? with | some (some v) => P v | _ => False
def o1 (vs : List V) (P : V → Prop) : Prop := match vs with | [x] => P x | _ => False
def o2 (vs : List V) (P : V → V → Prop) : Prop := match vs with | [x, y] => P x y | _ => False
def o0 (vs : List V) (P : Prop) : Prop := match vs with | [] => P | _ => False
def oC (vs : List V) (P : V → List V → Prop) : Prop := match vs with | x :: r => P x r | _ => False
theorem oRef.ex {x : V} {P : Addr → Prop} (h : oRef x P) : ∃ a, x = .ref a ∧ P a := by cases x <;> first | exact ⟨_, rfl, h⟩ | exact h.elim
theorem oInt.ex {x : V} {P : Int → Prop} (h : oInt x P) : ∃ a, x = .int a ∧ P a := by cases x <;> first | exact ⟨_, rfl, h⟩ | exact h.elim
theorem oBl.ex {x : V} {P : Bool → Prop} (h : oBl x P) : ∃ a, x = .bl a ∧ P a := by cases x <;> first | exact ⟨_, rfl, h⟩ | exact h.elim
theorem oGet.ex {σ : St} {i : Nat} {P : V → Prop} (h : oGet σ i P) : ∃ v, σ[i]? = some (some v) ∧ P v := by
  unfold oGet at h
  split at h
  · exact ⟨_, ‹_›, h⟩
  · exact h.elim
theorem o1.ex {vs : List V} {P : V → Prop} (h : o1 vs P) : ∃ x, vs = [x] ∧ P x := match vs, h with | [x], h => ⟨x, rfl, h⟩
theorem o2.ex {vs : List V} {P : V → V → Prop} (h : o2 vs P) : ∃ x y, vs = [x, y] ∧ P x y := match vs, h with | [x, y], h => ⟨x, y, rfl, h⟩
theorem o0.ex {vs : List V} {P : Prop} (h : o0 vs P) : vs = [] ∧ P := match vs, h with | [], h => ⟨rfl, h⟩
theorem oC.ex {vs : List V} {P : V → List V → Prop} (h : oC vs P) : ∃ x r, vs = x :: r ∧ P x r := match vs, h with | x :: r, h => ⟨x, r, rfl, h⟩
def tMono (t : TE) : TE := fun σ H Q => ∃ Q', t σ H Q' ∧ ∀ v H', Q' v H' → Q v H'
def aMono (t : TA) : TA := fun σ H Q => ∃ Q', t σ H Q' ∧ ∀ v H', Q' v H' → Q v H'
def rMono (r : R2) : R2 := fun x y H Q => ∃ Q', r x y H Q' ∧ ∀ v H', Q' v H' → Q v H'
section
variable {X : Cx} {a b c o e value tg : Expr} {es : List Expr} {ta tb tc tv te : TE} {pos pos' apos tpos p : Pos} {f x : Str}
theorem PE.mono {t : TE} (h : PE X e t) : PE X e (tMono t) := fun pins s σ H Q I ⟨Q', q, m⟩ => thn (h pins s σ H Q' I q) fun _ _ ⟨v, H', I', r, z⟩ => ⟨v, H', I', r, m _ _ z⟩
theorem PA.mono {t : TA} (h : PA X es t) : PA X es (aMono t) := fun p pins s σ H Q I ⟨Q', q, m⟩ => thn (h p pins s σ H Q' I q) fun _ _ ⟨v, H', I', r, z⟩ => ⟨v, H', I', r, m _ _ z⟩
theorem OpR.mono {f : Value → Value → Sem Value} {r : R2} (h : OpR X f r) : OpR X f (rMono r) := fun pins s σ H x y v u Q I r1 r2 ⟨Q', q, m⟩ => thn (h pins s σ H x y v u Q' I r1 r2 q) fun _ _ ⟨v, H', I', r, z⟩ => ⟨v, H', I', r, m _ _ z⟩
theorem OpR.imp {f : Value → Value → Sem Value} {r r' : R2} (h : OpR X f r) (i : ∀ x y H Q, r' x y H Q → r x y H Q) : OpR X f r' := fun pins s σ H x y v u Q I r1 r2 q => h pins s σ H x y v u Q I r1 r2 (i _ _ _ _ q)
theorem UnR.imp {f : Value → Sem Value} {r r' : V → Hp → VK → Prop} (h : UnR X f r) (i : ∀ x H Q, r' x H Q → r x H Q) : UnR X f r' := fun pins s σ H x v Q I r1 q => h pins s σ H x v Q I r1 (i _ _ _ q)
theorem IxR.imp {r r' : R2} (h : IxR X r) (i : ∀ x y H Q, r' x y H Q → r x y H Q) : IxR X r' := fun value slice pins s σ H x y v u Q I r1 r2 q => h value slice pins s σ H x y v u Q I r1 r2 (i _ _ _ _ q)
theorem PT.imp {t t' : TT} (h : PT X e t) (i : ∀ σ H Q, t' σ H Q → t σ H Q) : PT X e t' := fun pins s σ H Q I q => h pins s σ H Q I (i _ _ _ q)
theorem PG.imp {t t' : TG} (h : PG X e t) (i : ∀ v σ H Q, t' v σ H Q → t v σ H Q) : PG X e t' := fun pins s σ H v u Q I r q => h pins s σ H v u Q I r (i _ _ _ _ q)
theorem PGs.imp {t t' : TGs} (h : PGs X es t) (i : ∀ v σ H Q, t' v σ H Q → t v σ H Q) : PGs X es t' := fun pins s σ H v u Q I r q => h pins s σ H v u Q I r (i _ _ _ _ q)
theorem PS.imp {st : Stmt} {t t' : TS} (h : PS X st t) (i : ∀ D σ H, t' D σ H → t D σ H) : PS X st t' := fun pins s σ H D I q => h pins s σ H D I (i _ _ _ q)
theorem CallR.imp {g : Value} {r r' : List V → Hp → VK → Prop} (h : CallR X g r) (i : ∀ xs H Q, r' xs H Q → r xs H Q) : CallR X g r' := fun pins s σ H xs us Q I r1 q => h pins s σ H xs us Q I r1 (i _ _ _ q)
theorem MtM.imp {id : String} {r r' : V → List V → Hp → VK → Prop} (h : MtM X id r) (i : ∀ x xs H Q, r' x xs H Q → r x xs H Q) : MtM X id r' := fun pins s σ H x xs v us Q I r1 r2 q => h pins s σ H x xs v us Q I r1 r2 (i _ _ _ _ q)
theorem PI.imp {iter : Expr} {t t' : TI} (h : PI X tg iter t) (i : ∀ σ H R, t' σ H R → t σ H R) : PI X tg iter t' := fun pins s σ H R I q => h pins s σ H R I (i _ _ _ q)
theorem PSet.imp {t t' : TSet} (h : PSet X t) (i : ∀ o i v H Q, t' o i v H Q → t o i v H Q) : PSet X t' := fun pins s σ H o i' v ov iv u Q I r1 r2 r3 q => h pins s σ H o i' v ov iv u Q I r1 r2 r3 (i _ _ _ _ _ q)
theorem SlR.imp {r r' : V → Option Int → Option Int → Hp → VK → Prop} (h : SlR X r) (i : ∀ x l u H Q, r' x l u H Q → r x l u H Q) : SlR X r' := fun pins s σ H x v vl vu lo hi sl Q I r1 r2 r3 r4 q => h pins s σ H x v vl vu lo hi sl Q I r1 r2 r3 r4 (i _ _ _ _ _ q)
def tVarD (i : Nat) : TE := fun σ H Q => oGet σ i fun v => Q v H
theorem pvD (i : Nat) {x : Str} {pos : Pos} (hN : X.N[i]? = some x := by rfl) (hv : Vis X.env.scope x := by first | exact Or.inl rfl | exact Or.inr (Or.inl rfl) | exact Or.inr (Or.inr rfl)) (hd : (x == ("__debug__" : Str)) = false := by decide)
    (hcd : (x == ("__classdict__" : Str)) = false := by decide) : PE X (.Name x pos) (tVarD i) := (pv i hN hv hd hcd).imp fun _ _ _ h => oGet.ex h
def tBD (t : TE) : TT := fun σ H Q => t σ H fun x H1 => oBl x fun c => Q c H1
theorem pt_valD {e : Expr} {t : TE} (h : PE X e t) (he : ∀ whole, isTrue e X.env whole = (do let v ← whole; standAt e.pos; holding [v] (truthy v)) := by intro _; rfl) : PT X e (tBD t) :=
  (pt_val h.mono he).imp fun _ _ _ q => ⟨_, q, fun _ _ z => z.ex⟩
theorem pt_cmpRD {op : CmpOp} {r : R2} (ho : OpR X (compareOp op) r) (ha : PE X a ta) (hb : PE X b tb) (hm : behindInMarks op b = false) : PT X (.Compare a [op] [b] pos) (tBD (tOp r ta tb)) :=
  (pt_cmpR ho.mono ha.mono hb.mono hm).imp fun _ _ _ q => ⟨_, q, fun _ _ q => ⟨_, q, fun _ _ q => ⟨_, q, fun _ _ z => z.ex⟩⟩⟩
def tAndVD (ta tb : TE) : TE := fun σ H Q => ta σ H fun x H1 => oBl x fun c => if c = true then tb σ H1 Q else Q (.bl false) H1
theorem pe_andD {rest : List Expr} (ha : PE X a ta) (hb : PE X (.BoolOp .And (b :: rest) pos) tb) : PE X (.BoolOp .And (a :: b :: rest) pos) (tAndVD ta tb) :=
  (pe_and ha.mono hb).imp fun _ _ _ q => ⟨_, q, fun _ _ z => z.ex⟩
def tFldD (K : PySem.W.Frag) (ta : TE) (f : Str) : TE := fun σ H Q => ta σ H fun x H1 => oRef x fun a => ∃ C dx fs, H1 a = some (.ins C dx fs) ∧ Cls K C ∧ NoAttr K C f ∧ ∃ v, fs.lookup f = some v ∧ Q v H1
def sFldD (K : PySem.W.Frag) (ta tv : TE) (f : Str) : TS := fun D σ H => tv σ H fun y H1 => ta σ H1 fun x H2 => oRef x fun a => ∃ C dx fs, H2 a = some (.ins C dx fs) ∧ Cls K C ∧ NoAttr K C f ∧ fs.length < 1000 ∧
  D.nx σ (upd H2 a (.ins C dx (putF f y fs)))
def sFldAugD (K : PySem.W.Frag) (ta tv : TE) (rd : V → V → Hp → VK → Prop) (f : Str) : TS := fun D σ H => ta σ H fun x H1 => oRef x fun a => ∃ C dx fs, H1 a = some (.ins C dx fs) ∧ Cls K C ∧ NoAttr K C f ∧ ∃ v, fs.lookup f = some v ∧
  tv σ H1 fun y H2 => rd v y H2 fun z H3 => ∃ dx' fs', H3 a = some (.ins C dx' fs') ∧ fs'.length < 1000 ∧ D.nx σ (upd H3 a (.ins C dx' (putF f z fs')))
def rID (C : Int → Int → Prop) (g : Int → Int → V) : R2 := fun x y H Q => oInt x fun i => oInt y fun j => C i j ∧ Q (g i j) H
def rI0D (g : Int → Int → V) : R2 := fun x y H Q => oInt x fun i => oInt y fun j => Q (g i j) H
def rUD (g : Int → V) : V → Hp → VK → Prop := fun x H Q => oInt x fun i => Q (g i) H
theorem OpR.iD {f : Value → Value → Sem Value} {C g} (h : OpR X f (rI C g)) : OpR X f (rID C g) := h.imp fun _ _ _ _ z => by
  obtain ⟨i, rfl, z1⟩ := z.ex; obtain ⟨j, rfl, z2⟩ := z1.ex; exact ⟨i, j, rfl, rfl, z2⟩
theorem OpR.i0D {f : Value → Value → Sem Value} {g} (h : OpR X f (rI0 g)) : OpR X f (rI0D g) := h.imp fun _ _ _ _ z => by
  obtain ⟨i, rfl, z1⟩ := z.ex; obtain ⟨j, rfl, z2⟩ := z1.ex; exact ⟨i, j, rfl, rfl, z2⟩
theorem op_addD : OpR X (binaryOp .Add) (rI0D fun i j => .int (i + j)) := op_add.i0D
theorem op_subD : OpR X (binaryOp .Sub) (rI0D fun i j => .int (i - j)) := op_sub.i0D
theorem op_mulWD : OpR X (binaryOp .Mult) (rID (fun i j => IntMulOk i j) fun i j => .int (i * j)) := op_mulW.iD
theorem op_fdivWD : OpR X (binaryOp .FloorDiv) (rID (fun _ j => 0 < j ∧ j < 2 ^ 100) fun i j => .int (i / j)) := op_fdivW.iD
theorem op_modD : OpR X (binaryOp .Mod) (rID (fun _ j => 0 < j) fun i j => .int (i % j)) := op_mod.iD
theorem op_powD : OpR X (binaryOp .Pow) (rID CPow fun i j => .int (i ^ j.toNat)) := op_pow.iD
theorem op_ltD : OpR X (compareOp .Lt) (rI0D fun i j => .bl (decide (i < j))) := op_lt.i0D
theorem op_leD : OpR X (compareOp .LtE) (rI0D fun i j => .bl (decide (i ≤ j))) := op_le.i0D
theorem op_gtD : OpR X (compareOp .Gt) (rI0D fun i j => .bl (decide (j < i))) := op_gt.i0D
theorem op_geD : OpR X (compareOp .GtE) (rI0D fun i j => .bl (decide (j ≤ i))) := op_ge.i0D
theorem un_negD : UnR X (unaryOp .USub) (rUD fun i => .int (-i)) := un_neg.imp fun _ _ _ z => z.ex
def rEqD1 (x y : V) (P : Bool → Prop) : Prop := match x with
  | .int i => (match y with | .int j => P (decide (i = j)) | .str _ => P false | .non => P false | _ => False)
  | .str i => (match y with | .str j => P (decide (i = j)) | .int _ => P false | .non => P false | _ => False)
  | .bl i => (match y with | .bl j => P (decide (i = j)) | .str _ => P false | .non => P false | _ => False)
  | .non => (match y with | .non => P true | .int _ => P false | .bl _ => P false | .str _ => P false | _ => False)
  | _ => False
theorem rEqD1.ex {x y : V} {P : Bool → Prop} (h : rEqD1 x y P) : scal x y = true ∧ P (decide (x = y)) := by
  cases x <;> cases y <;> first | exact h.elim | exact ⟨rfl, by simpa [rEqD1] using h⟩
def rEqX : R2 := fun x y H Q => rEqD1 x y fun k => Q (.bl k) H
def rNeX : R2 := fun x y H Q => rEqD1 x y fun k => Q (.bl (!k)) H
theorem op_eqD : OpR X (compareOp .Eq) rEqX := op_eq.imp fun _ _ _ _ z => z.ex
theorem op_neD : OpR X (compareOp .NotEq) rNeX := op_ne.imp fun _ _ _ _ z => z.ex
def rIxLD (K : PySem.W.Frag) : R2 := fun x y H Q => oRef x fun p => oInt y fun i => ∃ xs, SqL K H p xs ∧ ∃ v, atI xs i = some v ∧ Q v H
def rIxTD (K : PySem.W.Frag) : R2 := fun x y H Q => oRef x fun p => oInt y fun i => ∃ xs, SqT K H p xs ∧ ∃ v, atI xs i = some v ∧ Q v H
theorem ix_listD : IxR X (rIxLD X.K) := ix_list.imp fun _ _ _ _ z => by
  obtain ⟨p, rfl, z1⟩ := z.ex; obtain ⟨j, rfl, xs, h1, v, h2, h3⟩ := z1.ex; exact ⟨p, xs, j, v, rfl, rfl, h1, h2, h3⟩
theorem ix_tupD : IxR X (rIxTD X.K) := ix_tup.imp fun _ _ _ _ z => by
  obtain ⟨p, rfl, z1⟩ := z.ex; obtain ⟨j, rfl, xs, h1, v, h2, h3⟩ := z1.ex; exact ⟨p, xs, j, v, rfl, rfl, h1, h2, h3⟩
def gNilD : TGs := fun vs σ H Q => o0 vs (Q σ H)
def gConsD (t : TG) (u : TGs) : TGs := fun vs σ H Q => oC vs fun v r => t v σ H fun σ' H' => u r σ' H' Q
def gTupD (K : PySem.W.Frag) (n : Nat) (t : TGs) : TG := fun v σ H Q => oRef v fun a => ∃ xs, SqT K H a xs ∧ xs.length = n ∧ t xs σ H Q
def gLstD (K : PySem.W.Frag) (n : Nat) (t : TGs) : TG := fun v σ H Q => oRef v fun a => ∃ xs, SqL K H a xs ∧ xs.length = n ∧ t xs σ H Q
theorem pgs_nilD : PGs X [] gNilD := pgs_nil.imp fun _ _ _ _ z => z.ex
theorem pgs_consD {e : Expr} {es : List Expr} {t : TG} {u : TGs} (h1 : PG X e t) (h2 : PGs X es u)
    (hs : (assignEach (e :: es) X.env).map (·.2) = assign e X.env :: (assignEach es X.env).map (·.2) := by rfl) : PGs X (e :: es) (gConsD t u) := (pgs_cons h1 h2 hs).imp fun _ _ _ _ z => z.ex
theorem pg_tupD {es : List Expr} {k : Nat} {t : TGs} {n : Nat} (hc : X.calm = true) (h : PGs X es t)
    (hn : (assignEach es X.env).length = n := by rfl) (hst : (assignEach es X.env).findIdx? (·.1) = none := by rfl) : PG X (.Tuple es k pos) (gTupD X.K n t) :=
  (pg_tup hc h hn hst).imp fun _ _ _ _ z => by obtain ⟨a, rfl, xs, z⟩ := z.ex; exact ⟨a, xs, rfl, z⟩
theorem pg_lstD {es : List Expr} {k : Nat} {t : TGs} {n : Nat} (hc : X.calm = true) (h : PGs X es t)
    (hn : (assignEach es X.env).length = n := by rfl) (hst : (assignEach es X.env).findIdx? (·.1) = none := by rfl) : PG X (.Tuple es k pos) (gLstD X.K n t) :=
  (pg_lst hc h hn hst).imp fun _ _ _ _ z => by obtain ⟨a, rfl, xs, z⟩ := z.ex; exact ⟨a, xs, rfl, z⟩
def iListD (K : PySem.W.Frag) (tl : TE) : TI := fun σ H R => tl σ H fun x H1 => oRef x fun a => (∃ xs, SqL K H1 a xs) ∧ R (Itl K a) H1
def iTupD (K : PySem.W.Frag) (tl : TE) : TI := fun σ H R => tl σ H fun x H1 => oRef x fun a => (∃ xs, SqT K H1 a xs) ∧ R (Itt K a) H1
theorem pi_listD {l : Expr} {tl : TE} (hl : PE X l tl) : PI X tg l (iListD X.K tl) := (pi_list hl.mono).imp fun _ _ _ q => ⟨_, q, fun _ _ z => z.ex⟩
def rMax : List V → Hp → VK → Prop := fun xs H Q => o2 xs fun x y => oInt x fun i => oInt y fun j => Q (.int (if j > i then j else i)) H
def rMin : List V → Hp → VK → Prop := fun xs H Q => o2 xs fun x y => oInt x fun i => oInt y fun j => Q (.int (if j < i then j else i)) H
def rLen (K : PySem.W.Frag) : List V → Hp → VK → Prop := fun xs H Q => o1 xs fun x => oRef x fun p => ∃ ys, (SqL K H p ys ∨ SqT K H p ys) ∧ Q (.int ys.length) H
def rTupL (K : PySem.W.Frag) : List V → Hp → VK → Prop := fun xs H Q => o1 xs fun x => oRef x fun p => ∃ ys, SqL K H p ys ∧ ∀ l, H l = none → Q (.ref l) (upd H l (.tup ys))
theorem call_max2D (hc : X.calm = true) : CallR X (.builtin "max") rMax := (call_max2 hc).imp fun _ _ _ z => by
  obtain ⟨x, y, rfl, z1⟩ := z.ex; obtain ⟨i, rfl, z2⟩ := z1.ex; obtain ⟨j, rfl, z3⟩ := z2.ex; exact ⟨i, j, rfl, z3⟩
theorem call_min2D (hc : X.calm = true) : CallR X (.builtin "min") rMin := (call_min2 hc).imp fun _ _ _ z => by
  obtain ⟨x, y, rfl, z1⟩ := z.ex; obtain ⟨i, rfl, z2⟩ := z1.ex; obtain ⟨j, rfl, z3⟩ := z2.ex; exact ⟨i, j, rfl, z3⟩
theorem call_len_seqD : CallR X (.builtin "len") (rLen X.K) := call_len_seq.imp fun _ _ _ z => by
  obtain ⟨x, rfl, z1⟩ := z.ex; obtain ⟨p, rfl, ys, z2⟩ := z1.ex; exact ⟨p, ys, rfl, z2⟩
def rIsi (K : PySem.W.Frag) (c : Value) : List V → Hp → VK → Prop := fun xs H Q => o2 xs fun x y => RelV y c ∧ (∃ n, c = .type n) ∧ ∃ ty, (TyOf K H x ty ∨ ∃ p, x = .ref p ∧ (∃ ys, SqT K H p ys) ∧ ty = .type "tuple") ∧ ∃ b, PySem.W.kitOne K ty c = some b ∧ Q (.bl b) H
theorem call_isiXD {c : Value} : CallR X (.builtin "isinstance") (rIsi X.K c) := call_isiX.imp fun _ _ _ z => by
  obtain ⟨x, y, rfl, h1, h2, ty, h3, h4⟩ := z.ex
  exact ⟨x, y, rfl, h1, h2, ty, h3.imp id fun ⟨p, e, ⟨ys, h⟩, h'⟩ => ⟨p, ys, e, h, h'⟩, h4⟩
def rAppendD : V → List V → Hp → VK → Prop := fun x vs H Q => oRef x fun l => o1 vs fun y => ∃ xs, H l = some (.lst xs) ∧ xs.length < sizeLine ∧ Q .non (upd H l (.lst (xs ++ [y])))
theorem mt_appendD : MtM X "list.append" rAppendD := mt_append.imp fun _ _ _ _ z => by
  obtain ⟨l, rfl, z1⟩ := z.ex; obtain ⟨y, rfl, xs, z2⟩ := z1.ex; exact ⟨l, xs, y, rfl, rfl, z2⟩
def rSetLD : V → V → V → Hp → (Hp → Prop) → Prop := fun o i v H Q => oRef o fun p => oInt i fun k => ∃ xs, H p = some (.lst xs) ∧ ∃ j, ixN xs.length k = some j ∧ Q (upd H p (.lst (xs.set j v)))
end
end L2

set_option Elab.async false
set_option linter.all false
set_option maxRecDepth 100000
set_option maxHeartbeats 4000000
namespace L2
open PySem PySem.Spec PyProof.Rows
section
variable {X : Cx} {pins : List (Addr × Obj)} {σ : St} {H : Hp} {s : Shared}
theorem deqL_len : ∀ (ds es : List D), ds.length ≠ es.length → deqL ds es = false
  | [], [], h => absurd rfl h
  | [], e :: es, _ => by simp [deqL]
  | d :: ds, [], _ => by simp [deqL]
  | d :: ds, e :: es, h => by rw [deqL, deqL_len ds es (by simpa using h), Bool.and_false]
def rEqL (K : PySem.W.Frag) (ne : Bool) : R2 := fun x y H Q => oRef x fun p => oRef y fun q => ∃ xs ys ds es, SqL K H p xs ∧ SqL K H q ys ∧ RpL K H ds xs ∧ RpL K H es ys ∧ depL ds ≤ 60 ∧ Q (.bl (if ne then !deqL ds es else deqL ds es)) H
theorem op_neL (hu : X.A.units + 64 < cLine) : OpR X (compareOp .NotEq) (rEqL X.K true) := by
  intro pins s σ H x y v u Q I rx ry h
  obtain ⟨p, rfl, h2⟩ := oRef.ex h
  obtain ⟨p', rfl, xs, xs', ds, es, hs, hs', hl, hl', hd, q⟩ := oRef.ex h2
  cases rx
  cases ry
  obtain ⟨its, rv, ht, _⟩ := I.list hs
  obtain ⟨its', rv', ht', _⟩ := I.list hs'
  have l1 : its.length = ds.length := by rw [← rv.length, hl.length]
  have l2 : its'.length = es.length := by rw [← rv'.length, hl'.length]
  by_cases hn : ds.length = es.length
  · refine SeqAt.RcNeAt.lists (e := fun j => deq (ds.getD j .non) (es.getD j .non)) ht.isList ht'.isList (by simp [l1, l2, hn]) (by omega) (fun j h1 h2 => eqAtL_D I hl hl' rv rv' (show X.A.in1.units + depL ds < cLine by show X.A.units + 1 + depL ds < cLine; omega) j (by simpa using h1) (by simpa using h2)) X.prog X.w X.xe _ ?_
    exact fin_bl I q (by
      simp only [if_true]
      rw [← deqL_range]
      simp only [List.size_toArray, l1, hn, Nat.min_self, beq_self_eq_true, Bool.and_true])
  · refine SeqAt.RcNeAt.lists_lengths ht.isList ht'.isList (by simp [l1, l2, hn]) (by omega) X.prog X.w X.xe _ ?_
    exact fin_bl I q (by simp only [if_true]; rw [deqL_len _ _ hn]; rfl)
end
end L2

set_option Elab.async false
set_option linter.all false
set_option maxRecDepth 100000
set_option maxHeartbeats 4000000
namespace L2
open PySem PySem.Spec PyProof.Rows
theorem lri_no_len : typeLookup (.type "list_reverseiterator") "__len__" = pure none := by rw [typeLookup_type, builtinLookup_eq_fast]; kernel_rfl
theorem lri_hint : typeLookup (.type "list_reverseiterator") "__length_hint__" = pure (some (.builtin "list_reverseiterator.__length_hint__")) := by rw [typeLookup_type, builtinLookup_eq_fast]; kernel_rfl
section
variable {prog : Program} {w : World} {A : Around} {s : Shared} {E : Value → Shared → Prop} {R : Result → Shared → Prop} {I l : Addr} {items : Array Value}
theorem hint_rev {Q : Bool → Shared → Prop} (hT : s.TypeIs (.ref I) "list_reverseiterator") (h : Q false s) : wpAny (model prog w) A (Builtin.List.listLengthHint (.ref I)) Q E s := by
  unfold Builtin.List.listLengthHint
  refine wpAny_bind (wpAny_specialOf hT lri_no_len ?_)
  show wpAny _ _ (specialOf (Value.ref I) (Str.ofString "__length_hint__") >>= _) _ _ _
  refine wpAny_bind (wpAny_specialOf hT lri_hint ?_)
  generalize hid : ("list_reverseiterator.__length_hint__" : String) = id0
  wp_delta
  rw [show splitId id0 = some ("list_reverseiterator", "__length_hint__") from by subst hid; decide +kernel]
  subst hid
  refine wpAny_bind (wpAny_isInstance (T := "list_reverseiterator") (b := true) hT (by rw [isSubtype_type]; kernel_rfl) ?_)
  refine wpAny_ite_split (fun hab => absurd hab (by decide)) (fun _ => ?_)
  refine wpAny_ite_split (fun _ => ?_) (fun hab => absurd (by decide +kernel) hab)
  refine wpAny_ite_split (fun hab => absurd hab (by decide)) (fun _ => ?_)
  exact wpAny_pure h
theorem ext_rev (hh : A.handled = none) (hne : l ≠ I) (S : Addr) (hSI : S ≠ I) (hSl : S ≠ l) (res : Value) (c₀ : Nat) (hit : s.heap.IsRevIter I l ((items.size : Int) - 1)) (hl : s.heap.IsList l items)
    (hS : s.heap.get? S = some { cls := .type "list", data := .seq #[] c₀ }) (hn : items.size ≤ sizeLine)
    (hR : ∀ h' tk acc' c', (∀ b o, b ≠ S → b ≠ I → s.heap.get? b = some o → h'.get? b = some o) → h'.get? S = some { cls := .type "list", dict := none, data := .seq acc' c', slots := #[] } →
      ItemsOf (fun i v => items[items.size - 1 - i]? = some v) acc' items.size → R (.ok (.ret res)) { s with heap := h', toks := tk }) :
    wpAny (model prog w) A.in1 (Builtin.List.listExtendWith (.ref S) (.ref I) res)
      (fun fin s' => match fin with | .done f => R (.ok f) s' | .again c' => c'.quiet = true ∧ codeAny (model prog w) A c' R s') (fun e s' => R (.error e) s') s := by
  have hSf : S ∉ [I, l] := by simp only [List.mem_cons, List.not_mem_nil, or_false, not_or]; exact ⟨hSI, hSl⟩
  have W := Walks.listRev (prog := prog) (w := w) (A := A.in1) hh I l hne items
  have st : ∀ h : Heap, h.IsRevIter I l ((items.size : Int) - 1) → h.IsList l items → 0 ≤ items.size ∧ h.IsRevIter I l ((items.size : Int) - 1 - ((0 : Nat) : Int)) ∧ h.IsList l items := fun h h1 h2 => ⟨Nat.zero_le _, by rw [show (items.size : Int) - 1 - ((0 : Nat) : Int) = (items.size : Int) - 1 by omega]; exact h1, h2⟩
  have key : ∀ (h : Heap) (c₁ tk : Nat), h.IsRevIter I l ((items.size : Int) - 1) → h.IsList l items → (∀ b o, b ≠ S → s.heap.get? b = some o → h.get? b = some o) →
      h.get? S = some { cls := .type "list", data := .seq #[] c₁ } → codeAny (model prog w) A (.builtin "list.extend.loop" ⟨[.ref S, .ref I, res], []⟩) R { s with heap := h, toks := tk } := by
    intro h c₁ tk h1 h2 hk hS₁
    refine codeAny_extend_loopS W.toS hn S hSf res items.size 0 _ #[] c₁ rfl (Nat.zero_le _) (st h h1 h2) hS₁ (ItemsOf.nil _) fun s' acc' c' hm hS' hacc => ?_
    rw [Moved.eq_with hm]
    refine hR s'.heap s'.toks acc' c' (fun b o hb hI e => hm.heap b o (fun hmem => ?_) (hk b o hb e)) hS' hacc
    rcases List.mem_cons.mp hmem with e' | hmem
    · exact hb e'
    · exact hI (List.mem_singleton.mp hmem)
  unfold Builtin.List.listExtendWith
  refine wpAny_bind (wpAny_typeOf (T := "list_reverseiterator") hit.typeIs ?_)
  have h1 : Builtin.List.listSameRef (.ref S) (.ref I) = false := by simp [Builtin.List.listSameRef, hSI]
  have h2 : (Value.type "list_reverseiterator" == Value.type "list") = false := by decide
  have h3 : (Value.type "list_reverseiterator" == Value.type "tuple") = false := by decide
  simp only [h1, h2, h3, Bool.or_false, Bool.false_eq_true, if_false]
  refine wpAny_bind (wpAny_pyIter_revIter hit ?_)
  refine wpAny_bind (wpAny_holding (hint_rev hit.typeIs ?_))
  refine wpAny_ite_split (fun _ => ?_) (fun _ => wpAny_pure ⟨plainId_quiet F.plain_extend_loop _, key _ c₀ _ hit hl (fun b o _ e => e) hS⟩)
  refine wpAny_bind (wpAny_rule ?_)
  refine wpAny_bind ?_
  show wpAny _ _ (updateSeq S (·.push .none) >>= fun _ => updateSeq S (·.pop)) _ _ _
  refine wpAny_bind (wpAny_updateSeq hS rfl ?_)
  have hS₂ := Heap.get?_update_self (Obj.mapSeq (·.push Value.none)) hS rfl
  refine wpAny_updateSeq (hz := by seq_fits) hS₂ rfl ?_
  have hS₃ := Heap.get?_update_self (Obj.mapSeq (·.pop)) hS₂ rfl
  have oth : ∀ b o, b ≠ S → s.heap.get? b = some o → ((s.heap.update S (Obj.mapSeq (·.push Value.none))).update S (Obj.mapSeq (·.pop))).get? b = some o :=
    fun b o hb e => (Heap.get?_update_other _ _ (Ne.symm hb)).trans ((Heap.get?_update_other _ _ (Ne.symm hb)).trans e)
  obtain ⟨oi, e1, e2, e3⟩ := id hit
  exact wpAny_pure ⟨plainId_quiet F.plain_extend_loop _, key _ _ _ ⟨oi, oth I oi (Ne.symm hSI) e1, e2, e3⟩ (hl.at fun o e => oth l o (Ne.symm hSl) e) (fun b o hb e => oth b o hb e) hS₃⟩
theorem init_rev (hh : A.handled = none) (hne : l ≠ I) (S : Addr) (hSI : S ≠ I) (hSl : S ≠ l) (hit : s.heap.IsRevIter I l ((items.size : Int) - 1)) (hl : s.heap.IsList l items)
    (hS : s.heap.get? S = some { cls := .type "list", data := .seq #[] }) (hn : items.size ≤ sizeLine)
    (hR : ∀ h' tk acc' c', (∀ b o, b ≠ S → b ≠ I → s.heap.get? b = some o → h'.get? b = some o) → h'.get? S = some { cls := .type "list", dict := none, data := .seq acc' c', slots := #[] } →
      ItemsOf (fun i v => items[items.size - 1 - i]? = some v) acc' items.size → R (.ok (.ret .none)) { s with heap := h', toks := tk }) :
    wpAny (model prog w) A.in1 (Builtin.«list.__init__» ⟨[.ref S, .ref I], []⟩)
      (fun fin s' => match fin with | .done f => R (.ok f) s' | .again c' => c'.quiet = true ∧ codeAny (model prog w) A c' R s') (fun e s' => R (.error e) s') s := by
  show wpAny _ A.in1 (do let old ← Builtin.List.listItems (.ref S); Builtin.List.listUpdate (.ref S) (fun _ => #[]); letGo old.toList.reverse; Builtin.List.listExtendWith (.ref S) (.ref I) .none) _ _ s
  refine wpAny_bind ?_
  unfold Builtin.List.listItems
  refine wpAny_bind (wpAny_seqItems hS rfl (wpAny_pure ?_))
  show wpAny _ A.in1 (updateSeq S (fun _ => #[]) >>= fun _ => letGo (#[] : Array Value).toList.reverse >>= fun _ => Builtin.List.listExtendWith (.ref S) (.ref I) .none) _ _ s
  refine wpAny_bind (wpAny_updateSeq hS rfl ?_)
  have hS₂ := Heap.get?_update_self (Obj.mapSeq (fun _ => (#[] : Array Value))) hS rfl
  have oth : ∀ b o, b ≠ S → s.heap.get? b = some o → (s.heap.update S (Obj.mapSeq (fun _ => (#[] : Array Value)))).get? b = some o :=
    fun b o hb e => (Heap.get?_update_other _ _ (Ne.symm hb)).trans e
  refine wpAny_bind (wpAny_letGo ?_)
  obtain ⟨oi, e1, e2, e3⟩ := id hit
  refine ext_rev hh hne S hSI hSl .none _ ⟨oi, oth I oi (Ne.symm hSI) e1, e2, e3⟩ (hl.at fun o e => oth l o (Ne.symm hSl) e) hS₂ hn fun h' tk acc' c' hk hS' hacc => ?_
  exact hR h' tk acc' c' (fun b o hb hI e => hk b o hb hI (oth b o hb e)) hS' hacc
theorem call_list_rev {Q : Value → Shared → Prop} (hh : A.handled = none) (hne : l ≠ I) (hit : s.heap.IsRevIter I l ((items.size : Int) - 1)) (hl : s.heap.IsList l items) (hn : items.size ≤ sizeLine)
    (hQ : ∀ h' tk c', (∀ b o, b ≠ I → s.heap.get? b = some o → h'.get? b = some o) → h'.get? s.heap.objs.size = some { cls := .type "list", dict := none, data := .seq items.reverse c', slots := #[] } → Q (.ref s.heap.objs.size) { s with heap := h', toks := tk }) :
    wpAny (model prog w) A (call (.type "list") [.ref I]) Q E s := by
  obtain ⟨oi, e1, e2, e3⟩ := id hit
  obtain ⟨ol, f1, f2, nn, f3⟩ := id hl
  have hSI : s.heap.objs.size ≠ I := Nat.ne_of_gt (Heap.lt_size e1)
  have hSl : s.heap.objs.size ≠ l := Nat.ne_of_gt (Heap.lt_size f1)
  refine callType_codes (Q₁ := fun obj s₁ => obj = .ref s.heap.objs.size ∧ s₁ = { s with heap := s.heap.push { cls := .type "list", data := .seq #[] } }) F.called_list (F.typeCall_list_1 _) F.entry_list_init
    (code_list_new _ ⟨rfl, rfl⟩) fun obj s₁ h₁ => ?_
  obtain ⟨rfl, rfl⟩ := h₁
  have hS : (s.heap.push { cls := .type "list", data := .seq #[] }).get? s.heap.objs.size = some { cls := .type "list", data := .seq #[] } := Heap.get?_push_size _ rfl
  refine ⟨⟨_, hS, rfl⟩, F.args_list_init_2 _ _, init_rev (A := A.in1) (show A.in1.handled = none from hh) hne _ hSI hSl ⟨oi, Heap.get?_push_of_some _ e1, e2, e3⟩ (hl.at fun o e => Heap.get?_push_of_some _ e) hS hn fun h' tk acc' c' hk hS' hacc => ?_⟩
  refine ⟨rfl, hQ h' tk c' (fun b o hb e => hk b o (Nat.ne_of_lt (Heap.lt_size e)) hb (Heap.get?_push_of_some _ e)) ?_⟩
  have ea : acc' = items.reverse := by
    obtain ⟨z1, z2⟩ := hacc
    refine Array.ext (by rw [z1, Array.size_reverse]) fun i h1 h2 => ?_
    have z : items[items.size - 1 - i]? = some acc'[i] := z2 i acc'[i] (Array.getElem?_eq_getElem h1)
    rw [Array.getElem_reverse]
    have hi : items.size - 1 - i < items.size := by rw [z1] at h1; omega
    rw [Array.getElem?_eq_getElem hi] at z
    exact (Option.some.inj z).symm
  rw [← ea]; exact hS'
end
section
variable {X : Cx} {e : Expr} {te : TE} {p p' pos pos' : Pos}
def tRev (K : PySem.W.Frag) (te : TE) : TE := fun σ H Q => te σ H fun x H1 => oRef x fun a => ∃ xs, SqL K H1 a xs ∧ ∀ l, H1 l = none → Q (.ref l) (upd H1 l (.lst xs.reverse))
theorem pe_listrev (hc : X.calm = true) (hgl : Gl X "list") (hml : X.mg "list" = none) (hgr : Gl X "reversed") (hmr : X.mg "reversed" = none) (ha : PE X e te)
    (he : starEach [.Call (.Name "reversed" p') [e] [] pos'] X.env = [(false, eval (.Call (.Name "reversed" p') [e] [] pos') X.env)] := by rfl)
    (he' : starEach [e] X.env = [(false, eval e X.env)] := by rfl) :
    PE X (.Call (.Name "list" p) [.Call (.Name "reversed" p') [e] [] pos'] [] pos) (tRev X.K te) := by
  intro pins s σ H Q I h
  refine wpAny_Call_Name_kw (ld_blt I hgl hml rfl ?_ (by decide) (by decide))
  refine PyProof.Rows.callWith_type1 ?_ he rfl
  rw [he]
  refine Calls.spliced_cons ?_
  refine wpAny_Call_Name_kw (ld_blt I hgr hmr rfl ?_ (by decide) (by decide))
  refine PyProof.Rows.callWith_type1 ?_ he' rfl
  rw [he']
  refine Calls.spliced_cons (thn (ha pins s σ H _ I h) fun u s1 ⟨x, H1, I1, r1, q1⟩ => Calls.spliced_nil ?_)
  obtain ⟨a, rfl, xs, hq, q⟩ := oRef.ex q1
  cases r1
  obtain ⟨its, rv, pl, hz⟩ := I1.list hq
  have hl := pl.isList
  obtain ⟨ol, f1, f2, nn, f3⟩ := id hl
  refine call_reversed_list hl ?_
  refine Calls.spliced_nil ?_
  have hne : a ≠ s1.heap.objs.size := Nat.ne_of_lt (Heap.lt_size f1)
  refine call_list_rev (l := a) (I := s1.heap.objs.size) (items := its.toArray) ?_ hne ⟨_, Heap.get?_push_size _ rfl, rfl, rfl⟩ (hl.at fun o e => Heap.get?_push_of_some _ e) (by rw [List.size_toArray, ← rv.length]; exact hz) fun h' tk c' hk hS' => ?_
  · exact I1.ok.hd hc
  · have hp : s1.heap.objs.size ≤ (s1.heap.push (revObj a ((its.toArray.size : Int) - 1))).objs.size := by rw [Heap.size_push]; exact Nat.le_succ _
    refine ⟨.ref _, _, I1.laid (t' := tk) (o := .lst xs.reverse) (fun b o e => hk b o (Nat.ne_of_lt (Heap.lt_size e)) (Heap.get?_push_of_some _ e)) hp ?_, rfl, q _ (I1.hok.fresh hp)⟩
    refine ⟨by rw [List.length_reverse]; exact hz, its.reverse, c', rv.reverse, ?_⟩
    rw [hS', List.reverse_toArray]
end
end L2
namespace L2
open PySem PySem.Spec PyProof.Rows
section
variable {X : Cx} {K : PySem.W.Frag} {pos : Pos}
def rListL (K : PySem.W.Frag) : List V → Hp → VK → Prop := fun xs H Q => o1 xs fun x => oRef x fun p => ∃ ys, SqL K H p ys ∧ ∀ l, H l = none → Q (.ref l) (upd H l (.lst ys))
theorem call_list_ofL : CallR X (.type "list") (rListL X.K) := call_list_of.imp fun _ _ _ z => by
  obtain ⟨x, rfl, z1⟩ := z.ex; obtain ⟨p, rfl, ys, h1, h2⟩ := z1.ex; exact ⟨p, ys, rfl, .inl h1, h2⟩
theorem pg_tupK {es : List Expr} {k : Nat} {t : TGs} {n : Nat} (hK : X.K = K) (hc : X.calm = true) (h : PGs X es t)
    (hn : (assignEach es X.env).length = n := by rfl) (hst : (assignEach es X.env).findIdx? (·.1) = none := by rfl) : PG X (.Tuple es k pos) (gTupD K n t) := hK ▸ pg_tupD hc h hn hst
theorem ix_tupKD (hK : X.K = K) : IxR X (rIxTD K) := hK ▸ ix_tupD
end
def rSlLD (K : PySem.W.Frag) : V → Option Int → Option Int → Hp → VK → Prop := fun x lo hi H Q => oRef x fun a => ∃ xs, SqL K H a xs ∧ ∀ p, H p = none → Q (.ref p) (upd H p (.lst (cutV xs lo hi)))
theorem sl_listD {X : Cx} : SlR X (rSlLD X.K) := sl_list.imp fun _ _ _ _ _ z => by obtain ⟨a, rfl, xs, z⟩ := z.ex; exact ⟨a, xs, rfl, z⟩
def tPartD (t : TE) : TO := fun σ H Q => t σ H fun x H1 => oInt x fun i => Q (some i) H1
theorem PO.imp {X : Cx} {e : Option Expr} {t t' : TO} (h : PO X e t) (i : ∀ σ H Q, t' σ H Q → t σ H Q) : PO X e t' := fun pins s σ H Q I q => h pins s σ H Q I (i _ _ _ q)
theorem po_someD {X : Cx} {e : Expr} {te : TE} (h : PE X e te) : PO X (some e) (tPartD te) := (po_some h.mono).imp fun _ _ _ q => ⟨_, q, fun _ _ z => z.ex⟩
def rCatD : R2 := fun x y H Q => oRef x fun l => oRef y fun b => ∃ xs, H l = some (.lst xs) ∧ ∃ zs, H b = some (.lst zs) ∧ xs.length + zs.length ≤ sizeLine ∧ ∀ p, H p = none → Q (.ref p) (upd H p (.lst (xs ++ zs)))
theorem op_catD {X : Cx} : OpR X (binaryOp .Add) rCatD := op_cat.imp fun _ _ _ _ z => by
  obtain ⟨l, rfl, z1⟩ := z.ex; obtain ⟨b, rfl, xs, h1, zs, h2, h3⟩ := z1.ex; exact ⟨l, b, xs, zs, rfl, rfl, h1, h2, h3⟩
def rEqSD (K : PySem.W.Frag) (ne : Bool) : R2 := fun x y H Q => ∃ ds es, Rp K H (.tup ds) x ∧ Rp K H (.tup es) y ∧ depL ds ≤ 60 ∧ Q (.bl (if ne then !deqL ds es else deqL ds es)) H
end L2

set_option Elab.async false
set_option linter.all false
set_option maxRecDepth 100000
set_option maxHeartbeats 4000000
namespace L2
open PySem PySem.Spec PyProof.Rows
section
variable {X : Cx}
theorem ps_setC {elt iter tg : Expr} {ifs : List Expr} {scope sc : Scope} {pos spos py : Pos} {y : Str} {i : Nat} {wi : TI} {g : TG} {tt : TT} {te : TE} {N0 N os : List Str} {js : List Nat}
    (hNd : X.N.Nodup) (hiN : X.N[i]? = some y) (hx : Loc X.env.scope y) (hc : X.calm = true) (hsc : X.env.scope = sc) (hN : X.N = N0) (ok : CompOk scope sc N0 js os N) (hi : PI X tg iter wi)
    (hg : ∀ s₃ H₃ fp cl, PG (cxC X scope cl N s₃ H₃ fp) tg g) (ht : ∀ s₃ H₃ fp cl, PIfs (cxC X scope cl N s₃ H₃ fp) ifs tt) (he : ∀ s₃ H₃ fp cl, PE (cxC X scope cl N s₃ H₃ fp) elt te)
    (hs : ∀ x, foldedSetIterable iter X.env x = pure x := by intro _; rfl) (hsw : swapsWith (.ListComp elt [⟨tg, iter, ifs, 0⟩] scope pos) (some (.Name y py)) spos.line X.env = pure true := by rfl)
    (hf : X.fn y = true ∨ X.env.scope.names.lookup y = some .local := by first | exact .inl rfl | exact .inr rfl | assumption) :
    PS X (.Assign [.Name y py] (.ListComp elt [⟨tg, iter, ifs, 0⟩] scope pos) spos) (tAsg (tComp js os wi g tt te) (gName i)) := by
  intro pins s σ H D I h
  rw [exec_Assign_Name_used _ _ _ _ hsw]
  refine wpAny_bind (wpAny_standAt (wpAny_bind ?_))
  show wpAny _ X.A (do let _ ← comprehension (.ListComp elt [⟨tg, iter, ifs, 0⟩] scope pos) scope X.env _ (newList []) false (eval iter X.env) (some (assign (.Name y py) X.env))) _ _ s
  have hfree : ∀ y ∈ scope.names, y.2 = .free → ∃ c, X.env.cells.lookup y.1 = some c := fun y hy e => I.ok.has _ (by
    have := ok.free y hy e
    rw [← hsc] at this
    exact this)
  refine wpAny_bind (wpAny_mono (wpAny_comprehension_free (use := some (assign (.Name y py) X.env)) (Q := fun _ s' => SP X pins D .next s') rfl hs (clos_eq hfree) ok.kind ok.names (thn (hi pins s σ H _ I h) fun v s1 h1 => thn h1 fun itv s2 h2 => ?_)) (fun _ s' hq => wpAny_pure (wpAny_pure hq)) fun _ _ e => e)
  obtain ⟨it, fp, tn, J, H1, e, I2, T, st2, f2, hW⟩ := h2
  subst e
  refine wpAny_newObj_type (wpAny_newFunctionEnv ok.cell (by intro y hy; simp at hy) (fun h₁ hns₁ hsb₁ => ?_) ok.kind)
  dsimp only at hns₁ hsb₁ ⊢
  have hfr : H1 s2.heap.objs.size = none := I2.fresh
  have I3 := I2.lnew (ys := []) (its := []) (t' := s2.toks) .nil (Nat.zero_le _)
  generalize hs3 : ({ s2 with heap := s2.heap.push { cls := .type "list", data := .seq ([] : List Value).toArray }, toks := s2.toks } : Shared) = s₃ at I3
  have eh : s2.heap.push { cls := .type "list", dict := none, data := .seq ([] : List Value).toArray } = s₃.heap := by rw [← hs3]
  rw [eh] at hns₁ hsb₁ ⊢
  have k23 : ∀ b o, s2.heap.get? b = some o → s₃.heap.get? b = some o := fun b o q => by rw [← eh]; exact Heap.get?_push_of_some _ q
  have lt2 : ∀ b ∈ fp, b < s2.heap.objs.size := fun b hb => by
    obtain ⟨o, q, _⟩ := T.obj _ _ st2 b hb
    exact Heap.lt_size q
  have sz3 : s2.heap.objs.size ≤ s₃.heap.objs.size := by rw [← eh, Heap.size_push]; exact Nat.le_succ _
  have f3 : ∀ b ∈ fp, FpOk X pins (upd H1 s2.heap.objs.size (.lst [])) b := fun b hb => ⟨by rw [upd_ne (Nat.ne_of_lt (lt2 b hb))]; exact (f2 b hb).1, (f2 b hb).2⟩
  have k34 : ∀ b o, s₃.heap.get? b = some o → h₁.get? b = some o := fun b o q => hsb₁.extBut b o (Nat.ne_of_lt (Heap.lt_size q)) (Heap.get?_push_of_some _ q)
  have I4 := inv_comp (t' := s₃.toks) hc hsc hN ok I3 f3 (fun b hb => Nat.lt_of_lt_of_le (lt2 b hb) sz3) hns₁ k34
  generalize hX' : cxC X scope (clGo X.env.cells scope.names []) N s₃ (upd H1 s2.heap.objs.size (.lst [])) fp = X' at I4
  obtain ⟨W, ⟨m0, w0⟩, turn⟩ := hW _ hfr
  have st4 : tn 0 h₁ := T.keep _ _ _ st2 fun b hb o q => k34 b o (k23 b o q)
  have stat : ∀ {H' : Hp}, (∀ b ∈ fp, H' b = none) → ∀ b ∈ fp, FpOk X' [] H' b := fun {H'} hn b hb => by
    subst hX'
    refine ⟨hn b hb, Nat.ne_of_lt (Nat.lt_of_lt_of_le (lt2 b hb) sz3), fun z => ?_, .inl hb, fun x c e => ?_, fun p hp => by cases hp⟩
    · rcases List.mem_cons.mp (I2.stkSub b z) with q | q
      · exact (f2 b hb).2.1 q
      · exact (f2 b hb).2.2.1 q
    · exact (f2 b hb).2.2.2.2.1 x c (clGo_sub (cells := X.env.cells) scope.names [] hfree (fun _ _ e => by cases e) _ _ e)
  have ePr : X'.prog = X.prog := by subst hX'; rfl
  have eW : X'.w = X.w := by subst hX'; rfl
  have eK : X'.K = X.K := by subst hX'; rfl
  have eA : X'.A = X.A := by subst hX'; rfl
  have eE : X'.env = compEnvC scope (clGo X.env.cells scope.names []) s₃.heap.objs.size X.env := by subst hX'; rfl
  have eC : X'.calm = true := by subst hX'; rfl
  have eX : X'.xe = fun _ _ => False := by subst hX'; rfl
  have hg' : PG X' tg g := by subst hX'; exact hg _ _ _ _
  have ht' : PIfs X' ifs tt := by subst hX'; exact ht _ _ _ _
  have he' : PE X' elt te := by subst hX'; exact he _ _ _ _
  have fin : ∀ {σ' : St} {H' : Hp} {s' : Shared}, Inv X' [] σ' H' s' → (∀ b ∈ fp, H' b = none) → D.nx (σ.set i (some (.ref s2.heap.objs.size))) H' → compPost (model X.prog X.w) X.A X.xe (some (assign (.Name y py) X.env)) (fun _ s' => SP X pins D .next s') (.ref s2.heap.objs.size) s₃.heap.objs.size (.ok .next) s' := by
    intro σ' H' s' I' hn q
    obtain ⟨m, hm, _⟩ := id I'.loc
    subst hX'
    have fC : H' s₃.heap.objs.size = none := I'.free
    have u1 : Un (frs X.stack) fp (upd H1 s2.heap.objs.size (.lst [])) H' s₃.heap s'.heap := by
      have b0 := I'.base
      exact ⟨fun b o e n hb hx => b0.keep b o e n hb hx, fun b o e n hb hx => b0.slot b o e n hb hx, b0.free, fun b o e hx => b0.there b o e hx, b0.tups, b0.frzs, b0.tbls⟩
    have Ip := I3.call' (s' := s') (ch := fp) I'.os u1 I'.hok I'.bare fun b hb => ⟨(f2 b hb).2.2.2.1, (f2 b hb).2.1, (f2 b hb).2.2.2.2.1, (f2 b hb).2.2.2.2.2⟩
    have cl : X.env.locals ≠ s₃.heap.objs.size := Nat.ne_of_lt I3.lt
    have cc : ∀ x c, X.env.cells.lookup x = some c → c ≠ s₃.heap.objs.size := fun x c e => by
      obtain ⟨v, o, ho, _⟩ := I3.cell x c e
      exact Nat.ne_of_lt (Heap.lt_size ho)
    show wpAny (model X.prog X.w) X.A (assign (.Name y py) X.env (.ref s2.heap.objs.size)) _ _ s'
    refine wpAny_assign_Name (store_ok2 Ip hNd hiN hx (v := .ref s2.heap.objs.size) rfl (fun s'' I'' ⟨a, sa, ha⟩ => ?_) hf)
    have na : s₃.heap.objs.size ≠ a := by
      rcases ha with ha | ha
      · rw [ha]; exact Ne.symm cl
      · exact Ne.symm (cc _ _ ha)
    refine ⟨m, hm.sameBut sa na, fun h3 sb => ⟨_, H', ?_, q⟩⟩
    have hok' : HOk X.prog X.w H' h3 := fun b ob e => by
      refine (I''.hok b ob e).stay (fun c w' hc' q' => (sb.2 c ?_).trans q') (fun _ q' => q') fun _ _ q' => q'
      rintro rfl
      rcases hc' with z | z
      · have e' := e; rw [← z] at e'; rw [fC] at e'; cases e'
      · rw [fC] at z; cases z
    have u2 : Un (frs X.stack) [s₃.heap.objs.size] H' H' s''.heap h3 :=
      have ne : ∀ b, b ∉ [s₃.heap.objs.size] → b ≠ s₃.heap.objs.size := fun b hb e => hb (by rw [e]; exact List.mem_singleton_self _)
      ⟨fun b o e n hb hx => (sb.2 b (ne b hx)).trans e, fun b o e n hb hx => ⟨o.slots, (sb.2 b (ne b hx)).trans e⟩, fun b o e n hx => n, fun b o e hx => ⟨o, (sb.2 b (ne b hx)).trans e⟩, fun b xs e => e, fun b o u e => e, fun b ps e => ⟨#[], by rw [e]; simp⟩⟩
    exact I''.call' (s' := { s'' with heap := h3 }) (ch := [s₃.heap.objs.size]) rfl u2 hok' I''.bare fun b hb => by
      rw [List.mem_singleton.mp hb]
      exact ⟨.inr I3.sz, Ne.symm cl, cc, fun p hp e => absurd (Heap.lt_size (I3.pin p hp).1) (by rw [e]; exact Nat.lt_irrefl _)⟩
  have loop : codeAny (model X.prog X.w) X.A (.compLoop (.ListComp elt [⟨tg, iter, ifs, 0⟩] scope pos) 0 (.ref it) (.ref s2.heap.objs.size) (compEnvC scope (clGo X.env.cells scope.names []) s₃.heap.objs.size X.env))
      (compPost (model X.prog X.w) X.A X.xe (some (assign (.Name y py) X.env)) (fun _ s' => SP X pins D .next s') (.ref s2.heap.objs.size) s₃.heap.objs.size) { s₃ with heap := h₁, toks := s₃.toks } := by
    refine comp_loop (fun n s' => ∃ i σ' H', Inv X' [] σ' H' s' ∧ tn i s'.heap ∧ (∀ b ∈ fp, H' b = none) ∧ W i n σ' H') ?_ m0 ⟨0, _, _, I4, st4, fun b hb => (f3 b hb).1, w0⟩
    rintro n s5 ⟨i, σ5, H5, I5, st5, fr5, w5⟩
    rw [← ePr, ← eW, ← eA, ← eE]
    rcases turn i n σ5 H5 w5 with ⟨stop, qn⟩ | ⟨go, step⟩
    · have := T.done X' ePr eW eK eC i [] s5 σ5 H5 X'.xe I5 (stat fr5) st5 stop
      rw [eX] at this
      rw [← ePr, ← eW] at this
      refine thn this fun r s6 ⟨hr, I6⟩ => ?_
      subst hr
      dsimp only
      rw [ePr, eW, eA]
      exact fin I6 fr5 qn
    · have := T.item X' ePr eW eK eC i [] s5 σ5 H5 X'.xe I5 (stat fr5) st5 go
      rw [eX] at this
      rw [← ePr, ← eW] at this
      refine thn this fun r s6 ⟨u, hr, h6⟩ => ?_
      subst hr
      dsimp only
      refine thn h6 fun _ s7 ⟨x, H7, I7, r7, y7, st7, fr7⟩ => ?_
      have I7' := I7.pinned (stat fr7) (T.obj _ _ st7)
      have g7 := hg' _ s7 σ5 H7 x u _ I7' r7 (step x H7 y7)
      rw [eX] at g7
      refine thn g7 fun _ s8 ⟨σ8, H8, I8, q8⟩ => ?_
      have t8 := ht' _ s8 σ8 H8 _ I8 q8
      rw [eX] at t8
      have again : ∀ {σ9 : St} {H9 : Hp} {s9 : Shared}, Inv X' ([] ++ pinsAt fp s7.heap) σ9 H9 s9 → tn (i + 1) s9.heap ∧ ∀ b ∈ fp, H9 b = none := fun {σ9 H9 s9} I9 => by
        refine ⟨T.keep _ _ _ st7 fun b hb o e => (I9.pin (b, o) (List.mem_append_right _ (List.mem_append_right _ (mem_pinsAt hb e)))).1, fun b hb => ?_⟩
        obtain ⟨o, e, d⟩ := T.obj _ _ st7 b hb
        exact (I9.pin (b, o) (List.mem_append_right _ (List.mem_append_right _ (mem_pinsAt hb e)))).2.1
      refine thn t8 fun b s9 ⟨H9, I9, q9⟩ => ?_
      cases b with
      | false =>
        rw [if_neg Bool.false_ne_true] at q9 ⊢
        obtain ⟨m', hm, w9⟩ := q9
        exact ⟨m', hm, i + 1, σ8, H9, I9.unpinned, (again I9).1, (again I9).2, w9⟩
      | true =>
        rw [if_pos rfl] at q9 ⊢
        have e9 := he' _ s9 σ8 H9 _ I9 q9
        rw [eX] at e9
        refine thn e9 fun y s10 ⟨z, H10, I10, r10, ys, hy, hlen, m', hm, w10⟩ => ?_
        have a10 := mt_append (X := X') _ s10 σ8 H10 (.ref s2.heap.objs.size) [z] _ _ (fun _ H11 => H11 = upd H10 s2.heap.objs.size (.lst (ys ++ [z]))) I10 rfl (.cons r10 .nil) ⟨_, ys, z, rfl, rfl, hy, hlen, rfl⟩
        rw [eX] at a10
        refine thn a10 fun _ s11 ⟨_, H11, I11, _, e11⟩ => ?_
        subst e11
        exact ⟨m', hm, i + 1, σ8, _, I11.unpinned, (again I11).1, (again I11).2, w10⟩
  have es : ({ s2 with heap := h₁, toks := s2.toks + ([] : List (Str × Value)).length } : Shared) = { s₃ with heap := h₁, toks := s₃.toks } := by rw [← hs3]; rfl
  rw [show ({ s2 with heap := h₁, toks := s2.toks + ([] : List (Str × Value)).length } : Shared) = { s₃ with heap := h₁, toks := s₃.toks } from es]
  exact codeAny_compStart_list loop (T.self _ 0 _ _ _ st4 loop)
end
end L2

set_option Elab.async false
set_option linter.all false
set_option maxRecDepth 100000
set_option maxHeartbeats 4000000
namespace L2
open PySem PySem.Spec PyProof.Rows
section
variable {X : Cx} {pins : List (Addr × Obj)} {σ : St} {H : Hp} {s : Shared} {h' : Heap} {fp : List Addr} {t' : Nat}
theorem Inv.turnedL (I : Inv X pins σ H s) (k : ∀ b o, b ∉ fp → s.heap.get? b = some o → h'.get? b = some o) (hf : ∀ b ∈ fp, FpOk X pins H b) : Inv X pins σ H { s with heap := h', toks := t' } := by
  have nit : ∀ b u, H b = some u → b ∉ fp := fun b u e z => by rw [(hf b z).1] at e; cases e
  have hL : X.env.locals ∉ fp := fun z => (hf _ z).2.1 rfl
  refine I.step (g' := s.gens) (d' := s.drawn) (ch := fp) (fun b hb => ?_) (fun b o _ _ hc e _ => k b o hc e) (fun b o _ _ hc e _ => ⟨o.slots, k b o hc e⟩) (fun _ _ _ _ n => n)
    (fun b o hc e => ⟨o, k b o hc e⟩) (fun _ _ e => e) (fun _ _ _ e => e) (fun b ps e => ⟨#[], by rw [e]; simp⟩) (fun m hm => ?_) (fun b u e => ?_) I.bare
  · obtain ⟨_, q1, _, q3, q4, q5⟩ := hf b hb
    exact ⟨q3, q1, q4, q5⟩
  · obtain ⟨o, es, ep, ho, r⟩ := hm
    exact ⟨o, es, ep, k _ o hL ho, r⟩
  · refine (I.hok b u e).stay (fun c v hc q => k c v ?_ q) (fun _ q => q) fun _ _ q => q
    rcases hc with z | z
    · rw [z]; exact nit b u e
    · exact nit c _ z
theorem Inv.turnedNew {p : Addr} {o : HO} (I : Inv X pins σ H s) (k : ∀ b o, b ∉ fp → s.heap.get? b = some o → h'.get? b = some o) (hf : ∀ b ∈ fp, FpOk X pins H b) (hp : s.heap.objs.size ≤ p) (new : ObjOk X.prog X.w (upd H p o) h' p o) :
    Inv X pins σ (upd H p o) { s with heap := h', toks := t' } := by
  have nit : ∀ b u, H b = some u → b ∉ fp := fun b u e z => by rw [(hf b z).1] at e; cases e
  have hL : X.env.locals ∉ fp := fun z => (hf _ z).2.1 rfl
  have hn : H p = none := I.hok.fresh hp
  have np : ∀ b u, s.heap.get? b = some u → b ≠ p := fun b u e => Nat.ne_of_lt (Nat.lt_of_lt_of_le (Heap.lt_size e) hp)
  refine I.step (g' := s.gens) (d' := s.drawn) (ch := fp) (fun b hb => ?_) (fun b o _ _ hc e _ => k b o hc e) (fun b o _ _ hc e _ => ⟨o.slots, k b o hc e⟩) (fun b u _ e n => by rw [upd_ne (np b u e)]; exact n)
    (fun b o hc e => ⟨o, k b o hc e⟩) (fun b xs e => by rw [upd_ne (ne_of_none e hn)]; exact e) (fun b _ _ e => by rw [upd_ne (ne_of_none e hn)]; exact e) (fun b ps e => ⟨#[], by rw [upd_ne (ne_of_none e hn), e]; simp⟩) (fun m hm => ?_) (fun b u e => ?_) I.bare
  · obtain ⟨_, q1, _, q3, q4, q5⟩ := hf b hb
    exact ⟨q3, q1, q4, q5⟩
  · obtain ⟨o, es, ep, ho, r⟩ := hm
    exact ⟨o, es, ep, k _ o hL ho, r⟩
  · by_cases hb : b = p
    · subst hb; rw [upd_same] at e; cases e; exact new
    · rw [upd_ne hb] at e
      refine (I.hok b u e).stay (fun c v hc q => k c v ?_ q) (fun c q => by rw [upd_ne (ne_of_none q hn)]; exact q) fun c xs q => by rw [upd_ne (ne_of_none q hn)]; exact q
      rcases hc with z | z
      · rw [z]; exact nit b u e
      · exact nit c _ z
end
def Itz (K : PySem.W.Frag) (a b : Addr) : It :=
  ⟨fun i H => ∃ xs ys x y, SqL K H a xs ∧ SqL K H b ys ∧ xs[i]? = some x ∧ ys[i]? = some y,
   fun i H v H' => ∃ p x y, v = .ref p ∧ H p = none ∧ H' = upd H p (.tup [x, y]) ∧ ∀ xs ys, SqL K H a xs → SqL K H b ys → xs[i]? = some x ∧ ys[i]? = some y,
   fun i H => ∃ xs ys, SqL K H a xs ∧ SqL K H b ys ∧ (xs.length ≤ i ∨ ys.length ≤ i)⟩
theorem turn_zip {P : Program} {w : World} {K : PySem.W.Frag} {elts : List Expr} {tx : Nat} {tp : Pos} (a b z TI TO i1 i2 : Addr) (ap : ZipApart z TI TO i1 i2 a b) :
    Turn P w K (.Tuple elts tx tp) (Itz K a b) [z, TI, TO, i1, i2] z (fun i h => IsZip h z TI TO .none ∧ IsPair h TI (.ref i1) (.ref i2) ∧ (∃ u v, IsPair h TO u v) ∧ h.IsListIter i1 a i ∧ h.IsListIter i2 b i) where
  mem := by simp
  obj := fun i h ⟨t1, t2, ⟨u, v, t3⟩, ⟨o4, e4, c4, d4⟩, ⟨o5, e5, c5, d5⟩⟩ c hc => by
    rcases List.mem_cons.mp hc with rfl | hc
    · exact ⟨_, t1, fun v z => by cases z⟩
    rcases List.mem_cons.mp hc with rfl | hc
    · exact ⟨_, t2, fun v z => by cases z⟩
    rcases List.mem_cons.mp hc with rfl | hc
    · exact ⟨_, t3, fun v z => by cases z⟩
    rcases List.mem_cons.mp hc with rfl | hc
    · exact ⟨_, e4, fun v z => by rw [d4] at z; cases z⟩
    rcases List.mem_cons.mp hc with rfl | hc
    · exact ⟨_, e5, fun v z => by rw [d5] at z; cases z⟩
    · cases hc
  keep := fun i h h' ⟨t1, t2, ⟨u, v, t3⟩, t4, t5⟩ k => ⟨k z (by simp) _ t1, k TI (by simp) _ t2, ⟨u, v, k TO (by simp) _ t3⟩, t4.at fun o e => k i1 (by simp) o e, t5.at fun o e => k i2 (by simp) o e⟩
  item := by
    intro X hP hw hK hc i pins s σ H E I hf ⟨t1, t2, ⟨u, v, t3⟩, t4, t5⟩ hg
    subst hP hw hK
    obtain ⟨xs, ys, x, y, hq, hq', hx, hy⟩ := hg
    obtain ⟨its, rv, p, hz⟩ := I.list hq
    obtain ⟨its', rv', p', hz'⟩ := I.list hq'
    obtain ⟨ux, hux, rux⟩ := rv.get hx
    obtain ⟨uy, huy, ruy⟩ := rv'.get hy
    refine wpAny_pyNext_zip_item ap t1 t2 t3 t4 t5 p.isList p'.isList (x := ux) (y := uy) (by simpa using hux) (by simpa using huy) fun h' z1 z2 z3 z4 z5 z6 z7 => ?_
    refine ⟨_, rfl, wpAny_letOwnedTupleGo_zip z1 fun h2 y1 sb => ?_⟩
    have ne : ∀ c o, s.heap.get? c = some o → s.heap.objs.size ≠ c := fun c o e => Nat.ne_of_gt (Heap.lt_size e)
    have kk : ∀ c o, c ∉ [z, TI, TO, i1, i2] → s.heap.get? c = some o → h2.get? c = some o := fun c o hc e => by
      simp only [List.mem_cons, not_or, List.not_mem_nil, not_false_eq_true, and_true] at hc
      obtain ⟨n1, n2, n3, n4, n5⟩ := hc
      rw [sb.2 c n1]
      exact z7 c o n1 n3 n4 n5 e
    have hp2 : h2.get? s.heap.objs.size = some { cls := .type "tuple", data := .seq #[ux, uy] } := by rw [sb.2 _ (ne z _ t1)]; exact z5
    have I2 : Inv X pins σ (upd H s.heap.objs.size (.tup [x, y])) { s with heap := h2 } := I.turnedNew (t' := s.toks) kk hf (Nat.le_refl _) ⟨(by decide : (2 : Nat) ≤ sizeLine), [ux, uy], .cons rux (.cons ruy .nil), ⟨_, hp2, rfl, _, rfl⟩⟩
    refine ⟨.ref s.heap.objs.size, _, I2, rfl, ⟨_, x, y, rfl, I.fresh, rfl, fun xs' ys' hx' hy' => ?_⟩, ⟨y1, ?_, ⟨ux, uy, ?_⟩, ?_, ?_⟩, fun c hc => ?_⟩
    · rw [I.list_inj hx' hq, I.list_inj hy' hq']; exact ⟨hx, hy⟩
    · have := z7 TI _ ap.TIz ap.TITO ap.TIi1 ap.TIi2 t2
      show h2.get? TI = _
      rw [sb.2 _ ap.TIz]; exact this
    · show h2.get? TO = _
      rw [sb.2 _ ap.TOz]; exact z2
    · exact z3.at fun o e => by rw [sb.2 _ ap.i1z]; exact e
    · exact z4.at fun o e => by rw [sb.2 _ ap.i2z]; exact e
    · have lt : ∃ o, s.heap.get? c = some o := by
        obtain ⟨o4, e4, _⟩ := t4
        obtain ⟨o5, e5, _⟩ := t5
        simp only [List.mem_cons, List.not_mem_nil, or_false] at hc
        rcases hc with rfl | rfl | rfl | rfl | rfl
        · exact ⟨_, t1⟩
        · exact ⟨_, t2⟩
        · exact ⟨_, t3⟩
        · exact ⟨_, e4⟩
        · exact ⟨_, e5⟩
      obtain ⟨o, e⟩ := lt
      rw [upd_ne (Ne.symm (ne c o e))]
      exact (hf c hc).1
  done := by
    intro X hP hw hK hc i pins s σ H E I hf ⟨t1, t2, ⟨u, v, t3⟩, t4, t5⟩ hg
    subst hP hw hK
    obtain ⟨xs, ys, hq, hq', hx⟩ := hg
    obtain ⟨its, rv, p, hz⟩ := I.list hq
    obtain ⟨its', rv', p', hz'⟩ := I.list hq'
    have hl := rv.length
    have hl' := rv'.length
    refine wpAny_pyNext_zip_end (I.ok.hd hc) ap t1 t2 t3 t4 t5 p.isList p'.isList (by simp; omega) fun h' eb => ⟨rfl, I.turnedL (t' := s.toks) (fp := [z, TI, TO, i1, i2]) (fun c o hc e => ?_) hf⟩
    simp only [List.mem_cons, not_or, List.not_mem_nil, not_false_eq_true, and_true] at hc
    exact eb c o hc.1 hc.2.2.1 hc.2.2.2.1 hc.2.2.2.2 e
  self := fun _ _ _ _ _ st h => wpAny_pyIter_zip st.1 h
theorem apart_new {n a b : Nat} (la : a < n) (lb : b < n) : ZipApart (n + 4) (n + 2) (n + 3) n (n + 1) a b := by
  constructor <;> (intro e; have e' : @Eq Nat _ _ := e; clear e; omega)
theorem five_new {n c : Nat} (hc : c ∈ [n + 4, n + 2, n + 3, n, n + 1]) : n ≤ c := by
  simp only [List.mem_cons, List.not_mem_nil, or_false] at hc
  omega
section
variable {X : Cx} {elts : List Expr} {tx : Nat} {tp p pos : Pos}
def iZip (K : PySem.W.Frag) (ta : TA) : TI := fun σ H R => ta σ H fun vs H1 => ∃ a b : Addr, vs = [.ref a, .ref b] ∧ (∃ xs, SqL K H1 a xs) ∧ (∃ ys, SqL K H1 b ys) ∧ R (Itz K a b) H1
theorem pi_zip {e f : Expr} {ta : TA} (hg : Gl X "zip") (hm : X.mg "zip" = none) (ha : PA X [e, f] ta)
    (hs : starEach [e, f] X.env = [(false, eval e X.env), (false, eval f X.env)] := by rfl) (hs2 : starEach [f] X.env = [(false, eval f X.env)] := by rfl) :
    PI X (.Tuple elts tx tp) (.Call (.Name "zip" p) [e, f] [] pos) (iZip X.K ta) := by
  intro pins s σ H R I h
  refine Call_ (ld_blt I hg hm rfl (PyProof.Rows.callWith_type1 (thn (ha pos pins s σ H _ I h) fun us s1 ⟨vs, H1, I1, r1, q1⟩ => ?_) (by rw [hs, hs2]) (by rw [hs2]; rfl)))
  obtain ⟨a, b, e, ⟨xs, hx⟩, ⟨ys, hy⟩, q⟩ := q1
  subst e
  cases r1 with
  | cons r rr =>
    cases rr with
    | cons r' rr =>
      cases rr
      cases r
      cases r'
      obtain ⟨its, rv, p, hz⟩ := I1.list hx
      obtain ⟨its', rv', p', hz'⟩ := I1.list hy
      have la : a < s1.heap.objs.size := by obtain ⟨o, e, _⟩ := p.isList; exact Heap.lt_size e
      have lb : b < s1.heap.objs.size := by obtain ⟨o, e, _⟩ := p'.isList; exact Heap.lt_size e
      refine call_zip_2 p.isList p'.isList fun h' z1 z2 z3 z4 z5 z6 z7 => ?_
      refine wpAny_pyIter_zip z1 ?_
      have ap : ZipApart (s1.heap.objs.size + 4) (s1.heap.objs.size + 2) (s1.heap.objs.size + 3) s1.heap.objs.size (s1.heap.objs.size + 1) a b := by
        exact apart_new la lb
      refine ⟨_, _, _, _, H1, rfl, I1.kept (t' := s1.toks) z7, turn_zip a b _ _ _ _ _ ap, ⟨z1, z2, ⟨_, _, z3⟩, z4, z5⟩, fun c hc => ?_, q⟩
      have : s1.heap.objs.size ≤ c := five_new hc
      exact I1.fpOk this (I1.hok.fresh this)
def iZipD (K : PySem.W.Frag) (ta : TA) : TI := fun σ H R => ta σ H fun vs H1 => o2 vs fun x y => oRef x fun a => oRef y fun b => (∃ xs, SqL K H1 a xs) ∧ (∃ ys, SqL K H1 b ys) ∧ R (Itz K a b) H1
theorem pi_zipD {e f : Expr} {ta : TA} (hg : Gl X "zip") (hm : X.mg "zip" = none) (ha : PA X [e, f] ta)
    (hs : starEach [e, f] X.env = [(false, eval e X.env), (false, eval f X.env)] := by rfl) (hs2 : starEach [f] X.env = [(false, eval f X.env)] := by rfl) :
    PI X (.Tuple elts tx tp) (.Call (.Name "zip" p) [e, f] [] pos) (iZipD X.K ta) := (pi_zip hg hm ha.mono hs hs2).imp fun _ _ _ q => ⟨_, q, fun _ _ z => by
  obtain ⟨x, y, e, z⟩ := z.ex
  obtain ⟨a, e1, z⟩ := z.ex
  obtain ⟨b, e2, z⟩ := z.ex
  exact ⟨a, b, by rw [e, e1, e2], z⟩⟩
end
theorem FW_zip {K : PySem.W.Frag} {a b : Addr} {xs ys : List V} {g : TG} {tb : TS} {D : Ends} {σ : St} {H : Hp} (Pv : Nat → St → Hp → Prop) (h0 : Pv 0 σ H)
    (hl : ∀ i σ H, i ≤ min xs.length ys.length → Pv i σ H → SqL K H a xs ∧ SqL K H b ys)
    (hs : ∀ i p x y σ H, xs[i]? = some x → ys[i]? = some y → Pv i σ H → H p = none → g (.ref p) σ (upd H p (.tup [x, y])) fun σ2 H2 => tb { D with nx := Pv (i + 1), ct := Pv (i + 1), bk := D.nx } σ2 H2)
    (hd : ∀ σ H, Pv (min xs.length ys.length) σ H → D.nx σ H) : FW (Itz K a b) g tb D σ H := by
  refine ⟨fun i m σ H => m = min xs.length ys.length - i ∧ i ≤ min xs.length ys.length ∧ Pv i σ H, ⟨_, rfl, Nat.zero_le _, h0⟩, ?_⟩
  rintro i m σ H ⟨rfl, hi, q⟩
  obtain ⟨w1, w2⟩ := hl i σ H hi q
  by_cases hlt : i < min xs.length ys.length
  · have h1 : i < xs.length := by omega
    have h2 : i < ys.length := by omega
    refine .inr ⟨⟨xs, ys, xs[i], ys[i], w1, w2, by simp [h1], by simp [h2]⟩, Pv (i + 1), fun σ' H' z => ⟨_, ?_, rfl, hlt, z⟩, fun v H' z => ?_⟩
    · omega
    · obtain ⟨p, x, y, rfl, hp, rfl, k⟩ := z
      obtain ⟨e1, e2⟩ := k xs ys w1 w2
      exact hs i p x y σ H e1 e2 q hp
  · have e : i = min xs.length ys.length := by omega
    exact .inl ⟨⟨xs, ys, w1, w2, by omega⟩, hd σ H (e ▸ q)⟩
end L2

set_option Elab.async false
set_option linter.all false
set_option maxRecDepth 100000
set_option maxHeartbeats 4000000
namespace L2
open PySem PySem.Spec PyProof.Rows
section
variable {X : Cx} {pins : List (Addr × Obj)} {σ : St} {H : Hp} {s : Shared}
noncomputable def ansT (its : List Value) (ds : List (List D)) (d : List D) (u : Value) : Bool :=
  @decide (∃ j : Nat, its[j]? = some u ∧ ∃ e : List D, ds[j]? = some e ∧ deqL e d = true) (Classical.propDecidable _)
theorem Vals.get' : ∀ {vs : List V} {its : List Value} {j : Nat} {u : Value}, Vals vs its → its[j]? = some u → ∃ v, vs[j]? = some v ∧ RelV v u
  | _, _, j, u, .nil, h => by simp at h
  | _, _, 0, u, .cons r t, h => ⟨_, rfl, by simp at h; exact h ▸ r⟩
  | _, _, j + 1, u, .cons r t, h => by simpa using Vals.get' t (by simpa using h)
theorem RpL_getT {K : PySem.W.Frag} : ∀ {ds : List (List D)} {vs : List V} {j : Nat} {v : V}, RpL K H (ds.map D.tup) vs → vs[j]? = some v → ∃ e, ds[j]? = some e ∧ Rp K H (.tup e) v
  | [], vs, j, v, h, e => by rw [List.map_nil, RpL] at h; subst h; simp at e
  | d :: ds, vs, j, v, h, e => by
    rw [List.map_cons, RpL] at h
    obtain ⟨v', r, rfl, h1, h2⟩ := h
    cases j with
    | zero => simp at e; subst e; exact ⟨d, rfl, h1⟩
    | succ j => simpa using RpL_getT h2 (by simpa using e)
theorem depL_mem : ∀ {ds : List (List D)} {e : List D}, e ∈ ds → dep (.tup e) ≤ depL (ds.map D.tup)
  | d :: ds, e, h => by
    rw [List.map_cons, depL]
    rcases List.mem_cons.mp h with rfl | h
    · omega
    · have := depL_mem h; omega
mutual
theorem deq_eq : ∀ {d e : D}, deq d e = true → d = e
  | .int i, .int j, h => by rw [deq] at h; rw [eq_of_beq h]
  | .str i, .str j, h => by rw [deq] at h; rw [eq_of_beq h]
  | .non, .non, h => rfl
  | .tup ds, .tup es, h => by rw [deq] at h; rw [deqL_eq h]
  | .int _, .str _, h | .int _, .non, h | .int _, .tup _, h | .str _, .int _, h | .str _, .non, h | .str _, .tup _, h | .non, .int _, h | .non, .str _, h | .non, .tup _, h | .tup _, .int _, h | .tup _, .str _, h | .tup _, .non, h => by simp [deq] at h
theorem deqL_eq : ∀ {ds es : List D}, deqL ds es = true → ds = es
  | [], [], _ => rfl
  | [], e :: es, h => by simp [deqL] at h
  | d :: ds, [], h => by simp [deqL] at h
  | d :: ds, e :: es, h => by
    rw [deqL, Bool.and_eq_true] at h
    rw [deq_eq h.1, deqL_eq h.2]
end
theorem ansT_at (I : Inv X pins σ H s) {its : List Value} {ds : List (List D)} {vs : List V} {d : List D} {j : Nat} {u : Value} {e : List D} (rv : Vals vs its) (hl : RpL X.K H (ds.map D.tup) vs) (hu : its[j]? = some u) (he : ds[j]? = some e) : ansT its ds d u = deqL e d := by
  unfold ansT
  have key : (∃ j : Nat, its[j]? = some u ∧ ∃ e : List D, ds[j]? = some e ∧ deqL e d = true) ↔ deqL e d = true := by
    constructor
    · rintro ⟨i, hi, e', he', q⟩
      obtain ⟨v, hv, r⟩ := Vals.get' rv hu
      obtain ⟨v', hv', r'⟩ := Vals.get' rv hi
      obtain ⟨e1, k1, p1⟩ := RpL_getT hl hv
      obtain ⟨e2, k2, p2⟩ := RpL_getT hl hv'
      rw [he] at k1; cases k1
      rw [he'] at k2; cases k2
      have p1' := p1
      have p2' := p2
      rw [Rp] at p1' p2'
      obtain ⟨a1, _, rfl, _⟩ := p1'
      obtain ⟨a2, _, rfl, _⟩ := p2'
      cases r
      cases r'
      have := Rp.inj I p1 p2
      rw [deq] at this
      rw [deqL_eq this]; exact q
    · intro q
      exact ⟨j, hu, e, he, q⟩
  by_cases h : deqL e d = true
  · rw [h]; exact @decide_eq_true _ (Classical.propDecidable _) (key.mpr h)
  · rw [Bool.eq_false_iff.mpr h]; exact @decide_eq_false _ (Classical.propDecidable _) fun z => h (key.mp z)
theorem any_ansT {its : List Value} {ds : List (List D)} {d : List D} (hl : its.length = ds.length) : its.any (ansT its ds d) = ds.any fun e => deqL e d := by
  rw [Bool.eq_iff_iff, List.any_eq_true, List.any_eq_true]
  constructor
  · rintro ⟨u, hu, h⟩
    obtain ⟨j, _, e, he, q⟩ := @of_decide_eq_true _ (Classical.propDecidable _) h
    exact ⟨e, List.mem_of_getElem? he, q⟩
  · rintro ⟨e, he, q⟩
    obtain ⟨j, hj⟩ := List.mem_iff_getElem?.mp he
    have lt : j < its.length := by rw [hl]; exact (List.getElem?_eq_some_iff.mp hj).1
    exact ⟨its[j], List.getElem_mem lt, @decide_eq_true _ (Classical.propDecidable _) ⟨j, List.getElem?_eq_getElem lt, e, hj, q⟩⟩
def rInT (K : PySem.W.Frag) : R2 := fun x y H Q => oRef y fun p => ∃ (xs : List V) (ds : List (List D)) (d : List D), SqL K H p xs ∧ RpL K H (ds.map D.tup) xs ∧ Rp K H (.tup d) x ∧ depL (ds.map D.tup) ≤ 60 ∧ Q (.bl (ds.any fun e => deqL e d)) H
theorem op_inT (hu : X.A.units + 64 < cLine) : OpR X (compareOp .In) (rInT X.K) := by
  intro pins s σ H x y v u Q I rx ry h
  obtain ⟨p, rfl, xs, ds, d, hs, hl, hd, hdep, q⟩ := oRef.ex h
  cases ry
  obtain ⟨its, rv, ht, _⟩ := I.list hs
  have l1 : its.length = ds.length := by rw [← rv.length, hl.length, List.length_map]
  refine SeqAt.in_listAt (ansT its ds d) ht.isList (fun w hw => ?_) ⟨.bl _, H, I, rfl, ?_⟩
  · obtain ⟨j, hj⟩ := List.mem_iff_getElem?.mp (show w ∈ its by simpa using hw)
    obtain ⟨v', hv', r'⟩ := Vals.get' rv hj
    obtain ⟨e, he, pe⟩ := RpL_getT hl hv'
    rw [ansT_at I rv hl hj he]
    have := depL_mem (List.mem_of_getElem? he)
    have z := eqAt_D (A := X.A.in1) I pe hd r' rx (show X.A.units + 1 + dep (.tup e) < cLine by omega)
    rw [deq] at z
    exact z
  · rw [show its.toArray.any (ansT its ds d) = its.any (ansT its ds d) by simp, any_ansT l1]
    exact q
def isNon (x : V) : Bool := match x with | .non => true | _ => false
def oNon (x : V) (P : Prop) : Prop := match x with | .non => P | _ => False
theorem oNon.ex {x : V} {P : Prop} (h : oNon x P) : x = .non ∧ P := by cases x <;> first | exact ⟨rfl, h⟩ | exact h.elim
theorem isNon_eq (x : V) : isNon x = decide (x = .non) := by cases x <;> simp [isNon]
def rIsND : R2 := fun x y H Q => oNon y (Q (.bl (isNon x)) H)
def rNotND : R2 := fun x y H Q => oNon y (Q (.bl (!isNon x)) H)
theorem op_isND : OpR X (compareOp .Is) rIsND := op_isN.imp fun _ _ _ _ z => by obtain ⟨e, z⟩ := oNon.ex z; exact ⟨e, by rw [← isNon_eq]; exact z⟩
theorem op_notND : OpR X (compareOp .IsNot) rNotND := op_notN.imp fun _ _ _ _ z => by obtain ⟨e, z⟩ := oNon.ex z; exact ⟨e, by rw [← isNon_eq]; exact z⟩
def rInFD (K : PySem.W.Frag) (neg : Bool) : R2 := fun x y H Q => oRef y fun p => ∃ xs, (SqL K H p xs ∨ SqT K H p xs) ∧ flatV x = true ∧ xs.all flatV = true ∧ Q (.bl (if neg then !inV x xs else inV x xs)) H
end
end L2

set_option Elab.async false
set_option linter.all false
set_option maxRecDepth 100000
set_option maxHeartbeats 4000000
namespace My
open PySem PySem.Spec PyProof.Rows L2
def top (i : Nat) : Stmt := PySem.Challenge.pw_turtlehouse_k42_rounds.main.body.getD i (.Pass ⟨0, 0, 0, 0⟩)
abbrev s_minus : Stmt := top 2
theorem sc_minus : FnScope ["one", "other"] ["one", "other"] (defScope s_minus) := ⟨rfl, rfl, rfl, by decide +kernel, rfl, by decide +kernel, by decide +kernel⟩
abbrev s_signofint : Stmt := top 3
theorem sc_signofint : FnScope ["value"] ["value"] (defScope s_signofint) := ⟨rfl, rfl, rfl, by decide +kernel, rfl, by decide +kernel, by decide +kernel⟩
abbrev s_signof : Stmt := top 4
theorem sc_signof : FnScope ["number", "first", "second"] ["number"] (defScope s_signof) := ⟨rfl, rfl, rfl, by decide +kernel, rfl, by decide +kernel, by decide +kernel⟩
abbrev s_twiceproduct : Stmt := top 6
theorem sc_twiceproduct : FnScope ["one", "other", "first", "second", "other_first", "other_second"] ["one", "other"] (defScope s_twiceproduct) := ⟨rfl, rfl, rfl, by decide +kernel, rfl, by decide +kernel, by decide +kernel⟩
abbrev s_swept : Stmt := top 7
theorem sc_swept : FnScope ["start", "end"] ["start", "end"] (defScope s_swept) := ⟨rfl, rfl, rfl, by decide +kernel, rfl, by decide +kernel, by decide +kernel⟩
abbrev s_areapart : Stmt := top 8
theorem sc_areapart : FnScope ["one", "other"] ["one", "other"] (defScope s_areapart) := ⟨rfl, rfl, rfl, by decide +kernel, rfl, by decide +kernel, by decide +kernel⟩
abbrev s_crossing : Stmt := top 9
theorem sc_crossing : FnScope ["start", "end", "side", "below"] ["start", "end", "side"] (defScope s_crossing) := ⟨rfl, rfl, rfl, by decide +kernel, rfl, by decide +kernel, by decide +kernel⟩
abbrev s_roundsof : Stmt := top 10
theorem sc_roundsof : FnScope ["way", "place", "spots", "rounds", "start", "end", "side"] ["way", "place"] (defScope s_roundsof) := ⟨rfl, rfl, rfl, by decide +kernel, rfl, by decide +kernel, by decide +kernel⟩
abbrev s_Lcell : Stmt := top 12
theorem sc_Lcell : FnScope ["_law_script", "_law_k", "_law_number"] ["_law_script", "_law_k"] (defScope s_Lcell) := ⟨rfl, rfl, rfl, by decide +kernel, rfl, by decide +kernel, by decide +kernel⟩
abbrev s_Lmixed : Stmt := top 13
theorem sc_Lmixed : FnScope ["_law_cell_here", "_law_k", "_law_number"] ["_law_cell_here", "_law_k"] (defScope s_Lmixed) := ⟨rfl, rfl, rfl, by decide +kernel, rfl, by decide +kernel, by decide +kernel⟩
abbrev s_Lrow : Stmt := top 14
theorem sc_Lrow : FnScope ["_law_cell_here", "_law_most", "_law_many", "_law_found", "_law_rest", "_law_k"] ["_law_cell_here", "_law_most", "_law_many"] (defScope s_Lrow) := ⟨rfl, rfl, rfl, by decide +kernel, rfl, by decide +kernel, by decide +kernel⟩
abbrev s_Lint : Stmt := top 15
theorem sc_Lint : FnScope ["_law_found"] ["_law_found"] (defScope s_Lint) := ⟨rfl, rfl, rfl, by decide +kernel, rfl, by decide +kernel, by decide +kernel⟩
abbrev s_Lsign : Stmt := top 16
theorem sc_Lsign : FnScope ["_law_number", "_law_a", "_law_b", "_law_more"] ["_law_number"] (defScope s_Lsign) := ⟨rfl, rfl, rfl, by decide +kernel, rfl, by decide +kernel, by decide +kernel⟩
abbrev s_Lmoved : Stmt := top 17
theorem sc_Lmoved : FnScope ["_law_place_here", "_law_heading", "_law_steps", "_law_ways", "_law_east", "_law_north", "_law_x", "_law_y", "_law_here"] ["_law_place_here", "_law_heading", "_law_steps"] (defScope s_Lmoved) := ⟨rfl, rfl, rfl, by decide +kernel, rfl, by decide +kernel, by decide +kernel⟩
abbrev s_Lplace : Stmt := top 18
theorem sc_Lplace : FnScope ["_law_row_here", "_law_far", "_law_a", "_law_b", "_law_c", "_law_d", "_law_spare"] ["_law_row_here", "_law_far"] (defScope s_Lplace) := ⟨rfl, rfl, rfl, by decide +kernel, rfl, by decide +kernel, by decide +kernel⟩
abbrev s_Lminus : Stmt := top 20
theorem sc_Lminus : FnScope ["_law_one", "_law_other"] ["_law_one", "_law_other"] (defScope s_Lminus) := ⟨rfl, rfl, rfl, by decide +kernel, rfl, by decide +kernel, by decide +kernel⟩
abbrev s_Ldouble : Stmt := top 21
theorem sc_Ldouble : FnScope ["_law_one", "_law_other"] ["_law_one", "_law_other"] (defScope s_Ldouble) := ⟨rfl, rfl, rfl, by decide +kernel, rfl, by decide +kernel, by decide +kernel⟩
abbrev s_Lway : Stmt := top 22
theorem sc_Lway : FnScope ["_law_script", "_law_start", "_law_most", "_law_cell_here", "_law_headings", "_law_far", "_law_here", "_law_found", "_law_k", "_law_row_here", "_law_heading"] ["_law_script", "_law_start", "_law_most"] (defScope s_Lway) := ⟨rfl, rfl, rfl, by decide +kernel, rfl, by decide +kernel, by decide +kernel⟩
abbrev s_Lside : Stmt := top 23
theorem sc_Lside : FnScope ["_law_one", "_law_other", "_law_spot_here", "_law_ahead"] ["_law_one", "_law_other", "_law_spot_here"] (defScope s_Lside) := ⟨rfl, rfl, rfl, by decide +kernel, rfl, by decide +kernel, by decide +kernel⟩
abbrev s_Lquarter : Stmt := top 24
theorem sc_Lquarter : FnScope ["_law_spot_here", "_law_place_here", "_law_x", "_law_y"] ["_law_spot_here", "_law_place_here"] (defScope s_Lquarter) := ⟨rfl, rfl, rfl, by decide +kernel, rfl, by decide +kernel, by decide +kernel⟩
abbrev s_Lturns : Stmt := top 25
theorem sc_Lturns : FnScope ["_law_spot_here", "_law_one", "_law_other", "_law_here", "_law_there", "_law_turns_here", "_law_side_here"] ["_law_spot_here", "_law_one", "_law_other"] (defScope s_Lturns) := ⟨rfl, rfl, rfl, by decide +kernel, rfl, by decide +kernel, by decide +kernel⟩
abbrev s_Lrounds : Stmt := top 26
theorem sc_Lrounds : FnScope ["_law_way_here", "_law_spot_here", "_law_found", "_law_k", "_law_turns_here"] ["_law_way_here", "_law_spot_here"] (defScope s_Lrounds) := ⟨rfl, rfl, rfl, by decide +kernel, rfl, by decide +kernel, by decide +kernel⟩
abbrev s_Lspot : Stmt := top 27
theorem sc_Lspot : FnScope ["_law_script", "_law_k", "_law_way_here", "_law_row_here", "_law_near"] ["_law_script", "_law_k", "_law_way_here"] (defScope s_Lspot) := ⟨rfl, rfl, rfl, by decide +kernel, rfl, by decide +kernel, by decide +kernel⟩
abbrev s_law : Stmt := top 28
theorem sc_law : FnScope ["_law_script", "_law_way_here", "_law_spots", "_law_spot_here", "_law_handed", "_law_found", "_law_due", "_law_other"] ["_law_script"] (defScope s_law) := ⟨rfl, rfl, rfl, by decide +kernel, rfl, by decide +kernel, by decide +kernel⟩
structure Own (K : PySem.W.Frag) (mg : Str → Option Value) (x : Str) (st : Stmt) (ps : List Str) (f : Addr) (fd : FuncData) : Prop where
  F : Fun K x x st f fd
  b : Binds K fd ps []
  m : mg x = some (.ref f)
structure OwnM (K : PySem.W.Frag) (C : Addr) (x qx : Str) (st : Stmt) (ps : List Str) (f : Addr) (fd : FuncData) : Prop where
  F : Fun K x qx st f fd
  b : Binds K fd ps []
  mt : Meth K C x f
structure OwnI (K : PySem.W.Frag) (C : Addr) (x qx : Str) (st : Stmt) (ps : List Str) (f : Addr) (fd : FuncData) : Prop where
  F : Fun K x qx st f fd
  b : Binds K fd ps []
  mki : Mk K C f
def D_BEGINNING : D := .tup [.tup [.int (0), .int (0)], .tup [.int (0), .int (0)]]
set_option genInjectivity false in
set_option genSizeOf false in
structure Adr where
  a_minus : Addr
  d_minus : FuncData
  a_signofint : Addr
  d_signofint : FuncData
  a_signof : Addr
  d_signof : FuncData
  a_twiceproduct : Addr
  d_twiceproduct : FuncData
  a_swept : Addr
  d_swept : FuncData
  a_areapart : Addr
  d_areapart : FuncData
  a_crossing : Addr
  d_crossing : FuncData
  a_roundsof : Addr
  d_roundsof : FuncData
  a_Lcell : Addr
  d_Lcell : FuncData
  a_Lmixed : Addr
  d_Lmixed : FuncData
  a_Lrow : Addr
  d_Lrow : FuncData
  a_Lint : Addr
  d_Lint : FuncData
  a_Lsign : Addr
  d_Lsign : FuncData
  a_Lmoved : Addr
  d_Lmoved : FuncData
  a_Lplace : Addr
  d_Lplace : FuncData
  a_Lminus : Addr
  d_Lminus : FuncData
  a_Ldouble : Addr
  d_Ldouble : FuncData
  a_Lway : Addr
  d_Lway : FuncData
  a_Lside : Addr
  d_Lside : FuncData
  a_Lquarter : Addr
  d_Lquarter : FuncData
  a_Lturns : Addr
  d_Lturns : FuncData
  a_Lrounds : Addr
  d_Lrounds : FuncData
  a_Lspot : Addr
  d_Lspot : FuncData
  a_law : Addr
  d_law : FuncData
  u_BEGINNING : Value
  v_BEGINNING : V
local macro_rules | `(tactic| walk_at "rd") => `(tactic| ((try simp only [L2.start, L2.stC, List.map_cons, List.map_nil, List.length_cons, List.length_nil, List.replicate_succ, List.replicate_zero, List.nil_append, List.cons_append, Nat.reduceAdd, Nat.reduceSub, Nat.zero_add, Nat.sub_self, Nat.add_one_sub_one]); (try dsimp only [cxOf_K, tFld, sFld, sFldAug, tMeth, tMake, tNever, tBM0, rPop, rClear, tAug, ipI, tChain, tNotT, tDComp0, tDNewK, rSetL, gSub, rIn, rCat, rAdd, rSlW, tSl, tNoPart, tPart, rSlL, rSlT, tSeq, tNext, tAsg, gName, tOp, tUn, rI, rI0, rU, tVar, tC, tIfS, tTest, tRet, tRetN, tDrop, tCall, tCons, tNil, tTup, tLst, tCB, tNot, tAnd, tOr, tNotV, tAndV, tOrV, tB, tIf, tYes, tLit, gTup, gLst, gCons, gNil, L2.start, rIxL, rIxT, tFor_eq, iRng1, iRng2, iList, iTup, tComp_eq, L2.stC, tBM, rAppend, List.getElem?_cons_zero, List.getElem?_cons_succ, List.set_cons_zero, List.set_cons_succ, List.map_cons, List.map_nil, List.length_cons, List.length_nil, List.replicate_succ, List.replicate_zero, List.nil_append, List.cons_append, Nat.reduceAdd, Nat.reduceSub, Nat.zero_add, tVarD, tRev, rListL, rSlLD, tPartD, rCatD, rEqL, tBD, tAndVD, tFldD, sFldD, sFldAugD, rID, rI0D, rUD, rEqX, rNeX, rEqD1, rIxLD, rIxTD, gNilD, gConsD, gTupD, gLstD, iListD, iZipD, rInT, rInFD, rIsND, rNotND, isNon, oNon, iTupD, rMax, rMin, rLen, rTupL, rIsi, rAppendD, rSetLD, oRef, oInt, oBl, oGet, o0, o1, o2, oC]); try simp only [tVarD, tRev, rListL, rSlLD, tPartD, rCatD, rEqL, tBD, tAndVD, tFldD, sFldD, sFldAugD, rID, rI0D, rUD, rEqX, rNeX, rEqD1, rIxLD, rIxTD, gNilD, gConsD, gTupD, gLstD, iListD, iZipD, rInT, rInFD, rIsND, rNotND, isNon, oNon, iTupD, rMax, rMin, rLen, rTupL, rIsi, rAppendD, rSetLD, oRef, oInt, oBl, oGet, o0, o1, o2, oC, cxOf_K, tFld, sFld, sFldAug, tMeth, tMake, tNever, tBM0, rPop, rClear, tAug, ipI, tChain, tNotT, tDComp0, tDNewK, rSetL, gSub, rIn, rCat, rAdd, rSlW, tSl, tNoPart, tPart, rSlL, rSlT, tSeq, tNext, tAsg, gName, tOp, tUn, rI, rI0, rU, tVar, tC, tIfS, tTest, tRet, tRetN, tDrop, tCall, tCons, tNil, tTup, tLst, tCB, tNot, tAnd, tOr, tNotV, tAndV, tOrV, tB, tIf, tYes, tLit, gTup, gLst, gCons, gNil, L2.start, rIxL, rIxT, tFor_eq, iRng1, iRng2, iList, iTup, tComp_eq, L2.stC, tBM, rAppend, tyV, List.getElem?_cons_zero, List.getElem?_cons_succ, List.set_cons_zero, List.set_cons_succ, List.map_cons, List.map_nil, List.length_cons, List.length_nil, List.length_map, List.replicate_succ, List.replicate_zero, List.append_nil, List.nil_append, List.cons_append, Option.some.injEq, Option.join_some, V.int.injEq, V.bl.injEq, V.ref.injEq, V.str.injEq, List.cons.injEq, exists_and_left, exists_and_right, exists_eq_left, exists_eq_left', exists_eq, exists_eq', and_true, true_and, and_self, and_assoc, decide_eq_true_eq, Nat.reduceAdd, Nat.reduceSub, Nat.add_one_sub_one, Nat.sub_self, Nat.zero_add, reduceCtorEq, eq_self, not_true_eq_false, not_false_eq_true, false_and, and_false, exists_false, false_or, or_false, if_true, if_false, ite_true, ite_false, Bool.false_eq_true, Bool.not_true, Bool.not_false, Bool.not_eq_true', decide_eq_false_iff_not]))
local macro_rules | `(tactic| walk_at "ro") => `(tactic| ((try simp only [L2.start, L2.stC, List.map_cons, List.map_nil, List.length_cons, List.length_nil, List.replicate_succ, List.replicate_zero, List.nil_append, List.cons_append, Nat.reduceAdd, Nat.reduceSub, Nat.zero_add, Nat.sub_self, Nat.add_one_sub_one]); (try dsimp only [cxOf_K, tFld, sFld, sFldAug, tMeth, tMake, tNever, tBM0, rPop, rClear, tAug, ipI, tChain, tNotT, tDComp0, tDNewK, rSetL, gSub, rIn, rCat, rAdd, rSlW, tSl, tNoPart, tPart, rSlL, rSlT, tSeq, tNext, tAsg, gName, tOp, tUn, rI, rI0, rU, tVar, tC, tIfS, tTest, tRet, tRetN, tDrop, tCall, tCons, tNil, tTup, tLst, tCB, tNot, tAnd, tOr, tNotV, tAndV, tOrV, tB, tIf, tYes, tLit, gTup, gLst, gCons, gNil, L2.start, rIxL, rIxT, tFor_eq, iRng1, iRng2, iList, iTup, tComp_eq, L2.stC, tBM, rAppend, List.getElem?_cons_zero, List.getElem?_cons_succ, List.set_cons_zero, List.set_cons_succ, List.map_cons, List.map_nil, List.length_cons, List.length_nil, List.replicate_succ, List.replicate_zero, List.nil_append, List.cons_append, Nat.reduceAdd, Nat.reduceSub, Nat.zero_add, tVarD, tRev, rListL, rSlLD, tPartD, rCatD, rEqL, tBD, tAndVD, tFldD, sFldD, sFldAugD, rID, rI0D, rUD, rEqX, rNeX, rEqD1, rIxLD, rIxTD, gNilD, gConsD, gTupD, gLstD, iListD, iZipD, rInT, rInFD, rIsND, rNotND, isNon, oNon, iTupD, rMax, rMin, rLen, rTupL, rIsi, rAppendD, rSetLD, oRef, oInt, oBl, oGet, o0, o1, o2, oC]); try simp only [upd_same, upd_upd, HO.ins.injEq, tVarD, tRev, rListL, rSlLD, tPartD, rCatD, rEqL, tBD, tAndVD, tFldD, sFldD, sFldAugD, rID, rI0D, rUD, rEqX, rNeX, rEqD1, rIxLD, rIxTD, gNilD, gConsD, gTupD, gLstD, iListD, iZipD, rInT, rInFD, rIsND, rNotND, isNon, oNon, iTupD, rMax, rMin, rLen, rTupL, rIsi, rAppendD, rSetLD, oRef, oInt, oBl, oGet, o0, o1, o2, oC, cxOf_K, tFld, sFld, sFldAug, tMeth, tMake, tNever, tBM0, rPop, rClear, tAug, ipI, tChain, tNotT, tDComp0, tDNewK, rSetL, gSub, rIn, rCat, rAdd, rSlW, tSl, tNoPart, tPart, rSlL, rSlT, tSeq, tNext, tAsg, gName, tOp, tUn, rI, rI0, rU, tVar, tC, tIfS, tTest, tRet, tRetN, tDrop, tCall, tCons, tNil, tTup, tLst, tCB, tNot, tAnd, tOr, tNotV, tAndV, tOrV, tB, tIf, tYes, tLit, gTup, gLst, gCons, gNil, L2.start, rIxL, rIxT, tFor_eq, iRng1, iRng2, iList, iTup, tComp_eq, L2.stC, tBM, rAppend, tyV, List.getElem?_cons_zero, List.getElem?_cons_succ, List.set_cons_zero, List.set_cons_succ, List.map_cons, List.map_nil, List.length_cons, List.length_nil, List.length_map, List.replicate_succ, List.replicate_zero, List.append_nil, List.nil_append, List.cons_append, Option.some.injEq, Option.join_some, V.int.injEq, V.bl.injEq, V.ref.injEq, V.str.injEq, List.cons.injEq, exists_and_left, exists_and_right, exists_eq_left, exists_eq_left', exists_eq, exists_eq', and_true, true_and, and_self, and_assoc, decide_eq_true_eq, Nat.reduceAdd, Nat.reduceSub, Nat.add_one_sub_one, Nat.sub_self, Nat.zero_add, reduceCtorEq, eq_self, not_true_eq_false, not_false_eq_true, false_and, and_false, exists_false, false_or, or_false, if_true, if_false, ite_true, ite_false, Bool.false_eq_true, Bool.not_true, Bool.not_false, Bool.not_eq_true', decide_eq_false_iff_not]))
local macro_rules | `(tactic| walk_at "rh") => `(tactic| ((try refine hold_at ?_); (try simp only [L2.start, L2.stC, List.map_cons, List.map_nil, List.length_cons, List.length_nil, List.replicate_succ, List.replicate_zero, List.nil_append, List.cons_append, Nat.reduceAdd, Nat.reduceSub, Nat.zero_add, Nat.sub_self, Nat.add_one_sub_one]); (try dsimp only [tSeqH, cxOf_K, tFld, sFld, sFldAug, tMeth, tMake, tNever, tBM0, rPop, rClear, tAug, ipI, tChain, tNotT, tDComp0, tDNewK, rSetL, gSub, rIn, rCat, rAdd, rSlW, tSl, tNoPart, tPart, rSlL, rSlT, tSeq, tNext, tAsg, gName, tOp, tUn, rI, rI0, rU, tVar, tC, tIfS, tTest, tRet, tRetN, tDrop, tCall, tCons, tNil, tTup, tLst, tCB, tNot, tAnd, tOr, tNotV, tAndV, tOrV, tB, tIf, tYes, tLit, gTup, gLst, gCons, gNil, L2.start, rIxL, rIxT, tFor_eq, iRng1, iRng2, iList, iTup, tComp_eq, L2.stC, tBM, rAppend, List.getElem?_cons_zero, List.getElem?_cons_succ, List.set_cons_zero, List.set_cons_succ, List.map_cons, List.map_nil, List.length_cons, List.length_nil, List.replicate_succ, List.replicate_zero, List.nil_append, List.cons_append, Nat.reduceAdd, Nat.reduceSub, Nat.zero_add, tVarD, tRev, rListL, rSlLD, tPartD, rCatD, rEqL, tBD, tAndVD, tFldD, sFldD, sFldAugD, rID, rI0D, rUD, rEqX, rNeX, rEqD1, rIxLD, rIxTD, gNilD, gConsD, gTupD, gLstD, iListD, iZipD, rInT, rInFD, rIsND, rNotND, isNon, oNon, iTupD, rMax, rMin, rLen, rTupL, rIsi, rAppendD, rSetLD, oRef, oInt, oBl, oGet, o0, o1, o2, oC]); try simp only [tSeqH, tVarD, tRev, rListL, rSlLD, tPartD, rCatD, rEqL, tBD, tAndVD, tFldD, sFldD, sFldAugD, rID, rI0D, rUD, rEqX, rNeX, rEqD1, rIxLD, rIxTD, gNilD, gConsD, gTupD, gLstD, iListD, iZipD, rInT, rInFD, rIsND, rNotND, isNon, oNon, iTupD, rMax, rMin, rLen, rTupL, rIsi, rAppendD, rSetLD, oRef, oInt, oBl, oGet, o0, o1, o2, oC, cxOf_K, tFld, sFld, sFldAug, tMeth, tMake, tNever, tBM0, rPop, rClear, tAug, ipI, tChain, tNotT, tDComp0, tDNewK, rSetL, gSub, rIn, rCat, rAdd, rSlW, tSl, tNoPart, tPart, rSlL, rSlT, tSeq, tNext, tAsg, gName, tOp, tUn, rI, rI0, rU, tVar, tC, tIfS, tTest, tRet, tRetN, tDrop, tCall, tCons, tNil, tTup, tLst, tCB, tNot, tAnd, tOr, tNotV, tAndV, tOrV, tB, tIf, tYes, tLit, gTup, gLst, gCons, gNil, L2.start, rIxL, rIxT, tFor_eq, iRng1, iRng2, iList, iTup, tComp_eq, L2.stC, tBM, rAppend, tyV, List.getElem?_cons_zero, List.getElem?_cons_succ, List.set_cons_zero, List.set_cons_succ, List.map_cons, List.map_nil, List.length_cons, List.length_nil, List.length_map, List.replicate_succ, List.replicate_zero, List.append_nil, List.nil_append, List.cons_append, Option.some.injEq, Option.join_some, V.int.injEq, V.bl.injEq, V.ref.injEq, V.str.injEq, List.cons.injEq, exists_and_left, exists_and_right, exists_eq_left, exists_eq_left', exists_eq, exists_eq', and_true, true_and, and_self, and_assoc, decide_eq_true_eq, Nat.reduceAdd, Nat.reduceSub, Nat.add_one_sub_one, Nat.sub_self, Nat.zero_add, reduceCtorEq, eq_self, not_true_eq_false, not_false_eq_true, false_and, and_false, exists_false, false_or, or_false, if_true, if_false, ite_true, ite_false, Bool.false_eq_true, Bool.not_true, Bool.not_false, Bool.not_eq_true', decide_eq_false_iff_not]))
theorem kk {k : Int} (h0 : 0 ≤ k) (h1 : k ≤ 100) : 0 ≤ k * k ∧ k * k ≤ 10000 := by
  have a : k * k ≤ 100 * 100 := Int.mul_le_mul h1 h1 h0 (by decide)
  have a0 : 0 ≤ k * k := Int.mul_nonneg h0 h0
  exact ⟨a0, a⟩
theorem zk {k z : Int} (h0 : 0 ≤ k) (h1 : k ≤ 100) (z0 : 0 ≤ z) (z1 : z < 10 ^ 40) : 0 ≤ z * (48271 + k) ∧ z * (48271 + k) ≤ 10 ^ 40 * 48371 := by
  have b : z * (48271 + k) ≤ 10 ^ 40 * 48371 := Int.mul_le_mul (by omega) (by omega) (by omega) (by decide)
  exact ⟨Int.mul_nonneg z0 (by omega), b⟩

theorem kit_int_int {K : PySem.W.Frag} : PySem.W.kitOne K (.type "int") (.type "int") = some true := rfl
theorem kit_int_bool {K : PySem.W.Frag} : PySem.W.kitOne K (.type "int") (.type "bool") = some false := rfl
structure Pl where
  a : Int
  b : Int
  c : Int
  d : Int
def dirs (h : Int) : Pl := if h % 8 = 0 then ⟨1, 0, 0, 0⟩ else if h % 8 = 1 then ⟨0, 1, 0, 1⟩ else if h % 8 = 2 then ⟨0, 0, 1, 0⟩ else if h % 8 = 3 then ⟨0, -1, 0, 1⟩ else if h % 8 = 4 then ⟨-1, 0, 0, 0⟩ else if h % 8 = 5 then ⟨0, -1, 0, -1⟩ else if h % 8 = 6 then ⟨0, 0, -1, 0⟩ else ⟨0, 1, 0, -1⟩
def mv (p : Pl) (h n : Int) : Pl := ⟨p.a + (dirs h).a * n, p.b + (dirs h).b * n, p.c + (dirs h).c * n, p.d + (dirs h).d * n⟩
abbrev Pl.D (p : Pl) : L2.D := plc p.a p.b p.c p.d
theorem eight (h : Int) : h % 8 = 0 ∨ h % 8 = 1 ∨ h % 8 = 2 ∨ h % 8 = 3 ∨ h % 8 = 4 ∨ h % 8 = 5 ∨ h % 8 = 6 ∨ h % 8 = 7 := by omega
structure Txt (K : PySem.W.Frag) (mg : Str → Option Value) (t : Adr) : Prop where
  minus : Own K mg "minus" s_minus ["one", "other"] t.a_minus t.d_minus
  signofint : Own K mg "sign_of_int" s_signofint ["value"] t.a_signofint t.d_signofint
  signof : Own K mg "sign_of" s_signof ["number"] t.a_signof t.d_signof
  twiceproduct : Own K mg "twice_product" s_twiceproduct ["one", "other"] t.a_twiceproduct t.d_twiceproduct
  swept : Own K mg "swept" s_swept ["start", "end"] t.a_swept t.d_swept
  areapart : Own K mg "are_apart" s_areapart ["one", "other"] t.a_areapart t.d_areapart
  crossing : Own K mg "crossing" s_crossing ["start", "end", "side"] t.a_crossing t.d_crossing
  roundsof : Own K mg "rounds_of" s_roundsof ["way", "place"] t.a_roundsof t.d_roundsof
  Lcell : Own K mg "_law_cell" s_Lcell ["_law_script", "_law_k"] t.a_Lcell t.d_Lcell
  Lmixed : Own K mg "_law_mixed" s_Lmixed ["_law_cell_here", "_law_k"] t.a_Lmixed t.d_Lmixed
  Lrow : Own K mg "_law_row" s_Lrow ["_law_cell_here", "_law_most", "_law_many"] t.a_Lrow t.d_Lrow
  Lint : Own K mg "_law_int" s_Lint ["_law_found"] t.a_Lint t.d_Lint
  Lsign : Own K mg "_law_sign" s_Lsign ["_law_number"] t.a_Lsign t.d_Lsign
  Lmoved : Own K mg "_law_moved" s_Lmoved ["_law_place_here", "_law_heading", "_law_steps"] t.a_Lmoved t.d_Lmoved
  Lplace : Own K mg "_law_place" s_Lplace ["_law_row_here", "_law_far"] t.a_Lplace t.d_Lplace
  Lminus : Own K mg "_law_minus" s_Lminus ["_law_one", "_law_other"] t.a_Lminus t.d_Lminus
  Ldouble : Own K mg "_law_double" s_Ldouble ["_law_one", "_law_other"] t.a_Ldouble t.d_Ldouble
  Lway : Own K mg "_law_way" s_Lway ["_law_script", "_law_start", "_law_most"] t.a_Lway t.d_Lway
  Lside : Own K mg "_law_side" s_Lside ["_law_one", "_law_other", "_law_spot_here"] t.a_Lside t.d_Lside
  Lquarter : Own K mg "_law_quarter" s_Lquarter ["_law_spot_here", "_law_place_here"] t.a_Lquarter t.d_Lquarter
  Lturns : Own K mg "_law_turns" s_Lturns ["_law_spot_here", "_law_one", "_law_other"] t.a_Lturns t.d_Lturns
  Lrounds : Own K mg "_law_rounds" s_Lrounds ["_law_way_here", "_law_spot_here"] t.a_Lrounds t.d_Lrounds
  Lspot : Own K mg "_law_spot" s_Lspot ["_law_script", "_law_k", "_law_way_here"] t.a_Lspot t.d_Lspot
  law : Own K mg "law" s_law ["_law_script"] t.a_law t.d_law
  z_bool : mg "bool" = none
  z_int : mg "int" = none
  z_isinstance : mg "isinstance" = none
  z_len : mg "len" = none
  z_list : mg "list" = none
  z_max : mg "max" = none
  z_min : mg "min" = none
  z_range : mg "range" = none
  z_reversed : mg "reversed" = none
  z_zip : mg "zip" = none
  g_BEGINNING : mg "BEGINNING" = some t.u_BEGINNING
  r_BEGINNING : RelV t.v_BEGINNING t.u_BEGINNING
  k_BEGINNING : ∀ H, Rp K H D_BEGINNING t.v_BEGINNING
section
variable {P : Program} {w : World} {K : PySem.W.Frag} {mg : Str → Option Value} {base : Heap} {t : Adr}
def sp_Lcell (K : PySem.W.Frag) : Sp := fun vs H Q _ => ∃ (a : Addr) (ns : List Int) (k : Int), vs = [.ref a, .int k] ∧ SqL K H a (ns.map V.int) ∧ ns.length ≤ 63 ∧ 0 ≤ k ∧ k ≤ 100 ∧ ∀ z, Q (.int z) H
theorem ok_Lcell (T : Txt K mg t) : FnOk P w K mg base CX0 1 t.a_Lcell t.d_Lcell ["_law_script", "_law_k"] (sp_Lcell K) := by
  refine T.Lcell.F.ok sc_Lcell (fun vs H Q E h => ?_) (fun cdv A outer s H vs Q E hr h => ?_)
  · obtain ⟨a, ns, k, rfl, _⟩ := h; rfl
  · obtain ⟨a, ns, k, rfl, hS, hl, k0, k1, q⟩ := h
    have hk := kk k0 k1
    refine ⟨_, (@pss_cons _ _ _ _ _ (@ps_if _ _ _ _ _ _ _ _ (@pt_cmpRD _ _ _ _ _ _ _ _ op_ltD (@pvD _ 1 _ _ (by rfl) (by first | exact Or.inl rfl | exact Or.inr (Or.inl rfl)) (by decide) (by decide)) (@pe_callB _ _ _ _ _ _ _ _ _ call_len_seqD (by rfl) T.z_len PySem.boot_len (@pa_cons _ _ _ _ _ (@pvD _ 0 _ _ (by rfl) (by first | exact Or.inl rfl | exact Or.inr (Or.inl rfl)) (by decide) (by decide)) (@pa_nil _) (by rfl)) (by decide) (by decide) (by rfl) (by rfl)) (nomark _)) (@pss_one _ _ _ (@ps_ret _ _ _ _ (@pe_ix _ _ _ _ _ _ _ ix_listD (@pvD _ 0 _ _ (by rfl) (by first | exact Or.inl rfl | exact Or.inr (Or.inl rfl)) (by decide) (by decide)) (@pvD _ 1 _ _ (by rfl) (by first | exact Or.inl rfl | exact Or.inr (Or.inl rfl)) (by decide) (by decide)) (fun _ _ => rfl)))) (@pss_nil _)) (@pss_cons _ _ _ _ _ (@ps_set _ _ (2) _ _ _ _ sc_Lcell.nd rfl (Or.inl rfl) (@pe_op _ _ _ _ _ _ _ _ op_addD (@pe_op _ _ _ _ _ _ _ _ op_mulWD (@pe_op _ _ _ _ _ _ _ _ op_mulWD (@pvD _ 1 _ _ (by rfl) (by first | exact Or.inl rfl | exact Or.inr (Or.inl rfl)) (by decide) (by decide)) (@pvD _ 1 _ _ (by rfl) (by first | exact Or.inl rfl | exact Or.inr (Or.inl rfl)) (by decide) (by decide))) (@pe_int _ _ _ _)) (@pe_int _ _ _ _)) (by rfl) (by first | exact .inl rfl | exact .inr rfl | assumption)) (@pss_cons _ _ _ _ _ (@ps_if _ _ _ _ _ _ _ _ (@pt_cmpRD _ _ _ _ _ _ _ _ op_gtD (@pe_callB _ _ _ _ _ _ _ _ _ call_len_seqD (by rfl) T.z_len PySem.boot_len (@pa_cons _ _ _ _ _ (@pvD _ 0 _ _ (by rfl) (by first | exact Or.inl rfl | exact Or.inr (Or.inl rfl)) (by decide) (by decide)) (@pa_nil _) (by rfl)) (by decide) (by decide) (by rfl) (by rfl)) (@pe_int _ _ _ _) (nomark _)) (@pss_one _ _ _ (@ps_set _ _ (2) _ _ _ _ sc_Lcell.nd rfl (Or.inl rfl) (@pe_op _ _ _ _ _ _ _ _ op_addD (@pvD _ 2 _ _ (by rfl) (by first | exact Or.inl rfl | exact Or.inr (Or.inl rfl)) (by decide) (by decide)) (@pe_op _ _ _ _ _ _ _ _ op_mulWD (@pe_op _ _ _ _ _ _ _ _ op_modD (@pe_ix _ _ _ _ _ _ _ ix_listD (@pvD _ 0 _ _ (by rfl) (by first | exact Or.inl rfl | exact Or.inr (Or.inl rfl)) (by decide) (by decide)) (@pe_op _ _ _ _ _ _ _ _ op_modD (@pe_op _ _ _ _ _ _ _ _ op_mulWD (@pvD _ 1 _ _ (by rfl) (by first | exact Or.inl rfl | exact Or.inr (Or.inl rfl)) (by decide) (by decide)) (@pe_int _ _ _ _)) (@pe_callB _ _ _ _ _ _ _ _ _ call_len_seqD (by rfl) T.z_len PySem.boot_len (@pa_cons _ _ _ _ _ (@pvD _ 0 _ _ (by rfl) (by first | exact Or.inl rfl | exact Or.inr (Or.inl rfl)) (by decide) (by decide)) (@pa_nil _) (by rfl)) (by decide) (by decide) (by rfl) (by rfl))) (fun _ _ => rfl)) (@pe_op _ _ _ _ _ _ _ _ op_powD (@pe_int _ _ _ _) (@pe_int _ _ _ _))) (@pe_op _ _ _ _ _ _ _ _ op_addD (@pe_int _ _ _ _) (@pvD _ 1 _ _ (by rfl) (by first | exact Or.inl rfl | exact Or.inr (Or.inl rfl)) (by decide) (by decide))))) (by rfl) (by first | exact .inl rfl | exact .inr rfl | assumption))) (@pss_nil _)) (@pss_one _ _ _ (@ps_ret _ _ _ _ (@pe_op _ _ _ _ _ _ _ _ op_modD (@pe_op _ _ _ _ _ _ _ _ op_mulWD (@pvD _ 2 _ _ (by rfl) (by first | exact Or.inl rfl | exact Or.inr (Or.inl rfl)) (by decide) (by decide)) (@pvD _ 2 _ _ (by rfl) (by first | exact Or.inl rfl | exact Or.inr (Or.inl rfl)) (by decide) (by decide))) (@pe_int _ _ _ _))))))), ?_⟩
    walk_at "rd"
    refine ⟨_, .inl hS, ?_⟩
    walk_at "rd"
    split
    · rename_i c
      obtain ⟨z, _, hz⟩ := atI_ints k0 c
      exact ⟨_, hS, _, hz, q z⟩
    · rename_i c
      refine ⟨mulOk_l (by omega) (by omega), mulOk_r (by decide) (by decide), _, .inl hS, ?_⟩
      walk_at "rd"
      split
      · rename_i d
        refine ⟨mulOk_r (by decide) (by decide), _, .inl hS, ?_⟩
        walk_at "rd"
        have hp : (0 : Int) < ns.length := by omega
        obtain ⟨z, _, hz⟩ := atI_ints (ns := ns) (Int.emod_nonneg (k * 7) (by omega)) (Int.emod_lt_of_pos (k * 7) hp)
        refine ⟨hp, _, hS, _, hz, ?_⟩
        walk_at "rd"
        refine ⟨⟨by decide, by decide, by decide⟩, by decide, mulOk_r (by omega) (by omega), ?_⟩
        have h1 := zk k0 k1 (Int.emod_nonneg z (by decide : (10 : Int) ^ 40 ≠ 0)) (Int.emod_lt_of_pos z (by decide : (0 : Int) < 10 ^ 40))
        have e40 : (10 : Int) ^ Int.toNat 40 = 10 ^ 40 := rfl
        rw [e40]
        generalize z % 10 ^ 40 * (48271 + k) = y at h1 ⊢
        refine ⟨mulOk_bits 200 200 (by omega) (by omega) (by decide), by decide, q _⟩
      · exact ⟨mulOk_l (by omega) (by omega), by decide, q _⟩
def sp_Lmixed : Sp := fun vs H Q _ => ∃ (c k : Int), vs = [.int c, .int k] ∧ 0 ≤ k ∧ k ≤ 100 ∧ ∀ z, Q (.int z) H
theorem ok_Lmixed (T : Txt K mg t) : FnOk P w K mg base CX0 1 t.a_Lmixed t.d_Lmixed ["_law_cell_here", "_law_k"] sp_Lmixed := by
  refine T.Lmixed.F.ok sc_Lmixed (fun vs H Q E h => ?_) (fun cdv A outer s H vs Q E hr h => ?_)
  · obtain ⟨c, k, rfl, _⟩ := h; rfl
  · obtain ⟨c, k, rfl, k0, k1, q⟩ := h
    have hk := kk k0 k1
    have md : ∀ x : Int, 0 ≤ x % 2305843009213693951 ∧ x % 2305843009213693951 < 2305843009213693951 := fun x => ⟨Int.emod_nonneg x (by decide), Int.emod_lt_of_pos x (by decide)⟩
    refine ⟨_, (@pss_cons _ _ _ _ _ (@ps_set _ _ (2) _ _ _ _ sc_Lmixed.nd rfl (Or.inl rfl) (@pe_op _ _ _ _ _ _ _ _ op_modD (@pe_op _ _ _ _ _ _ _ _ op_addD (@pe_op _ _ _ _ _ _ _ _ op_addD (@pvD _ 0 _ _ (by rfl) (by first | exact Or.inl rfl | exact Or.inr (Or.inl rfl)) (by decide) (by decide)) (@pe_op _ _ _ _ _ _ _ _ op_mulWD (@pe_op _ _ _ _ _ _ _ _ op_mulWD (@pvD _ 1 _ _ (by rfl) (by first | exact Or.inl rfl | exact Or.inr (Or.inl rfl)) (by decide) (by decide)) (@pvD _ 1 _ _ (by rfl) (by first | exact Or.inl rfl | exact Or.inr (Or.inl rfl)) (by decide) (by decide))) (@pe_int _ _ _ _))) (@pe_int _ _ _ _)) (@pe_int _ _ _ _)) (by rfl) (by first | exact .inl rfl | exact .inr rfl | assumption)) (@pss_cons _ _ _ _ _ (@ps_set _ _ (2) _ _ _ _ sc_Lmixed.nd rfl (Or.inl rfl) (@pe_op _ _ _ _ _ _ _ _ op_modD (@pe_op _ _ _ _ _ _ _ _ op_mulWD (@pvD _ 2 _ _ (by rfl) (by first | exact Or.inl rfl | exact Or.inr (Or.inl rfl)) (by decide) (by decide)) (@pvD _ 2 _ _ (by rfl) (by first | exact Or.inl rfl | exact Or.inr (Or.inl rfl)) (by decide) (by decide))) (@pe_int _ _ _ _)) (by rfl) (by first | exact .inl rfl | exact .inr rfl | assumption)) (@pss_cons _ _ _ _ _ (@ps_set _ _ (2) _ _ _ _ sc_Lmixed.nd rfl (Or.inl rfl) (@pe_op _ _ _ _ _ _ _ _ op_modD (@pe_op _ _ _ _ _ _ _ _ op_mulWD (@pe_op _ _ _ _ _ _ _ _ op_addD (@pe_op _ _ _ _ _ _ _ _ op_addD (@pvD _ 2 _ _ (by rfl) (by first | exact Or.inl rfl | exact Or.inr (Or.inl rfl)) (by decide) (by decide)) (@pe_op _ _ _ _ _ _ _ _ op_mulWD (@pvD _ 1 _ _ (by rfl) (by first | exact Or.inl rfl | exact Or.inr (Or.inl rfl)) (by decide) (by decide)) (@pe_int _ _ _ _))) (@pe_int _ _ _ _)) (@pe_int _ _ _ _)) (@pe_int _ _ _ _)) (by rfl) (by first | exact .inl rfl | exact .inr rfl | assumption)) (@pss_one _ _ _ (@ps_ret _ _ _ _ (@pe_op _ _ _ _ _ _ _ _ op_fdivWD (@pe_op _ _ _ _ _ _ _ _ op_modD (@pe_op _ _ _ _ _ _ _ _ op_mulWD (@pvD _ 2 _ _ (by rfl) (by first | exact Or.inl rfl | exact Or.inr (Or.inl rfl)) (by decide) (by decide)) (@pvD _ 2 _ _ (by rfl) (by first | exact Or.inl rfl | exact Or.inr (Or.inl rfl)) (by decide) (by decide))) (@pe_int _ _ _ _)) (@pe_int _ _ _ _))))))), ?_⟩
    walk_at "rd"
    refine ⟨mulOk_l (by omega) (by omega), mulOk_r (by decide) (by decide), by decide, ?_⟩
    have h1 := md (c + k * k * 40503 + 12345)
    generalize (c + k * k * 40503 + 12345) % 2305843009213693951 = x1 at h1 ⊢
    refine ⟨mulOk_l (by omega) (by omega), by decide, ?_⟩
    have h2 := md (x1 * x1)
    generalize x1 * x1 % 2305843009213693951 = x2 at h2 ⊢
    refine ⟨mulOk_l (by omega) (by omega), mulOk_r (by decide) (by decide), by decide, ?_⟩
    have h3 := md ((x2 + k * 7919 + 1) * 48271)
    generalize (x2 + k * 7919 + 1) * 48271 % 2305843009213693951 = x3 at h3 ⊢
    refine ⟨mulOk_l (by omega) (by omega), by decide, by decide, by decide, q _⟩
def sp_Lrow : Sp := fun vs H Q _ => ∃ (c most many : Int), vs = [.int c, .int most, .int many] ∧ 0 < most ∧ most < 2 ^ 100 ∧ 0 ≤ many ∧ many ≤ 60 ∧
  ∀ (l : Addr) (xs : List Int) (H' : Hp), Same H H' → H l = none → H' l = some (.lst (xs.map V.int)) → xs.length = many.toNat → (∀ x ∈ xs, 0 ≤ x ∧ x < most) → Q (.ref l) H'
def Iv_row (c m n : Int) (l : Addr) (H : Hp) (i : Nat) (σ : L2.St) (H2 : Hp) : Prop := ∃ (xs : List Int) (r : Int) (kv : Option V), σ = [some (.int c), some (.int m), some (.int n), some (.ref l), some (.int r), kv] ∧ H2 = upd H l (.lst (xs.map V.int)) ∧ xs.length = i ∧ ∀ x ∈ xs, 0 ≤ x ∧ x < m
def Iv_comp (c m : Int) (p : Addr) (H : Hp) (i : Nat) (σ : L2.St) (H2 : Hp) : Prop := ∃ (ys : List Int) (kv : Option V), σ = [some (.int m), some (.int c), kv] ∧ Same H H2 ∧ H2 p = some (.lst (ys.map V.int)) ∧ ys.length = i ∧ ∀ x ∈ ys, 0 ≤ x ∧ x < m
theorem ok_Lrow (T : Txt K mg t) : FnOk P w K mg base CX0 2 t.a_Lrow t.d_Lrow ["_law_cell_here", "_law_most", "_law_many"] sp_Lrow := by
  refine T.Lrow.F.ok sc_Lrow (fun vs H Q E h => ?_) (fun cdv A outer s H vs Q E hr h => ?_)
  · obtain ⟨c, m, n, rfl, _⟩ := h; rfl
  · obtain ⟨c, m, n, rfl, m0, m1, n0, n1, q⟩ := h
    have md : ∀ x : Int, 0 ≤ x % m ∧ x % m < m := fun x => ⟨Int.emod_nonneg x (by omega), Int.emod_lt_of_pos x m0⟩
    refine ⟨_, (@pss_cons _ _ _ _ _ (@ps_set _ _ (3) _ _ _ _ sc_Lrow.nd rfl (Or.inl rfl) (@pe_lst _ _ _ _ (@pa_nil _)) (by rfl) (by first | exact .inl rfl | exact .inr rfl | assumption)) (@pss_cons _ _ _ _ _ (@ps_set _ _ (4) _ _ _ _ sc_Lrow.nd rfl (Or.inl rfl) (@pvD _ 0 _ _ (by rfl) (by first | exact Or.inl rfl | exact Or.inr (Or.inl rfl)) (by decide) (by decide)) (by rfl) (by first | exact .inl rfl | exact .inr rfl | assumption)) (@pss_cons _ _ _ _ _ (@ps_for _ _ _ _ _ _ _ _ PassesOwn.never rfl (@pi_range1 _ _ _ _ _ _ (by rfl) T.z_range (@pa_cons _ _ _ _ _ (@pvD _ 2 _ _ (by rfl) (by first | exact Or.inl rfl | exact Or.inr (Or.inl rfl)) (by decide) (by decide)) (@pa_nil _) (by rfl)) (by rfl)) (@pg_name _ _ (5) _ sc_Lrow.nd rfl (Or.inl rfl) (by first | exact .inl rfl | exact .inr rfl | assumption)) (@pss_cons _ _ _ _ _ (@ps_expr _ _ _ _ (@pe_bm _ _ _ _ _ _ _ _ _ _ _ _ PySem.F.plainAttrs_list PySem.F.slot_list_append PySem.F.type_list_append mt_appendD (@pvD _ 3 _ _ (by rfl) (by first | exact Or.inl rfl | exact Or.inr (Or.inl rfl)) (by decide) (by decide)) (@pa_cons _ _ _ _ _ (@pe_op _ _ _ _ _ _ _ _ op_modD (@pvD _ 4 _ _ (by rfl) (by first | exact Or.inl rfl | exact Or.inr (Or.inl rfl)) (by decide) (by decide)) (@pvD _ 1 _ _ (by rfl) (by first | exact Or.inl rfl | exact Or.inr (Or.inl rfl)) (by decide) (by decide))) (@pa_nil _) (by rfl)) (by rfl) (by rfl) (by rfl) (by rfl) (by rfl)) (by rfl)) (@pss_one _ _ _ (@ps_set _ _ (4) _ _ _ _ sc_Lrow.nd rfl (Or.inl rfl) (@pe_op _ _ _ _ _ _ _ _ op_fdivWD (@pvD _ 4 _ _ (by rfl) (by first | exact Or.inl rfl | exact Or.inr (Or.inl rfl)) (by decide) (by decide)) (@pvD _ 1 _ _ (by rfl) (by first | exact Or.inl rfl | exact Or.inr (Or.inl rfl)) (by decide) (by decide))) (by rfl) (by first | exact .inl rfl | exact .inr rfl | assumption)))) (by intro _; rfl)) (@pss_cons _ _ _ _ _ (@ps_if _ _ _ _ _ _ _ _ (@pt_cmpRD _ _ _ _ _ _ _ _ op_gtD (@pvD _ 4 _ _ (by rfl) (by first | exact Or.inl rfl | exact Or.inr (Or.inl rfl)) (by decide) (by decide)) (@pe_int _ _ _ _) (nomark _)) (@pss_one _ _ _ (@ps_ret _ _ _ _ (@pvD _ 3 _ _ (by rfl) (by first | exact Or.inl rfl | exact Or.inr (Or.inl rfl)) (by decide) (by decide)))) (@pss_nil _)) (@pss_one _ _ _ (@ps_ret _ _ _ _ (@pe_comp _ _ _ _ _ _ (defScope s_Lrow) _ _ _ _ _ (["_law_cell_here", "_law_most", "_law_many", "_law_found", "_law_rest", "_law_k"]) (["_law_most", "_law_cell_here", "_law_k"]) (["_law_k"]) ([1, 0]) rfl rfl rfl ⟨by decide +kernel, by decide +kernel, by decide +kernel, by decide +kernel, by decide +kernel, by decide +kernel⟩ (@pi_range1 _ _ _ _ _ _ (by rfl) T.z_range (@pa_cons _ _ _ _ _ (@pvD _ 2 _ _ (by rfl) (by first | exact Or.inl rfl | exact Or.inr (Or.inl rfl)) (by decide) (by decide)) (@pa_nil _) (by rfl)) (by rfl)) (fun _ _ _ _ => (@pg_name _ _ (2) _ (show List.Nodup (["_law_most", "_law_cell_here", "_law_k"] : List Str) by decide +kernel) rfl (Or.inl rfl) (by first | exact .inl rfl | exact .inr rfl | assumption))) (fun _ _ _ _ => (@pifs_nil _)) (fun _ _ _ _ => (@pe_op _ _ _ _ _ _ _ _ op_modD (@pe_call _ _ _ _ _ _ _ _ _ _ _ _ _ _ _ _ (ok_Lmixed T) (hr.mono (by decide)) (by rfl) T.Lmixed.m T.Lmixed.F.kp T.Lmixed.b .nil pass0 (@pa_cons _ _ _ _ _ (@pvD _ 1 _ _ (by rfl) (by first | exact Or.inl rfl | exact Or.inr (Or.inl rfl)) (by decide) (by decide)) (@pa_cons _ _ _ _ _ (@pvD _ 2 _ _ (by rfl) (by first | exact Or.inl rfl | exact Or.inr (Or.inl rfl)) (by decide) (by decide)) (@pa_nil _) (by rfl)) (by rfl)) (by decide) (by rfl) (by rfl)) (@pvD _ 0 _ _ (by rfl) (by first | exact Or.inl rfl | exact Or.inr (Or.inl rfl)) (by decide) (by decide)))) (by intro _; rfl)))))))), ?_⟩
    walk_at "rd"
    refine ⟨Nat.zero_le _, fun l hl => ⟨by omega, by omega, ?_⟩⟩
    refine FW_range (Iv_row c m n l H) ⟨[], c, none, rfl, rfl, rfl, by intro x hx; cases hx⟩ ?_ ?_
    · rintro i σ H2 hi ⟨xs, r, kv, rfl, rfl, hx, hb⟩
      walk_at "rd"
      refine ⟨.inl ⟨_, SqL.of upd_same⟩, m0, ?_⟩
      refine ⟨_, upd_same, small1000 (by rw [List.length_map]; omega), m0, m1, xs ++ [r % m], _, _, rfl, ?_, ?_, ?_⟩
      · rw [upd_upd, List.map_append]; rfl
      · rw [List.length_append, hx]; rfl
      · intro x h
        rcases List.mem_append.mp h with h | h
        · exact hb x h
        · rw [List.mem_singleton.mp h]; exact md r
    · rintro σ H2 ⟨xs, r, kv, rfl, rfl, hx, hb⟩
      walk_at "rd"
      split
      · exact q l xs _ (Same.upd hl) hl upd_same hx hb
      · refine ⟨by omega, by omega, fun p hp => ?_⟩
        have hne : p ≠ l := fun e => by rw [e, upd_same] at hp; cases hp
        have hp0 : H p = none := by rw [upd_ne hne] at hp; exact hp
        refine CW_range (Iv_comp c m p H) ⟨[], none, rfl, (Same.upd hl).upd2 hp0, upd_same, rfl, by intro x hx; cases hx⟩ ?_ ?_
        · rintro i σ H2 hi ⟨ys, kv, rfl, sm, hy, hlen, hby⟩
          walk_at "rd"
          refine ⟨_, _, rfl, by omega, by omega, fun z => ?_⟩
          walk_at "rd"
          refine ⟨m0, _, hy, small1000 (by rw [List.length_map]; omega), nx hi ⟨ys ++ [z % m], _, rfl, sm.upd2 hp0, ?_, ?_, ?_⟩⟩
          · rw [upd_same, List.map_append]; rfl
          · rw [List.length_append, hlen]; rfl
          · intro x h
            rcases List.mem_append.mp h with h | h
            · exact hby x h
            · rw [List.mem_singleton.mp h]; exact md z
        · rintro σ H2 ⟨ys, kv, rfl, sm, hy, hlen, hby⟩
          exact q p ys _ sm hp0 hy hlen hby

def sp_Lint : Sp := fun vs H Q _ => ∃ v : Int, vs = [.int v] ∧ Q (.bl true) H
theorem ok_Lint (T : Txt K mg t) : FnOk P w K mg base CX0 1 t.a_Lint t.d_Lint ["_law_found"] sp_Lint := by
  refine T.Lint.F.ok sc_Lint (fun vs H Q E h => ?_) (fun cdv A outer s H vs Q E hr h => ?_)
  · obtain ⟨v, rfl, _⟩ := h; rfl
  · obtain ⟨v, rfl, k⟩ := h
    refine ⟨_, (@pss_one _ _ _ (@ps_ret _ _ _ _ (@pe_andD _ _ _ _ _ _ _ (@pe_callB _ _ _ _ _ _ _ _ _ (call_isiXD (c := .type "int")) (by rfl) T.z_isinstance boot_isinstance (@pa_cons _ _ _ _ _ (@pvD _ 0 _ _ (by rfl) (by first | exact Or.inl rfl | exact Or.inr (Or.inl rfl)) (by decide) (by decide)) (@pa_cons _ _ _ _ _ (@pe_bltn _ _ (.ty "int") _ _ (by rfl) T.z_int boot_int rfl (by decide) (by decide)) (@pa_nil _) (by rfl)) (by rfl)) (by decide) (by decide) (by rfl) (by rfl)) (@pe_one _ _ _ _ _ (@pe_not _ _ _ _ (@pe_callB _ _ _ _ _ _ _ _ _ (call_isiXD (c := .type "bool")) (by rfl) T.z_isinstance boot_isinstance (@pa_cons _ _ _ _ _ (@pvD _ 0 _ _ (by rfl) (by first | exact Or.inl rfl | exact Or.inr (Or.inl rfl)) (by decide) (by decide)) (@pa_cons _ _ _ _ _ (@pe_bltn _ _ (.ty "bool") _ _ (by rfl) T.z_bool boot_bool rfl (by decide) (by decide)) (@pa_nil _) (by rfl)) (by rfl)) (by decide) (by decide) (by rfl) (by rfl))))))), ?_⟩
    walk_at "rd"
    refine ⟨rfl, ⟨_, rfl⟩, _, .int v, _, kit_int_int, ?_⟩
    walk_at "rd"
    refine ⟨rfl, ⟨_, rfl⟩, _, .int v, _, kit_int_bool, ?_⟩
    walk_at "rd"
    exact k
def sp_minus (K : PySem.W.Frag) : Sp := fun vs H Q _ => ∃ (x y : V) (a b c d : Int), vs = [x, y] ∧ Rp K H (num a b) x ∧ Rp K H (num c d) y ∧ ∀ v H', Same H H' → Rp K H' (num (a - c) (b - d)) v → Q v H'
theorem ok_minus (T : Txt K mg t) : FnOk P w K mg base CX0 1 t.a_minus t.d_minus ["one", "other"] (sp_minus K) := by
  refine T.minus.F.ok sc_minus (fun vs H Q E h => ?_) (fun cdv A outer s H vs Q E hr h => ?_)
  · obtain ⟨x, y, a, b, c, d, rfl, _⟩ := h; rfl
  · obtain ⟨x, y, a, b, c, d, rfl, hx, hy, q⟩ := h
    obtain ⟨p, rfl, hp⟩ := num_iff.mp hx
    obtain ⟨p', rfl, hp'⟩ := num_iff.mp hy
    refine ⟨_, (@pss_one _ _ _ (@ps_ret _ _ _ _ (@pe_tup _ _ _ _ _ (@pa_cons _ _ _ _ _ (@pe_op _ _ _ _ _ _ _ _ op_subD (@pe_ix _ _ _ _ _ _ _ ix_tupD (@pvD _ 0 _ _ (by rfl) (by first | exact Or.inl rfl | exact Or.inr (Or.inl rfl)) (by decide) (by decide)) (@pe_int _ _ _ _) (fun _ _ => rfl)) (@pe_ix _ _ _ _ _ _ _ ix_tupD (@pvD _ 1 _ _ (by rfl) (by first | exact Or.inl rfl | exact Or.inr (Or.inl rfl)) (by decide) (by decide)) (@pe_int _ _ _ _) (fun _ _ => rfl))) (@pa_cons _ _ _ _ _ (@pe_op _ _ _ _ _ _ _ _ op_subD (@pe_ix _ _ _ _ _ _ _ ix_tupD (@pvD _ 0 _ _ (by rfl) (by first | exact Or.inl rfl | exact Or.inr (Or.inl rfl)) (by decide) (by decide)) (@pe_int _ _ _ _) (fun _ _ => rfl)) (@pe_ix _ _ _ _ _ _ _ ix_tupD (@pvD _ 1 _ _ (by rfl) (by first | exact Or.inl rfl | exact Or.inr (Or.inl rfl)) (by decide) (by decide)) (@pe_int _ _ _ _) (fun _ _ => rfl))) (@pa_nil _) (by rfl)) (by rfl))))), ?_⟩
    walk_at "rd"
    refine ⟨_, hp, _, rfl, _, hp', _, rfl, _, hp, _, rfl, _, hp', _, rfl, ?_⟩
    exact ⟨by decide, fun p hp => q _ _ (Same.upd hp) (num_iff.mpr ⟨p, rfl, SqT.of upd_same⟩)⟩
theorem ok_Lminus (T : Txt K mg t) : FnOk P w K mg base CX0 1 t.a_Lminus t.d_Lminus ["_law_one", "_law_other"] (sp_minus K) := by
  refine T.Lminus.F.ok sc_Lminus (fun vs H Q E h => ?_) (fun cdv A outer s H vs Q E hr h => ?_)
  · obtain ⟨x, y, a, b, c, d, rfl, _⟩ := h; rfl
  · obtain ⟨x, y, a, b, c, d, rfl, hx, hy, q⟩ := h
    obtain ⟨p, rfl, hp⟩ := num_iff.mp hx
    obtain ⟨p', rfl, hp'⟩ := num_iff.mp hy
    refine ⟨_, (@pss_one _ _ _ (@ps_ret _ _ _ _ (@pe_tup _ _ _ _ _ (@pa_cons _ _ _ _ _ (@pe_op _ _ _ _ _ _ _ _ op_subD (@pe_ix _ _ _ _ _ _ _ ix_tupD (@pvD _ 0 _ _ (by rfl) (by first | exact Or.inl rfl | exact Or.inr (Or.inl rfl)) (by decide) (by decide)) (@pe_int _ _ _ _) (fun _ _ => rfl)) (@pe_ix _ _ _ _ _ _ _ ix_tupD (@pvD _ 1 _ _ (by rfl) (by first | exact Or.inl rfl | exact Or.inr (Or.inl rfl)) (by decide) (by decide)) (@pe_int _ _ _ _) (fun _ _ => rfl))) (@pa_cons _ _ _ _ _ (@pe_op _ _ _ _ _ _ _ _ op_subD (@pe_ix _ _ _ _ _ _ _ ix_tupD (@pvD _ 0 _ _ (by rfl) (by first | exact Or.inl rfl | exact Or.inr (Or.inl rfl)) (by decide) (by decide)) (@pe_int _ _ _ _) (fun _ _ => rfl)) (@pe_ix _ _ _ _ _ _ _ ix_tupD (@pvD _ 1 _ _ (by rfl) (by first | exact Or.inl rfl | exact Or.inr (Or.inl rfl)) (by decide) (by decide)) (@pe_int _ _ _ _) (fun _ _ => rfl))) (@pa_nil _) (by rfl)) (by rfl))))), ?_⟩
    walk_at "rd"
    refine ⟨_, hp, _, rfl, _, hp', _, rfl, _, hp, _, rfl, _, hp', _, rfl, ?_⟩
    exact ⟨by decide, fun p hp => q _ _ (Same.upd hp) (num_iff.mpr ⟨p, rfl, SqT.of upd_same⟩)⟩
def dA (a b c d : Int) : Int := 2 * a * c + b * d
def dB (a b c d : Int) : Int := 2 * (a * d + b * c)
def sp_dbl (K : PySem.W.Frag) : Sp := fun vs H Q _ => ∃ (x y : V) (a b c d : Int), vs = [x, y] ∧ Rp K H (num a b) x ∧ Rp K H (num c d) y ∧ (-(2 ^ 60) ≤ c ∧ c ≤ 2 ^ 60) ∧ (-(2 ^ 60) ≤ d ∧ d ≤ 2 ^ 60) ∧ ∀ v H', Same H H' → Rp K H' (num (dA a b c d) (dB a b c d)) v → Q v H'
theorem ok_Ldouble (T : Txt K mg t) : FnOk P w K mg base CX0 1 t.a_Ldouble t.d_Ldouble ["_law_one", "_law_other"] (sp_dbl K) := by
  refine T.Ldouble.F.ok sc_Ldouble (fun vs H Q E h => ?_) (fun cdv A outer s H vs Q E hr h => ?_)
  · obtain ⟨x, y, a, b, c, d, rfl, _⟩ := h; rfl
  · obtain ⟨x, y, a, b, c, d, rfl, hx, hy, hc, hd, q⟩ := h
    obtain ⟨p, rfl, hp⟩ := num_iff.mp hx
    obtain ⟨p', rfl, hp'⟩ := num_iff.mp hy
    have mc : ∀ z, IntMulOk z c := fun z => mulOk_r (by have := hc.1; omega) (by have := hc.2; omega)
    have md : ∀ z, IntMulOk z d := fun z => mulOk_r (by have := hd.1; omega) (by have := hd.2; omega)
    have m2 : ∀ z, IntMulOk 2 z := fun z => mulOk_l (by decide) (by decide)
    refine ⟨_, (@pss_one _ _ _ (@ps_ret _ _ _ _ (@pe_tup _ _ _ _ _ (@pa_cons _ _ _ _ _ (@pe_op _ _ _ _ _ _ _ _ op_addD (@pe_op _ _ _ _ _ _ _ _ op_mulWD (@pe_op _ _ _ _ _ _ _ _ op_mulWD (@pe_int _ _ _ _) (@pe_ix _ _ _ _ _ _ _ ix_tupD (@pvD _ 0 _ _ (by rfl) (by first | exact Or.inl rfl | exact Or.inr (Or.inl rfl)) (by decide) (by decide)) (@pe_int _ _ _ _) (fun _ _ => rfl))) (@pe_ix _ _ _ _ _ _ _ ix_tupD (@pvD _ 1 _ _ (by rfl) (by first | exact Or.inl rfl | exact Or.inr (Or.inl rfl)) (by decide) (by decide)) (@pe_int _ _ _ _) (fun _ _ => rfl))) (@pe_op _ _ _ _ _ _ _ _ op_mulWD (@pe_ix _ _ _ _ _ _ _ ix_tupD (@pvD _ 0 _ _ (by rfl) (by first | exact Or.inl rfl | exact Or.inr (Or.inl rfl)) (by decide) (by decide)) (@pe_int _ _ _ _) (fun _ _ => rfl)) (@pe_ix _ _ _ _ _ _ _ ix_tupD (@pvD _ 1 _ _ (by rfl) (by first | exact Or.inl rfl | exact Or.inr (Or.inl rfl)) (by decide) (by decide)) (@pe_int _ _ _ _) (fun _ _ => rfl)))) (@pa_cons _ _ _ _ _ (@pe_op _ _ _ _ _ _ _ _ op_mulWD (@pe_int _ _ _ _) (@pe_op _ _ _ _ _ _ _ _ op_addD (@pe_op _ _ _ _ _ _ _ _ op_mulWD (@pe_ix _ _ _ _ _ _ _ ix_tupD (@pvD _ 0 _ _ (by rfl) (by first | exact Or.inl rfl | exact Or.inr (Or.inl rfl)) (by decide) (by decide)) (@pe_int _ _ _ _) (fun _ _ => rfl)) (@pe_ix _ _ _ _ _ _ _ ix_tupD (@pvD _ 1 _ _ (by rfl) (by first | exact Or.inl rfl | exact Or.inr (Or.inl rfl)) (by decide) (by decide)) (@pe_int _ _ _ _) (fun _ _ => rfl))) (@pe_op _ _ _ _ _ _ _ _ op_mulWD (@pe_ix _ _ _ _ _ _ _ ix_tupD (@pvD _ 0 _ _ (by rfl) (by first | exact Or.inl rfl | exact Or.inr (Or.inl rfl)) (by decide) (by decide)) (@pe_int _ _ _ _) (fun _ _ => rfl)) (@pe_ix _ _ _ _ _ _ _ ix_tupD (@pvD _ 1 _ _ (by rfl) (by first | exact Or.inl rfl | exact Or.inr (Or.inl rfl)) (by decide) (by decide)) (@pe_int _ _ _ _) (fun _ _ => rfl))))) (@pa_nil _) (by rfl)) (by rfl))))), ?_⟩
    walk_at "rd"
    refine ⟨_, hp, _, rfl, ?_⟩
    walk_at "rd"
    refine ⟨m2 _, _, hp', _, rfl, ?_⟩
    walk_at "rd"
    refine ⟨mc _, _, hp, _, rfl, _, hp', _, rfl, ?_⟩
    walk_at "rd"
    refine ⟨md _, _, hp, _, rfl, _, hp', _, rfl, ?_⟩
    walk_at "rd"
    refine ⟨md _, _, hp, _, rfl, _, hp', _, rfl, ?_⟩
    walk_at "rd"
    exact ⟨mc _, m2 _, by decide, fun p hp => q _ _ (Same.upd hp) (num_iff.mpr ⟨p, rfl, SqT.of upd_same⟩)⟩
theorem ok_twiceproduct (T : Txt K mg t) : FnOk P w K mg base CX0 1 t.a_twiceproduct t.d_twiceproduct ["one", "other"] (sp_dbl K) := by
  refine T.twiceproduct.F.ok sc_twiceproduct (fun vs H Q E h => ?_) (fun cdv A outer s H vs Q E hr h => ?_)
  · obtain ⟨x, y, a, b, c, d, rfl, _⟩ := h; rfl
  · obtain ⟨x, y, a, b, c, d, rfl, hx, hy, hc, hd, q⟩ := h
    obtain ⟨p, rfl, hp⟩ := num_iff.mp hx
    obtain ⟨p', rfl, hp'⟩ := num_iff.mp hy
    have mc : ∀ z, IntMulOk z c := fun z => mulOk_r (by have := hc.1; omega) (by have := hc.2; omega)
    have md : ∀ z, IntMulOk z d := fun z => mulOk_r (by have := hd.1; omega) (by have := hd.2; omega)
    have m2 : ∀ z, IntMulOk 2 z := fun z => mulOk_l (by decide) (by decide)
    refine ⟨_, (@pss_cons _ _ _ _ _ (@ps_asg _ _ _ _ _ _ (@pvD _ 0 _ _ (by rfl) (by first | exact Or.inl rfl | exact Or.inr (Or.inl rfl)) (by decide) (by decide)) (@pg_tupD _ _ _ _ _ _ rfl (@pgs_consD _ _ _ _ _ (@pg_name _ _ (2) _ sc_twiceproduct.nd rfl (Or.inl rfl) (by first | exact .inl rfl | exact .inr rfl | assumption)) (@pgs_consD _ _ _ _ _ (@pg_name _ _ (3) _ sc_twiceproduct.nd rfl (Or.inl rfl) (by first | exact .inl rfl | exact .inr rfl | assumption)) (@pgs_nilD _) (by rfl)) (by rfl)) (by rfl) (by rfl)) (by rfl) (by rfl) (by rfl)) (@pss_cons _ _ _ _ _ (@ps_asg _ _ _ _ _ _ (@pvD _ 1 _ _ (by rfl) (by first | exact Or.inl rfl | exact Or.inr (Or.inl rfl)) (by decide) (by decide)) (@pg_tupD _ _ _ _ _ _ rfl (@pgs_consD _ _ _ _ _ (@pg_name _ _ (4) _ sc_twiceproduct.nd rfl (Or.inl rfl) (by first | exact .inl rfl | exact .inr rfl | assumption)) (@pgs_consD _ _ _ _ _ (@pg_name _ _ (5) _ sc_twiceproduct.nd rfl (Or.inl rfl) (by first | exact .inl rfl | exact .inr rfl | assumption)) (@pgs_nilD _) (by rfl)) (by rfl)) (by rfl) (by rfl)) (by rfl) (by rfl) (by rfl)) (@pss_one _ _ _ (@ps_ret _ _ _ _ (@pe_tup _ _ _ _ _ (@pa_cons _ _ _ _ _ (@pe_op _ _ _ _ _ _ _ _ op_addD (@pe_op _ _ _ _ _ _ _ _ op_mulWD (@pe_op _ _ _ _ _ _ _ _ op_mulWD (@pe_int _ _ _ _) (@pvD _ 2 _ _ (by rfl) (by first | exact Or.inl rfl | exact Or.inr (Or.inl rfl)) (by decide) (by decide))) (@pvD _ 4 _ _ (by rfl) (by first | exact Or.inl rfl | exact Or.inr (Or.inl rfl)) (by decide) (by decide))) (@pe_op _ _ _ _ _ _ _ _ op_mulWD (@pvD _ 3 _ _ (by rfl) (by first | exact Or.inl rfl | exact Or.inr (Or.inl rfl)) (by decide) (by decide)) (@pvD _ 5 _ _ (by rfl) (by first | exact Or.inl rfl | exact Or.inr (Or.inl rfl)) (by decide) (by decide)))) (@pa_cons _ _ _ _ _ (@pe_op _ _ _ _ _ _ _ _ op_mulWD (@pe_int _ _ _ _) (@pe_op _ _ _ _ _ _ _ _ op_addD (@pe_op _ _ _ _ _ _ _ _ op_mulWD (@pvD _ 2 _ _ (by rfl) (by first | exact Or.inl rfl | exact Or.inr (Or.inl rfl)) (by decide) (by decide)) (@pvD _ 5 _ _ (by rfl) (by first | exact Or.inl rfl | exact Or.inr (Or.inl rfl)) (by decide) (by decide))) (@pe_op _ _ _ _ _ _ _ _ op_mulWD (@pvD _ 3 _ _ (by rfl) (by first | exact Or.inl rfl | exact Or.inr (Or.inl rfl)) (by decide) (by decide)) (@pvD _ 4 _ _ (by rfl) (by first | exact Or.inl rfl | exact Or.inr (Or.inl rfl)) (by decide) (by decide))))) (@pa_nil _) (by rfl)) (by rfl))))))), ?_⟩
    walk_at "rd"
    refine ⟨_, hp, rfl, ?_⟩
    walk_at "rd"
    refine ⟨_, hp', rfl, ?_⟩
    walk_at "rd"
    exact ⟨m2 _, mc _, md _, md _, mc _, m2 _, by decide, fun p hp => q _ _ (Same.upd hp) (num_iff.mpr ⟨p, rfl, SqT.of upd_same⟩)⟩
def sI (v : Int) : Int := if 0 < v then 1 else if v < 0 then -1 else 0
def sg (a b : Int) : Int := if 0 ≤ a * b then sI (a + b) else if b * b < 2 * a * a then sI a else sI b
theorem sI_bd (v : Int) : -1 ≤ sI v ∧ sI v ≤ 1 := by unfold sI; split <;> (try split) <;> omega
theorem sg_bd (a b : Int) : -1 ≤ sg a b ∧ sg a b ≤ 1 := by unfold sg; split <;> (try split) <;> exact sI_bd _
def sp_sI : Sp := fun vs H Q _ => ∃ v : Int, vs = [.int v] ∧ Q (.int (sI v)) H
theorem ok_signofint (T : Txt K mg t) : FnOk P w K mg base CX0 1 t.a_signofint t.d_signofint ["value"] sp_sI := by
  refine T.signofint.F.ok sc_signofint (fun vs H Q E h => ?_) (fun cdv A outer s H vs Q E hr h => ?_)
  · obtain ⟨v, rfl, _⟩ := h; rfl
  · obtain ⟨v, rfl, k⟩ := h
    refine ⟨_, (@pss_cons _ _ _ _ _ (@ps_if _ _ _ _ _ _ _ _ (@pt_cmpRD _ _ _ _ _ _ _ _ op_gtD (@pvD _ 0 _ _ (by rfl) (by first | exact Or.inl rfl | exact Or.inr (Or.inl rfl)) (by decide) (by decide)) (@pe_int _ _ _ _) (nomark _)) (@pss_one _ _ _ (@ps_ret _ _ _ _ (@pe_int _ _ _ _))) (@pss_nil _)) (@pss_cons _ _ _ _ _ (@ps_if _ _ _ _ _ _ _ _ (@pt_cmpRD _ _ _ _ _ _ _ _ op_ltD (@pvD _ 0 _ _ (by rfl) (by first | exact Or.inl rfl | exact Or.inr (Or.inl rfl)) (by decide) (by decide)) (@pe_int _ _ _ _) (nomark _)) (@pss_one _ _ _ (@ps_ret _ _ _ _ (@pe_un _ _ _ _ _ _ un_negD (@pe_int _ _ _ _)))) (@pss_nil _)) (@pss_one _ _ _ (@ps_ret _ _ _ _ (@pe_int _ _ _ _))))), ?_⟩
    unfold sI at k
    walk_at "rd"
    split
    · rename_i h; rw [if_pos h] at k; exact k
    · rename_i h; rw [if_neg h] at k
      split
      · rename_i h; rw [if_pos h] at k; exact k
      · rename_i h; rw [if_neg h] at k; exact k
def le60 (a : Int) : Prop := -(2 ^ 60) ≤ a ∧ a ≤ 2 ^ 60
def sp_sg (K : PySem.W.Frag) : Sp := fun vs H Q _ => ∃ (x : V) (a b : Int), vs = [x] ∧ Rp K H (num a b) x ∧ le60 a ∧ le60 b ∧ Q (.int (sg a b)) H
theorem ok_signof (T : Txt K mg t) : FnOk P w K mg base CX0 2 t.a_signof t.d_signof ["number"] (sp_sg K) := by
  refine T.signof.F.ok sc_signof (fun vs H Q E h => ?_) (fun cdv A outer s H vs Q E hr h => ?_)
  · obtain ⟨x, a, b, rfl, _⟩ := h; rfl
  · obtain ⟨x, a, b, rfl, hx, ha, hb, k⟩ := h
    obtain ⟨p, rfl, hp⟩ := num_iff.mp hx
    have mb : ∀ z, IntMulOk z b := fun z => mulOk_r (by have := hb.1; omega) (by have := hb.2; omega)
    have ma : ∀ z, IntMulOk z a := fun z => mulOk_r (by have := ha.1; omega) (by have := ha.2; omega)
    have m2 : ∀ z, IntMulOk 2 z := fun z => mulOk_l (by decide) (by decide)
    refine ⟨_, (@pss_cons _ _ _ _ _ (@ps_asg _ _ _ _ _ _ (@pvD _ 0 _ _ (by rfl) (by first | exact Or.inl rfl | exact Or.inr (Or.inl rfl)) (by decide) (by decide)) (@pg_tupD _ _ _ _ _ _ rfl (@pgs_consD _ _ _ _ _ (@pg_name _ _ (1) _ sc_signof.nd rfl (Or.inl rfl) (by first | exact .inl rfl | exact .inr rfl | assumption)) (@pgs_consD _ _ _ _ _ (@pg_name _ _ (2) _ sc_signof.nd rfl (Or.inl rfl) (by first | exact .inl rfl | exact .inr rfl | assumption)) (@pgs_nilD _) (by rfl)) (by rfl)) (by rfl) (by rfl)) (by rfl) (by rfl) (by rfl)) (@pss_cons _ _ _ _ _ (@ps_if _ _ _ _ _ _ _ _ (@pt_cmpRD _ _ _ _ _ _ _ _ op_geD (@pe_op _ _ _ _ _ _ _ _ op_mulWD (@pvD _ 1 _ _ (by rfl) (by first | exact Or.inl rfl | exact Or.inr (Or.inl rfl)) (by decide) (by decide)) (@pvD _ 2 _ _ (by rfl) (by first | exact Or.inl rfl | exact Or.inr (Or.inl rfl)) (by decide) (by decide))) (@pe_int _ _ _ _) (nomark _)) (@pss_one _ _ _ (@ps_ret _ _ _ _ (@pe_call _ _ _ _ _ _ _ _ _ _ _ _ _ _ _ _ (ok_signofint T) (hr.mono (by decide)) (by rfl) T.signofint.m T.signofint.F.kp T.signofint.b .nil pass0 (@pa_cons _ _ _ _ _ (@pe_op _ _ _ _ _ _ _ _ op_addD (@pvD _ 1 _ _ (by rfl) (by first | exact Or.inl rfl | exact Or.inr (Or.inl rfl)) (by decide) (by decide)) (@pvD _ 2 _ _ (by rfl) (by first | exact Or.inl rfl | exact Or.inr (Or.inl rfl)) (by decide) (by decide))) (@pa_nil _) (by rfl)) (by decide) (by rfl) (by rfl)))) (@pss_nil _)) (@pss_cons _ _ _ _ _ (@ps_if _ _ _ _ _ _ _ _ (@pt_cmpRD _ _ _ _ _ _ _ _ op_gtD (@pe_op _ _ _ _ _ _ _ _ op_mulWD (@pe_op _ _ _ _ _ _ _ _ op_mulWD (@pe_int _ _ _ _) (@pvD _ 1 _ _ (by rfl) (by first | exact Or.inl rfl | exact Or.inr (Or.inl rfl)) (by decide) (by decide))) (@pvD _ 1 _ _ (by rfl) (by first | exact Or.inl rfl | exact Or.inr (Or.inl rfl)) (by decide) (by decide))) (@pe_op _ _ _ _ _ _ _ _ op_mulWD (@pvD _ 2 _ _ (by rfl) (by first | exact Or.inl rfl | exact Or.inr (Or.inl rfl)) (by decide) (by decide)) (@pvD _ 2 _ _ (by rfl) (by first | exact Or.inl rfl | exact Or.inr (Or.inl rfl)) (by decide) (by decide))) (nomark _)) (@pss_one _ _ _ (@ps_ret _ _ _ _ (@pe_call _ _ _ _ _ _ _ _ _ _ _ _ _ _ _ _ (ok_signofint T) (hr.mono (by decide)) (by rfl) T.signofint.m T.signofint.F.kp T.signofint.b .nil pass0 (@pa_cons _ _ _ _ _ (@pvD _ 1 _ _ (by rfl) (by first | exact Or.inl rfl | exact Or.inr (Or.inl rfl)) (by decide) (by decide)) (@pa_nil _) (by rfl)) (by decide) (by rfl) (by rfl)))) (@pss_nil _)) (@pss_one _ _ _ (@ps_ret _ _ _ _ (@pe_call _ _ _ _ _ _ _ _ _ _ _ _ _ _ _ _ (ok_signofint T) (hr.mono (by decide)) (by rfl) T.signofint.m T.signofint.F.kp T.signofint.b .nil pass0 (@pa_cons _ _ _ _ _ (@pvD _ 2 _ _ (by rfl) (by first | exact Or.inl rfl | exact Or.inr (Or.inl rfl)) (by decide) (by decide)) (@pa_nil _) (by rfl)) (by decide) (by rfl) (by rfl))))))), ?_⟩
    unfold sg at k
    walk_at "rd"
    refine ⟨_, hp, rfl, ?_⟩
    walk_at "rd"
    refine ⟨mb _, ?_⟩
    split
    · rename_i h; rw [if_pos h] at k; exact ⟨_, rfl, k⟩
    · rename_i h; rw [if_neg h] at k
      refine ⟨m2 _, ma _, mb _, ?_⟩
      split
      · rename_i h; rw [if_pos h] at k; exact ⟨_, rfl, k⟩
      · rename_i h; rw [if_neg h] at k; exact ⟨_, rfl, k⟩
end
theorem lmv_eq (p : Pl) (h n m : Int) (h0 : 0 ≤ h) (h1 : h < 8) (hm : m = if 3 < h then 0 - n else n) : (⟨p.a + m * (dirs (h % 4)).a, p.b + m * (dirs (h % 4)).b, p.c + m * (dirs (h % 4)).c, p.d + m * (dirs (h % 4)).d⟩ : Pl) = mv p h n := by
  have e : h = 0 ∨ h = 1 ∨ h = 2 ∨ h = 3 ∨ h = 4 ∨ h = 5 ∨ h = 6 ∨ h = 7 := by omega
  cases p
  rcases e with rfl | rfl | rfl | rfl | rfl | rfl | rfl | rfl <;> simp at hm <;> subst hm <;> simp [mv, dirs] <;> omega
section
variable {P : Program} {w : World} {K : PySem.W.Frag} {mg : Str → Option Value} {base : Heap} {t : Adr}
def sp_Lmoved (K : PySem.W.Frag) : Sp := fun vs H Q _ => ∃ (x : V) (p : Pl) (h n : Int), vs = [x, .int h, .int n] ∧ Rp K H p.D x ∧ (0 ≤ h ∧ h < 8) ∧ (-(2 ^ 60) ≤ n ∧ n ≤ 2 ^ 60) ∧ ∀ v H', Same H H' → Rp K H' (mv p h n).D v → Q v H'
theorem ok_Lmoved (T : Txt K mg t) : FnOk P w K mg base CX0 1 t.a_Lmoved t.d_Lmoved ["_law_place_here", "_law_heading", "_law_steps"] (sp_Lmoved K) := by
  refine T.Lmoved.F.ok sc_Lmoved (fun vs H Q E h => ?_) (fun cdv A outer s H vs Q E hr h => ?_)
  · obtain ⟨x, p, h, n, rfl, _⟩ := h; rfl
  · obtain ⟨x, p, h, n, rfl, hx, hh, hn, q⟩ := h
    refine ⟨_, (@pss_consH _ _ _ _ _ (@ps_set _ _ (3) _ _ _ _ sc_Lmoved.nd rfl (Or.inl rfl) (@pe_lst _ _ _ _ (@pa_consT _ _ _ _ _ _ _ (@pl_tup _ _ _ _ _ (@pls_consT _ _ _ _ _ _ _ (@pl_tup _ _ _ _ _ (@pls_consI _ _ _ _ _ _ (@pls_consI _ _ _ _ _ _ (@pls_nil _))) (by decide)) (@pls_consT _ _ _ _ _ _ _ (@pl_tup _ _ _ _ _ (@pls_consI _ _ _ _ _ _ (@pls_consI _ _ _ _ _ _ (@pls_nil _))) (by decide)) (@pls_nil _))) (by decide)) (@pa_consT _ _ _ _ _ _ _ (@pl_tup _ _ _ _ _ (@pls_consT _ _ _ _ _ _ _ (@pl_tup _ _ _ _ _ (@pls_consI _ _ _ _ _ _ (@pls_consI _ _ _ _ _ _ (@pls_nil _))) (by decide)) (@pls_consT _ _ _ _ _ _ _ (@pl_tup _ _ _ _ _ (@pls_consI _ _ _ _ _ _ (@pls_consI _ _ _ _ _ _ (@pls_nil _))) (by decide)) (@pls_nil _))) (by decide)) (@pa_consT _ _ _ _ _ _ _ (@pl_tup _ _ _ _ _ (@pls_consT _ _ _ _ _ _ _ (@pl_tup _ _ _ _ _ (@pls_consI _ _ _ _ _ _ (@pls_consI _ _ _ _ _ _ (@pls_nil _))) (by decide)) (@pls_consT _ _ _ _ _ _ _ (@pl_tup _ _ _ _ _ (@pls_consI _ _ _ _ _ _ (@pls_consI _ _ _ _ _ _ (@pls_nil _))) (by decide)) (@pls_nil _))) (by decide)) (@pa_consT _ _ _ _ _ _ _ (@pl_tup _ _ _ _ _ (@pls_consT _ _ _ _ _ _ _ (@pl_tup _ _ _ _ _ (@pls_consI _ _ _ _ _ _ (@pls_consN _ _ _ _ _ _ _ (@pls_nil _))) (by decide)) (@pls_consT _ _ _ _ _ _ _ (@pl_tup _ _ _ _ _ (@pls_consI _ _ _ _ _ _ (@pls_consI _ _ _ _ _ _ (@pls_nil _))) (by decide)) (@pls_nil _))) (by decide)) (@pa_nil _)))))) (by rfl) (by first | exact .inl rfl | exact .inr rfl | assumption)) (@pss_consH _ _ _ _ _ (@ps_if _ _ _ _ _ _ _ _ (@pt_cmpRD _ _ _ _ _ _ _ _ op_gtD (@pvD _ 1 _ _ (by rfl) (by first | exact Or.inl rfl | exact Or.inr (Or.inl rfl)) (by decide) (by decide)) (@pe_int _ _ _ _) (nomark _)) (@pss_one _ _ _ (@ps_set _ _ (2) _ _ _ _ sc_Lmoved.nd rfl (Or.inl rfl) (@pe_op _ _ _ _ _ _ _ _ op_subD (@pe_int _ _ _ _) (@pvD _ 2 _ _ (by rfl) (by first | exact Or.inl rfl | exact Or.inr (Or.inl rfl)) (by decide) (by decide))) (by rfl) (by first | exact .inl rfl | exact .inr rfl | assumption))) (@pss_nil _)) (@pss_consH _ _ _ _ _ (@ps_asg _ _ _ _ _ _ (@pe_ix _ _ _ _ _ _ _ ix_listD (@pvD _ 3 _ _ (by rfl) (by first | exact Or.inl rfl | exact Or.inr (Or.inl rfl)) (by decide) (by decide)) (@pe_op _ _ _ _ _ _ _ _ op_modD (@pvD _ 1 _ _ (by rfl) (by first | exact Or.inl rfl | exact Or.inr (Or.inl rfl)) (by decide) (by decide)) (@pe_int _ _ _ _)) (fun _ _ => rfl)) (@pg_tupD _ _ _ _ _ _ rfl (@pgs_consD _ _ _ _ _ (@pg_name _ _ (4) _ sc_Lmoved.nd rfl (Or.inl rfl) (by first | exact .inl rfl | exact .inr rfl | assumption)) (@pgs_consD _ _ _ _ _ (@pg_name _ _ (5) _ sc_Lmoved.nd rfl (Or.inl rfl) (by first | exact .inl rfl | exact .inr rfl | assumption)) (@pgs_nilD _) (by rfl)) (by rfl)) (by rfl) (by rfl)) (by rfl) (by rfl) (by rfl)) (@pss_consH _ _ _ _ _ (@ps_asg _ _ _ _ _ _ (@pvD _ 0 _ _ (by rfl) (by first | exact Or.inl rfl | exact Or.inr (Or.inl rfl)) (by decide) (by decide)) (@pg_tupD _ _ _ _ _ _ rfl (@pgs_consD _ _ _ _ _ (@pg_name _ _ (6) _ sc_Lmoved.nd rfl (Or.inl rfl) (by first | exact .inl rfl | exact .inr rfl | assumption)) (@pgs_consD _ _ _ _ _ (@pg_name _ _ (7) _ sc_Lmoved.nd rfl (Or.inl rfl) (by first | exact .inl rfl | exact .inr rfl | assumption)) (@pgs_nilD _) (by rfl)) (by rfl)) (by rfl) (by rfl)) (by rfl) (by rfl) (by rfl)) (@pss_consH _ _ _ _ _ (@ps_set _ _ (8) _ _ _ _ sc_Lmoved.nd rfl (Or.inl rfl) (@pe_tup _ _ _ _ _ (@pa_cons _ _ _ _ _ (@pe_op _ _ _ _ _ _ _ _ op_addD (@pe_ix _ _ _ _ _ _ _ ix_tupD (@pvD _ 6 _ _ (by rfl) (by first | exact Or.inl rfl | exact Or.inr (Or.inl rfl)) (by decide) (by decide)) (@pe_int _ _ _ _) (fun _ _ => rfl)) (@pe_op _ _ _ _ _ _ _ _ op_mulWD (@pvD _ 2 _ _ (by rfl) (by first | exact Or.inl rfl | exact Or.inr (Or.inl rfl)) (by decide) (by decide)) (@pe_ix _ _ _ _ _ _ _ ix_tupD (@pvD _ 4 _ _ (by rfl) (by first | exact Or.inl rfl | exact Or.inr (Or.inl rfl)) (by decide) (by decide)) (@pe_int _ _ _ _) (fun _ _ => rfl)))) (@pa_cons _ _ _ _ _ (@pe_op _ _ _ _ _ _ _ _ op_addD (@pe_ix _ _ _ _ _ _ _ ix_tupD (@pvD _ 6 _ _ (by rfl) (by first | exact Or.inl rfl | exact Or.inr (Or.inl rfl)) (by decide) (by decide)) (@pe_int _ _ _ _) (fun _ _ => rfl)) (@pe_op _ _ _ _ _ _ _ _ op_mulWD (@pvD _ 2 _ _ (by rfl) (by first | exact Or.inl rfl | exact Or.inr (Or.inl rfl)) (by decide) (by decide)) (@pe_ix _ _ _ _ _ _ _ ix_tupD (@pvD _ 4 _ _ (by rfl) (by first | exact Or.inl rfl | exact Or.inr (Or.inl rfl)) (by decide) (by decide)) (@pe_int _ _ _ _) (fun _ _ => rfl)))) (@pa_nil _) (by rfl)) (by rfl))) (by rfl) (by first | exact .inl rfl | exact .inr rfl | assumption)) (@pss_one _ _ _ (@ps_ret _ _ _ _ (@pe_tup _ _ _ _ _ (@pa_cons _ _ _ _ _ (@pvD _ 8 _ _ (by rfl) (by first | exact Or.inl rfl | exact Or.inr (Or.inl rfl)) (by decide) (by decide)) (@pa_consT _ _ _ _ _ _ _ (@pe_tup _ _ _ _ _ (@pa_cons _ _ _ _ _ (@pe_op _ _ _ _ _ _ _ _ op_addD (@pe_ix _ _ _ _ _ _ _ ix_tupD (@pvD _ 7 _ _ (by rfl) (by first | exact Or.inl rfl | exact Or.inr (Or.inl rfl)) (by decide) (by decide)) (@pe_int _ _ _ _) (fun _ _ => rfl)) (@pe_op _ _ _ _ _ _ _ _ op_mulWD (@pvD _ 2 _ _ (by rfl) (by first | exact Or.inl rfl | exact Or.inr (Or.inl rfl)) (by decide) (by decide)) (@pe_ix _ _ _ _ _ _ _ ix_tupD (@pvD _ 5 _ _ (by rfl) (by first | exact Or.inl rfl | exact Or.inr (Or.inl rfl)) (by decide) (by decide)) (@pe_int _ _ _ _) (fun _ _ => rfl)))) (@pa_cons _ _ _ _ _ (@pe_op _ _ _ _ _ _ _ _ op_addD (@pe_ix _ _ _ _ _ _ _ ix_tupD (@pvD _ 7 _ _ (by rfl) (by first | exact Or.inl rfl | exact Or.inr (Or.inl rfl)) (by decide) (by decide)) (@pe_int _ _ _ _) (fun _ _ => rfl)) (@pe_op _ _ _ _ _ _ _ _ op_mulWD (@pvD _ 2 _ _ (by rfl) (by first | exact Or.inl rfl | exact Or.inr (Or.inl rfl)) (by decide) (by decide)) (@pe_ix _ _ _ _ _ _ _ ix_tupD (@pvD _ 5 _ _ (by rfl) (by first | exact Or.inl rfl | exact Or.inr (Or.inl rfl)) (by decide) (by decide)) (@pe_int _ _ _ _) (fun _ _ => rfl)))) (@pa_nil _) (by rfl)) (by rfl))) (@pa_nil _)) (by rfl)))))))))), ?_⟩
    walk_at "rh"
    intro v1 H1 s1 r1 v2 H2 s2 r2 v3 H3 s3 r3 v4 H4 s4 r4
    refine ⟨by decide, fun l hl => ?_⟩
    have sl := Same.upd (o := .lst [v1, v2, v3, v4]) hl
    have sG : Same H (upd H4 l (.lst [v1, v2, v3, v4])) := (((s1.trans s2).trans s3).trans s4).trans sl
    have hL : SqL K (upd H4 l (.lst [v1, v2, v3, v4])) l [v1, v2, v3, v4] := SqL.of upd_same
    obtain ⟨v, hv, rv⟩ : ∃ v, atI [v1, v2, v3, v4] (h % 4) = some v ∧ Rp K (upd H4 l (.lst [v1, v2, v3, v4])) (.tup [num (dirs (h % 4)).a (dirs (h % 4)).b, num (dirs (h % 4)).c (dirs (h % 4)).d]) v := by
      have e : h % 4 = 0 ∨ h % 4 = 1 ∨ h % 4 = 2 ∨ h % 4 = 3 := by omega
      rcases e with e | e | e | e <;> rw [e]
      · exact ⟨v1, rfl, (((r1.same s2).same s3).same s4).same sl⟩
      · exact ⟨v2, rfl, ((r2.same s3).same s4).same sl⟩
      · exact ⟨v3, rfl, (r3.same s4).same sl⟩
      · exact ⟨v4, rfl, r4.same sl⟩
    generalize upd H4 l (.lst [v1, v2, v3, v4]) = G at sG hL rv ⊢
    obtain ⟨a0, x1, y1, rfl, hs, hx1, hy1⟩ := pair_iff.mp (hx.same sG)
    obtain ⟨a1, rfl, hs1⟩ := num_iff.mp hx1
    obtain ⟨a2, rfl, hs2⟩ := num_iff.mp hy1
    obtain ⟨b0, z1, z2, rfl, gs, gx1, gy1⟩ := pair_iff.mp rv
    obtain ⟨b1, rfl, gs1⟩ := num_iff.mp gx1
    obtain ⟨b2, rfl, gs2⟩ := num_iff.mp gy1
    have fin : ∀ m : Int, (m = if 3 < h then 0 - n else n) → ∀ p1, G p1 = none → ∀ p2, upd G p1 (.tup [.int (p.a + m * (dirs (h % 4)).a), .int (p.b + m * (dirs (h % 4)).b)]) p2 = none →
        ∀ p3, upd (upd G p1 (.tup [.int (p.a + m * (dirs (h % 4)).a), .int (p.b + m * (dirs (h % 4)).b)])) p2 (.tup [.int (p.c + m * (dirs (h % 4)).c), .int (p.d + m * (dirs (h % 4)).d)]) p3 = none →
        Q (.ref p3) (upd (upd (upd G p1 (.tup [.int (p.a + m * (dirs (h % 4)).a), .int (p.b + m * (dirs (h % 4)).b)])) p2 (.tup [.int (p.c + m * (dirs (h % 4)).c), .int (p.d + m * (dirs (h % 4)).d)])) p3 (.tup [.ref p1, .ref p2])) := by
      intro m hm p1 h1 p2 h2 p3 h3
      have e := lmv_eq p h n m hh.1 hh.2 hm
      have t1 := sG.upd2 (o := .tup [.int (p.a + m * (dirs (h % 4)).a), .int (p.b + m * (dirs (h % 4)).b)]) (sG.free h1)
      have t2 := t1.upd2 (o := .tup [.int (p.c + m * (dirs (h % 4)).c), .int (p.d + m * (dirs (h % 4)).d)]) (t1.free h2)
      have t3 := t2.upd2 (o := .tup [.ref p1, .ref p2]) (t2.free h3)
      refine q _ _ t3 ?_
      rw [← e]
      refine pair_iff.mpr ⟨p3, _, _, rfl, SqT.of upd_same, ?_, ?_⟩
      · exact (num_iff.mpr ⟨p1, rfl, SqT.of upd_same⟩ : Rp K (upd G p1 (.tup [.int (p.a + m * (dirs (h % 4)).a), .int (p.b + m * (dirs (h % 4)).b)])) (num _ _) _).same ((Same.upd h2).trans (Same.upd h3))
      · exact (num_iff.mpr ⟨p2, rfl, SqT.of upd_same⟩ : Rp K (upd (upd G p1 (.tup [.int (p.a + m * (dirs (h % 4)).a), .int (p.b + m * (dirs (h % 4)).b)])) p2 (.tup [.int (p.c + m * (dirs (h % 4)).c), .int (p.d + m * (dirs (h % 4)).d)])) (num _ _) _).same (Same.upd h3)
    walk_at "rh"
    refine if_same (c := 3 < h) (a := 0 - n) (b := n) (R := fun m => hold (α := L2.St → Hp → Prop) _ [some (.ref a0), some (.int h), some (.int m), _, _, _, _, _, _] G) (fun m hm => ?_)
    have mo : ∀ z : Int, IntMulOk m z := fun z => mulOk_l (by split at hm <;> omega) (by split at hm <;> omega)
    have fin := fin m hm
    clear hm
    walk_at "rh"
    refine ⟨by decide, _, hL, _, hv, ?_⟩
    walk_at "rh"
    refine ⟨_, gs, rfl, ?_⟩
    walk_at "rh"
    refine ⟨_, hs, rfl, ?_⟩
    walk_at "rh"
    refine ⟨_, hs1, _, rfl, ?_⟩
    walk_at "rh"
    refine ⟨_, gs1, _, rfl, ?_⟩
    walk_at "rh"
    refine ⟨mo _, _, hs1, _, rfl, ?_⟩
    walk_at "rh"
    refine ⟨_, gs1, _, rfl, ?_⟩
    walk_at "rh"
    refine ⟨mo _, by decide, fun p1 h1 => ?_⟩
    walk_at "rh"
    have u1 := Same.upd (o := .tup [.int (p.a + m * (dirs (h % 4)).a), .int (p.b + m * (dirs (h % 4)).b)]) h1
    refine ⟨_, u1.tup hs2, _, rfl, ?_⟩
    walk_at "rh"
    refine ⟨_, u1.tup gs2, _, rfl, ?_⟩
    walk_at "rh"
    refine ⟨mo _, _, u1.tup hs2, _, rfl, ?_⟩
    walk_at "rh"
    refine ⟨_, u1.tup gs2, _, rfl, ?_⟩
    walk_at "rh"
    exact ⟨mo _, by decide, fun p2 h2 => ⟨by decide, fun p3 h3 => fin p1 h1 p2 h2 p3 h3⟩⟩

def cA (p q : Pl) : Int := dA p.a p.b q.c q.d - dA q.a q.b p.c p.d
def cB (p q : Pl) : Int := dB p.a p.b q.c q.d - dB q.a q.b p.c p.d
def arA : List Pl → Int
  | p :: q :: r => cA p q + arA (q :: r)
  | _ => 0
def arB : List Pl → Int
  | p :: q :: r => cB p q + arB (q :: r)
  | _ => 0
def small (p : Pl) : Prop := (-(2 ^ 60) ≤ p.a ∧ p.a ≤ 2 ^ 60) ∧ (-(2 ^ 60) ≤ p.b ∧ p.b ≤ 2 ^ 60) ∧ (-(2 ^ 60) ≤ p.c ∧ p.c ≤ 2 ^ 60) ∧ (-(2 ^ 60) ≤ p.d ∧ p.d ≤ 2 ^ 60)
theorem take2 {ps : List Pl} {i : Nat} {p q : Pl} (h1 : ps[i]? = some p) (h2 : ps[i + 1]? = some q) : ps.take (i + 2) = ps.take i ++ [p, q] ∧ ps.take (i + 1) = ps.take i ++ [p] := by
  have e1 : ps.take (i + 1) = ps.take i ++ [p] := by rw [List.take_succ, h1]; rfl
  refine ⟨?_, e1⟩
  rw [List.take_succ, h2, e1, List.append_assoc]; rfl
theorem RpL_getP {K : PySem.W.Frag} {H : Hp} : ∀ {ds : List L2.D} {xs : List V} {i : Nat}, RpL K H ds xs → i < ds.length → ∃ v d, xs[i]? = some v ∧ ds[i]? = some d ∧ Rp K H d v
  | [], _, _, _, h => absurd h (Nat.not_lt_zero _)
  | d :: ds, xs, i, h, hi => by
    rw [RpL] at h
    obtain ⟨v, r, rfl, h1, h2⟩ := h
    cases i with
    | zero => exact ⟨v, d, rfl, rfl, h1⟩
    | succ i => simpa using RpL_getP h2 (by simpa using hi)
theorem place_get {K : PySem.W.Frag} {H : Hp} {ps : List Pl} {xs : List V} {i : Nat} (h : RpL K H (ps.map Pl.D) xs) (hi : i < ps.length) : ∃ v p, atI xs (i : Int) = some v ∧ ps[i]? = some p ∧ Rp K H p.D v := by
  obtain ⟨v, d, e1, e2, r⟩ := RpL_getP h (by rw [List.length_map]; exact hi)
  rw [List.getElem?_map] at e2
  cases e : ps[i]? with
  | none => rw [e] at e2; cases e2
  | some p =>
    rw [e] at e2
    cases Option.some.inj e2
    refine ⟨v, p, ?_, rfl, r⟩
    exact atI_nat e1
def sp_swept (K : PySem.W.Frag) : Sp := fun vs H Q _ => ∃ (x y : V) (p q : Pl), vs = [x, y] ∧ Rp K H p.D x ∧ Rp K H q.D y ∧ small p ∧ small q ∧ ∀ v H', Same H H' → Rp K H' (num (cA p q) (cB p q)) v → Q v H'
theorem ok_swept (T : Txt K mg t) : FnOk P w K mg base CX0 2 t.a_swept t.d_swept ["start", "end"] (sp_swept K) := by
  refine T.swept.F.ok sc_swept (fun vs H Q E h => ?_) (fun cdv A outer s H vs Q E hr h => ?_)
  · obtain ⟨x, y, p, q, rfl, _⟩ := h; rfl
  · obtain ⟨x, y, p1, p2, rfl, rp1, rp2, sm1, sm2, q⟩ := h
    obtain ⟨a0, x1, y1, rfl, hs1, hx1, hy1⟩ := pair_iff.mp rp1
    obtain ⟨b0, x2, y2, rfl, hs2, hx2, hy2⟩ := pair_iff.mp rp2
    refine ⟨_, (@pss_one _ _ _ (@ps_ret _ _ _ _ (@pe_call _ _ _ _ _ _ _ _ _ _ _ _ _ _ _ _ (ok_minus T) (hr.mono (by decide)) (by rfl) T.minus.m T.minus.F.kp T.minus.b .nil pass0 (@pa_cons _ _ _ _ _ (@pe_call _ _ _ _ _ _ _ _ _ _ _ _ _ _ _ _ (ok_twiceproduct T) (hr.mono (by decide)) (by rfl) T.twiceproduct.m T.twiceproduct.F.kp T.twiceproduct.b .nil pass0 (@pa_cons _ _ _ _ _ (@pe_ix _ _ _ _ _ _ _ ix_tupD (@pvD _ 0 _ _ (by rfl) (by first | exact Or.inl rfl | exact Or.inr (Or.inl rfl)) (by decide) (by decide)) (@pe_int _ _ _ _) (fun _ _ => rfl)) (@pa_cons _ _ _ _ _ (@pe_ix _ _ _ _ _ _ _ ix_tupD (@pvD _ 1 _ _ (by rfl) (by first | exact Or.inl rfl | exact Or.inr (Or.inl rfl)) (by decide) (by decide)) (@pe_int _ _ _ _) (fun _ _ => rfl)) (@pa_nil _) (by rfl)) (by rfl)) (by decide) (by rfl) (by rfl)) (@pa_cons _ _ _ _ _ (@pe_call _ _ _ _ _ _ _ _ _ _ _ _ _ _ _ _ (ok_twiceproduct T) (hr.mono (by decide)) (by rfl) T.twiceproduct.m T.twiceproduct.F.kp T.twiceproduct.b .nil pass0 (@pa_cons _ _ _ _ _ (@pe_ix _ _ _ _ _ _ _ ix_tupD (@pvD _ 1 _ _ (by rfl) (by first | exact Or.inl rfl | exact Or.inr (Or.inl rfl)) (by decide) (by decide)) (@pe_int _ _ _ _) (fun _ _ => rfl)) (@pa_cons _ _ _ _ _ (@pe_ix _ _ _ _ _ _ _ ix_tupD (@pvD _ 0 _ _ (by rfl) (by first | exact Or.inl rfl | exact Or.inr (Or.inl rfl)) (by decide) (by decide)) (@pe_int _ _ _ _) (fun _ _ => rfl)) (@pa_nil _) (by rfl)) (by rfl)) (by decide) (by rfl) (by rfl)) (@pa_nil _) (by rfl)) (by rfl)) (by decide) (by rfl) (by rfl)))), ?_⟩
    walk_at "rd"
    refine ⟨_, hs1, _, rfl, _, hs2, _, rfl, ?_⟩
    walk_at "rd"
    refine ⟨_, _, _, _, _, _, rfl, hx1, hy2, sm2.2.2.1, sm2.2.2.2, fun w1 H3 s3 rw1 => ?_⟩
    walk_at "rd"
    refine ⟨_, s3.tup hs2, _, rfl, _, s3.tup hs1, _, rfl, ?_⟩
    walk_at "rd"
    refine ⟨_, _, _, _, _, _, rfl, hx2.same s3, hy1.same s3, sm1.2.2.1, sm1.2.2.2, fun w2 H4 s4 rw2 => ?_⟩
    exact ⟨_, _, _, _, _, _, rfl, rw1.same s4, rw2, fun w3 H5 s5 rw3 => q _ _ ((s3.trans s4).trans s5) rw3⟩
theorem cut_from {xs : List V} (m : Nat) : cutV xs (some (m : Int)) none = xs.drop m := by
  unfold cutV
  rw [HT.sIx_none, HT.sIx_nat]
  by_cases h : m ≤ xs.length
  · rw [Nat.min_eq_left h, List.take_of_length_le (by rw [List.length_drop]; omega)]
  · rw [Nat.min_eq_right (by omega), Nat.sub_self, List.take_zero, List.drop_of_length_le (by omega)]
end
def bd (n : Int) (p : Pl) : Prop := (-n ≤ p.a ∧ p.a ≤ n) ∧ (-n ≤ p.b ∧ p.b ≤ n) ∧ (-n ≤ p.c ∧ p.c ≤ n) ∧ (-n ≤ p.d ∧ p.d ≤ n)
theorem bd.mono {m n : Int} {p : Pl} (h : bd m p) (hm : m ≤ n) : bd n p := by obtain ⟨⟨a, b⟩, ⟨c, d⟩, ⟨e, f⟩, g, i⟩ := h; exact ⟨⟨by omega, by omega⟩, ⟨by omega, by omega⟩, ⟨by omega, by omega⟩, by omega, by omega⟩
theorem bd_mv {n m : Int} {p : Pl} {h s : Int} (hp : bd n p) (hs : 0 ≤ s ∧ s ≤ m) : bd (n + m) (mv p h s) := by
  obtain ⟨⟨a, b⟩, ⟨c, d⟩, ⟨e, f⟩, g, i⟩ := hp
  obtain ⟨s0, s1⟩ := hs
  rcases eight h with e | e | e | e | e | e | e | e <;> simp only [bd, mv, dirs, e] <;> simp <;> omega
theorem bd_small {n : Int} {p : Pl} (h : bd n p) (hn : n ≤ 2 ^ 60) : small p := by obtain ⟨⟨a, b⟩, ⟨c, d⟩, ⟨e, f⟩, g, i⟩ := h; exact ⟨⟨by omega, by omega⟩, ⟨by omega, by omega⟩, ⟨by omega, by omega⟩, by omega, by omega⟩
theorem cut_to {xs : List V} (m : Nat) : cutV xs none (some (m : Int)) = xs.take m := by
  unfold cutV
  rw [HT.sIx_none, HT.sIx_nat, List.drop_zero, Nat.sub_zero]
  by_cases h : m ≤ xs.length
  · rw [Nat.min_eq_left h]
  · rw [Nat.min_eq_right (by omega), List.take_of_length_le (Nat.le_refl _), List.take_of_length_le (by omega)]
theorem RpL_take {K : PySem.W.Frag} {H : Hp} : ∀ {ds : List L2.D} {xs : List V} (n : Nat), RpL K H ds xs → RpL K H (ds.take n) (xs.take n)
  | ds, xs, 0, h => by rw [List.take_zero, List.take_zero]; exact RpL.nil
  | [], xs, n + 1, h => by rw [RpL] at h; subst h; rw [List.take_nil, List.take_nil]; exact RpL.nil
  | d :: ds, xs, n + 1, h => by
    rw [RpL] at h
    obtain ⟨v, r, rfl, h1, h2⟩ := h
    rw [List.take_succ_cons, List.take_succ_cons, RpL]
    exact ⟨_, _, rfl, h1, RpL_take n h2⟩
section
variable {P : Program} {w : World} {K : PySem.W.Frag} {mg : Str → Option Value} {base : Heap} {t : Adr}
def og : Pl := ⟨0, 0, 0, 0⟩
def sp_Lway (K : PySem.W.Frag) : Sp := fun vs H Q _ => ∃ (a : Addr) (ns : List Int), vs = [.ref a, .int 0, .int 20] ∧ SqL K H a (ns.map V.int) ∧ ns.length ≤ 63 ∧
  ∀ (l : Addr) (xs : List V) (r : List Pl) (H' : Hp), Same H H' → H' l = some (.lst xs) → RpL K H' ((og :: r ++ [og]).map Pl.D) xs → 4 ≤ r.length → r.length ≤ 20 → (∀ q ∈ og :: r, bd 20000 q) → Q (.ref l) H'
def Iv_way (K : PySem.W.Frag) (a lh lf : Addr) (hs : List Int) (z far : Int) (H : Hp) (i : Nat) (σ : L2.St) (H2 : Hp) : Prop := ∃ (v : V) (p : Pl) (qs : List Pl) (vs : List V) (o1 o2 o3 : Option V),
  σ = [some (.ref a), some (.int 0), some (.int 20), some (.int z), some (.ref lh), some (.int far), some v, some (.ref lf), o1, o2, o3] ∧ Same H H2 ∧ H2 lh = some (.lst (hs.map V.int)) ∧ H2 lf = some (.lst vs) ∧ RpL K H2 ((og :: qs).map Pl.D) vs ∧ qs.length = i ∧
  Rp K H2 p.D v ∧ bd (1000 * i) p ∧ ∀ q ∈ og :: qs, bd (1000 * i) q
theorem ok_Lway (T : Txt K mg t) : FnOk P w K mg base CX0 3 t.a_Lway t.d_Lway ["_law_script", "_law_start", "_law_most"] (sp_Lway K) := by
  refine T.Lway.F.ok sc_Lway (fun vs H Q E h => ?_) (fun cdv A outer s H vs Q E hr h => ?_)
  · obtain ⟨a, ns, rfl, _⟩ := h; rfl
  · obtain ⟨a, ns, rfl, hS, hl, q⟩ := h
    refine ⟨_, (@pss_consH _ _ _ _ _ (@ps_set _ _ (3) _ _ _ _ sc_Lway.nd rfl (Or.inl rfl) (@pe_call _ _ _ _ _ _ _ _ _ _ _ _ _ _ _ _ (ok_Lcell T) (hr.mono (by decide)) (by rfl) T.Lcell.m T.Lcell.F.kp T.Lcell.b .nil pass0 (@pa_cons _ _ _ _ _ (@pvD _ 0 _ _ (by rfl) (by first | exact Or.inl rfl | exact Or.inr (Or.inl rfl)) (by decide) (by decide)) (@pa_cons _ _ _ _ _ (@pvD _ 1 _ _ (by rfl) (by first | exact Or.inl rfl | exact Or.inr (Or.inl rfl)) (by decide) (by decide)) (@pa_nil _) (by rfl)) (by rfl)) (by decide) (by rfl) (by rfl)) (by rfl) (by first | exact .inl rfl | exact .inr rfl | assumption)) (@pss_consH _ _ _ _ _ (@ps_set _ _ (4) _ _ _ _ sc_Lway.nd rfl (Or.inl rfl) (@pe_ix _ _ _ _ _ _ _ ix_listD (@pe_lst _ _ _ _ (@pa_cons _ _ _ _ _ (@pe_lst _ _ _ _ (@pa_cons _ _ _ _ _ (@pe_int _ _ _ _) (@pa_cons _ _ _ _ _ (@pe_int _ _ _ _) (@pa_cons _ _ _ _ _ (@pe_int _ _ _ _) (@pa_cons _ _ _ _ _ (@pe_int _ _ _ _) (@pa_cons _ _ _ _ _ (@pe_int _ _ _ _) (@pa_cons _ _ _ _ _ (@pe_int _ _ _ _) (@pa_cons _ _ _ _ _ (@pe_int _ _ _ _) (@pa_cons _ _ _ _ _ (@pe_int _ _ _ _) (@pa_nil _) (by rfl)) (by rfl)) (by rfl)) (by rfl)) (by rfl)) (by rfl)) (by rfl)) (by rfl))) (@pa_cons _ _ _ _ _ (@pe_lst _ _ _ _ (@pa_cons _ _ _ _ _ (@pe_int _ _ _ _) (@pa_cons _ _ _ _ _ (@pe_int _ _ _ _) (@pa_cons _ _ _ _ _ (@pe_int _ _ _ _) (@pa_cons _ _ _ _ _ (@pe_int _ _ _ _) (@pa_nil _) (by rfl)) (by rfl)) (by rfl)) (by rfl))) (@pa_cons _ _ _ _ _ (@pe_lst _ _ _ _ (@pa_cons _ _ _ _ _ (@pe_int _ _ _ _) (@pa_cons _ _ _ _ _ (@pe_int _ _ _ _) (@pa_cons _ _ _ _ _ (@pe_int _ _ _ _) (@pa_cons _ _ _ _ _ (@pe_int _ _ _ _) (@pa_cons _ _ _ _ _ (@pe_int _ _ _ _) (@pa_cons _ _ _ _ _ (@pe_int _ _ _ _) (@pa_cons _ _ _ _ _ (@pe_int _ _ _ _) (@pa_cons _ _ _ _ _ (@pe_int _ _ _ _) (@pa_nil _) (by rfl)) (by rfl)) (by rfl)) (by rfl)) (by rfl)) (by rfl)) (by rfl)) (by rfl))) (@pa_cons _ _ _ _ _ (@pe_lst _ _ _ _ (@pa_cons _ _ _ _ _ (@pe_int _ _ _ _) (@pa_cons _ _ _ _ _ (@pe_int _ _ _ _) (@pa_cons _ _ _ _ _ (@pe_int _ _ _ _) (@pa_cons _ _ _ _ _ (@pe_int _ _ _ _) (@pa_cons _ _ _ _ _ (@pe_int _ _ _ _) (@pa_nil _) (by rfl)) (by rfl)) (by rfl)) (by rfl)) (by rfl))) (@pa_nil _) (by rfl)) (by rfl)) (by rfl)) (by rfl))) (@pe_op _ _ _ _ _ _ _ _ op_modD (@pvD _ 3 _ _ (by rfl) (by first | exact Or.inl rfl | exact Or.inr (Or.inl rfl)) (by decide) (by decide)) (@pe_int _ _ _ _)) (fun _ _ => rfl)) (by rfl) (by first | exact .inl rfl | exact .inr rfl | assumption)) (@pss_consH _ _ _ _ _ (@ps_set _ _ (5) _ _ _ _ sc_Lway.nd rfl (Or.inl rfl) (@pe_ix _ _ _ _ _ _ _ ix_listD (@pe_lst _ _ _ _ (@pa_cons _ _ _ _ _ (@pe_int _ _ _ _) (@pa_cons _ _ _ _ _ (@pe_int _ _ _ _) (@pa_cons _ _ _ _ _ (@pe_int _ _ _ _) (@pa_cons _ _ _ _ _ (@pe_int _ _ _ _) (@pa_nil _) (by rfl)) (by rfl)) (by rfl)) (by rfl))) (@pe_op _ _ _ _ _ _ _ _ op_modD (@pe_op _ _ _ _ _ _ _ _ op_fdivWD (@pvD _ 3 _ _ (by rfl) (by first | exact Or.inl rfl | exact Or.inr (Or.inl rfl)) (by decide) (by decide)) (@pe_int _ _ _ _)) (@pe_int _ _ _ _)) (fun _ _ => rfl)) (by rfl) (by first | exact .inl rfl | exact .inr rfl | assumption)) (@pss_consH _ _ _ _ _ (@ps_set _ _ (6) _ _ _ _ sc_Lway.nd rfl (Or.inl rfl) (@pl_tup _ _ _ _ _ (@pls_consT _ _ _ _ _ _ _ (@pl_tup _ _ _ _ _ (@pls_consI _ _ _ _ _ _ (@pls_consI _ _ _ _ _ _ (@pls_nil _))) (by decide)) (@pls_consT _ _ _ _ _ _ _ (@pl_tup _ _ _ _ _ (@pls_consI _ _ _ _ _ _ (@pls_consI _ _ _ _ _ _ (@pls_nil _))) (by decide)) (@pls_nil _))) (by decide)) (by rfl) (by first | exact .inl rfl | exact .inr rfl | assumption)) (@pss_consH _ _ _ _ _ (@ps_set _ _ (7) _ _ _ _ sc_Lway.nd rfl (Or.inl rfl) (@pe_lst _ _ _ _ (@pa_cons _ _ _ _ _ (@pvD _ 6 _ _ (by rfl) (by first | exact Or.inl rfl | exact Or.inr (Or.inl rfl)) (by decide) (by decide)) (@pa_nil _) (by rfl))) (by rfl) (by first | exact .inl rfl | exact .inr rfl | assumption)) (@pss_consH _ _ _ _ _ (@ps_for _ _ _ _ _ _ _ _ PassesOwn.never rfl (@pi_range2 _ _ _ _ _ _ _ (by rfl) T.z_range (@pa_cons _ _ _ _ _ (@pe_op _ _ _ _ _ _ _ _ op_addD (@pvD _ 1 _ _ (by rfl) (by first | exact Or.inl rfl | exact Or.inr (Or.inl rfl)) (by decide) (by decide)) (@pe_int _ _ _ _)) (@pa_cons _ _ _ _ _ (@pe_op _ _ _ _ _ _ _ _ op_addD (@pe_op _ _ _ _ _ _ _ _ op_addD (@pvD _ 1 _ _ (by rfl) (by first | exact Or.inl rfl | exact Or.inr (Or.inl rfl)) (by decide) (by decide)) (@pe_int _ _ _ _)) (@pe_callB _ _ _ _ _ _ _ _ _ (call_max2D rfl) (by rfl) T.z_max boot_max (@pa_cons _ _ _ _ _ (@pe_int _ _ _ _) (@pa_cons _ _ _ _ _ (@pe_callB _ _ _ _ _ _ _ _ _ (call_min2D rfl) (by rfl) T.z_min boot_min (@pa_cons _ _ _ _ _ (@pvD _ 2 _ _ (by rfl) (by first | exact Or.inl rfl | exact Or.inr (Or.inl rfl)) (by decide) (by decide)) (@pa_cons _ _ _ _ _ (@pe_op _ _ _ _ _ _ _ _ op_subD (@pe_op _ _ _ _ _ _ _ _ op_subD (@pe_callB _ _ _ _ _ _ _ _ _ call_len_seqD (by rfl) T.z_len PySem.boot_len (@pa_cons _ _ _ _ _ (@pvD _ 0 _ _ (by rfl) (by first | exact Or.inl rfl | exact Or.inr (Or.inl rfl)) (by decide) (by decide)) (@pa_nil _) (by rfl)) (by decide) (by decide) (by rfl) (by rfl)) (@pvD _ 1 _ _ (by rfl) (by first | exact Or.inl rfl | exact Or.inr (Or.inl rfl)) (by decide) (by decide))) (@pe_int _ _ _ _)) (@pa_nil _) (by rfl)) (by rfl)) (by decide) (by decide) (by rfl) (by rfl)) (@pa_nil _) (by rfl)) (by rfl)) (by decide) (by decide) (by rfl) (by rfl))) (@pa_nil _) (by rfl)) (by rfl)) (by rfl) (by rfl)) (@pg_name _ _ (8) _ sc_Lway.nd rfl (Or.inl rfl) (by first | exact .inl rfl | exact .inr rfl | assumption)) (@pss_consH _ _ _ _ _ (@ps_set _ _ (9) _ _ _ _ sc_Lway.nd rfl (Or.inl rfl) (@pe_call _ _ _ _ _ _ _ _ _ _ _ _ _ _ _ _ (ok_Lrow T) (hr.mono (by decide)) (by rfl) T.Lrow.m T.Lrow.F.kp T.Lrow.b .nil pass0 (@pa_cons _ _ _ _ _ (@pe_call _ _ _ _ _ _ _ _ _ _ _ _ _ _ _ _ (ok_Lcell T) (hr.mono (by decide)) (by rfl) T.Lcell.m T.Lcell.F.kp T.Lcell.b .nil pass0 (@pa_cons _ _ _ _ _ (@pvD _ 0 _ _ (by rfl) (by first | exact Or.inl rfl | exact Or.inr (Or.inl rfl)) (by decide) (by decide)) (@pa_cons _ _ _ _ _ (@pvD _ 8 _ _ (by rfl) (by first | exact Or.inl rfl | exact Or.inr (Or.inl rfl)) (by decide) (by decide)) (@pa_nil _) (by rfl)) (by rfl)) (by decide) (by rfl) (by rfl)) (@pa_cons _ _ _ _ _ (@pe_op _ _ _ _ _ _ _ _ op_powD (@pe_int _ _ _ _) (@pe_int _ _ _ _)) (@pa_cons _ _ _ _ _ (@pe_int _ _ _ _) (@pa_nil _) (by rfl)) (by rfl)) (by rfl)) (by decide) (by rfl) (by rfl)) (by rfl) (by first | exact .inl rfl | exact .inr rfl | assumption)) (@pss_consH _ _ _ _ _ (@ps_set _ _ (10) _ _ _ _ sc_Lway.nd rfl (Or.inl rfl) (@pe_ix _ _ _ _ _ _ _ ix_listD (@pvD _ 4 _ _ (by rfl) (by first | exact Or.inl rfl | exact Or.inr (Or.inl rfl)) (by decide) (by decide)) (@pe_op _ _ _ _ _ _ _ _ op_modD (@pe_ix _ _ _ _ _ _ _ ix_listD (@pvD _ 9 _ _ (by rfl) (by first | exact Or.inl rfl | exact Or.inr (Or.inl rfl)) (by decide) (by decide)) (@pe_int _ _ _ _) (fun _ _ => rfl)) (@pe_callB _ _ _ _ _ _ _ _ _ call_len_seqD (by rfl) T.z_len PySem.boot_len (@pa_cons _ _ _ _ _ (@pvD _ 4 _ _ (by rfl) (by first | exact Or.inl rfl | exact Or.inr (Or.inl rfl)) (by decide) (by decide)) (@pa_nil _) (by rfl)) (by decide) (by decide) (by rfl) (by rfl))) (fun _ _ => rfl)) (by rfl) (by first | exact .inl rfl | exact .inr rfl | assumption)) (@pss_consH _ _ _ _ _ (@ps_set _ _ (6) _ _ _ _ sc_Lway.nd rfl (Or.inl rfl) (@pe_call _ _ _ _ _ _ _ _ _ _ _ _ _ _ _ _ (ok_Lmoved T) (hr.mono (by decide)) (by rfl) T.Lmoved.m T.Lmoved.F.kp T.Lmoved.b .nil pass0 (@pa_cons _ _ _ _ _ (@pvD _ 6 _ _ (by rfl) (by first | exact Or.inl rfl | exact Or.inr (Or.inl rfl)) (by decide) (by decide)) (@pa_cons _ _ _ _ _ (@pvD _ 10 _ _ (by rfl) (by first | exact Or.inl rfl | exact Or.inr (Or.inl rfl)) (by decide) (by decide)) (@pa_cons _ _ _ _ _ (@pe_op _ _ _ _ _ _ _ _ op_modD (@pe_ix _ _ _ _ _ _ _ ix_listD (@pvD _ 9 _ _ (by rfl) (by first | exact Or.inl rfl | exact Or.inr (Or.inl rfl)) (by decide) (by decide)) (@pe_int _ _ _ _) (fun _ _ => rfl)) (@pe_op _ _ _ _ _ _ _ _ op_addD (@pvD _ 5 _ _ (by rfl) (by first | exact Or.inl rfl | exact Or.inr (Or.inl rfl)) (by decide) (by decide)) (@pe_int _ _ _ _))) (@pa_nil _) (by rfl)) (by rfl)) (by rfl)) (by decide) (by rfl) (by rfl)) (by rfl) (by first | exact .inl rfl | exact .inr rfl | assumption)) (@pss_consH _ _ _ _ _ (@ps_if _ _ _ _ _ _ _ _ (@pt_cmpRD _ _ _ _ _ _ _ _ op_eqD (@pe_op _ _ _ _ _ _ _ _ op_modD (@pe_ix _ _ _ _ _ _ _ ix_listD (@pvD _ 9 _ _ (by rfl) (by first | exact Or.inl rfl | exact Or.inr (Or.inl rfl)) (by decide) (by decide)) (@pe_int _ _ _ _) (fun _ _ => rfl)) (@pe_int _ _ _ _)) (@pe_int _ _ _ _) (nomark _)) (@pss_one _ _ _ (@ps_set _ _ (6) _ _ _ _ sc_Lway.nd rfl (Or.inl rfl) (@pe_ix _ _ _ _ _ _ _ ix_listD (@pvD _ 7 _ _ (by rfl) (by first | exact Or.inl rfl | exact Or.inr (Or.inl rfl)) (by decide) (by decide)) (@pe_op _ _ _ _ _ _ _ _ op_modD (@pe_op _ _ _ _ _ _ _ _ op_fdivWD (@pe_ix _ _ _ _ _ _ _ ix_listD (@pvD _ 9 _ _ (by rfl) (by first | exact Or.inl rfl | exact Or.inr (Or.inl rfl)) (by decide) (by decide)) (@pe_int _ _ _ _) (fun _ _ => rfl)) (@pe_int _ _ _ _)) (@pe_callB _ _ _ _ _ _ _ _ _ call_len_seqD (by rfl) T.z_len PySem.boot_len (@pa_cons _ _ _ _ _ (@pvD _ 7 _ _ (by rfl) (by first | exact Or.inl rfl | exact Or.inr (Or.inl rfl)) (by decide) (by decide)) (@pa_nil _) (by rfl)) (by decide) (by decide) (by rfl) (by rfl))) (fun _ _ => rfl)) (by rfl) (by first | exact .inl rfl | exact .inr rfl | assumption))) (@pss_nil _)) (@pss_one _ _ _ (@ps_expr _ _ _ _ (@pe_bm _ _ _ _ _ _ _ _ _ _ _ _ PySem.F.plainAttrs_list PySem.F.slot_list_append PySem.F.type_list_append mt_appendD (@pvD _ 7 _ _ (by rfl) (by first | exact Or.inl rfl | exact Or.inr (Or.inl rfl)) (by decide) (by decide)) (@pa_cons _ _ _ _ _ (@pvD _ 6 _ _ (by rfl) (by first | exact Or.inl rfl | exact Or.inr (Or.inl rfl)) (by decide) (by decide)) (@pa_nil _) (by rfl)) (by rfl) (by rfl) (by rfl) (by rfl) (by rfl)) (by rfl))))))) (by intro _; rfl)) (@pss_one _ _ _ (@ps_ret _ _ _ _ (@pe_op _ _ _ _ _ _ _ _ op_catD (@pvD _ 7 _ _ (by rfl) (by first | exact Or.inl rfl | exact Or.inr (Or.inl rfl)) (by decide) (by decide)) (@pe_slice _ _ _ _ _ _ _ _ _ _ sl_listD (@pvD _ 7 _ _ (by rfl) (by first | exact Or.inl rfl | exact Or.inr (Or.inl rfl)) (by decide) (by decide)) (@po_none _) (@po_someD _ _ _ (@pe_int _ _ _ _)))))))))))), ?_⟩
    walk_at "rh"
    refine ⟨a, ns, 0, rfl, hS, hl, by decide, by decide, fun z => ?_⟩
    walk_at "rh"
    refine ⟨by decide, fun l1 h1 => ⟨by decide, fun l2 h2 => ⟨by decide, fun l3 h3 => ⟨by decide, fun l4 h4 => ⟨by decide, fun l5 h5 => ?_⟩⟩⟩⟩⟩
    have u1 := Same.upd (o := .lst [.int 0, .int 1, .int 2, .int 3, .int 4, .int 5, .int 6, .int 7]) h1
    have u2 := Same.upd (o := .lst [.int 0, .int 2, .int 4, .int 6]) h2
    have u3 := Same.upd (o := .lst [.int 1, .int 2, .int 3, .int 4, .int 5, .int 6, .int 7, .int 0]) h3
    have u4 := Same.upd (o := .lst [.int 0, .int 1, .int 1, .int 4, .int 5]) h4
    have u5 := Same.upd (o := .lst [.ref l1, .ref l2, .ref l3, .ref l4]) h5
    obtain ⟨lh, hs, e1, e2, hs0, hs1, hsb⟩ : ∃ (lh : Addr) (hs : List Int), atI [V.ref l1, V.ref l2, V.ref l3, V.ref l4] (z % 4) = some (.ref lh) ∧ (upd (upd (upd (upd (upd H l1 (.lst [.int 0, .int 1, .int 2, .int 3, .int 4, .int 5, .int 6, .int 7])) l2 (.lst [.int 0, .int 2, .int 4, .int 6])) l3 (.lst [.int 1, .int 2, .int 3, .int 4, .int 5, .int 6, .int 7, .int 0])) l4 (.lst [.int 0, .int 1, .int 1, .int 4, .int 5])) l5 (.lst [.ref l1, .ref l2, .ref l3, .ref l4])) lh = some (.lst (hs.map V.int)) ∧ 0 < hs.length ∧ hs.length ≤ 8 ∧ ∀ h ∈ hs, 0 ≤ h ∧ h < 8 := by
      have e : z % 4 = 0 ∨ z % 4 = 1 ∨ z % 4 = 2 ∨ z % 4 = 3 := by omega
      rcases e with e | e | e | e <;> rw [e]
      · exact ⟨l1, [0, 1, 2, 3, 4, 5, 6, 7], rfl, u5 _ _ (u4 _ _ (u3 _ _ (u2 _ _ upd_same))), by decide, by decide, by decide⟩
      · exact ⟨l2, [0, 2, 4, 6], rfl, u5 _ _ (u4 _ _ (u3 _ _ upd_same)), by decide, by decide, by decide⟩
      · exact ⟨l3, [1, 2, 3, 4, 5, 6, 7, 0], rfl, u5 _ _ (u4 _ _ upd_same), by decide, by decide, by decide⟩
      · exact ⟨l4, [0, 1, 1, 4, 5], rfl, u5 _ _ upd_same, by decide, by decide, by decide⟩
    have s5 : Same H _ := (((u1.trans u2).trans u3).trans u4).trans u5
    have hL5 := SqL.of (K := K) (upd_same (H := (upd (upd (upd (upd H l1 (.lst [.int 0, .int 1, .int 2, .int 3, .int 4, .int 5, .int 6, .int 7])) l2 (.lst [.int 0, .int 2, .int 4, .int 6])) l3 (.lst [.int 1, .int 2, .int 3, .int 4, .int 5, .int 6, .int 7, .int 0])) l4 (.lst [.int 0, .int 1, .int 1, .int 4, .int 5]))) (a := l5) (o := .lst [.ref l1, .ref l2, .ref l3, .ref l4]))
    generalize (upd (upd (upd (upd (upd H l1 (.lst [.int 0, .int 1, .int 2, .int 3, .int 4, .int 5, .int 6, .int 7])) l2 (.lst [.int 0, .int 2, .int 4, .int 6])) l3 (.lst [.int 1, .int 2, .int 3, .int 4, .int 5, .int 6, .int 7, .int 0])) l4 (.lst [.int 0, .int 1, .int 1, .int 4, .int 5])) l5 (.lst [.ref l1, .ref l2, .ref l3, .ref l4])) = G at e2 s5 hL5 ⊢
    clear u1 u2 u3 u4 u5 h1 h2 h3 h4 h5
    refine ⟨by decide, _, hL5, _, e1, ?_⟩
    clear hL5 e1
    walk_at "rh"
    refine ⟨by decide, fun l6 h6 => ⟨by decide, by decide, ?_⟩⟩
    walk_at "rh"
    obtain ⟨far, ef, f0, f1⟩ : ∃ far : Int, atI [V.int 2, V.int 3, V.int 6, V.int 1000] (z / 4 % 4) = some (.int far) ∧ 0 ≤ far ∧ far ≤ 999 + 1 := by
      have e : z / 4 % 4 = 0 ∨ z / 4 % 4 = 1 ∨ z / 4 % 4 = 2 ∨ z / 4 % 4 = 3 := by omega
      rcases e with e | e | e | e <;> rw [e]
      · exact ⟨2, rfl, by decide, by decide⟩
      · exact ⟨3, rfl, by decide, by decide⟩
      · exact ⟨6, rfl, by decide, by decide⟩
      · exact ⟨1000, rfl, by decide, by decide⟩
    refine ⟨by decide, _, SqL.of upd_same, _, ef, ?_⟩
    have s6 := s5.upd2 (o := .lst [.int 2, .int 3, .int 6, .int 1000]) (s5.free h6)
    have e2' := Same.upd (o := .lst [.int 2, .int 3, .int 6, .int 1000]) h6 _ _ e2
    generalize upd G l6 (.lst [.int 2, .int 3, .int 6, .int 1000]) = G2 at s6 e2' ⊢
    clear ef h6 e2 s5 
    walk_at "rh"
    intro v0 G3 s7 r7
    walk_at "rh"
    refine ⟨by decide, fun lf hlf => ?_⟩
    walk_at "rh"
    have u8 := Same.upd (o := .lst [v0]) hlf
    have s8 := (s6.trans s7).trans u8
    have nlf : H lf = none := (s6.trans s7).free hlf
    refine ⟨_, .inl (s8.seq hS), ?_⟩
    rw [List.length_map]
    have hm : ∃ m : Nat, (if (if (ns.length : Int) - 0 - 1 < 20 then (ns.length : Int) - 0 - 1 else 20) > 4 then (if (ns.length : Int) - 0 - 1 < 20 then (ns.length : Int) - 0 - 1 else 20) else 4) = (m : Int) ∧ 4 ≤ m ∧ m ≤ 20 := by
      by_cases h : (ns.length : Int) - 0 - 1 < 20
      · rw [if_pos h]
        by_cases h2 : (ns.length : Int) - 0 - 1 > 4
        · rw [if_pos h2]; exact ⟨ns.length - 1, by omega, by omega, by omega⟩
        · rw [if_neg h2]; exact ⟨4, rfl, by decide, by decide⟩
      · rw [if_neg h]; exact ⟨20, rfl, by decide, by decide⟩
    obtain ⟨m, em, m4, m20⟩ := hm
    rw [em]
    refine ⟨by decide, by decide, by omega, by omega, ?_⟩
    have en : ((0 : Int) + 1 + (m : Int) - (0 + 1)).toNat = m := by omega
    rw [en]
    have lh8 : upd G3 lf (.lst [v0]) lh = some (.lst (hs.map V.int)) := (s7.trans u8) _ _ e2'
    have nhf : lh ≠ lf := by rintro rfl; rw [s7 _ _ e2'] at hlf; cases hlf
    refine FW_range (Iv_way K a lh lf hs z far H) ⟨v0, og, [], [v0], _, _, _, rfl, s8, lh8, upd_same, RpL.one (r7.same u8), rfl, r7.same u8, ?_, ?_⟩ ?_ ?_
    · simp [bd, og]
    · intro q hq; rw [List.mem_singleton.mp hq]; simp [bd, og]
    · rintro i σ H2 hi ⟨v, p, qs, vs, o1, o2, o3, rfl, sH, hh, hf, rq, hqs, rv, bp, bq⟩
      walk_at "rh"
      refine ⟨a, ns, _, rfl, sH.seq hS, hl, by omega, by omega, fun z1 => ?_⟩
      walk_at "rh"
      refine ⟨⟨by decide, by decide, by decide⟩, _, _, _, rfl, by decide, by decide, by decide, by decide, fun l ys H3 s3 hl3 hL hlen hb => ?_⟩
      obtain ⟨y0, y1, y2, rfl⟩ : ∃ a b c, ys = [a, b, c] := by
        match ys, hlen with
        | [a, b, c], _ => exact ⟨_, _, _, rfl⟩
      have b1 := hb y1 (by simp)
      have b2 := hb y2 (by simp)
      have vlen : vs.length = i + 1 := by rw [rq.length, List.length_map, List.length_cons, hqs]
      walk_at "rh"
      refine ⟨_, SqL.of hL, _, rfl, _, .inl (SqL.of (s3 _ _ hh)), ?_⟩
      rw [List.length_map]
      obtain ⟨h, hmem, eh⟩ := atI_ints (ns := hs) (k := y0 % (hs.length : Int)) (Int.emod_nonneg _ (by omega)) (Int.emod_lt_of_pos _ (by omega))
      have hh8 := hsb h hmem
      refine ⟨by omega, _, SqL.of (s3 _ _ hh), _, eh, ?_⟩
      walk_at "rh"
      refine ⟨_, SqL.of hL, _, rfl, ?_⟩
      walk_at "rh"
      have n0 := Int.emod_nonneg y1 (show far + 1 ≠ 0 by omega)
      have n1 := Int.emod_lt_of_pos y1 (show 0 < far + 1 by omega)
      refine ⟨by omega, v, p, h, _, rfl, rv.same s3, hh8, ⟨by omega, by omega⟩, fun v1 H4 s4 r4 => ?_⟩
      walk_at "rh"
      have bn : bd (1000 * ((i + 1 : Nat) : Int)) (mv p h (y1 % (far + 1))) := (bd_mv (m := 1000) bp ⟨n0, by omega⟩).mono (by omega)
      have bqn : ∀ q ∈ og :: qs, bd (1000 * ((i + 1 : Nat) : Int)) q := fun q hq => (bq q hq).mono (by omega)
      have hL4 := s4 _ _ hL
      have hf4 := s4 _ _ (s3 _ _ hf)
      have hh4 := s4 _ _ (s3 _ _ hh)
      have sH4 := (sH.trans s3).trans s4
      have rq4 := (rq.same s3).same s4
      refine ⟨_, SqL.of hL4, _, rfl, ?_⟩
      walk_at "rh"
      have szv : vs.length < sizeLine := small1000 (by omega)
      have tail : ∀ (vv : V) (pp : Pl), Rp K H4 pp.D vv → bd (1000 * ((i + 1 : Nat) : Int)) pp → ∀ o1 o2 o3, Iv_way K a lh lf hs z far H (i + 1) [some (.ref a), some (.int 0), some (.int 20), some (.int z), some (.ref lh), some (.int far), some vv, some (.ref lf), o1, o2, o3] (upd H4 lf (.lst (vs ++ [vv]))) := by
        intro vv pp rr bb o1 o2 o3
        have su : SameT H4 (upd H4 lf (.lst (vs ++ [vv]))) := (SameT.refl H4).upd (nt_lst hf4)
        refine ⟨vv, pp, qs ++ [pp], vs ++ [vv], o1, o2, o3, rfl, sH4.upd2 nlf, ?_, upd_same, ?_, ?_, rr.t su, bb, ?_⟩
        · rw [upd_ne nhf]; exact hh4
        · rw [← List.cons_append, List.map_append]; exact (rq4.t su).app (RpL.one (rr.t su))
        · rw [List.length_append, hqs]; rfl
        · intro q hq
          rw [← List.cons_append] at hq
          rcases List.mem_append.mp hq with hq | hq
          · exact bqn q hq
          · rw [List.mem_singleton.mp hq]; exact bb
      refine ⟨by decide, ?_⟩
      split
      · have k0 := Int.emod_nonneg (y2 / 9) (show (vs.length : Int) ≠ 0 by omega)
        have k1 := Int.emod_lt_of_pos (y2 / 9) (show (0 : Int) < vs.length by omega)
        obtain ⟨vq, pq, eq, gq, rpq⟩ := place_get (i := (y2 / 9 % (vs.length : Int)).toNat) rq4 (by rw [List.length_cons, hqs]; omega)
        have ek : (((y2 / 9 % (vs.length : Int)).toNat : Nat) : Int) = y2 / 9 % (vs.length : Int) := by omega
        rw [ek] at eq
        refine ⟨_, SqL.of hL4, _, rfl, by decide, by decide, _, .inl (SqL.of hf4), by omega, _, SqL.of hf4, _, eq, ?_⟩
        walk_at "rh"
        exact ⟨.inl ⟨_, SqL.of hf4⟩, _, hf4, szv, tail _ _ rpq (bqn _ (List.mem_of_getElem? gq)) _ _ _⟩
      · walk_at "rh"
        exact ⟨.inl ⟨_, SqL.of hf4⟩, _, hf4, szv, tail _ _ r4 bn _ _ _⟩
    · rintro σ H2 ⟨v, p, qs, vs, o1, o2, o3, rfl, sH, hh, hf, rq, hqs, rv, bp, bq⟩
      walk_at "rh"
      walk_at "rh"
      have vlen : vs.length = m + 1 := by rw [rq.length, List.length_map, List.length_cons, hqs]
      refine ⟨_, SqL.of hf, fun p1 h1 => ?_⟩
      have e1 : cutV vs none (some 1) = vs.take 1 := cut_to 1
      rw [e1]
      have u1 := Same.upd (o := .lst (vs.take 1)) h1
      refine ⟨_, u1 _ _ hf, _, upd_same, ?_, fun p2 h2 => ?_⟩
      · rw [List.length_take]; exact Nat.le_of_lt (small1000 (by omega))
      have s2 := (sH.trans u1).trans (Same.upd (o := .lst (vs ++ vs.take 1)) h2)
      refine q p2 _ qs _ s2 upd_same ?_ (by omega) (by omega) (fun q hq => (bq q hq).mono (by omega))
      rw [List.map_append]
      exact (((rq.same u1).same (Same.upd h2)).app ((RpL_take 1 rq).same (u1.trans (Same.upd h2))))
end
def tr (d p : Pl) : Pl := ⟨p.a + d.a, p.b + d.b, p.c + d.c, p.d + d.d⟩
def gA (d p : Pl) : Int := dA d.a d.b p.c p.d - dA p.a p.b d.c d.d
def gB (d p : Pl) : Int := dB d.a d.b p.c p.d - dB p.a p.b d.c d.d
theorem cA_swap (p q : Pl) : cA q p = 0 - cA p q := by simp only [cA]; omega
theorem cB_swap (p q : Pl) : cB q p = 0 - cB p q := by simp only [cB]; omega
def mi (p : Pl) : Pl := ⟨p.a, p.b, 0 - p.c, 0 - p.d⟩
def gr (p : Pl) : Pl := ⟨3 * p.a, 3 * p.b, 3 * p.c, 3 * p.d⟩
section
variable {P : Program} {w : World} {K : PySem.W.Frag} {mg : Str → Option Value} {base : Heap} {t : Adr}
def sp_Lplace (K : PySem.W.Frag) : Sp := fun vs H Q _ => ∃ (l : Addr) (x0 x1 x2 x3 x4 far : Int), vs = [.ref l, .int far] ∧ SqL K H l [.int x0, .int x1, .int x2, .int x3, .int x4] ∧ 0 ≤ far ∧ far ≤ 1000000000 ∧ ∀ v (p : Pl) H', Same H H' → Rp K H' p.D v → bd (far + 1) p → Q v H'
def Iv_pl (l p : Addr) (xs : List Int) (far : Int) (H : Hp) (i : Nat) (σ : L2.St) (H2 : Hp) : Prop := ∃ (ys : List Int) (v : Option V), σ = [some (.int far), v] ∧ Same H H2 ∧ H2 p = some (.lst (ys.map V.int)) ∧ ys.length = i ∧ ∀ y ∈ ys, -far ≤ y ∧ y ≤ far
theorem ok_Lplace (T : Txt K mg t) : FnOk P w K mg base CX0 1 t.a_Lplace t.d_Lplace ["_law_row_here", "_law_far"] (sp_Lplace K) := by
  refine T.Lplace.F.ok sc_Lplace (fun vs H Q E h => ?_) (fun cdv A outer s H vs Q E hr h => ?_)
  · obtain ⟨l, x0, x1, x2, x3, x4, far, rfl, _⟩ := h; rfl
  · obtain ⟨l, x0, x1, x2, x3, x4, far, rfl, hS, f0, f1, q⟩ := h
    refine ⟨_, (@pss_cons _ _ _ _ _ (@ps_asg _ _ _ _ _ _ (@pe_comp _ _ _ _ _ _ (defScope s_Lplace) _ _ _ _ _ (["_law_row_here", "_law_far", "_law_a", "_law_b", "_law_c", "_law_d", "_law_spare"]) (["_law_far", "_law_number"]) (["_law_number"]) ([1]) rfl rfl rfl ⟨by decide +kernel, by decide +kernel, by decide +kernel, by decide +kernel, by decide +kernel, by decide +kernel⟩ (@pi_listD _ _ _ _ (@pvD _ 0 _ _ (by rfl) (by first | exact Or.inl rfl | exact Or.inr (Or.inl rfl)) (by decide) (by decide))) (fun _ _ _ _ => (@pg_name _ _ (1) _ (show List.Nodup (["_law_far", "_law_number"] : List Str) by decide +kernel) rfl (Or.inl rfl) (by first | exact .inl rfl | exact .inr rfl | assumption))) (fun _ _ _ _ => (@pifs_nil _)) (fun _ _ _ _ => (@pe_op _ _ _ _ _ _ _ _ op_subD (@pe_op _ _ _ _ _ _ _ _ op_modD (@pvD _ 1 _ _ (by rfl) (by first | exact Or.inl rfl | exact Or.inr (Or.inl rfl)) (by decide) (by decide)) (@pe_op _ _ _ _ _ _ _ _ op_addD (@pe_op _ _ _ _ _ _ _ _ op_mulWD (@pe_int _ _ _ _) (@pvD _ 0 _ _ (by rfl) (by first | exact Or.inl rfl | exact Or.inr (Or.inl rfl)) (by decide) (by decide))) (@pe_int _ _ _ _))) (@pvD _ 0 _ _ (by rfl) (by first | exact Or.inl rfl | exact Or.inr (Or.inl rfl)) (by decide) (by decide)))) (by intro _; rfl)) (@pg_lstD _ _ _ _ _ _ rfl (@pgs_consD _ _ _ _ _ (@pg_name _ _ (2) _ sc_Lplace.nd rfl (Or.inl rfl) (by first | exact .inl rfl | exact .inr rfl | assumption)) (@pgs_consD _ _ _ _ _ (@pg_name _ _ (3) _ sc_Lplace.nd rfl (Or.inl rfl) (by first | exact .inl rfl | exact .inr rfl | assumption)) (@pgs_consD _ _ _ _ _ (@pg_name _ _ (4) _ sc_Lplace.nd rfl (Or.inl rfl) (by first | exact .inl rfl | exact .inr rfl | assumption)) (@pgs_consD _ _ _ _ _ (@pg_name _ _ (5) _ sc_Lplace.nd rfl (Or.inl rfl) (by first | exact .inl rfl | exact .inr rfl | assumption)) (@pgs_consD _ _ _ _ _ (@pg_name _ _ (6) _ sc_Lplace.nd rfl (Or.inl rfl) (by first | exact .inl rfl | exact .inr rfl | assumption)) (@pgs_nilD _) (by rfl)) (by rfl)) (by rfl)) (by rfl)) (by rfl)) (by rfl) (by rfl)) (by rfl) (by rfl) (by rfl)) (@pss_cons _ _ _ _ _ (@ps_if _ _ _ _ _ _ _ _ (@pt_cmpRD _ _ _ _ _ _ _ _ op_eqD (@pe_op _ _ _ _ _ _ _ _ op_modD (@pe_op _ _ _ _ _ _ _ _ op_addD (@pvD _ 3 _ _ (by rfl) (by first | exact Or.inl rfl | exact Or.inr (Or.inl rfl)) (by decide) (by decide)) (@pvD _ 5 _ _ (by rfl) (by first | exact Or.inl rfl | exact Or.inr (Or.inl rfl)) (by decide) (by decide))) (@pe_int _ _ _ _)) (@pe_int _ _ _ _) (nomark _)) (@pss_one _ _ _ (@ps_set _ _ (5) _ _ _ _ sc_Lplace.nd rfl (Or.inl rfl) (@pe_op _ _ _ _ _ _ _ _ op_addD (@pvD _ 5 _ _ (by rfl) (by first | exact Or.inl rfl | exact Or.inr (Or.inl rfl)) (by decide) (by decide)) (@pe_int _ _ _ _)) (by rfl) (by first | exact .inl rfl | exact .inr rfl | assumption))) (@pss_nil _)) (@pss_one _ _ _ (@ps_ret _ _ _ _ (@pe_tup _ _ _ _ _ (@pa_consT _ _ _ _ _ _ _ (@pe_tup _ _ _ _ _ (@pa_cons _ _ _ _ _ (@pvD _ 2 _ _ (by rfl) (by first | exact Or.inl rfl | exact Or.inr (Or.inl rfl)) (by decide) (by decide)) (@pa_cons _ _ _ _ _ (@pvD _ 3 _ _ (by rfl) (by first | exact Or.inl rfl | exact Or.inr (Or.inl rfl)) (by decide) (by decide)) (@pa_nil _) (by rfl)) (by rfl))) (@pa_consT _ _ _ _ _ _ _ (@pe_tup _ _ _ _ _ (@pa_cons _ _ _ _ _ (@pvD _ 4 _ _ (by rfl) (by first | exact Or.inl rfl | exact Or.inr (Or.inl rfl)) (by decide) (by decide)) (@pa_cons _ _ _ _ _ (@pvD _ 5 _ _ (by rfl) (by first | exact Or.inl rfl | exact Or.inr (Or.inl rfl)) (by decide) (by decide)) (@pa_nil _) (by rfl)) (by rfl))) (@pa_nil _)))))))), ?_⟩
    walk_at "rd"
    refine ⟨⟨_, hS⟩, fun p hp => ?_⟩
    refine CW_list (xs := [x0, x1, x2, x3, x4].map V.int) (Iv_pl l p [x0, x1, x2, x3, x4] far H) ⟨[], none, rfl, Same.upd hp, upd_same, rfl, by intro y hy; cases hy⟩ (fun i σ H2 _ h => by obtain ⟨_, _, _, s2, _⟩ := h; exact s2.seq hS) ?_ ?_
    · rintro i x σ H2 hi ⟨ys, v, rfl, s2, hy, hlen, hyb⟩
      have hil : i < 5 := (List.getElem?_eq_some_iff.mp hi).1
      obtain ⟨z, rfl⟩ : ∃ z, x = V.int z := by
        rw [List.getElem?_map] at hi
        cases e : [x0, x1, x2, x3, x4][i]? with
        | none => rw [e] at hi; cases hi
        | some z => rw [e] at hi; exact ⟨z, (Option.some.inj hi).symm⟩
      walk_at "rd"
      refine ⟨mulOk_l (by decide) (by decide), by omega, _, hy, small1000 (by rw [List.length_map]; omega), nx hil ⟨ys ++ [z % (2 * far + 1) - far], _, rfl, s2.upd2 hp, ?_, ?_, ?_⟩⟩
      · rw [upd_same, List.map_append]; rfl
      · rw [List.length_append, hlen]; rfl
      · intro y hm
        rcases List.mem_append.mp hm with hm | hm
        · exact hyb y hm
        · rw [List.mem_singleton.mp hm]
          have a := Int.emod_nonneg z (show (2 * far + 1) ≠ 0 by omega)
          have b := Int.emod_lt_of_pos z (show 0 < (2 * far + 1) by omega)
          omega
    · rintro σ H2 ⟨ys, v, rfl, s2, hy, hlen, hyb⟩
      obtain ⟨a, b, c, d, e, rfl⟩ : ∃ a b c d e, ys = [a, b, c, d, e] := by
        match ys, hlen with
        | [a, b, c, d, e], _ => exact ⟨_, _, _, _, _, rfl⟩
      have ba := hyb a (by simp)
      have bb := hyb b (by simp)
      have bc := hyb c (by simp)
      have bD := hyb d (by simp)
      walk_at "rd"
      refine ⟨_, SqL.of hy, rfl, ?_⟩
      walk_at "rd"
      have fin : ∀ (a b c d : Int), bd (far + 1) ⟨a, b, c, d⟩ → 2 ≤ sizeLine ∧ ∀ p1, H2 p1 = none → 2 ≤ sizeLine ∧ ∀ p2, upd H2 p1 (.tup [.int a, .int b]) p2 = none → 2 ≤ sizeLine ∧ ∀ p3, upd (upd H2 p1 (.tup [.int a, .int b])) p2 (.tup [.int c, .int d]) p3 = none → Q (.ref p3) (upd (upd (upd H2 p1 (.tup [.int a, .int b])) p2 (.tup [.int c, .int d])) p3 (.tup [.ref p1, .ref p2])) := by
        intro a b c d he
        refine ⟨by decide, fun p1 h1 => ⟨by decide, fun p2 h2 => ⟨by decide, fun p3 h3 => ?_⟩⟩⟩
        have t1 : Same H (upd H2 p1 (.tup [.int a, .int b])) := s2.upd2 (s2.free h1)
        have t2 := t1.upd2 (o := .tup [.int c, .int d]) (t1.free h2)
        have t3 := t2.upd2 (o := .tup [.ref p1, .ref p2]) (t2.free h3)
        refine q _ ⟨a, b, c, d⟩ _ t3 (pair_iff.mpr ⟨p3, _, _, rfl, SqT.of upd_same, ?_, ?_⟩) he
        · exact (num_iff.mpr ⟨p1, rfl, SqT.of upd_same⟩ : Rp K (upd H2 p1 (.tup [.int a, .int b])) (num a b) _).same ((Same.upd h2).trans (Same.upd h3))
        · exact (num_iff.mpr ⟨p2, rfl, SqT.of upd_same⟩ : Rp K (upd (upd H2 p1 (.tup [.int a, .int b])) p2 (.tup [.int c, .int d])) (num c d) _).same (Same.upd h3)
      refine ⟨by decide, ?_⟩
      split
      · exact fin _ _ _ _ (by simp only [bd]; omega)
      · exact fin _ _ _ _ (by simp only [bd]; omega)
end
theorem depL_pl : ∀ ps : List Pl, depL (ps.map Pl.D) ≤ 60
  | [] => by simp [depL]
  | p :: r => by
    have := depL_pl r
    rw [List.map_cons, depL]
    have : dep p.D = 2 := by simp [plc, num, dep, depL]
    omega
def Iv_cm (K : PySem.W.Frag) (f : Pl → Pl) (ps : List Pl) (pre : List (Option V)) (pc : Addr) (H : Hp) (i : Nat) (σ : L2.St) (H2 : Hp) : Prop := ∃ (vs : List V) (o1 o2 : Option V), σ = pre ++ [o1, o2] ∧ Same H H2 ∧ H2 pc = some (.lst vs) ∧ RpL K H2 (((ps.take i).map f).map Pl.D) vs
theorem place_at {K : PySem.W.Frag} {H : Hp} {ps : List Pl} {xs : List V} {i : Nat} {x : V} (h : RpL K H (ps.map Pl.D) xs) (hi : xs[i]? = some x) : ∃ p, ps[i]? = some p ∧ Rp K H p.D x := by
  have hl : i < ps.length := by have := (List.getElem?_eq_some_iff.mp hi).1; rwa [h.length, List.length_map] at this
  obtain ⟨v, p, e, g, r⟩ := place_get h hl
  rw [atI_nat hi] at e
  cases Option.some.inj e
  exact ⟨p, g, r⟩
theorem cm_step {K : PySem.W.Frag} {f : Pl → Pl} {ps : List Pl} {i : Nat} {p : Pl} {H : Hp} {vs : List V} {v : V} (g : ps[i]? = some p) (h : RpL K H (((ps.take i).map f).map Pl.D) vs) (hv : Rp K H (f p).D v) : RpL K H (((ps.take (i + 1)).map f).map Pl.D) (vs ++ [v]) := by
  rw [List.take_succ, g, Option.toList_some, List.map_append, List.map_append]
  exact h.app (RpL.one hv)
theorem cm_len {K : PySem.W.Frag} {f : Pl → Pl} {ps : List Pl} {i : Nat} {H : Hp} {vs : List V} (h : RpL K H (((ps.take i).map f).map Pl.D) vs) : vs.length ≤ ps.length := by
  rw [h.length, List.length_map, List.length_map, List.length_take]; omega
theorem RpL_rev {K : PySem.W.Frag} {H : Hp} : ∀ {ps : List Pl} {xs : List V}, RpL K H (ps.map Pl.D) xs → RpL K H (ps.reverse.map Pl.D) xs.reverse
  | [], xs, h => by rw [List.map_nil, RpL] at h; subst h; exact RpL.nil
  | p :: ps, xs, h => by
    rw [List.map_cons, RpL] at h
    obtain ⟨v, r, rfl, h1, h2⟩ := h
    rw [List.reverse_cons, List.reverse_cons, List.map_append]
    exact (RpL_rev h2).app (RpL.one h1)

def crs (p q : Pl) (s : Int) : Int := if decide (sg p.c p.d ≤ 0) = decide (sg q.c q.d ≤ 0) then 0 else if sg p.c p.d ≤ 0 then (if 0 < s then 1 else 0) else if s < 0 then -1 else 0
def onE (p q : Pl) : Bool := decide (sg (cA p q) (cB p q) = 0) && (decide (sg p.a p.b * sg q.a q.b ≤ 0) && decide (sg p.c p.d * sg q.c q.d ≤ 0))
def crE (p q : Pl) : Int := crs p q (sg (cA p q) (cB p q))
def eS (f : Pl → Pl → Int) : List Pl → Int
  | p :: q :: r => f p q + eS f (q :: r)
  | _ => 0
def eB (f : Pl → Pl → Bool) : List Pl → Bool
  | p :: q :: r => f p q || eB f (q :: r)
  | _ => false
theorem eS_app (f : Pl → Pl → Int) : ∀ (xs : List Pl) (p : Pl) (ys : List Pl), eS f (xs ++ p :: ys) = eS f (xs ++ [p]) + eS f (p :: ys)
  | [], p, ys => by simp [eS]
  | [x], p, ys => by simp [eS]
  | x :: y :: r, p, ys => by
    have := eS_app f (y :: r) p ys
    simp only [List.cons_append, eS] at this ⊢
    omega
theorem eB_app (f : Pl → Pl → Bool) : ∀ (xs : List Pl) (p : Pl) (ys : List Pl), eB f (xs ++ p :: ys) = (eB f (xs ++ [p]) || eB f (p :: ys))
  | [], p, ys => by simp [eB]
  | [x], p, ys => by simp [eB]
  | x :: y :: r, p, ys => by
    have := eB_app f (y :: r) p ys
    simp only [List.cons_append, eB] at this ⊢
    rw [this, Bool.or_assoc]
theorem eB_pre (f : Pl → Pl → Bool) : ∀ (xs ys : List Pl), eB f xs = true → eB f (xs ++ ys) = true
  | [], ys, h => by simp [eB] at h
  | [x], ys, h => by simp [eB] at h
  | x :: y :: r, ys, h => by
    rw [eB, Bool.or_eq_true] at h
    show (f x y || eB f (y :: r ++ ys)) = true
    rcases h with h | h
    · rw [h, Bool.true_or]
    · rw [eB_pre f (y :: r) ys h, Bool.or_true]
def isog (p : Pl) : Bool := deqL [num p.a p.b, num p.c p.d] [num 0 0, num 0 0]
def rnd (ss : List Pl) : Option Int := if (ss.any isog || eB onE ss) = true then none else some (eS crE ss)
def ov : Option Int → V
  | none => .non
  | some i => .int i
def sub (q p : Pl) : Pl := ⟨p.a - q.a, p.b - q.b, p.c - q.c, p.d - q.d⟩
theorem mul_bd {a c n m : Int} (h1 : -n ≤ a ∧ a ≤ n) (h2 : -m ≤ c ∧ c ≤ m) : -(n * m) ≤ a * c ∧ a * c ≤ n * m := by
  have e : (a * c).natAbs ≤ n.toNat * m.toNat := by
    rw [Int.natAbs_mul]
    exact Nat.mul_le_mul (by omega) (by omega)
  have e2 : ((n.toNat * m.toNat : Nat) : Int) = n * m := by
    rw [Int.natCast_mul, Int.toNat_of_nonneg (by omega), Int.toNat_of_nonneg (by omega)]
  have e3 : ((a * c).natAbs : Int) ≤ ((n.toNat * m.toNat : Nat) : Int) := Int.ofNat_le.mpr e
  rw [e2] at e3
  omega
theorem cA_le {p q : Pl} (hp : bd 10000000 p) (hq : bd 10000000 q) : le60 (cA p q) ∧ le60 (cB p q) := by
  obtain ⟨a1, b1, c1, d1⟩ := hp
  obtain ⟨a2, b2, c2, d2⟩ := hq
  have x1 := mul_bd a1 c2
  have x2 := mul_bd b1 d2
  have x3 := mul_bd a2 c1
  have x4 := mul_bd b2 d1
  have y1 := mul_bd a1 d2
  have y2 := mul_bd b1 c2
  have y3 := mul_bd a2 d1
  have y4 := mul_bd b2 c1
  simp only [cA, cB, dA, dB, le60, Int.mul_assoc]
  omega
section
variable {P : Program} {w : World} {K : PySem.W.Frag} {mg : Str → Option Value} {base : Heap} {t : Adr}
def sp_apart (K : PySem.W.Frag) : Sp := fun vs H Q _ => ∃ (x y : V) (a b c d : Int), vs = [x, y] ∧ Rp K H (num a b) x ∧ Rp K H (num c d) y ∧ le60 a ∧ le60 b ∧ le60 c ∧ le60 d ∧ Q (.bl (decide (sg a b * sg c d ≤ 0))) H
theorem ok_areapart (T : Txt K mg t) : FnOk P w K mg base CX0 3 t.a_areapart t.d_areapart ["one", "other"] (sp_apart K) := by
  refine T.areapart.F.ok sc_areapart (fun vs H Q E h => ?_) (fun cdv A outer s H vs Q E hr h => ?_)
  · obtain ⟨x, y, a, b, c, d, rfl, _⟩ := h; rfl
  · obtain ⟨x, y, a, b, c, d, rfl, hx, hy, ha, hb, hc, hd, q⟩ := h
    refine ⟨_, (@pss_one _ _ _ (@ps_ret _ _ _ _ (@pe_cmpR _ _ _ _ _ _ _ _ op_leD (@pe_op _ _ _ _ _ _ _ _ op_mulWD (@pe_call _ _ _ _ _ _ _ _ _ _ _ _ _ _ _ _ (ok_signof T) (hr.mono (by decide)) (by rfl) T.signof.m T.signof.F.kp T.signof.b .nil pass0 (@pa_cons _ _ _ _ _ (@pvD _ 0 _ _ (by rfl) (by first | exact Or.inl rfl | exact Or.inr (Or.inl rfl)) (by decide) (by decide)) (@pa_nil _) (by rfl)) (by decide) (by rfl) (by rfl)) (@pe_call _ _ _ _ _ _ _ _ _ _ _ _ _ _ _ _ (ok_signof T) (hr.mono (by decide)) (by rfl) T.signof.m T.signof.F.kp T.signof.b .nil pass0 (@pa_cons _ _ _ _ _ (@pvD _ 1 _ _ (by rfl) (by first | exact Or.inl rfl | exact Or.inr (Or.inl rfl)) (by decide) (by decide)) (@pa_nil _) (by rfl)) (by decide) (by rfl) (by rfl))) (@pe_int _ _ _ _) (nomark _)))), ?_⟩
    walk_at "rd"
    refine ⟨_, _, _, rfl, hx, ha, hb, _, _, _, rfl, hy, hc, hd, ?_⟩
    have := sg_bd c d
    exact ⟨mulOk_r (by omega) (by omega), q⟩
def sp_cross (K : PySem.W.Frag) : Sp := fun vs H Q _ => ∃ (x y : V) (p q : Pl) (s : Int), vs = [x, y, .int s] ∧ Rp K H p.D x ∧ Rp K H q.D y ∧ small p ∧ small q ∧ Q (.int (crs p q s)) H
theorem ok_crossing (T : Txt K mg t) : FnOk P w K mg base CX0 3 t.a_crossing t.d_crossing ["start", "end", "side"] (sp_cross K) := by
  refine T.crossing.F.ok sc_crossing (fun vs H Q E h => ?_) (fun cdv A outer s H vs Q E hr h => ?_)
  · obtain ⟨x, y, p, q, s, rfl, _⟩ := h; rfl
  · obtain ⟨x, y, p1, p2, s1, rfl, rp1, rp2, sm1, sm2, q⟩ := h
    obtain ⟨a0, x1, y1, rfl, hs1, hx1, hy1⟩ := pair_iff.mp rp1
    obtain ⟨b0, x2, y2, rfl, hs2, hx2, hy2⟩ := pair_iff.mp rp2
    refine ⟨_, (@pss_cons _ _ _ _ _ (@ps_set _ _ (3) _ _ _ _ sc_crossing.nd rfl (Or.inl rfl) (@pe_cmpR _ _ _ _ _ _ _ _ op_leD (@pe_call _ _ _ _ _ _ _ _ _ _ _ _ _ _ _ _ (ok_signof T) (hr.mono (by decide)) (by rfl) T.signof.m T.signof.F.kp T.signof.b .nil pass0 (@pa_cons _ _ _ _ _ (@pe_ix _ _ _ _ _ _ _ ix_tupD (@pvD _ 0 _ _ (by rfl) (by first | exact Or.inl rfl | exact Or.inr (Or.inl rfl)) (by decide) (by decide)) (@pe_int _ _ _ _) (fun _ _ => rfl)) (@pa_nil _) (by rfl)) (by decide) (by rfl) (by rfl)) (@pe_int _ _ _ _) (nomark _)) (by rfl) (by first | exact .inl rfl | exact .inr rfl | assumption)) (@pss_cons _ _ _ _ _ (@ps_if _ _ _ _ _ _ _ _ (@pt_cmpRD _ _ _ _ _ _ _ _ op_eqD (@pvD _ 3 _ _ (by rfl) (by first | exact Or.inl rfl | exact Or.inr (Or.inl rfl)) (by decide) (by decide)) (@pe_cmpR _ _ _ _ _ _ _ _ op_leD (@pe_call _ _ _ _ _ _ _ _ _ _ _ _ _ _ _ _ (ok_signof T) (hr.mono (by decide)) (by rfl) T.signof.m T.signof.F.kp T.signof.b .nil pass0 (@pa_cons _ _ _ _ _ (@pe_ix _ _ _ _ _ _ _ ix_tupD (@pvD _ 1 _ _ (by rfl) (by first | exact Or.inl rfl | exact Or.inr (Or.inl rfl)) (by decide) (by decide)) (@pe_int _ _ _ _) (fun _ _ => rfl)) (@pa_nil _) (by rfl)) (by decide) (by rfl) (by rfl)) (@pe_int _ _ _ _) (nomark _)) (nomark _)) (@pss_one _ _ _ (@ps_ret _ _ _ _ (@pe_int _ _ _ _))) (@pss_nil _)) (@pss_cons _ _ _ _ _ (@ps_if _ _ _ _ _ _ _ _ (@pt_valD _ _ _ (@pvD _ 3 _ _ (by rfl) (by first | exact Or.inl rfl | exact Or.inr (Or.inl rfl)) (by decide) (by decide)) (by intro _; rfl)) (@pss_one _ _ _ (@ps_ret _ _ _ _ (@pe_ifExp _ _ _ _ _ _ _ _ (@pt_cmpRD _ _ _ _ _ _ _ _ op_gtD (@pvD _ 2 _ _ (by rfl) (by first | exact Or.inl rfl | exact Or.inr (Or.inl rfl)) (by decide) (by decide)) (@pe_int _ _ _ _) (nomark _)) (@pe_int _ _ _ _) (@pe_int _ _ _ _)))) (@pss_nil _)) (@pss_one _ _ _ (@ps_ret _ _ _ _ (@pe_ifExp _ _ _ _ _ _ _ _ (@pt_cmpRD _ _ _ _ _ _ _ _ op_ltD (@pvD _ 2 _ _ (by rfl) (by first | exact Or.inl rfl | exact Or.inr (Or.inl rfl)) (by decide) (by decide)) (@pe_int _ _ _ _) (nomark _)) (@pe_un _ _ _ _ _ _ un_negD (@pe_int _ _ _ _)) (@pe_int _ _ _ _))))))), ?_⟩
    unfold crs at q
    walk_at "rd"
    refine ⟨_, hs1, _, rfl, ?_⟩
    walk_at "rd"
    refine ⟨_, _, _, rfl, hy1, sm1.2.2.1, sm1.2.2.2, ?_⟩
    walk_at "rd"
    refine ⟨_, hs2, _, rfl, _, _, _, rfl, hy2, sm2.2.2.1, sm2.2.2.2, ?_⟩
    walk_at "rd"
    by_cases h1 : decide (sg p1.c p1.d ≤ 0) = decide (sg p2.c p2.d ≤ 0)
    · rw [if_pos h1] at q ⊢; exact q
    · rw [if_neg h1] at q ⊢
      by_cases h2 : sg p1.c p1.d ≤ 0
      · rw [if_pos h2] at q ⊢
        by_cases h3 : 0 < s1
        · rw [if_pos h3] at q ⊢; exact q
        · rw [if_neg h3] at q ⊢; exact q
      · rw [if_neg h2] at q ⊢
        by_cases h3 : s1 < 0
        · rw [if_pos h3] at q ⊢; exact q
        · rw [if_neg h3] at q ⊢; exact q
def sp_rounds (K : PySem.W.Frag) : Sp := fun vs H Q _ => ∃ (l : Addr) (xs : List V) (ps : List Pl) (x : V) (c : Pl), vs = [.ref l, x] ∧ SqL K H l xs ∧ RpL K H (ps.map Pl.D) xs ∧ Rp K H c.D x ∧ ps.length ≤ 1000 ∧ ps ≠ [] ∧ (∀ p ∈ ps, bd 2000000 p) ∧ bd 2000000 c ∧ ∀ H', Same H H' → Q (ov (rnd (ps.map (sub c)))) H'
def Iv_rd (K : PySem.W.Frag) (l ls l2 : Addr) (x : V) (vs : List V) (ss : List Pl) (H : Hp) (i : Nat) (σ : L2.St) (H2 : Hp) : Prop := ∃ (o1 o2 o3 : Option V), σ = [some (.ref l), some x, some (.ref ls), some (.int (eS crE (ss.take (i + 1)))), o1, o2, o3] ∧ Same H H2 ∧ eB onE (ss.take (i + 1)) = false
theorem ok_roundsof (T : Txt K mg t) : FnOk P w K mg base CX0 4 t.a_roundsof t.d_roundsof ["way", "place"] (sp_rounds K) := by
  refine T.roundsof.F.ok sc_roundsof (fun vs H Q E h => ?_) (fun cdv A outer s H vs Q E hr h => ?_)
  · obtain ⟨l, xs, ps, x, c, rfl, _⟩ := h; rfl
  · obtain ⟨l, xs, ps, x, c, rfl, hS, hR, hc, hlen, hne, hbd, hbc, q⟩ := h
    have hu := hr.units
    have hl : xs.length = ps.length := by rw [hR.length, List.length_map]
    have hpos : 0 < ps.length := List.length_pos_iff.mpr hne
    obtain ⟨ac, cx, cy, rfl, hsc, rcx, rcy⟩ := pair_iff.mp hc
    refine ⟨_, (@pss_cons _ _ _ _ _ (@ps_setC _ _ _ _ _ _ (defScope s_roundsof) _ _ _ _ (2) _ _ _ _ (["way", "place", "spots", "rounds", "start", "end", "side"]) (["place", "x", "y"]) (["x", "y"]) ([1]) sc_roundsof.nd rfl (Or.inl rfl) rfl rfl rfl ⟨by decide +kernel, by decide +kernel, by decide +kernel, by decide +kernel, by decide +kernel, by decide +kernel⟩ (@pi_listD _ _ _ _ (@pvD _ 0 _ _ (by rfl) (by first | exact Or.inl rfl | exact Or.inr (Or.inl rfl)) (by decide) (by decide))) (fun _ _ _ _ => (@pg_tupK _ (K) _ _ _ _ (2) rfl rfl (@pgs_consD _ _ _ _ _ (@pg_name _ _ (1) _ (show List.Nodup (["place", "x", "y"] : List Str) by decide +kernel) rfl (Or.inl rfl) (by first | exact .inl rfl | exact .inr rfl | assumption)) (@pgs_consD _ _ _ _ _ (@pg_name _ _ (2) _ (show List.Nodup (["place", "x", "y"] : List Str) by decide +kernel) rfl (Or.inl rfl) (by first | exact .inl rfl | exact .inr rfl | assumption)) (@pgs_nilD _) (by rfl)) (by rfl)) (by rfl) (by rfl))) (fun _ _ _ _ => (@pifs_nil _)) (fun _ _ _ _ => (@pe_tup _ _ _ _ _ (@pa_cons _ _ _ _ _ (@pe_call _ _ _ _ _ _ _ _ _ _ _ _ _ _ _ _ (ok_minus T) (hr.mono (by decide)) (by rfl) T.minus.m T.minus.F.kp T.minus.b .nil pass0 (@pa_cons _ _ _ _ _ (@pvD _ 1 _ _ (by rfl) (by first | exact Or.inl rfl | exact Or.inr (Or.inl rfl)) (by decide) (by decide)) (@pa_cons _ _ _ _ _ (@pe_ix _ _ _ _ _ _ _ (ix_tupKD (K := K) rfl) (@pvD _ 0 _ _ (by rfl) (by first | exact Or.inl rfl | exact Or.inr (Or.inl rfl)) (by decide) (by decide)) (@pe_int _ _ _ _) (fun _ _ => rfl)) (@pa_nil _) (by rfl)) (by rfl)) (by decide) (by rfl) (by rfl)) (@pa_cons _ _ _ _ _ (@pe_call _ _ _ _ _ _ _ _ _ _ _ _ _ _ _ _ (ok_minus T) (hr.mono (by decide)) (by rfl) T.minus.m T.minus.F.kp T.minus.b .nil pass0 (@pa_cons _ _ _ _ _ (@pvD _ 2 _ _ (by rfl) (by first | exact Or.inl rfl | exact Or.inr (Or.inl rfl)) (by decide) (by decide)) (@pa_cons _ _ _ _ _ (@pe_ix _ _ _ _ _ _ _ (ix_tupKD (K := K) rfl) (@pvD _ 0 _ _ (by rfl) (by first | exact Or.inl rfl | exact Or.inr (Or.inl rfl)) (by decide) (by decide)) (@pe_int _ _ _ _) (fun _ _ => rfl)) (@pa_nil _) (by rfl)) (by rfl)) (by decide) (by rfl) (by rfl)) (@pa_nil _) (by rfl)) (by rfl)))) (by intro _; rfl) (by rfl) (by first | exact .inl rfl | exact .inr rfl | assumption)) (@pss_cons _ _ _ _ _ (@ps_if _ _ _ _ _ _ _ _ (@pt_cmpRD _ _ _ _ _ _ _ _ (op_inT hu) (@pe_glob _ _ _ _ _ (by rfl) T.g_BEGINNING T.r_BEGINNING (by decide)) (@pvD _ 2 _ _ (by rfl) (by first | exact Or.inl rfl | exact Or.inr (Or.inl rfl)) (by decide) (by decide)) (by with_unfolding_all rfl)) (@pss_one _ _ _ (@ps_ret _ _ _ _ (@pe_non _ _ _))) (@pss_nil _)) (@pss_cons _ _ _ _ _ (@ps_set _ _ (3) _ _ _ _ sc_roundsof.nd rfl (Or.inl rfl) (@pe_int _ _ _ _) (by rfl) (by first | exact .inl rfl | exact .inr rfl | assumption)) (@pss_cons _ _ _ _ _ (@ps_for _ _ _ _ _ _ _ _ PassesOwn.never rfl (@pi_zipD _ _ _ _ _ _ _ _ _ (by rfl) T.z_zip (@pa_cons _ _ _ _ _ (@pvD _ 2 _ _ (by rfl) (by first | exact Or.inl rfl | exact Or.inr (Or.inl rfl)) (by decide) (by decide)) (@pa_cons _ _ _ _ _ (@pe_slice _ _ _ _ _ _ _ _ _ _ sl_listD (@pvD _ 2 _ _ (by rfl) (by first | exact Or.inl rfl | exact Or.inr (Or.inl rfl)) (by decide) (by decide)) (@po_someD _ _ _ (@pe_int _ _ _ _)) (@po_none _)) (@pa_nil _) (by rfl)) (by rfl)) (by rfl) (by rfl)) (@pg_tupD _ _ _ _ _ _ rfl (@pgs_consD _ _ _ _ _ (@pg_name _ _ (4) _ sc_roundsof.nd rfl (Or.inl rfl) (by first | exact .inl rfl | exact .inr rfl | assumption)) (@pgs_consD _ _ _ _ _ (@pg_name _ _ (5) _ sc_roundsof.nd rfl (Or.inl rfl) (by first | exact .inl rfl | exact .inr rfl | assumption)) (@pgs_nilD _) (by rfl)) (by rfl)) (by rfl) (by rfl)) (@pss_cons _ _ _ _ _ (@ps_set _ _ (6) _ _ _ _ sc_roundsof.nd rfl (Or.inl rfl) (@pe_call _ _ _ _ _ _ _ _ _ _ _ _ _ _ _ _ (ok_signof T) (hr.mono (by decide)) (by rfl) T.signof.m T.signof.F.kp T.signof.b .nil pass0 (@pa_cons _ _ _ _ _ (@pe_call _ _ _ _ _ _ _ _ _ _ _ _ _ _ _ _ (ok_swept T) (hr.mono (by decide)) (by rfl) T.swept.m T.swept.F.kp T.swept.b .nil pass0 (@pa_cons _ _ _ _ _ (@pvD _ 4 _ _ (by rfl) (by first | exact Or.inl rfl | exact Or.inr (Or.inl rfl)) (by decide) (by decide)) (@pa_cons _ _ _ _ _ (@pvD _ 5 _ _ (by rfl) (by first | exact Or.inl rfl | exact Or.inr (Or.inl rfl)) (by decide) (by decide)) (@pa_nil _) (by rfl)) (by rfl)) (by decide) (by rfl) (by rfl)) (@pa_nil _) (by rfl)) (by decide) (by rfl) (by rfl)) (by rfl) (by first | exact .inl rfl | exact .inr rfl | assumption)) (@pss_cons _ _ _ _ _ (@ps_if _ _ _ _ _ _ _ _ (@PW.pt _ _ _ (@pw_and _ _ _ _ _ _ _ (@pt_cmpRD _ _ _ _ _ _ _ _ op_eqD (@pvD _ 6 _ _ (by rfl) (by first | exact Or.inl rfl | exact Or.inr (Or.inl rfl)) (by decide) (by decide)) (@pe_int _ _ _ _) (nomark _)) (@pw_and _ _ _ _ _ _ _ (@pt_valD _ _ _ (@pe_call _ _ _ _ _ _ _ _ _ _ _ _ _ _ _ _ (ok_areapart T) (hr.mono (by decide)) (by rfl) T.areapart.m T.areapart.F.kp T.areapart.b .nil pass0 (@pa_cons _ _ _ _ _ (@pe_ix _ _ _ _ _ _ _ ix_tupD (@pvD _ 4 _ _ (by rfl) (by first | exact Or.inl rfl | exact Or.inr (Or.inl rfl)) (by decide) (by decide)) (@pe_int _ _ _ _) (fun _ _ => rfl)) (@pa_cons _ _ _ _ _ (@pe_ix _ _ _ _ _ _ _ ix_tupD (@pvD _ 5 _ _ (by rfl) (by first | exact Or.inl rfl | exact Or.inr (Or.inl rfl)) (by decide) (by decide)) (@pe_int _ _ _ _) (fun _ _ => rfl)) (@pa_nil _) (by rfl)) (by rfl)) (by decide) (by rfl) (by rfl)) (by intro _; rfl)) (@pw_and1 _ _ _ _ (@pt_valD _ _ _ (@pe_call _ _ _ _ _ _ _ _ _ _ _ _ _ _ _ _ (ok_areapart T) (hr.mono (by decide)) (by rfl) T.areapart.m T.areapart.F.kp T.areapart.b .nil pass0 (@pa_cons _ _ _ _ _ (@pe_ix _ _ _ _ _ _ _ ix_tupD (@pvD _ 4 _ _ (by rfl) (by first | exact Or.inl rfl | exact Or.inr (Or.inl rfl)) (by decide) (by decide)) (@pe_int _ _ _ _) (fun _ _ => rfl)) (@pa_cons _ _ _ _ _ (@pe_ix _ _ _ _ _ _ _ ix_tupD (@pvD _ 5 _ _ (by rfl) (by first | exact Or.inl rfl | exact Or.inr (Or.inl rfl)) (by decide) (by decide)) (@pe_int _ _ _ _) (fun _ _ => rfl)) (@pa_nil _) (by rfl)) (by rfl)) (by decide) (by rfl) (by rfl)) (by intro _; rfl)))))) (@pss_one _ _ _ (@ps_ret _ _ _ _ (@pe_non _ _ _))) (@pss_nil _)) (@pss_one _ _ _ (@ps_aug _ _ (3) _ _ _ _ _ _ sc_roundsof.nd rfl (Or.inl rfl) (@pe_call _ _ _ _ _ _ _ _ _ _ _ _ _ _ _ _ (ok_crossing T) (hr.mono (by decide)) (by rfl) T.crossing.m T.crossing.F.kp T.crossing.b .nil pass0 (@pa_cons _ _ _ _ _ (@pvD _ 4 _ _ (by rfl) (by first | exact Or.inl rfl | exact Or.inr (Or.inl rfl)) (by decide) (by decide)) (@pa_cons _ _ _ _ _ (@pvD _ 5 _ _ (by rfl) (by first | exact Or.inl rfl | exact Or.inr (Or.inl rfl)) (by decide) (by decide)) (@pa_cons _ _ _ _ _ (@pvD _ 6 _ _ (by rfl) (by first | exact Or.inl rfl | exact Or.inr (Or.inl rfl)) (by decide) (by decide)) (@pa_nil _) (by rfl)) (by rfl)) (by rfl)) (by decide) (by rfl) (by rfl)) ip_add (by first | exact .inl rfl | exact .inr rfl | assumption))))) (by intro _; rfl)) (@pss_one _ _ _ (@ps_ret _ _ _ _ (@pvD _ 3 _ _ (by rfl) (by first | exact Or.inl rfl | exact Or.inr (Or.inl rfl)) (by decide) (by decide)))))))), ?_⟩
    walk_at "rd"
    refine ⟨⟨_, hS⟩, fun ls hls => ?_⟩
    refine CW_list (xs := xs) (Iv_cm K (sub c) ps [some (.ref ac)] ls H) ⟨[], none, none, rfl, Same.upd hls, upd_same, RpL.nil⟩ (fun i σ H2 _ h => by obtain ⟨_, _, _, _, s2, _⟩ := h; exact s2.seq hS) ?_ ?_
    · rintro i x σ H9 hi ⟨vs, o1, o2, rfl, s9, hy, hv⟩
      obtain ⟨q1, gq, rq⟩ := place_at hR hi
      have hil := (List.getElem?_eq_some_iff.mp hi).1
      obtain ⟨aq, qx, qy, rfl, hsq, rqx, rqy⟩ := pair_iff.mp (rq.same s9)
      walk_at "rd"
      refine ⟨_, hsq, rfl, _, s9.tup hsc, _, rfl, qx, cx, _, _, _, _, rfl, rqx, rcx.same s9, fun w1 Ha sa ra => ?_⟩
      refine ⟨_, sa.tup (s9.tup hsc), _, rfl, qy, cy, _, _, _, _, rfl, rqy.same sa, (rcy.same s9).same sa, fun w2 Hb sb rb => ?_⟩
      refine ⟨by decide, fun pt hpt => ?_⟩
      have ut := Same.upd (o := .tup [w1, w2]) hpt
      have sc := (sa.trans sb).trans ut
      have hyc := sc _ _ hy
      have su : SameT (upd Hb pt (.tup [w1, w2])) (upd (upd Hb pt (.tup [w1, w2])) ls (.lst (vs ++ [.ref pt]))) := (SameT.refl _).upd (nt_lst hyc)
      have vl := cm_len hv
      refine ⟨_, hyc, small1000 (by omega), nx hil ⟨vs ++ [.ref pt], _, _, rfl, (s9.trans sc).upd2 hls, upd_same, cm_step gq ((hv.same sc).t su) ?_⟩⟩
      refine Rp.t su ?_
      exact pair_iff.mpr ⟨pt, w1, w2, rfl, SqT.of upd_same, (ra.same sb).same ut, rb.same ut⟩
    · rintro σ H9 ⟨vs, o1, o2, rfl, s9, hy, hv⟩
      rw [List.take_of_length_le (by omega)] at hv
      walk_at "rd"
      generalize hss : ps.map (sub c) = ss at hv q
      have sl : ss.length = ps.length := by rw [← hss, List.length_map]
      have vl : vs.length = ss.length := by rw [hv.length, List.length_map]
      have sb : ∀ p ∈ ss, bd 10000000 p := by
        intro p hp
        rw [← hss] at hp
        obtain ⟨p', hp', rfl⟩ := List.mem_map.mp hp
        have b1 := hbd p' hp'
        simp only [bd, sub] at *
        omega
      have hv' : RpL K H9 ((ss.map fun p => [num p.a p.b, num p.c p.d]).map D.tup) vs := by rw [List.map_map]; exact hv
      refine ⟨vs, SqL.of hy, _, hv', _, T.k_BEGINNING _, ?_, ?_⟩
      · rw [List.map_map]; exact depL_pl ss
      have ea : ((ss.map fun p => [num p.a p.b, num p.c p.d]).any fun e => deqL e [num 0 0, num 0 0]) = ss.any isog := by rw [List.any_map]; rfl
      rw [ea]
      clear hv' ea
      by_cases hog : ss.any isog = true
      · rw [if_pos hog]
        have e : rnd ss = none := by unfold rnd; rw [hog, Bool.true_or, if_pos rfl]
        rw [e] at q
        exact q _ s9
      rw [if_neg hog]
      have hog' : ss.any isog = false := by simpa using hog
      refine ⟨vs, SqL.of hy, fun l2 hl2 => ?_⟩
      have ec : cutV vs (some 1) none = vs.drop 1 := cut_from 1
      rw [ec]
      have u2 := Same.upd (o := .lst (vs.drop 1)) hl2
      have hy2 := u2 _ _ hy
      have h22 : upd H9 l2 (.lst (vs.drop 1)) l2 = some (.lst (vs.drop 1)) := upd_same
      have hv2 := hv.same u2
      have s2 := s9.trans u2
      generalize upd H9 l2 (.lst (vs.drop 1)) = G at *
      clear u2 hl2 hy hv s9 hog ec
      refine ⟨⟨vs, SqL.of hy2⟩, ⟨_, SqL.of h22⟩, ?_⟩
      have hmin : min vs.length (vs.drop 1).length = ss.length - 1 := by rw [List.length_drop, vl]; omega
      refine FW_zip (xs := vs) (ys := vs.drop 1) (Iv_rd K l ls l2 (.ref ac) vs ss G) ⟨none, none, none, ?_, Same.refl _, ?_⟩ ?_ ?_ ?_
      · obtain ⟨p, r, rfl⟩ : ∃ p r, ss = p :: r := by cases ss with | nil => simp at sl; omega | cons p r => exact ⟨p, r, rfl⟩
        rfl
      · obtain ⟨p, r, rfl⟩ : ∃ p r, ss = p :: r := by cases ss with | nil => simp at sl; omega | cons p r => exact ⟨p, r, rfl⟩
        rfl
      · rintro i σ H2 hi ⟨o1, o2, o3, rfl, s3, e3⟩
        exact ⟨SqL.of (s3 _ _ hy2), SqL.of (s3 _ _ h22)⟩
      · rintro i p x y σ H2 ex ey ⟨o1, o2, o3, rfl, s3, e3⟩ hp
        have hi : i < vs.length := (List.getElem?_eq_some_iff.mp ex).1
        have ey' : vs[i + 1]? = some y := by rw [List.getElem?_drop, Nat.add_comm] at ey; exact ey
        have hi' : i + 1 < vs.length := (List.getElem?_eq_some_iff.mp ey').1
        obtain ⟨p1, g1, rp1⟩ := place_at hv2 ex
        obtain ⟨p2, g2, rp2⟩ := place_at hv2 ey'
        have b1 := sb p1 (List.mem_of_getElem? g1)
        have b2 := sb p2 (List.mem_of_getElem? g2)
        have sm1 := bd_small b1 (by decide)
        have sm2 := bd_small b2 (by decide)
        have le := cA_le b1 b2
        obtain ⟨t2, t1⟩ := take2 g1 g2
        have s4 : Same H2 (upd H2 p (.tup [x, y])) := Same.upd hp
        have h4 : SqT K (upd H2 p (.tup [x, y])) p [x, y] := SqT.of upd_same
        have s34 := s3.trans s4
        generalize upd H2 p (.tup [x, y]) = H4 at *
        clear s4 hp s3
        have rp1' := rp1.same s34
        have rp2' := rp2.same s34
        obtain ⟨a0, x1, y1, rfl, hs1, hx1, hy1⟩ := pair_iff.mp rp1'
        obtain ⟨b0, x2, y2, rfl, hs2, hx2, hy2'⟩ := pair_iff.mp rp2'
        have eS1 : eS crE (ss.take (i + 1 + 1)) = eS crE (ss.take (i + 1)) + crE p1 p2 := by rw [t2, t1, eS_app crE (ss.take i) p1 [p2]]; simp [eS]
        have eB1 : eB onE (ss.take (i + 1 + 1)) = (eB onE (ss.take (i + 1)) || onE p1 p2) := by rw [t2, t1, eB_app onE (ss.take i) p1 [p2]]; simp [eB]
        walk_at "rd"
        refine ⟨_, h4, rfl, ?_⟩
        walk_at "rd"
        refine ⟨_, _, p1, p2, rfl, rp1', rp2', sm1, sm2, fun w3 H5 s5 rw3 => ?_⟩
        refine ⟨_, _, _, rfl, rw3, le.1, le.2, ?_⟩
        have s35 := s34.trans s5
        have cont : onE p1 p2 = false → sp_cross K [.ref a0, .ref b0, .int (sg (cA p1 p2) (cB p1 p2))] H5 (fun y H1 => ∃ x, y = .int x ∧ Iv_rd K l ls l2 (.ref ac) vs ss G (i + 1) [some (.ref l), some (.ref ac), some (.ref ls), some (.int (eS crE (ss.take (i + 1)) + x)), some (.ref a0), some (.ref b0), some (.int (sg (cA p1 p2) (cB p1 p2)))] H1) E0 := fun hf =>
          ⟨_, _, p1, p2, _, rfl, rp1'.same s5, rp2'.same s5, sm1, sm2, _, rfl, _, _, _, (by rw [eS1]; rfl), s35, by rw [eB1, e3, hf]; rfl⟩
        have stop : onE p1 p2 = true → Q .non H5 := fun hf => by
          have e : eB onE ss = true := by
            have := eB_pre onE (ss.take (i + 1 + 1)) (ss.drop (i + 1 + 1)) (by rw [eB1, hf, Bool.or_true])
            rwa [List.take_append_drop] at this
          have e' : rnd ss = none := by unfold rnd; rw [e, Bool.or_true, if_pos rfl]
          rw [e'] at q
          exact q _ (s2.trans s35)
        walk_at "rd"
        by_cases h1 : sg (cA p1 p2) (cB p1 p2) = 0
        · rw [if_pos h1]
          refine ⟨_, s5.tup hs1, _, rfl, _, s5.tup hs2, _, rfl, _, _, _, _, _, _, rfl, hx1.same s5, hx2.same s5, sm1.1, sm1.2.1, sm2.1, sm2.2.1, ?_⟩
          try dsimp only
          by_cases h2 : sg p1.a p1.b * sg p2.a p2.b ≤ 0
          · rw [if_pos (decide_eq_true h2)]
            refine ⟨_, s5.tup hs1, _, rfl, _, s5.tup hs2, _, rfl, _, _, _, _, _, _, rfl, hy1.same s5, hy2'.same s5, sm1.2.2.1, sm1.2.2.2, sm2.2.2.1, sm2.2.2.2, ?_⟩
            try dsimp only
            by_cases h3 : sg p1.c p1.d * sg p2.c p2.d ≤ 0
            · rw [if_pos (decide_eq_true h3)]
              exact stop (by unfold onE; rw [decide_eq_true h1, decide_eq_true h2, decide_eq_true h3]; rfl)
            · rw [if_neg (by rw [decide_eq_false h3]; decide)]
              exact cont (by unfold onE; rw [decide_eq_false h3, Bool.and_false, Bool.and_false])
          · rw [if_neg (by rw [decide_eq_false h2]; decide)]
            exact cont (by unfold onE; rw [decide_eq_false h2, Bool.false_and, Bool.and_false])
        · rw [if_neg h1]
          exact cont (by unfold onE; rw [decide_eq_false h1, Bool.false_and])
      · rintro σ H2 ⟨o1, o2, o3, rfl, s3, e3⟩
        walk_at "rd"
        have et : ss.take (min vs.length (vs.drop 1).length + 1) = ss := by rw [hmin, List.take_of_length_le (by omega)]
        rw [et] at e3 ⊢
        have e : rnd ss = some (eS crE ss) := by unfold rnd; rw [hog', e3, if_neg (by decide)]
        rw [e] at q
        exact q _ (s2.trans s3)
end
section
variable {P : Program} {w : World} {K : PySem.W.Frag} {mg : Str → Option Value} {base : Heap} {t : Adr}
def sp_Lspot (K : PySem.W.Frag) : Sp := fun vs H Q _ => ∃ (a : Addr) (ns : List Int) (k : Int) (lw : Addr) (xs : List V) (ps : List Pl), vs = [.ref a, .int k, .ref lw] ∧ SqL K H a (ns.map V.int) ∧ ns.length ≤ 63 ∧ 0 ≤ k ∧ k ≤ 20 ∧ SqL K H lw xs ∧ RpL K H (ps.map Pl.D) xs ∧ ps ≠ [] ∧ ps.length ≤ 1000 ∧ (∀ p ∈ ps, bd 60000 p) ∧ ∀ v (p : Pl) H', Same H H' → Rp K H' p.D v → bd 70000 p → Q v H'
theorem ok_Lspot (T : Txt K mg t) : FnOk P w K mg base CX0 3 t.a_Lspot t.d_Lspot ["_law_script", "_law_k", "_law_way_here"] (sp_Lspot K) := by
  refine T.Lspot.F.ok sc_Lspot (fun vs H Q E h => ?_) (fun cdv A outer s H vs Q E hr h => ?_)
  · obtain ⟨a, ns, k, lw, xs, ps, rfl, _⟩ := h; rfl
  · obtain ⟨a, ns, k, lw, xs, ps, rfl, hS, hl, k0, k1, hw, hR, hne, hlen, hbd, q⟩ := h
    have xl : xs.length = ps.length := by rw [hR.length, List.length_map]
    have hpos : 0 < ps.length := List.length_pos_iff.mpr hne
    refine ⟨_, (@pss_consH _ _ _ _ _ (@ps_set _ _ (3) _ _ _ _ sc_Lspot.nd rfl (Or.inl rfl) (@pe_call _ _ _ _ _ _ _ _ _ _ _ _ _ _ _ _ (ok_Lrow T) (hr.mono (by decide)) (by rfl) T.Lrow.m T.Lrow.F.kp T.Lrow.b .nil pass0 (@pa_cons _ _ _ _ _ (@pe_call _ _ _ _ _ _ _ _ _ _ _ _ _ _ _ _ (ok_Lcell T) (hr.mono (by decide)) (by rfl) T.Lcell.m T.Lcell.F.kp T.Lcell.b .nil pass0 (@pa_cons _ _ _ _ _ (@pvD _ 0 _ _ (by rfl) (by first | exact Or.inl rfl | exact Or.inr (Or.inl rfl)) (by decide) (by decide)) (@pa_cons _ _ _ _ _ (@pvD _ 1 _ _ (by rfl) (by first | exact Or.inl rfl | exact Or.inr (Or.inl rfl)) (by decide) (by decide)) (@pa_nil _) (by rfl)) (by rfl)) (by decide) (by rfl) (by rfl)) (@pa_cons _ _ _ _ _ (@pe_op _ _ _ _ _ _ _ _ op_powD (@pe_int _ _ _ _) (@pe_int _ _ _ _)) (@pa_cons _ _ _ _ _ (@pe_int _ _ _ _) (@pa_nil _) (by rfl)) (by rfl)) (by rfl)) (by decide) (by rfl) (by rfl)) (by rfl) (by first | exact .inl rfl | exact .inr rfl | assumption)) (@pss_consH _ _ _ _ _ (@ps_if _ _ _ _ _ _ _ _ (@pt_cmpRD _ _ _ _ _ _ _ _ op_eqD (@pe_op _ _ _ _ _ _ _ _ op_modD (@pe_ix _ _ _ _ _ _ _ ix_listD (@pvD _ 3 _ _ (by rfl) (by first | exact Or.inl rfl | exact Or.inr (Or.inl rfl)) (by decide) (by decide)) (@pe_int _ _ _ _) (fun _ _ => rfl)) (@pe_int _ _ _ _)) (@pe_int _ _ _ _) (nomark _)) (@pss_one _ _ _ (@ps_ret _ _ _ _ (@pe_call _ _ _ _ _ _ _ _ _ _ _ _ _ _ _ _ (ok_Lplace T) (hr.mono (by decide)) (by rfl) T.Lplace.m T.Lplace.F.kp T.Lplace.b .nil pass0 (@pa_cons _ _ _ _ _ (@pe_slice _ _ _ _ _ _ _ _ _ _ sl_listD (@pvD _ 3 _ _ (by rfl) (by first | exact Or.inl rfl | exact Or.inr (Or.inl rfl)) (by decide) (by decide)) (@po_someD _ _ _ (@pe_int _ _ _ _)) (@po_someD _ _ _ (@pe_int _ _ _ _))) (@pa_cons _ _ _ _ _ (@pe_int _ _ _ _) (@pa_nil _) (by rfl)) (by rfl)) (by decide) (by rfl) (by rfl)))) (@pss_nil _)) (@pss_consH _ _ _ _ _ (@ps_set _ _ (4) _ _ _ _ sc_Lspot.nd rfl (Or.inl rfl) (@pe_call _ _ _ _ _ _ _ _ _ _ _ _ _ _ _ _ (ok_Lmoved T) (hr.mono (by decide)) (by rfl) T.Lmoved.m T.Lmoved.F.kp T.Lmoved.b .nil pass0 (@pa_cons _ _ _ _ _ (@pe_ix _ _ _ _ _ _ _ ix_listD (@pvD _ 2 _ _ (by rfl) (by first | exact Or.inl rfl | exact Or.inr (Or.inl rfl)) (by decide) (by decide)) (@pe_op _ _ _ _ _ _ _ _ op_modD (@pe_ix _ _ _ _ _ _ _ ix_listD (@pvD _ 3 _ _ (by rfl) (by first | exact Or.inl rfl | exact Or.inr (Or.inl rfl)) (by decide) (by decide)) (@pe_int _ _ _ _) (fun _ _ => rfl)) (@pe_callB _ _ _ _ _ _ _ _ _ call_len_seqD (by rfl) T.z_len PySem.boot_len (@pa_cons _ _ _ _ _ (@pvD _ 2 _ _ (by rfl) (by first | exact Or.inl rfl | exact Or.inr (Or.inl rfl)) (by decide) (by decide)) (@pa_nil _) (by rfl)) (by decide) (by decide) (by rfl) (by rfl))) (fun _ _ => rfl)) (@pa_cons _ _ _ _ _ (@pe_op _ _ _ _ _ _ _ _ op_modD (@pe_ix _ _ _ _ _ _ _ ix_listD (@pvD _ 3 _ _ (by rfl) (by first | exact Or.inl rfl | exact Or.inr (Or.inl rfl)) (by decide) (by decide)) (@pe_int _ _ _ _) (fun _ _ => rfl)) (@pe_int _ _ _ _)) (@pa_cons _ _ _ _ _ (@pe_op _ _ _ _ _ _ _ _ op_modD (@pe_ix _ _ _ _ _ _ _ ix_listD (@pvD _ 3 _ _ (by rfl) (by first | exact Or.inl rfl | exact Or.inr (Or.inl rfl)) (by decide) (by decide)) (@pe_int _ _ _ _) (fun _ _ => rfl)) (@pe_int _ _ _ _)) (@pa_nil _) (by rfl)) (by rfl)) (by rfl)) (by decide) (by rfl) (by rfl)) (by rfl) (by first | exact .inl rfl | exact .inr rfl | assumption)) (@pss_one _ _ _ (@ps_ret _ _ _ _ (@pe_call _ _ _ _ _ _ _ _ _ _ _ _ _ _ _ _ (ok_Lmoved T) (hr.mono (by decide)) (by rfl) T.Lmoved.m T.Lmoved.F.kp T.Lmoved.b .nil pass0 (@pa_cons _ _ _ _ _ (@pvD _ 4 _ _ (by rfl) (by first | exact Or.inl rfl | exact Or.inr (Or.inl rfl)) (by decide) (by decide)) (@pa_cons _ _ _ _ _ (@pe_op _ _ _ _ _ _ _ _ op_modD (@pe_ix _ _ _ _ _ _ _ ix_listD (@pvD _ 3 _ _ (by rfl) (by first | exact Or.inl rfl | exact Or.inr (Or.inl rfl)) (by decide) (by decide)) (@pe_int _ _ _ _) (fun _ _ => rfl)) (@pe_int _ _ _ _)) (@pa_cons _ _ _ _ _ (@pe_op _ _ _ _ _ _ _ _ op_modD (@pe_ix _ _ _ _ _ _ _ ix_listD (@pvD _ 3 _ _ (by rfl) (by first | exact Or.inl rfl | exact Or.inr (Or.inl rfl)) (by decide) (by decide)) (@pe_int _ _ _ _) (fun _ _ => rfl)) (@pe_int _ _ _ _)) (@pa_nil _) (by rfl)) (by rfl)) (by rfl)) (by decide) (by rfl) (by rfl))))))), ?_⟩
    walk_at "rh"
    refine ⟨a, ns, _, rfl, hS, hl, by omega, by omega, fun z1 => ?_⟩
    walk_at "rh"
    refine ⟨⟨by decide, by decide, by decide⟩, _, _, _, rfl, by decide, by decide, by decide, by decide, fun l ys H3 s3 hl3 hL hly hb => ?_⟩
    obtain ⟨y0, y1, y2, y3, y4, y5, y6, y7, rfl⟩ : ∃ a b c d e f g h, ys = [a, b, c, d, e, f, g, h] := by
      match ys, hly with
      | [a, b, c, d, e, f, g, h], _ => exact ⟨_, _, _, _, _, _, _, _, rfl⟩
    walk_at "rh"
    refine ⟨_, SqL.of hL, _, rfl, by decide, ?_⟩
    have hw3 := s3.seq hw
    have hR3 := hR.same s3
    split
    · walk_at "rh"
      refine ⟨_, SqL.of hL, fun p7 h7 => ?_⟩
      have e7 : cutV ([y0, y1, y2, y3, y4, y5, y6, y7].map V.int) (some 1) (some 6) = [.int y1, .int y2, .int y3, .int y4, .int y5] := rfl
      rw [e7]
      have u7 := Same.upd (o := .lst [.int y1, .int y2, .int y3, .int y4, .int y5]) h7
      exact ⟨p7, y1, y2, y3, y4, y5, _, rfl, SqL.of upd_same, by decide, by decide, fun vb d H8 s8 rd bdd => q _ d _ ((s3.trans u7).trans s8) rd (bdd.mono (by decide))⟩
    · walk_at "rh"
      have n0 := Int.emod_nonneg y1 (show (xs.length : Int) ≠ 0 by omega)
      have n1 := Int.emod_lt_of_pos y1 (show (0 : Int) < xs.length by omega)
      obtain ⟨vq, pq, eq, gq, rpq⟩ := place_get (i := (y1 % (xs.length : Int)).toNat) hR3 (by omega)
      have ek : (((y1 % (xs.length : Int)).toNat : Nat) : Int) = y1 % (xs.length : Int) := by omega
      rw [ek] at eq
      have bq := hbd pq (List.mem_of_getElem? gq)
      refine ⟨_, SqL.of hL, _, rfl, _, .inl hw3, ?_⟩
      walk_at "rd"
      refine ⟨by omega, _, hw3, _, eq, _, SqL.of hL, _, rfl, ?_⟩
      walk_at "rd"
      refine ⟨by decide, _, SqL.of hL, _, rfl, ?_⟩
      walk_at "rd"
      refine ⟨by decide, _, pq, _, _, rfl, rpq, ⟨by omega, by omega⟩, ⟨by omega, by omega⟩, fun v1 H4 s4 r4 => ?_⟩
      have hL4 := s4 _ _ hL
      have b4 : bd 60003 (mv pq (y2 % 8) (y3 % 4)) := (bd_mv (m := 3) bq ⟨by omega, by omega⟩).mono (by decide)
      walk_at "rh"
      refine ⟨_, SqL.of hL4, _, rfl, ?_⟩
      walk_at "rd"
      refine ⟨by decide, _, SqL.of hL4, _, rfl, ?_⟩
      walk_at "rd"
      refine ⟨by decide, _, _, _, _, rfl, r4, ⟨by omega, by omega⟩, ⟨by omega, by omega⟩, fun v2 H5 s5 r5 => ?_⟩
      exact q _ _ _ ((s3.trans s4).trans s5) r5 ((bd_mv (m := 2) b4 ⟨by omega, by omega⟩).mono (by decide))
end
theorem root2 : ∀ (n a b : Nat), a ≤ n → 2 * (a * a) = b * b → a = 0
  | 0, a, b, h, _ => by omega
  | n + 1, a, b, h, e => by
    have hb : b % 2 = 0 := by
      rcases Nat.mod_two_eq_zero_or_one b with z | z
      · exact z
      · have h1 : (b * b) % 2 = 1 := by rw [Nat.mul_mod, z]
        omega
    obtain ⟨c, rfl⟩ : ∃ c, b = 2 * c := ⟨b / 2, by omega⟩
    have e2 : a * a = 2 * (c * c) := by
      have : 2 * c * (2 * c) = 2 * (2 * (c * c)) := by rw [Nat.mul_assoc, Nat.mul_left_comm c 2 c]
      omega
    by_cases ha : a = 0
    · exact ha
    · have hc : c ≤ n := by
        apply Classical.byContradiction
        intro hh
        have h3 : a ≤ c := by omega
        have h4 : a * a ≤ c * c := Nat.mul_le_mul h3 h3
        have h5 : 0 < a * a := Nat.mul_pos (by omega) (by omega)
        omega
      have c0 := root2 n c a hc e2.symm
      subst c0
      have : a * a = 0 := by omega
      rcases Nat.mul_eq_zero.mp this with z | z <;> exact z
theorem noroot {a b : Int} (h : 2 * a * a = b * b) : a = 0 := by
  have e : 2 * (a.natAbs * a.natAbs) = b.natAbs * b.natAbs := by
    have := congrArg Int.natAbs h
    rw [Int.natAbs_mul, Int.natAbs_mul, Int.natAbs_mul] at this
    rw [← Nat.mul_assoc]
    exact this
  have := root2 a.natAbs a.natAbs b.natAbs (Nat.le_refl _) e
  omega
theorem sign_eq (a b : Int) : sg a b = if 0 ≤ a * b then (if 0 < a + b then 1 else 0) - (if a + b < 0 then 1 else 0) else if 0 < a then (if 0 < 2 * a * a - b * b then 1 else 0) - (if 2 * a * a - b * b < 0 then 1 else 0) else (if 2 * a * a - b * b < 0 then 1 else 0) - (if 0 < 2 * a * a - b * b then 1 else 0) := by
  unfold sg sI
  by_cases h : 0 ≤ a * b
  · rw [if_pos h, if_pos h]
    by_cases h1 : 0 < a + b
    · rw [if_pos h1, if_pos h1, if_neg (by omega)]; rfl
    · rw [if_neg h1, if_neg h1]
      by_cases h2 : a + b < 0
      · rw [if_pos h2, if_pos h2]; rfl
      · rw [if_neg h2, if_neg h2]; rfl
  · rw [if_neg h, if_neg h]
    have hne : 2 * a * a ≠ b * b := fun e => by
      have := noroot e
      subst this
      simp at h
    by_cases h1 : 0 < a
    · have hb : b < 0 := by
        apply Classical.byContradiction
        intro hh
        exact h (Int.mul_nonneg (by omega) (by omega))
      rw [if_pos h1]
      by_cases h2 : b * b < 2 * a * a
      · rw [if_pos h2, if_pos h1, if_pos (show 0 < 2 * a * a - b * b by omega), if_neg (show ¬ 2 * a * a - b * b < 0 by omega)]; rfl
      · rw [if_neg h2, if_neg (show ¬ 0 < b by omega), if_pos hb, if_neg (show ¬ 0 < 2 * a * a - b * b by omega), if_pos (show 2 * a * a - b * b < 0 by omega)]; first | rfl | (rw [if_pos h1]; rfl) | (rw [if_neg h1]; rfl)
    · have ha : a < 0 := by
        apply Classical.byContradiction
        intro hh
        have : a = 0 := by omega
        subst this
        simp at h
      have hb : 0 < b := by
        apply Classical.byContradiction
        intro hh
        exact h (Int.mul_nonneg_of_nonpos_of_nonpos (by omega) (by omega))
      rw [if_neg h1]
      by_cases h2 : b * b < 2 * a * a
      · rw [if_pos h2, if_neg h1, if_pos ha, if_neg (show ¬ 2 * a * a - b * b < 0 by omega), if_pos (show 0 < 2 * a * a - b * b by omega)]; rfl
      · rw [if_neg h2, if_pos hb, if_pos (show 2 * a * a - b * b < 0 by omega), if_neg (show ¬ 0 < 2 * a * a - b * b by omega)]; first | rfl | (rw [if_pos h1]; rfl) | (rw [if_neg h1]; rfl)
theorem sI_neg (v : Int) : sI (-v) = - sI v := by
  unfold sI
  by_cases h1 : 0 < v
  · rw [if_neg (by omega), if_pos (by omega), if_pos h1]
  · by_cases h2 : v < 0
    · rw [if_pos (by omega), if_neg h1, if_pos h2]; rfl
    · rw [if_neg (by omega), if_neg (by omega), if_neg h1, if_neg h2]; rfl
theorem sg_neg (a b : Int) : sg (0 - a) (0 - b) = 0 - sg a b := by
  have e1 : (0 - a) * (0 - b) = a * b := by rw [Int.zero_sub, Int.zero_sub, Int.neg_mul_neg]
  have e2 : (0 - b) * (0 - b) = b * b := by rw [Int.zero_sub, Int.neg_mul_neg]
  have e3 : 2 * (0 - a) * (0 - a) = 2 * a * a := by rw [Int.mul_assoc, Int.zero_sub, Int.neg_mul_neg, Int.mul_assoc]
  have e4 : 0 - a + (0 - b) = -(a + b) := by omega
  unfold sg
  rw [e1, e2, e3, e4, Int.zero_sub, Int.zero_sub, sI_neg, sI_neg, sI_neg]
  by_cases h : 0 ≤ a * b
  · rw [if_pos h, if_pos h]; omega
  · rw [if_neg h, if_neg h]
    by_cases h2 : b * b < 2 * a * a
    · rw [if_pos h2, if_pos h2]; omega
    · rw [if_neg h2, if_neg h2]; omega

theorem sq_lt {m M : Int} (h0 : 0 ≤ M) (h : m * m < M * M) : -M < m ∧ m < M := by
  constructor
  · apply Classical.byContradiction
    intro hh
    have := Int.mul_le_mul (show M ≤ -m by omega) (show M ≤ -m by omega) h0 (by omega)
    rw [Int.neg_mul_neg] at this
    omega
  · apply Classical.byContradiction
    intro hh
    have := Int.mul_le_mul (show M ≤ m by omega) (show M ≤ m by omega) h0 (by omega)
    omega
theorem mul_lt4 {a b c d : Int} (h0 : 0 ≤ a) (h1 : a < b) (h2 : 0 ≤ c) (h3 : c < d) : a * c < b * d := by
  have e1 : a * c ≤ b * c := Int.mul_le_mul_of_nonneg_right (by omega) h2
  have e2 : b * c < b * d := Int.mul_lt_mul_of_pos_left h3 (by omega)
  omega
theorem sqn (a : Int) : 0 ≤ a * a := by
  rcases Int.le_total 0 a with h | h
  · exact Int.mul_nonneg h h
  · exact Int.mul_nonneg_of_nonpos_of_nonpos h h
def nm (a b : Int) : Int := 2 * a * a - b * b
def ps (a b : Int) : Prop := (0 < nm a b ∧ 0 < a) ∨ (nm a b < 0 ∧ 0 < b)
theorem nm_zero {a b : Int} (h : nm a b = 0) : a = 0 ∧ b = 0 := by
  have h' : 2 * a * a = b * b := by unfold nm at h; omega
  have ha := noroot h'
  subst ha
  have h2 : b * b = 0 := by rw [← h']; simp
  rcases Int.mul_eq_zero.mp h2 with e | e <;> exact ⟨rfl, e⟩
theorem nm_pos {a b : Int} (h : 0 < nm a b) : a ≠ 0 := by
  rintro rfl
  have := sqn b
  unfold nm at h
  simp at h
  omega
theorem nm_neg {a b : Int} (h : nm a b < 0) : b ≠ 0 := by
  rintro rfl
  have := sqn a
  unfold nm at h
  rw [Int.mul_assoc] at h
  omega
theorem lem1 {a b c d : Int} (h1 : 0 < nm a b) (ha : 0 < a) (h2 : 0 < nm c d) (hc : 0 < c) : -(2 * (a * c)) < b * d ∧ b * d < 2 * (a * c) := by
  apply sq_lt
  · have := Int.mul_pos ha hc; omega
  · unfold nm at h1 h2
    have := mul_lt4 (sqn b) (show b * b < 2 * a * a by omega) (sqn d) (show d * d < 2 * c * c by omega)
    grind
theorem lem2 {a b c d : Int} (h1 : nm a b < 0) (hb : 0 < b) (h2 : nm c d < 0) (hd : 0 < d) : -(b * d) < 2 * (a * c) ∧ 2 * (a * c) < b * d := by
  apply sq_lt
  · have := Int.mul_pos hb hd; omega
  · unfold nm at h1 h2
    have := mul_lt4 (show 0 ≤ 2 * a * a by have := sqn a; rw [Int.mul_assoc]; omega) (show 2 * a * a < b * b by omega) (show 0 ≤ 2 * c * c by have := sqn c; rw [Int.mul_assoc]; omega) (show 2 * c * c < d * d by omega)
    grind
theorem lem3 {a b c d : Int} (h1 : 0 < nm a b) (ha : 0 < a) (h2 : nm c d < 0) (hd : 0 < d) : -(a * d) < b * c ∧ b * c < a * d := by
  apply sq_lt
  · have := Int.mul_pos ha hd; omega
  · unfold nm at h1 h2
    have := mul_lt4 (sqn b) (show b * b < 2 * a * a by omega) (show 0 ≤ 2 * c * c by have := sqn c; rw [Int.mul_assoc]; omega) (show 2 * c * c < d * d by omega)
    grind
theorem nm_mul (a b c d : Int) : nm (dA a b c d) (dB a b c d) = 2 * (nm a b * nm c d) := by unfold nm dA dB; grind
theorem ps_mul {a b c d : Int} (h1 : ps a b) (h2 : ps c d) : ps (dA a b c d) (dB a b c d) := by
  unfold ps
  rw [nm_mul]
  rcases h1 with ⟨n1, p1⟩ | ⟨n1, p1⟩ <;> rcases h2 with ⟨n2, p2⟩ | ⟨n2, p2⟩
  · have := lem1 n1 p1 n2 p2
    have := Int.mul_pos n1 n2
    refine .inl ⟨by omega, ?_⟩
    unfold dA
    rw [Int.mul_assoc]; omega
  · have := lem3 n1 p1 n2 p2
    have := Int.mul_neg_of_pos_of_neg n1 n2
    refine .inr ⟨by omega, ?_⟩
    unfold dB
    omega
  · have := lem3 n2 p2 n1 p1
    have := Int.mul_neg_of_neg_of_pos n1 n2
    refine .inr ⟨by omega, ?_⟩
    unfold dB
    rw [Int.mul_comm a d, Int.mul_comm b c]
    omega
  · have := lem2 n1 p1 n2 p2
    have := Int.mul_pos_of_neg_of_neg n1 n2
    refine .inl ⟨by omega, ?_⟩
    unfold dA
    rw [Int.mul_assoc]; omega
theorem nm_add (a b c d : Int) : nm (a + c) (b + d) = nm a b + nm c d + 2 * (2 * (a * c) - b * d) := by unfold nm; grind
theorem nm_minus (a b : Int) : nm (0 - a) (0 - b) = nm a b := by unfold nm; grind
theorem add1 {a b c d : Int} (h1 : 0 < nm a b) (ha : 0 < a) (h2 : 0 < nm c d) (hc : 0 < c) : 0 < nm (a + c) (b + d) := by
  have := lem1 h1 ha h2 hc
  rw [nm_add]; omega
theorem add2' {a b c d : Int} (h1 : nm a b < 0) (hb : 0 < b) (h2 : nm c d < 0) (hd : 0 < d) : nm (a + c) (b + d) < 0 := by
  have := lem2 h1 hb h2 hd
  rw [nm_add]; omega
theorem ps_or (a b : Int) : (a = 0 ∧ b = 0) ∨ ps a b ∨ ps (0 - a) (0 - b) := by
  rcases Int.lt_trichotomy (nm a b) 0 with h | h | h
  · have := nm_neg h
    by_cases hb : 0 < b
    · exact .inr (.inl (.inr ⟨h, hb⟩))
    · exact .inr (.inr (.inr ⟨by rw [nm_minus]; exact h, by omega⟩))
  · exact .inl (nm_zero h)
  · have := nm_pos h
    by_cases ha : 0 < a
    · exact .inr (.inl (.inl ⟨h, ha⟩))
    · exact .inr (.inr (.inl ⟨by rw [nm_minus]; exact h, by omega⟩))
theorem mixed {a b c d : Int} (n1 : 0 < nm a b) (p1 : 0 < a) (n2 : nm c d < 0) (p2 : 0 < d) : ps (a + c) (b + d) := by
  rcases ps_or (a + c) (b + d) with ⟨e1, e2⟩ | h | h
  · have e3 : c = 0 - a := by omega
    have e4 : d = 0 - b := by omega
    rw [e3, e4, nm_minus] at n2
    omega
  · exact h
  · rcases h with ⟨n, p⟩ | ⟨n, p⟩
    · have := add1 n1 p1 n p
      rw [show a + (0 - (a + c)) = 0 - c by omega, show b + (0 - (b + d)) = 0 - d by omega, nm_minus] at this
      omega
    · have := add2' n2 p2 n p
      rw [show c + (0 - (a + c)) = 0 - a by omega, show d + (0 - (b + d)) = 0 - b by omega, nm_minus] at this
      omega
theorem ps_add {a b c d : Int} (h1 : ps a b) (h2 : ps c d) : ps (a + c) (b + d) := by
  rcases h1 with ⟨n1, p1⟩ | ⟨n1, p1⟩ <;> rcases h2 with ⟨n2, p2⟩ | ⟨n2, p2⟩
  · exact .inl ⟨add1 n1 p1 n2 p2, by omega⟩
  · exact mixed n1 p1 n2 p2
  · rw [Int.add_comm a c, Int.add_comm b d]; exact mixed n2 p2 n1 p1
  · exact .inr ⟨add2' n1 p1 n2 p2, by omega⟩
theorem sg_nm (a b : Int) : sg a b = if 0 < nm a b then sI a else sI b := by
  unfold sg
  by_cases h : 0 ≤ a * b
  · rw [if_pos h]
    have k1 : 0 < a → 0 ≤ b := fun ha => by
      apply Classical.byContradiction
      intro hb
      have := Int.mul_neg_of_pos_of_neg ha (show b < 0 by omega)
      omega
    have k2 : a < 0 → b ≤ 0 := fun ha => by
      apply Classical.byContradiction
      intro hb
      have := Int.mul_neg_of_neg_of_pos ha (show 0 < b by omega)
      omega
    rcases Int.lt_trichotomy (nm a b) 0 with n | n | n
    · rw [if_neg (by omega)]
      have := nm_neg n
      unfold sI
      by_cases p : 0 < b
      · rw [if_pos p, if_pos]; omega
      · rw [if_neg p, if_pos (show b < 0 by omega), if_neg (by omega), if_pos (by omega)]
    · obtain ⟨rfl, rfl⟩ := nm_zero n
      rfl
    · rw [if_pos n]
      have := nm_pos n
      unfold sI
      by_cases p : 0 < a
      · have := k1 p
        rw [if_pos p, if_pos]; omega
      · have := k2 (by omega)
        rw [if_neg p, if_pos (show a < 0 by omega), if_neg (by omega), if_pos (by omega)]
  · rw [if_neg h]
    unfold nm
    by_cases h2 : b * b < 2 * a * a
    · rw [if_pos h2, if_pos (by omega)]
    · rw [if_neg h2, if_neg (by omega)]
theorem sg_ps {a b : Int} (h : ps a b) : sg a b = 1 := by
  rw [sg_nm]
  rcases h with ⟨n, p⟩ | ⟨n, p⟩
  · rw [if_pos n]; unfold sI; rw [if_pos p]
  · rw [if_neg (by omega)]; unfold sI; rw [if_pos p]
theorem sg_ng {a b : Int} (h : ps (0 - a) (0 - b)) : sg a b = -1 := by
  have := sg_neg a b
  rw [sg_ps h] at this
  omega
theorem sg_00 : sg 0 0 = 0 := rfl
theorem ps_of1 {a b : Int} (h : sg a b = 1) : ps a b := by
  rcases ps_or a b with ⟨rfl, rfl⟩ | h' | h'
  · rw [sg_00] at h; cases h
  · exact h'
  · rw [sg_ng h'] at h; cases h
theorem ng_of1 {a b : Int} (h : sg a b = -1) : ps (0 - a) (0 - b) := by
  rcases ps_or a b with ⟨rfl, rfl⟩ | h' | h'
  · rw [sg_00] at h; cases h
  · rw [sg_ps h'] at h; cases h
  · exact h'
theorem zero_of {a b : Int} (h : sg a b = 0) : a = 0 ∧ b = 0 := by
  rcases ps_or a b with h' | h' | h'
  · exact h'
  · rw [sg_ps h'] at h; cases h
  · rw [sg_ng h'] at h; cases h
theorem sg3 (a b : Int) : sg a b = -1 ∨ sg a b = 0 ∨ sg a b = 1 := by have := sg_bd a b; omega
theorem sg_mul (a b c d : Int) : sg (dA a b c d) (dB a b c d) = sg a b * sg c d := by
  have nA : ∀ a b c d : Int, dA (0 - a) (0 - b) c d = 0 - dA a b c d := fun a b c d => by unfold dA; grind
  have nB : ∀ a b c d : Int, dB (0 - a) (0 - b) c d = 0 - dB a b c d := fun a b c d => by unfold dB; grind
  have mA : ∀ a b c d : Int, dA a b (0 - c) (0 - d) = 0 - dA a b c d := fun a b c d => by unfold dA; grind
  have mB : ∀ a b c d : Int, dB a b (0 - c) (0 - d) = 0 - dB a b c d := fun a b c d => by unfold dB; grind
  rcases sg3 a b with h1 | h1 | h1 <;> rcases sg3 c d with h2 | h2 | h2
  · have := ps_mul (ng_of1 h1) (ng_of1 h2)
    rw [nA, nB, mA, mB] at this
    rw [h1, h2, sg_ps (by simpa using this)]; rfl
  · obtain ⟨rfl, rfl⟩ := zero_of h2
    rw [h1, h2]
    simp [dA, dB, sg_00]
  · have := ps_mul (ng_of1 h1) (ps_of1 h2)
    rw [nA, nB] at this
    rw [h1, h2, sg_ng this]; rfl
  · obtain ⟨rfl, rfl⟩ := zero_of h1
    rw [h1, h2]
    simp [dA, dB, sg_00]
  · obtain ⟨rfl, rfl⟩ := zero_of h1
    rw [h1, h2]
    simp [dA, dB, sg_00]
  · obtain ⟨rfl, rfl⟩ := zero_of h1
    rw [h1, h2]
    simp [dA, dB, sg_00]
  · have := ps_mul (ps_of1 h1) (ng_of1 h2)
    rw [mA, mB] at this
    rw [h1, h2, sg_ng this]; rfl
  · obtain ⟨rfl, rfl⟩ := zero_of h2
    rw [h1, h2]
    simp [dA, dB, sg_00]
  · rw [h1, h2, sg_ps (ps_mul (ps_of1 h1) (ps_of1 h2))]; rfl
theorem sg_sub (a b c d : Int) : (sg c d < sg a b → sg (a - c) (b - d) = 1) ∧ (sg a b < sg c d → sg (a - c) (b - d) = -1) ∧ (sg a b = 0 → sg c d = 0 → sg (a - c) (b - d) = 0) := by
  rcases sg3 a b with h1 | h1 | h1 <;> rcases sg3 c d with h2 | h2 | h2 <;> rw [h1, h2]
  · refine ⟨by omega, by omega, by omega⟩
  · obtain ⟨rfl, rfl⟩ := zero_of h2
    refine ⟨by omega, fun _ => ?_, by omega⟩
    rw [Int.sub_zero, Int.sub_zero]; exact h1
  · refine ⟨by omega, fun _ => sg_ng ?_, by omega⟩
    have := ps_add (ng_of1 h1) (ps_of1 h2)
    rw [show 0 - (a - c) = 0 - a + c by omega, show 0 - (b - d) = 0 - b + d by omega]; exact this
  · obtain ⟨rfl, rfl⟩ := zero_of h1
    refine ⟨fun _ => sg_ps (ng_of1 h2), by omega, by omega⟩
  · obtain ⟨rfl, rfl⟩ := zero_of h1
    obtain ⟨rfl, rfl⟩ := zero_of h2
    refine ⟨by omega, by omega, fun _ _ => rfl⟩
  · obtain ⟨rfl, rfl⟩ := zero_of h1
    refine ⟨by omega, fun _ => sg_ng ?_, by omega⟩
    rw [show 0 - (0 - c) = c by omega, show 0 - (0 - d) = d by omega]; exact ps_of1 h2
  · refine ⟨fun _ => sg_ps ?_, by omega, by omega⟩
    have := ps_add (ps_of1 h1) (ng_of1 h2)
    rw [show a - c = a + (0 - c) by omega, show b - d = b + (0 - d) by omega]; exact this
  · obtain ⟨rfl, rfl⟩ := zero_of h2
    refine ⟨fun _ => ?_, by omega, by omega⟩
    rw [Int.sub_zero, Int.sub_zero]; exact h1
  · refine ⟨by omega, by omega, by omega⟩

def qr (x y : Int) : Int := if 0 < x ∧ 0 ≤ y then 0 else if x ≤ 0 ∧ 0 < y then 1 else if x < 0 ∧ y ≤ 0 then 2 else if 0 ≤ x ∧ y < 0 then 3 else 4
def tnq (h t s : Int) : Option Int := if h = 4 ∨ t = 4 then none else if (t - h) % 4 = 2 ∧ s = 0 then none else if (t - h) % 4 = 3 ∨ ((t - h) % 4 = 2 ∧ s < 0) then some ((t - h) % 4 - 4) else some ((t - h) % 4)
def fq (x y : Int) : Int := if 0 < x ∧ y = 0 then 4 else qr x y
def crq (y1 y2 s : Int) : Int := if decide (y1 ≤ 0) = decide (y2 ≤ 0) then 0 else if y1 ≤ 0 then (if 0 < s then 1 else 0) else if s < 0 then -1 else 0
theorem sky : ∀ x1 ∈ [(-1 : Int), 0, 1], ∀ y1 ∈ [(-1 : Int), 0, 1], ∀ x2 ∈ [(-1 : Int), 0, 1], ∀ y2 ∈ [(-1 : Int), 0, 1], ∀ s ∈ [(-1 : Int), 0, 1],
    ¬ (x1 = 0 ∧ y1 = 0) → ¬ (x2 = 0 ∧ y2 = 0) → (x2 * y1 < x1 * y2 → s = 1) → (x1 * y2 < x2 * y1 → s = -1) → (x1 * y2 = 0 → x2 * y1 = 0 → s = 0) →
    tnq (qr x1 y1) (qr x2 y2) s = if s = 0 ∧ x1 * x2 ≤ 0 ∧ y1 * y2 ≤ 0 then none else some (fq x2 y2 - fq x1 y1 + 4 * crq y1 y2 s) := by decide +kernel
theorem in3 {x : Int} (h : x = -1 ∨ x = 0 ∨ x = 1) : x ∈ [(-1 : Int), 0, 1] := by rcases h with rfl | rfl | rfl <;> simp
theorem isog_iff (p : Pl) : isog p = true ↔ (p.a = 0 ∧ p.b = 0) ∧ p.c = 0 ∧ p.d = 0 := by
  unfold isog
  simp [deqL, deq, num]
theorem og_sg {p : Pl} (h : isog p = false) : ¬ (sg p.a p.b = 0 ∧ sg p.c p.d = 0) := fun ⟨h1, h2⟩ => by
  have := (isog_iff p).mpr ⟨zero_of h1, zero_of h2⟩
  rw [h] at this; cases this
def fp (p : Pl) : Int := fq (sg p.a p.b) (sg p.c p.d)
def qp (p : Pl) : Int := qr (sg p.a p.b) (sg p.c p.d)
def tn (p q : Pl) : Option Int := tnq (qp p) (qp q) (sg (cA p q) (cB p q))
theorem tn_eq {p q : Pl} (hp : isog p = false) (hq : isog q = false) : tn p q = if onE p q = true then none else some (fp q - fp p + 4 * crE p q) := by
  have hs := sg_sub (dA p.a p.b q.c q.d) (dB p.a p.b q.c q.d) (dA q.a q.b p.c p.d) (dB q.a q.b p.c p.d)
  rw [sg_mul, sg_mul] at hs
  have := sky _ (in3 (sg3 p.a p.b)) _ (in3 (sg3 p.c p.d)) _ (in3 (sg3 q.a q.b)) _ (in3 (sg3 q.c q.d)) _ (in3 (sg3 (cA p q) (cB p q))) (og_sg hp) (og_sg hq) hs.1 hs.2.1 hs.2.2
  unfold tn qp
  rw [this]
  by_cases h : sg (cA p q) (cB p q) = 0 ∧ sg p.a p.b * sg q.a q.b ≤ 0 ∧ sg p.c p.d * sg q.c q.d ≤ 0
  · rw [if_pos h, if_pos]
    unfold onE
    rw [decide_eq_true h.1, decide_eq_true h.2.1, decide_eq_true h.2.2]; rfl
  · rw [if_neg h, if_neg]
    · rfl
    · intro h'
      apply h
      unfold onE at h'
      rw [Bool.and_eq_true, Bool.and_eq_true] at h'
      exact ⟨of_decide_eq_true h'.1, of_decide_eq_true h'.2.1, of_decide_eq_true h'.2.2⟩
theorem qp_og {p : Pl} (h : isog p = true) : qp p = 4 := by
  obtain ⟨⟨h1, h2⟩, h3, h4⟩ := (isog_iff p).mp h
  unfold qp
  rw [h1, h2, h3, h4]; rfl
theorem tn_og {p q : Pl} (h : isog q = true) : tn p q = none := by
  unfold tn tnq
  rw [qp_og h, if_pos (.inr rfl)]
def sumO : Option Int → Option Int → Option Int
  | some i, some j => some (i + j)
  | _, _ => none
theorem sumO_none (x : Option Int) : sumO none x = none := by cases x <;> rfl
def lR : List Pl → Option Int
  | p :: q :: r => sumO (tn p q) (lR (q :: r))
  | _ => some 0
theorem lR_eq : ∀ (r : List Pl) (p : Pl), isog p = false → lR (p :: r) = if (r.any isog || eB onE (p :: r)) = true then none else some (fp ((p :: r).getLast (by simp)) - fp p + 4 * eS crE (p :: r))
  | [], p, hp => by
    simp [lR, eB, eS]
    try omega
  | q :: r, p, hp => by
    rw [lR, List.any_cons, eB, eS]
    by_cases hq : isog q = true
    · rw [tn_og hq, hq, Bool.true_or, Bool.true_or, if_pos rfl]; rfl
    · have hq' : isog q = false := by simpa using hq
      rw [tn_eq hp hq', lR_eq r q hq', hq']
      cases h1 : onE p q
      · cases h2 : (r.any isog || eB onE (q :: r))
        · rw [if_neg (by decide), if_neg (by decide), if_neg (by rw [Bool.false_or, Bool.false_or, h2]; decide)]
          show some _ = some _
          have e : (p :: q :: r).getLast (by simp) = (q :: r).getLast (by simp) := List.getLast_cons (by simp)
          rw [e]
          congr 1
          omega
        · rw [if_neg (by decide), if_pos rfl, if_pos (by rw [Bool.false_or, Bool.false_or, h2])]; rfl
      · have e : (false || r.any isog || (true || eB onE (q :: r))) = true := by cases r.any isog <;> rfl
        conv => rhs; rw [if_pos e]
        rw [if_pos rfl, sumO_none]
def dueOf (ss : List Pl) : Option Int := if (ss.head?.any isog) = true then none else (lR ss).map (· / 4)
theorem due_eq (p : Pl) (r : List Pl) : dueOf (p :: r ++ [p]) = rnd (p :: r ++ [p]) := by
  unfold dueOf rnd
  show (if isog p = true then _ else _) = _
  by_cases hp : isog p = true
  · rw [if_pos hp, if_pos (by rw [List.cons_append, List.any_cons, hp]; simp)]
  · have hp' : isog p = false := by simpa using hp
    rw [if_neg hp]
    show (lR (p :: (r ++ [p]))).map _ = if ((p :: (r ++ [p])).any isog || eB onE (p :: (r ++ [p]))) = true then none else some (eS crE (p :: (r ++ [p])))
    rw [lR_eq _ _ hp', List.any_cons, hp', Bool.false_or]
    by_cases h : ((r ++ [p]).any isog || eB onE (p :: (r ++ [p]))) = true
    · rw [if_pos h, if_pos h]; rfl
    · rw [if_neg h, if_neg h]
      show some _ = some _
      congr 1
      have e : (p :: (r ++ [p])).getLast (by simp) = p := List.getLast_concat (l := p :: r)
      rw [e]
      dsimp only
      omega
theorem crq_swap (y1 y2 s : Int) : crq y2 y1 (0 - s) = 0 - crq y1 y2 s := by
  unfold crq
  by_cases h1 : y1 ≤ 0 <;> by_cases h2 : y2 ≤ 0 <;> simp [h1, h2] <;> (try (by_cases h3 : 0 < s <;> by_cases h4 : s < 0 <;> simp [h3, h4]))
theorem crE_swap (p q : Pl) : crE q p = 0 - crE p q := by
  have e : crE q p = crq (sg q.c q.d) (sg p.c p.d) (sg (cA q p) (cB q p)) := rfl
  rw [e, cA_swap, cB_swap, sg_neg, crq_swap]; rfl
theorem onE_swap (p q : Pl) : onE q p = onE p q := by
  unfold onE
  rw [cA_swap, cB_swap, sg_neg, Int.mul_comm (sg q.a q.b), Int.mul_comm (sg q.c q.d)]
  congr 1
  by_cases h : sg (cA p q) (cB p q) = 0
  · rw [h]; rfl
  · rw [decide_eq_false h, decide_eq_false (by omega)]
theorem eS_rev : ∀ ps : List Pl, eS crE ps.reverse = 0 - eS crE ps
  | [] => by simp [eS]
  | [p] => by simp [eS]
  | p :: q :: r => by
    have ih := eS_rev (q :: r)
    rw [List.reverse_cons, List.reverse_cons, List.append_assoc]
    rw [List.reverse_cons] at ih
    show eS crE (r.reverse ++ q :: [p]) = _
    rw [eS_app, ih]
    simp only [eS]
    rw [crE_swap]; omega
theorem eB_rev : ∀ ps : List Pl, eB onE ps.reverse = eB onE ps
  | [] => by simp [eB]
  | [p] => by simp [eB]
  | p :: q :: r => by
    have ih := eB_rev (q :: r)
    rw [List.reverse_cons, List.reverse_cons, List.append_assoc]
    rw [List.reverse_cons] at ih
    show eB onE (r.reverse ++ q :: [p]) = _
    rw [eB_app, ih]
    simp only [eB]
    rw [onE_swap, Bool.or_false, Bool.or_comm]
def negO : Option Int → Option Int
  | some i => some (0 - i)
  | none => none
theorem rnd_rev (ss : List Pl) : rnd ss.reverse = negO (rnd ss) := by
  unfold rnd
  rw [eS_rev, eB_rev, List.any_reverse]
  split <;> rfl
theorem eS_far : ∀ ps : List Pl, (∀ p ∈ ps, sg p.a p.b = -1) → eS crE ps = 0 ∧ eB onE ps = false
  | [], _ => ⟨rfl, rfl⟩
  | [p], _ => ⟨rfl, rfl⟩
  | p :: q :: r, h => by
    have ih := eS_far (q :: r) fun x hx => h x (List.mem_cons_of_mem _ hx)
    have hp := h p (by simp)
    have hq := h q (by simp)
    have hs := sg_sub (dA p.a p.b q.c q.d) (dB p.a p.b q.c q.d) (dA q.a q.b p.c p.d) (dB q.a q.b p.c p.d)
    rw [sg_mul, sg_mul, hp, hq] at hs
    have hs' : (-1 * sg p.c p.d < -1 * sg q.c q.d → sg (cA p q) (cB p q) = 1) ∧ (-1 * sg q.c q.d < -1 * sg p.c p.d → sg (cA p q) (cB p q) = -1) := ⟨hs.1, hs.2.1⟩
    have b1 := sg3 p.c p.d
    have b2 := sg3 q.c q.d
    simp only [eS, eB]
    rw [ih.1, ih.2]
    constructor
    · have : crE p q = 0 := by
        show crq (sg p.c p.d) (sg q.c q.d) (sg (cA p q) (cB p q)) = 0
        unfold crq
        by_cases h1 : sg p.c p.d ≤ 0 <;> by_cases h2 : sg q.c q.d ≤ 0
        · simp [h1, h2]
        · have := hs'.2 (by omega)
          rw [this]; simp [h1, h2]
        · have := hs'.1 (by omega)
          rw [this]; simp [h1, h2]
        · simp [h1, h2]
      rw [this]; rfl
    · unfold onE
      rw [hp, hq]
      simp
theorem rnd_far {ps : List Pl} (h : ∀ p ∈ ps, sg p.a p.b = -1) : rnd ps = some 0 := by
  unfold rnd
  obtain ⟨h1, h2⟩ := eS_far ps h
  rw [h1, h2, if_neg]
  rw [Bool.or_false, Bool.not_eq_true, List.any_eq_false]
  intro p hp hog
  obtain ⟨⟨e1, e2⟩, _⟩ := (isog_iff p).mp hog
  have := h p hp
  rw [e1, e2] at this
  cases this
theorem sg_far {a b : Int} (ha : a ≤ -980000) (hb : -20000 ≤ b ∧ b ≤ 20000) : sg a b = -1 := by
  have e1 : b * b ≤ 20000 * 20000 := (mul_bd (n := 20000) (m := 20000) (by omega) (by omega)).2
  have e2 := Int.mul_le_mul (show (980000 : Int) ≤ -a by omega) (show (980000 : Int) ≤ -a by omega) (by decide) (by omega)
  rw [Int.neg_mul_neg] at e2
  rw [sg_nm, if_pos]
  · unfold sI; rw [if_neg (by omega), if_pos (by omega)]
  · unfold nm; rw [Int.mul_assoc]; omega

theorem side_eq (p q s : Pl) : dA (q.a - p.a) (q.b - p.b) (s.c - p.c) (s.d - p.d) - dA (s.a - p.a) (s.b - p.b) (q.c - p.c) (q.d - p.d) = cA (sub s p) (sub s q) ∧ dB (q.a - p.a) (q.b - p.b) (s.c - p.c) (s.d - p.d) - dB (s.a - p.a) (s.b - p.b) (q.c - p.c) (q.d - p.d) = cB (sub s p) (sub s q) := by
  simp only [cA, cB, dA, dB, sub]
  constructor <;> grind
theorem bd_sub {p s : Pl} (hp : bd 2000000 p) (hs : bd 2000000 s) : bd 10000000 (sub s p) := by
  simp only [bd, sub] at *; omega
section
variable {P : Program} {w : World} {K : PySem.W.Frag} {mg : Str → Option Value} {base : Heap} {t : Adr}

theorem ok_Lsign (T : Txt K mg t) : FnOk P w K mg base CX0 1 t.a_Lsign t.d_Lsign ["_law_number"] (sp_sg K) := by
  refine T.Lsign.F.ok sc_Lsign (fun vs H Q E h => ?_) (fun cdv A outer s H vs Q E hr h => ?_)
  · obtain ⟨x, a, b, rfl, _⟩ := h; rfl
  · obtain ⟨x, a, b, rfl, hx, ha, hb, k⟩ := h
    obtain ⟨p, rfl, hp⟩ := num_iff.mp hx
    have mb : ∀ z, IntMulOk z b := fun z => mulOk_r (by have := hb.1; omega) (by have := hb.2; omega)
    have ma : ∀ z, IntMulOk z a := fun z => mulOk_r (by have := ha.1; omega) (by have := ha.2; omega)
    have m2 : ∀ z, IntMulOk 2 z := fun z => mulOk_l (by decide) (by decide)
    refine ⟨_, (@pss_cons _ _ _ _ _ (@ps_asg _ _ _ _ _ _ (@pvD _ 0 _ _ (by rfl) (by first | exact Or.inl rfl | exact Or.inr (Or.inl rfl)) (by decide) (by decide)) (@pg_tupD _ _ _ _ _ _ rfl (@pgs_consD _ _ _ _ _ (@pg_name _ _ (1) _ sc_Lsign.nd rfl (Or.inl rfl) (by first | exact .inl rfl | exact .inr rfl | assumption)) (@pgs_consD _ _ _ _ _ (@pg_name _ _ (2) _ sc_Lsign.nd rfl (Or.inl rfl) (by first | exact .inl rfl | exact .inr rfl | assumption)) (@pgs_nilD _) (by rfl)) (by rfl)) (by rfl) (by rfl)) (by rfl) (by rfl) (by rfl)) (@pss_cons _ _ _ _ _ (@ps_if _ _ _ _ _ _ _ _ (@pt_cmpRD _ _ _ _ _ _ _ _ op_geD (@pe_op _ _ _ _ _ _ _ _ op_mulWD (@pvD _ 1 _ _ (by rfl) (by first | exact Or.inl rfl | exact Or.inr (Or.inl rfl)) (by decide) (by decide)) (@pvD _ 2 _ _ (by rfl) (by first | exact Or.inl rfl | exact Or.inr (Or.inl rfl)) (by decide) (by decide))) (@pe_int _ _ _ _) (nomark _)) (@pss_one _ _ _ (@ps_ret _ _ _ _ (@pe_op _ _ _ _ _ _ _ _ op_subD (@pe_callTy _ _ _ _ _ _ _ _ _ call_int1 (by rfl) T.z_int boot_int (@pa_cons _ _ _ _ _ (@pe_cmpR _ _ _ _ _ _ _ _ op_gtD (@pe_op _ _ _ _ _ _ _ _ op_addD (@pvD _ 1 _ _ (by rfl) (by first | exact Or.inl rfl | exact Or.inr (Or.inl rfl)) (by decide) (by decide)) (@pvD _ 2 _ _ (by rfl) (by first | exact Or.inl rfl | exact Or.inr (Or.inl rfl)) (by decide) (by decide))) (@pe_int _ _ _ _) (nomark _)) (@pa_nil _) (by rfl)) (by decide) (by decide) (by rfl) (by rfl)) (@pe_callTy _ _ _ _ _ _ _ _ _ call_int1 (by rfl) T.z_int boot_int (@pa_cons _ _ _ _ _ (@pe_cmpR _ _ _ _ _ _ _ _ op_ltD (@pe_op _ _ _ _ _ _ _ _ op_addD (@pvD _ 1 _ _ (by rfl) (by first | exact Or.inl rfl | exact Or.inr (Or.inl rfl)) (by decide) (by decide)) (@pvD _ 2 _ _ (by rfl) (by first | exact Or.inl rfl | exact Or.inr (Or.inl rfl)) (by decide) (by decide))) (@pe_int _ _ _ _) (nomark _)) (@pa_nil _) (by rfl)) (by decide) (by decide) (by rfl) (by rfl))))) (@pss_nil _)) (@pss_cons _ _ _ _ _ (@ps_set _ _ (3) _ _ _ _ sc_Lsign.nd rfl (Or.inl rfl) (@pe_op _ _ _ _ _ _ _ _ op_subD (@pe_op _ _ _ _ _ _ _ _ op_mulWD (@pe_op _ _ _ _ _ _ _ _ op_mulWD (@pe_int _ _ _ _) (@pvD _ 1 _ _ (by rfl) (by first | exact Or.inl rfl | exact Or.inr (Or.inl rfl)) (by decide) (by decide))) (@pvD _ 1 _ _ (by rfl) (by first | exact Or.inl rfl | exact Or.inr (Or.inl rfl)) (by decide) (by decide))) (@pe_op _ _ _ _ _ _ _ _ op_mulWD (@pvD _ 2 _ _ (by rfl) (by first | exact Or.inl rfl | exact Or.inr (Or.inl rfl)) (by decide) (by decide)) (@pvD _ 2 _ _ (by rfl) (by first | exact Or.inl rfl | exact Or.inr (Or.inl rfl)) (by decide) (by decide)))) (by rfl) (by first | exact .inl rfl | exact .inr rfl | assumption)) (@pss_cons _ _ _ _ _ (@ps_if _ _ _ _ _ _ _ _ (@pt_cmpRD _ _ _ _ _ _ _ _ op_gtD (@pvD _ 1 _ _ (by rfl) (by first | exact Or.inl rfl | exact Or.inr (Or.inl rfl)) (by decide) (by decide)) (@pe_int _ _ _ _) (nomark _)) (@pss_one _ _ _ (@ps_ret _ _ _ _ (@pe_op _ _ _ _ _ _ _ _ op_subD (@pe_callTy _ _ _ _ _ _ _ _ _ call_int1 (by rfl) T.z_int boot_int (@pa_cons _ _ _ _ _ (@pe_cmpR _ _ _ _ _ _ _ _ op_gtD (@pvD _ 3 _ _ (by rfl) (by first | exact Or.inl rfl | exact Or.inr (Or.inl rfl)) (by decide) (by decide)) (@pe_int _ _ _ _) (nomark _)) (@pa_nil _) (by rfl)) (by decide) (by decide) (by rfl) (by rfl)) (@pe_callTy _ _ _ _ _ _ _ _ _ call_int1 (by rfl) T.z_int boot_int (@pa_cons _ _ _ _ _ (@pe_cmpR _ _ _ _ _ _ _ _ op_ltD (@pvD _ 3 _ _ (by rfl) (by first | exact Or.inl rfl | exact Or.inr (Or.inl rfl)) (by decide) (by decide)) (@pe_int _ _ _ _) (nomark _)) (@pa_nil _) (by rfl)) (by decide) (by decide) (by rfl) (by rfl))))) (@pss_nil _)) (@pss_one _ _ _ (@ps_ret _ _ _ _ (@pe_op _ _ _ _ _ _ _ _ op_subD (@pe_callTy _ _ _ _ _ _ _ _ _ call_int1 (by rfl) T.z_int boot_int (@pa_cons _ _ _ _ _ (@pe_cmpR _ _ _ _ _ _ _ _ op_ltD (@pvD _ 3 _ _ (by rfl) (by first | exact Or.inl rfl | exact Or.inr (Or.inl rfl)) (by decide) (by decide)) (@pe_int _ _ _ _) (nomark _)) (@pa_nil _) (by rfl)) (by decide) (by decide) (by rfl) (by rfl)) (@pe_callTy _ _ _ _ _ _ _ _ _ call_int1 (by rfl) T.z_int boot_int (@pa_cons _ _ _ _ _ (@pe_cmpR _ _ _ _ _ _ _ _ op_gtD (@pvD _ 3 _ _ (by rfl) (by first | exact Or.inl rfl | exact Or.inr (Or.inl rfl)) (by decide) (by decide)) (@pe_int _ _ _ _) (nomark _)) (@pa_nil _) (by rfl)) (by decide) (by decide) (by rfl) (by rfl))))))))), ?_⟩
    walk_at "rd"
    refine ⟨_, hp, rfl, ?_⟩
    walk_at "rd"
    rw [sign_eq] at k
    refine ⟨mb _, ?_⟩
    split
    · rename_i c; rw [if_pos c] at k; exact k
    · rename_i c
      rw [if_neg c] at k
      refine ⟨m2 _, ma _, mb _, ?_⟩
      split
      · rename_i d; rw [if_pos d] at k; exact k
      · rename_i d; rw [if_neg d] at k; exact k
def sp_Lside (K : PySem.W.Frag) : Sp := fun vs H Q _ => ∃ (x y z : V) (p q s : Pl), vs = [x, y, z] ∧ Rp K H p.D x ∧ Rp K H q.D y ∧ Rp K H s.D z ∧ bd 2000000 p ∧ bd 2000000 q ∧ bd 2000000 s ∧ ∀ H', Same H H' → Q (.int (sg (cA (sub s p) (sub s q)) (cB (sub s p) (sub s q)))) H'
theorem ok_Lside (T : Txt K mg t) : FnOk P w K mg base CX0 2 t.a_Lside t.d_Lside ["_law_one", "_law_other", "_law_spot_here"] (sp_Lside K) := by
  refine T.Lside.F.ok sc_Lside (fun vs H Q E h => ?_) (fun cdv A outer s H vs Q E hr h => ?_)
  · obtain ⟨x, y, z, p, q, s, rfl, _⟩ := h; rfl
  · obtain ⟨x, y, z, p, q, s, rfl, rp, rq, rs, bp, bq, bs, k⟩ := h
    obtain ⟨a1, x1, y1, rfl, h1, rx1, ry1⟩ := pair_iff.mp rp
    obtain ⟨a2, x2, y2, rfl, h2, rx2, ry2⟩ := pair_iff.mp rq
    obtain ⟨a3, x3, y3, rfl, h3, rx3, ry3⟩ := pair_iff.mp rs
    obtain ⟨e1, e2⟩ := side_eq p q s
    have le := cA_le (bd_sub bp bs) (bd_sub bq bs)
    rw [← e1, ← e2] at k le
    obtain ⟨⟨pa, pa'⟩, ⟨pb, pb'⟩, ⟨pc, pc'⟩, pd, pd'⟩ := bp
    obtain ⟨⟨qa, qa'⟩, ⟨qb, qb'⟩, ⟨qc, qc'⟩, qd, qd'⟩ := bq
    obtain ⟨⟨sa, sa'⟩, ⟨sb, sb'⟩, ⟨sc, sc'⟩, sd, sd'⟩ := bs
    refine ⟨_, (@pss_cons _ _ _ _ _ (@ps_set _ _ (3) _ _ _ _ sc_Lside.nd rfl (Or.inl rfl) (@pe_call _ _ _ _ _ _ _ _ _ _ _ _ _ _ _ _ (ok_Ldouble T) (hr.mono (by decide)) (by rfl) T.Ldouble.m T.Ldouble.F.kp T.Ldouble.b .nil pass0 (@pa_cons _ _ _ _ _ (@pe_call _ _ _ _ _ _ _ _ _ _ _ _ _ _ _ _ (ok_Lminus T) (hr.mono (by decide)) (by rfl) T.Lminus.m T.Lminus.F.kp T.Lminus.b .nil pass0 (@pa_cons _ _ _ _ _ (@pe_ix _ _ _ _ _ _ _ ix_tupD (@pvD _ 1 _ _ (by rfl) (by first | exact Or.inl rfl | exact Or.inr (Or.inl rfl)) (by decide) (by decide)) (@pe_int _ _ _ _) (fun _ _ => rfl)) (@pa_cons _ _ _ _ _ (@pe_ix _ _ _ _ _ _ _ ix_tupD (@pvD _ 0 _ _ (by rfl) (by first | exact Or.inl rfl | exact Or.inr (Or.inl rfl)) (by decide) (by decide)) (@pe_int _ _ _ _) (fun _ _ => rfl)) (@pa_nil _) (by rfl)) (by rfl)) (by decide) (by rfl) (by rfl)) (@pa_cons _ _ _ _ _ (@pe_call _ _ _ _ _ _ _ _ _ _ _ _ _ _ _ _ (ok_Lminus T) (hr.mono (by decide)) (by rfl) T.Lminus.m T.Lminus.F.kp T.Lminus.b .nil pass0 (@pa_cons _ _ _ _ _ (@pe_ix _ _ _ _ _ _ _ ix_tupD (@pvD _ 2 _ _ (by rfl) (by first | exact Or.inl rfl | exact Or.inr (Or.inl rfl)) (by decide) (by decide)) (@pe_int _ _ _ _) (fun _ _ => rfl)) (@pa_cons _ _ _ _ _ (@pe_ix _ _ _ _ _ _ _ ix_tupD (@pvD _ 0 _ _ (by rfl) (by first | exact Or.inl rfl | exact Or.inr (Or.inl rfl)) (by decide) (by decide)) (@pe_int _ _ _ _) (fun _ _ => rfl)) (@pa_nil _) (by rfl)) (by rfl)) (by decide) (by rfl) (by rfl)) (@pa_nil _) (by rfl)) (by rfl)) (by decide) (by rfl) (by rfl)) (by rfl) (by first | exact .inl rfl | exact .inr rfl | assumption)) (@pss_one _ _ _ (@ps_ret _ _ _ _ (@pe_call _ _ _ _ _ _ _ _ _ _ _ _ _ _ _ _ (ok_Lsign T) (hr.mono (by decide)) (by rfl) T.Lsign.m T.Lsign.F.kp T.Lsign.b .nil pass0 (@pa_cons _ _ _ _ _ (@pe_call _ _ _ _ _ _ _ _ _ _ _ _ _ _ _ _ (ok_Lminus T) (hr.mono (by decide)) (by rfl) T.Lminus.m T.Lminus.F.kp T.Lminus.b .nil pass0 (@pa_cons _ _ _ _ _ (@pvD _ 3 _ _ (by rfl) (by first | exact Or.inl rfl | exact Or.inr (Or.inl rfl)) (by decide) (by decide)) (@pa_cons _ _ _ _ _ (@pe_call _ _ _ _ _ _ _ _ _ _ _ _ _ _ _ _ (ok_Ldouble T) (hr.mono (by decide)) (by rfl) T.Ldouble.m T.Ldouble.F.kp T.Ldouble.b .nil pass0 (@pa_cons _ _ _ _ _ (@pe_call _ _ _ _ _ _ _ _ _ _ _ _ _ _ _ _ (ok_Lminus T) (hr.mono (by decide)) (by rfl) T.Lminus.m T.Lminus.F.kp T.Lminus.b .nil pass0 (@pa_cons _ _ _ _ _ (@pe_ix _ _ _ _ _ _ _ ix_tupD (@pvD _ 2 _ _ (by rfl) (by first | exact Or.inl rfl | exact Or.inr (Or.inl rfl)) (by decide) (by decide)) (@pe_int _ _ _ _) (fun _ _ => rfl)) (@pa_cons _ _ _ _ _ (@pe_ix _ _ _ _ _ _ _ ix_tupD (@pvD _ 0 _ _ (by rfl) (by first | exact Or.inl rfl | exact Or.inr (Or.inl rfl)) (by decide) (by decide)) (@pe_int _ _ _ _) (fun _ _ => rfl)) (@pa_nil _) (by rfl)) (by rfl)) (by decide) (by rfl) (by rfl)) (@pa_cons _ _ _ _ _ (@pe_call _ _ _ _ _ _ _ _ _ _ _ _ _ _ _ _ (ok_Lminus T) (hr.mono (by decide)) (by rfl) T.Lminus.m T.Lminus.F.kp T.Lminus.b .nil pass0 (@pa_cons _ _ _ _ _ (@pe_ix _ _ _ _ _ _ _ ix_tupD (@pvD _ 1 _ _ (by rfl) (by first | exact Or.inl rfl | exact Or.inr (Or.inl rfl)) (by decide) (by decide)) (@pe_int _ _ _ _) (fun _ _ => rfl)) (@pa_cons _ _ _ _ _ (@pe_ix _ _ _ _ _ _ _ ix_tupD (@pvD _ 0 _ _ (by rfl) (by first | exact Or.inl rfl | exact Or.inr (Or.inl rfl)) (by decide) (by decide)) (@pe_int _ _ _ _) (fun _ _ => rfl)) (@pa_nil _) (by rfl)) (by rfl)) (by decide) (by rfl) (by rfl)) (@pa_nil _) (by rfl)) (by rfl)) (by decide) (by rfl) (by rfl)) (@pa_nil _) (by rfl)) (by rfl)) (by decide) (by rfl) (by rfl)) (@pa_nil _) (by rfl)) (by decide) (by rfl) (by rfl))))), ?_⟩
    walk_at "rd"
    refine ⟨_, h2, _, rfl, _, h1, _, rfl, _, _, _, _, _, _, rfl, rx2, rx1, fun v1 H1 s1 r1 => ?_⟩
    walk_at "rd"
    refine ⟨_, s1.tup h3, _, rfl, _, s1.tup h1, _, rfl, _, _, _, _, _, _, rfl, ry3.same s1, ry1.same s1, fun v2 H2 s2 r2 => ?_⟩
    have s12 := s1.trans s2
    refine ⟨_, _, _, _, _, _, rfl, r1.same s2, r2, ⟨by omega, by omega⟩, ⟨by omega, by omega⟩, fun v3 H3 s3 r3 => ?_⟩
    have s13 := s12.trans s3
    walk_at "rd"
    refine ⟨_, s13.tup h3, _, rfl, _, s13.tup h1, _, rfl, _, _, _, _, _, _, rfl, rx3.same s13, rx1.same s13, fun v4 H4 s4 r4 => ?_⟩
    have s14 := s13.trans s4
    walk_at "rd"
    refine ⟨_, s14.tup h2, _, rfl, _, s14.tup h1, _, rfl, _, _, _, _, _, _, rfl, ry2.same s14, ry1.same s14, fun v5 H5 s5 r5 => ?_⟩
    refine ⟨_, _, _, _, _, _, rfl, r4.same s5, r5, ⟨by omega, by omega⟩, ⟨by omega, by omega⟩, fun v6 H6 s6 r6 => ?_⟩
    refine ⟨_, _, _, _, _, _, rfl, r3.same ((s4.trans s5).trans s6), r6, fun v7 H7 s7 r7 => ?_⟩
    exact ⟨_, _, _, rfl, r7, le.1, le.2, k _ (((s14.trans s5).trans s6).trans s7)⟩
def sp_Lquarter (K : PySem.W.Frag) : Sp := fun vs H Q _ => ∃ (x y : V) (s p : Pl), vs = [x, y] ∧ Rp K H s.D x ∧ Rp K H p.D y ∧ bd 2000000 s ∧ bd 2000000 p ∧ ∀ H', Same H H' → Q (.int (qp (sub s p))) H'
theorem ok_Lquarter (T : Txt K mg t) : FnOk P w K mg base CX0 2 t.a_Lquarter t.d_Lquarter ["_law_spot_here", "_law_place_here"] (sp_Lquarter K) := by
  refine T.Lquarter.F.ok sc_Lquarter (fun vs H Q E h => ?_) (fun cdv A outer s H vs Q E hr h => ?_)
  · obtain ⟨x, y, s, p, rfl, _⟩ := h; rfl
  · obtain ⟨x, y, s, p, rfl, rs, rp, bs, bp, k⟩ := h
    obtain ⟨a1, x1, y1, rfl, h1, rx1, ry1⟩ := pair_iff.mp rs
    obtain ⟨a2, x2, y2, rfl, h2, rx2, ry2⟩ := pair_iff.mp rp
    have sm := bd_small (bd_sub bp bs) (by decide)
    refine ⟨_, (@pss_cons _ _ _ _ _ (@ps_set _ _ (2) _ _ _ _ sc_Lquarter.nd rfl (Or.inl rfl) (@pe_call _ _ _ _ _ _ _ _ _ _ _ _ _ _ _ _ (ok_Lsign T) (hr.mono (by decide)) (by rfl) T.Lsign.m T.Lsign.F.kp T.Lsign.b .nil pass0 (@pa_cons _ _ _ _ _ (@pe_call _ _ _ _ _ _ _ _ _ _ _ _ _ _ _ _ (ok_Lminus T) (hr.mono (by decide)) (by rfl) T.Lminus.m T.Lminus.F.kp T.Lminus.b .nil pass0 (@pa_cons _ _ _ _ _ (@pe_ix _ _ _ _ _ _ _ ix_tupD (@pvD _ 1 _ _ (by rfl) (by first | exact Or.inl rfl | exact Or.inr (Or.inl rfl)) (by decide) (by decide)) (@pe_int _ _ _ _) (fun _ _ => rfl)) (@pa_cons _ _ _ _ _ (@pe_ix _ _ _ _ _ _ _ ix_tupD (@pvD _ 0 _ _ (by rfl) (by first | exact Or.inl rfl | exact Or.inr (Or.inl rfl)) (by decide) (by decide)) (@pe_int _ _ _ _) (fun _ _ => rfl)) (@pa_nil _) (by rfl)) (by rfl)) (by decide) (by rfl) (by rfl)) (@pa_nil _) (by rfl)) (by decide) (by rfl) (by rfl)) (by rfl) (by first | exact .inl rfl | exact .inr rfl | assumption)) (@pss_cons _ _ _ _ _ (@ps_set _ _ (3) _ _ _ _ sc_Lquarter.nd rfl (Or.inl rfl) (@pe_call _ _ _ _ _ _ _ _ _ _ _ _ _ _ _ _ (ok_Lsign T) (hr.mono (by decide)) (by rfl) T.Lsign.m T.Lsign.F.kp T.Lsign.b .nil pass0 (@pa_cons _ _ _ _ _ (@pe_call _ _ _ _ _ _ _ _ _ _ _ _ _ _ _ _ (ok_Lminus T) (hr.mono (by decide)) (by rfl) T.Lminus.m T.Lminus.F.kp T.Lminus.b .nil pass0 (@pa_cons _ _ _ _ _ (@pe_ix _ _ _ _ _ _ _ ix_tupD (@pvD _ 1 _ _ (by rfl) (by first | exact Or.inl rfl | exact Or.inr (Or.inl rfl)) (by decide) (by decide)) (@pe_int _ _ _ _) (fun _ _ => rfl)) (@pa_cons _ _ _ _ _ (@pe_ix _ _ _ _ _ _ _ ix_tupD (@pvD _ 0 _ _ (by rfl) (by first | exact Or.inl rfl | exact Or.inr (Or.inl rfl)) (by decide) (by decide)) (@pe_int _ _ _ _) (fun _ _ => rfl)) (@pa_nil _) (by rfl)) (by rfl)) (by decide) (by rfl) (by rfl)) (@pa_nil _) (by rfl)) (by decide) (by rfl) (by rfl)) (by rfl) (by first | exact .inl rfl | exact .inr rfl | assumption)) (@pss_cons _ _ _ _ _ (@ps_if _ _ _ _ _ _ _ _ (@PW.pt _ _ _ (@pw_and _ _ _ _ _ _ _ (@pt_cmpRD _ _ _ _ _ _ _ _ op_gtD (@pvD _ 2 _ _ (by rfl) (by first | exact Or.inl rfl | exact Or.inr (Or.inl rfl)) (by decide) (by decide)) (@pe_int _ _ _ _) (nomark _)) (@pw_and1 _ _ _ _ (@pt_cmpRD _ _ _ _ _ _ _ _ op_geD (@pvD _ 3 _ _ (by rfl) (by first | exact Or.inl rfl | exact Or.inr (Or.inl rfl)) (by decide) (by decide)) (@pe_int _ _ _ _) (nomark _))))) (@pss_one _ _ _ (@ps_ret _ _ _ _ (@pe_int _ _ _ _))) (@pss_nil _)) (@pss_cons _ _ _ _ _ (@ps_if _ _ _ _ _ _ _ _ (@PW.pt _ _ _ (@pw_and _ _ _ _ _ _ _ (@pt_cmpRD _ _ _ _ _ _ _ _ op_leD (@pvD _ 2 _ _ (by rfl) (by first | exact Or.inl rfl | exact Or.inr (Or.inl rfl)) (by decide) (by decide)) (@pe_int _ _ _ _) (nomark _)) (@pw_and1 _ _ _ _ (@pt_cmpRD _ _ _ _ _ _ _ _ op_gtD (@pvD _ 3 _ _ (by rfl) (by first | exact Or.inl rfl | exact Or.inr (Or.inl rfl)) (by decide) (by decide)) (@pe_int _ _ _ _) (nomark _))))) (@pss_one _ _ _ (@ps_ret _ _ _ _ (@pe_int _ _ _ _))) (@pss_nil _)) (@pss_cons _ _ _ _ _ (@ps_if _ _ _ _ _ _ _ _ (@PW.pt _ _ _ (@pw_and _ _ _ _ _ _ _ (@pt_cmpRD _ _ _ _ _ _ _ _ op_ltD (@pvD _ 2 _ _ (by rfl) (by first | exact Or.inl rfl | exact Or.inr (Or.inl rfl)) (by decide) (by decide)) (@pe_int _ _ _ _) (nomark _)) (@pw_and1 _ _ _ _ (@pt_cmpRD _ _ _ _ _ _ _ _ op_leD (@pvD _ 3 _ _ (by rfl) (by first | exact Or.inl rfl | exact Or.inr (Or.inl rfl)) (by decide) (by decide)) (@pe_int _ _ _ _) (nomark _))))) (@pss_one _ _ _ (@ps_ret _ _ _ _ (@pe_int _ _ _ _))) (@pss_nil _)) (@pss_cons _ _ _ _ _ (@ps_if _ _ _ _ _ _ _ _ (@PW.pt _ _ _ (@pw_and _ _ _ _ _ _ _ (@pt_cmpRD _ _ _ _ _ _ _ _ op_geD (@pvD _ 2 _ _ (by rfl) (by first | exact Or.inl rfl | exact Or.inr (Or.inl rfl)) (by decide) (by decide)) (@pe_int _ _ _ _) (nomark _)) (@pw_and1 _ _ _ _ (@pt_cmpRD _ _ _ _ _ _ _ _ op_ltD (@pvD _ 3 _ _ (by rfl) (by first | exact Or.inl rfl | exact Or.inr (Or.inl rfl)) (by decide) (by decide)) (@pe_int _ _ _ _) (nomark _))))) (@pss_one _ _ _ (@ps_ret _ _ _ _ (@pe_int _ _ _ _))) (@pss_nil _)) (@pss_one _ _ _ (@ps_ret _ _ _ _ (@pe_int _ _ _ _))))))))), ?_⟩
    walk_at "rd"
    refine ⟨_, h2, _, rfl, _, h1, _, rfl, _, _, _, _, _, _, rfl, rx2, rx1, fun v1 H1 s1 r1 => ?_⟩
    refine ⟨_, _, _, rfl, r1, sm.1, sm.2.1, ?_⟩
    walk_at "rd"
    refine ⟨_, s1.tup h2, _, rfl, _, s1.tup h1, _, rfl, _, _, _, _, _, _, rfl, ry2.same s1, ry1.same s1, fun v2 H2 s2 r2 => ?_⟩
    refine ⟨_, _, _, rfl, r2, sm.2.2.1, sm.2.2.2, ?_⟩
    have k' := k H2 (s1.trans s2)
    unfold qp qr at k'
    change Q (.int (if 0 < sg (p.a - s.a) (p.b - s.b) ∧ 0 ≤ sg (p.c - s.c) (p.d - s.d) then 0 else if sg (p.a - s.a) (p.b - s.b) ≤ 0 ∧ 0 < sg (p.c - s.c) (p.d - s.d) then 1 else if sg (p.a - s.a) (p.b - s.b) < 0 ∧ sg (p.c - s.c) (p.d - s.d) ≤ 0 then 2 else if 0 ≤ sg (p.a - s.a) (p.b - s.b) ∧ sg (p.c - s.c) (p.d - s.d) < 0 then 3 else 4)) H2 at k'
    have hX := sg3 (p.a - s.a) (p.b - s.b)
    have hY := sg3 (p.c - s.c) (p.d - s.d)
    generalize sg (p.a - s.a) (p.b - s.b) = X at k' hX ⊢
    generalize sg (p.c - s.c) (p.d - s.d) = Y at k' hY ⊢
    walk_at "rd"
    rcases hX with rfl | rfl | rfl <;> rcases hY with rfl | rfl | rfl <;> simpa using k'
def sp_Lturns (K : PySem.W.Frag) : Sp := fun vs H Q _ => ∃ (z x y : V) (s p q : Pl), vs = [z, x, y] ∧ Rp K H s.D z ∧ Rp K H p.D x ∧ Rp K H q.D y ∧ bd 2000000 s ∧ bd 2000000 p ∧ bd 2000000 q ∧ ∀ H', Same H H' → Q (ov (tn (sub s p) (sub s q))) H'
theorem ok_Lturns (T : Txt K mg t) : FnOk P w K mg base CX0 3 t.a_Lturns t.d_Lturns ["_law_spot_here", "_law_one", "_law_other"] (sp_Lturns K) := by
  refine T.Lturns.F.ok sc_Lturns (fun vs H Q E h => ?_) (fun cdv A outer s H vs Q E hr h => ?_)
  · obtain ⟨z, x, y, s, p, q, rfl, _⟩ := h; rfl
  · obtain ⟨z, x, y, s, p, q, rfl, rs, rp, rq, bs, bp, bq, k⟩ := h
    refine ⟨_, (@pss_cons _ _ _ _ _ (@ps_set _ _ (3) _ _ _ _ sc_Lturns.nd rfl (Or.inl rfl) (@pe_call _ _ _ _ _ _ _ _ _ _ _ _ _ _ _ _ (ok_Lquarter T) (hr.mono (by decide)) (by rfl) T.Lquarter.m T.Lquarter.F.kp T.Lquarter.b .nil pass0 (@pa_cons _ _ _ _ _ (@pvD _ 0 _ _ (by rfl) (by first | exact Or.inl rfl | exact Or.inr (Or.inl rfl)) (by decide) (by decide)) (@pa_cons _ _ _ _ _ (@pvD _ 1 _ _ (by rfl) (by first | exact Or.inl rfl | exact Or.inr (Or.inl rfl)) (by decide) (by decide)) (@pa_nil _) (by rfl)) (by rfl)) (by decide) (by rfl) (by rfl)) (by rfl) (by first | exact .inl rfl | exact .inr rfl | assumption)) (@pss_cons _ _ _ _ _ (@ps_set _ _ (4) _ _ _ _ sc_Lturns.nd rfl (Or.inl rfl) (@pe_call _ _ _ _ _ _ _ _ _ _ _ _ _ _ _ _ (ok_Lquarter T) (hr.mono (by decide)) (by rfl) T.Lquarter.m T.Lquarter.F.kp T.Lquarter.b .nil pass0 (@pa_cons _ _ _ _ _ (@pvD _ 0 _ _ (by rfl) (by first | exact Or.inl rfl | exact Or.inr (Or.inl rfl)) (by decide) (by decide)) (@pa_cons _ _ _ _ _ (@pvD _ 2 _ _ (by rfl) (by first | exact Or.inl rfl | exact Or.inr (Or.inl rfl)) (by decide) (by decide)) (@pa_nil _) (by rfl)) (by rfl)) (by decide) (by rfl) (by rfl)) (by rfl) (by first | exact .inl rfl | exact .inr rfl | assumption)) (@pss_cons _ _ _ _ _ (@ps_if _ _ _ _ _ _ _ _ (@PW.pt _ _ _ (@pw_or _ _ _ _ _ _ _ (@pt_cmpRD _ _ _ _ _ _ _ _ op_eqD (@pvD _ 3 _ _ (by rfl) (by first | exact Or.inl rfl | exact Or.inr (Or.inl rfl)) (by decide) (by decide)) (@pe_int _ _ _ _) (nomark _)) (@pw_or1 _ _ _ _ (@pt_cmpRD _ _ _ _ _ _ _ _ op_eqD (@pvD _ 4 _ _ (by rfl) (by first | exact Or.inl rfl | exact Or.inr (Or.inl rfl)) (by decide) (by decide)) (@pe_int _ _ _ _) (nomark _))))) (@pss_one _ _ _ (@ps_ret _ _ _ _ (@pe_non _ _ _))) (@pss_nil _)) (@pss_cons _ _ _ _ _ (@ps_set _ _ (5) _ _ _ _ sc_Lturns.nd rfl (Or.inl rfl) (@pe_op _ _ _ _ _ _ _ _ op_modD (@pe_op _ _ _ _ _ _ _ _ op_subD (@pvD _ 4 _ _ (by rfl) (by first | exact Or.inl rfl | exact Or.inr (Or.inl rfl)) (by decide) (by decide)) (@pvD _ 3 _ _ (by rfl) (by first | exact Or.inl rfl | exact Or.inr (Or.inl rfl)) (by decide) (by decide))) (@pe_int _ _ _ _)) (by rfl) (by first | exact .inl rfl | exact .inr rfl | assumption)) (@pss_cons _ _ _ _ _ (@ps_set _ _ (6) _ _ _ _ sc_Lturns.nd rfl (Or.inl rfl) (@pe_call _ _ _ _ _ _ _ _ _ _ _ _ _ _ _ _ (ok_Lside T) (hr.mono (by decide)) (by rfl) T.Lside.m T.Lside.F.kp T.Lside.b .nil pass0 (@pa_cons _ _ _ _ _ (@pvD _ 1 _ _ (by rfl) (by first | exact Or.inl rfl | exact Or.inr (Or.inl rfl)) (by decide) (by decide)) (@pa_cons _ _ _ _ _ (@pvD _ 2 _ _ (by rfl) (by first | exact Or.inl rfl | exact Or.inr (Or.inl rfl)) (by decide) (by decide)) (@pa_cons _ _ _ _ _ (@pvD _ 0 _ _ (by rfl) (by first | exact Or.inl rfl | exact Or.inr (Or.inl rfl)) (by decide) (by decide)) (@pa_nil _) (by rfl)) (by rfl)) (by rfl)) (by decide) (by rfl) (by rfl)) (by rfl) (by first | exact .inl rfl | exact .inr rfl | assumption)) (@pss_cons _ _ _ _ _ (@ps_if _ _ _ _ _ _ _ _ (@PW.pt _ _ _ (@pw_and _ _ _ _ _ _ _ (@pt_cmpRD _ _ _ _ _ _ _ _ op_eqD (@pvD _ 5 _ _ (by rfl) (by first | exact Or.inl rfl | exact Or.inr (Or.inl rfl)) (by decide) (by decide)) (@pe_int _ _ _ _) (nomark _)) (@pw_and1 _ _ _ _ (@pt_cmpRD _ _ _ _ _ _ _ _ op_eqD (@pvD _ 6 _ _ (by rfl) (by first | exact Or.inl rfl | exact Or.inr (Or.inl rfl)) (by decide) (by decide)) (@pe_int _ _ _ _) (nomark _))))) (@pss_one _ _ _ (@ps_ret _ _ _ _ (@pe_non _ _ _))) (@pss_nil _)) (@pss_cons _ _ _ _ _ (@ps_if _ _ _ _ _ _ _ _ (@PW.pt _ _ _ (@pw_or _ _ _ _ _ _ _ (@pt_cmpRD _ _ _ _ _ _ _ _ op_eqD (@pvD _ 5 _ _ (by rfl) (by first | exact Or.inl rfl | exact Or.inr (Or.inl rfl)) (by decide) (by decide)) (@pe_int _ _ _ _) (nomark _)) (@pw_or1 _ _ _ _ (@PW.pt _ _ _ (@pw_and _ _ _ _ _ _ _ (@pt_cmpRD _ _ _ _ _ _ _ _ op_eqD (@pvD _ 5 _ _ (by rfl) (by first | exact Or.inl rfl | exact Or.inr (Or.inl rfl)) (by decide) (by decide)) (@pe_int _ _ _ _) (nomark _)) (@pw_and1 _ _ _ _ (@pt_cmpRD _ _ _ _ _ _ _ _ op_ltD (@pvD _ 6 _ _ (by rfl) (by first | exact Or.inl rfl | exact Or.inr (Or.inl rfl)) (by decide) (by decide)) (@pe_int _ _ _ _) (nomark _)))))))) (@pss_one _ _ _ (@ps_ret _ _ _ _ (@pe_op _ _ _ _ _ _ _ _ op_subD (@pvD _ 5 _ _ (by rfl) (by first | exact Or.inl rfl | exact Or.inr (Or.inl rfl)) (by decide) (by decide)) (@pe_int _ _ _ _)))) (@pss_nil _)) (@pss_one _ _ _ (@ps_ret _ _ _ _ (@pvD _ 5 _ _ (by rfl) (by first | exact Or.inl rfl | exact Or.inr (Or.inl rfl)) (by decide) (by decide))))))))))), ?_⟩
    walk_at "rd"
    refine ⟨_, _, _, _, rfl, rs, rp, bs, bp, fun H1 s1 => ?_⟩
    walk_at "rd"
    refine ⟨_, _, _, _, rfl, rs.same s1, rq.same s1, bs, bq, fun H2 s2 => ?_⟩
    have s12 := s1.trans s2
    have b1 : 0 ≤ qp (sub s p) ∧ qp (sub s p) ≤ 4 := by unfold qp qr; repeat' split <;> omega
    walk_at "rd"
    have k1 : ∀ H', Same H H' → Q (ov (tnq (qp (sub s p)) (qp (sub s q)) (sg (cA (sub s p) (sub s q)) (cB (sub s p) (sub s q))))) H' := k
    unfold tnq at k1
    clear k
    generalize qp (sub s p) = h at k1 ⊢
    generalize qp (sub s q) = t' at k1 ⊢
    by_cases h4 : h = 4
    · rw [if_pos h4]
      have := k1 H2 s12
      rw [if_pos (.inl h4)] at this; exact this
    rw [if_neg h4]
    by_cases t4 : t' = 4
    · rw [if_pos t4]
      have := k1 H2 s12
      rw [if_pos (.inr t4)] at this; exact this
    rw [if_neg t4]
    refine ⟨by decide, x, y, z, p, q, s, rfl, rp.same s12, rq.same s12, rs.same s12, bp, bq, bs, fun H3 s3 => ?_⟩
    have := k1 H3 (s12.trans s3)
    rw [if_neg (by omega)] at this
    clear k1
    generalize (t' - h) % 4 = m at this ⊢
    generalize sg (cA (sub s p) (sub s q)) (cB (sub s p) (sub s q)) = sd at this ⊢
    dsimp only
    by_cases m2 : m = 2
    · rw [if_pos m2]
      by_cases z0 : sd = 0
      · rw [if_pos z0]; rw [if_pos ⟨m2, z0⟩] at this; exact this
      · rw [if_neg z0, if_neg (by omega), if_pos m2]
        rw [if_neg (fun z => z0 z.2)] at this
        by_cases n : sd < 0
        · rw [if_pos n]; rw [if_pos (.inr ⟨m2, n⟩)] at this; exact this
        · rw [if_neg n]; rw [if_neg (by omega)] at this; exact this
    · rw [if_neg m2]
      rw [if_neg (fun z => m2 z.1)] at this
      by_cases m3 : m = 3
      · rw [if_pos m3]; rw [if_pos (.inl m3)] at this; exact this
      · rw [if_neg m3, if_neg m2]; rw [if_neg (by omega)] at this; exact this
theorem sumO_assoc (x y z : Option Int) : sumO (sumO x y) z = sumO x (sumO y z) := by
  cases x <;> cases y <;> cases z <;> simp [sumO, Int.add_assoc]
theorem sumO_zero (x : Option Int) : sumO (some 0) x = x ∧ sumO x (some 0) = x := by cases x <;> simp [sumO]
theorem lR_app : ∀ (xs : List Pl) (p : Pl) (ys : List Pl), lR (xs ++ p :: ys) = sumO (lR (xs ++ [p])) (lR (p :: ys))
  | [], p, ys => by rw [List.nil_append, List.nil_append]; exact (sumO_zero _).1.symm
  | [x], p, ys => by
    show sumO (tn x p) (lR (p :: ys)) = sumO (sumO (tn x p) (some 0)) (lR (p :: ys))
    rw [(sumO_zero _).2]
  | x :: y :: r, p, ys => by
    have := lR_app (y :: r) p ys
    simp only [List.cons_append, lR] at this ⊢
    rw [this, sumO_assoc]
theorem sumO_none' (x : Option Int) : sumO x none = none := by cases x <;> rfl
theorem eq_og (p s : Pl) : deqL [num p.a p.b, num p.c p.d] [num s.a s.b, num s.c s.d] = isog (sub s p) := by
  rw [Bool.eq_iff_iff, isog_iff]
  simp only [deqL, deq, num, sub, Bool.and_eq_true, beq_iff_eq, Bool.and_true]
  omega
def sp_Lrounds (K : PySem.W.Frag) : Sp := fun vs H Q _ => ∃ (l : Addr) (xs : List V) (ps : List Pl) (x : V) (c : Pl), vs = [.ref l, x] ∧ SqL K H l xs ∧ RpL K H (ps.map Pl.D) xs ∧ Rp K H c.D x ∧ ps.length ≤ 1000 ∧ ps ≠ [] ∧ (∀ p ∈ ps, bd 2000000 p) ∧ bd 2000000 c ∧ ∀ H', Same H H' → Q (ov (dueOf (ps.map (sub c)))) H'
def Iv_lr (l : Addr) (x : V) (ss : List Pl) (H : Hp) (i : Nat) (σ : L2.St) (H2 : Hp) : Prop := ∃ (f : Int) (o1 o2 : Option V), σ = [some (.ref l), some x, some (.int f), o1, o2] ∧ Same H H2 ∧ lR (ss.take (i + 1)) = some f
theorem ok_Lrounds (T : Txt K mg t) : FnOk P w K mg base CX0 4 t.a_Lrounds t.d_Lrounds ["_law_way_here", "_law_spot_here"] (sp_Lrounds K) := by
  refine T.Lrounds.F.ok sc_Lrounds (fun vs H Q E h => ?_) (fun cdv A outer s H vs Q E hr h => ?_)
  · obtain ⟨l, xs, ps, x, c, rfl, _⟩ := h; rfl
  · obtain ⟨l, xs, ps, x, c, rfl, hS, hR, hc, hlen, hne, hbd, hbc, q⟩ := h
    have hu := hr.units
    have hl : xs.length = ps.length := by rw [hR.length, List.length_map]
    have hpos : 0 < ps.length := List.length_pos_iff.mpr hne
    obtain ⟨v0, p0, e0, g0, rp0⟩ := place_get (i := 0) hR hpos
    refine ⟨_, (@pss_cons _ _ _ _ _ (@ps_set _ _ (2) _ _ _ _ sc_Lrounds.nd rfl (Or.inl rfl) (@pe_int _ _ _ _) (by rfl) (by first | exact .inl rfl | exact .inr rfl | assumption)) (@pss_cons _ _ _ _ _ (@ps_if _ _ _ _ _ _ _ _ (@pt_cmpRD _ _ _ _ _ _ _ _ (op_eqS hu) (@pe_ix _ _ _ _ _ _ _ ix_listD (@pvD _ 0 _ _ (by rfl) (by first | exact Or.inl rfl | exact Or.inr (Or.inl rfl)) (by decide) (by decide)) (@pe_int _ _ _ _) (fun _ _ => rfl)) (@pvD _ 1 _ _ (by rfl) (by first | exact Or.inl rfl | exact Or.inr (Or.inl rfl)) (by decide) (by decide)) (nomark _)) (@pss_one _ _ _ (@ps_ret _ _ _ _ (@pe_non _ _ _))) (@pss_nil _)) (@pss_cons _ _ _ _ _ (@ps_for _ _ _ _ _ _ _ _ PassesOwn.never rfl (@pi_range1 _ _ _ _ _ _ (by rfl) T.z_range (@pa_cons _ _ _ _ _ (@pe_op _ _ _ _ _ _ _ _ op_subD (@pe_callB _ _ _ _ _ _ _ _ _ call_len_seqD (by rfl) T.z_len PySem.boot_len (@pa_cons _ _ _ _ _ (@pvD _ 0 _ _ (by rfl) (by first | exact Or.inl rfl | exact Or.inr (Or.inl rfl)) (by decide) (by decide)) (@pa_nil _) (by rfl)) (by decide) (by decide) (by rfl) (by rfl)) (@pe_int _ _ _ _)) (@pa_nil _) (by rfl)) (by rfl)) (@pg_name _ _ (3) _ sc_Lrounds.nd rfl (Or.inl rfl) (by first | exact .inl rfl | exact .inr rfl | assumption)) (@pss_cons _ _ _ _ _ (@ps_set _ _ (4) _ _ _ _ sc_Lrounds.nd rfl (Or.inl rfl) (@pe_call _ _ _ _ _ _ _ _ _ _ _ _ _ _ _ _ (ok_Lturns T) (hr.mono (by decide)) (by rfl) T.Lturns.m T.Lturns.F.kp T.Lturns.b .nil pass0 (@pa_cons _ _ _ _ _ (@pvD _ 1 _ _ (by rfl) (by first | exact Or.inl rfl | exact Or.inr (Or.inl rfl)) (by decide) (by decide)) (@pa_cons _ _ _ _ _ (@pe_ix _ _ _ _ _ _ _ ix_listD (@pvD _ 0 _ _ (by rfl) (by first | exact Or.inl rfl | exact Or.inr (Or.inl rfl)) (by decide) (by decide)) (@pvD _ 3 _ _ (by rfl) (by first | exact Or.inl rfl | exact Or.inr (Or.inl rfl)) (by decide) (by decide)) (fun _ _ => rfl)) (@pa_cons _ _ _ _ _ (@pe_ix _ _ _ _ _ _ _ ix_listD (@pvD _ 0 _ _ (by rfl) (by first | exact Or.inl rfl | exact Or.inr (Or.inl rfl)) (by decide) (by decide)) (@pe_op _ _ _ _ _ _ _ _ op_addD (@pvD _ 3 _ _ (by rfl) (by first | exact Or.inl rfl | exact Or.inr (Or.inl rfl)) (by decide) (by decide)) (@pe_int _ _ _ _)) (fun _ _ => rfl)) (@pa_nil _) (by rfl)) (by rfl)) (by rfl)) (by decide) (by rfl) (by rfl)) (by rfl) (by first | exact .inl rfl | exact .inr rfl | assumption)) (@pss_cons _ _ _ _ _ (@ps_if _ _ _ _ _ _ _ _ (@pt_cmpRD _ _ _ _ _ _ _ _ op_isND (@pvD _ 4 _ _ (by rfl) (by first | exact Or.inl rfl | exact Or.inr (Or.inl rfl)) (by decide) (by decide)) (@pe_non _ _ _) (nomark _)) (@pss_one _ _ _ (@ps_ret _ _ _ _ (@pe_non _ _ _))) (@pss_nil _)) (@pss_one _ _ _ (@ps_set _ _ (2) _ _ _ _ sc_Lrounds.nd rfl (Or.inl rfl) (@pe_op _ _ _ _ _ _ _ _ op_addD (@pvD _ 2 _ _ (by rfl) (by first | exact Or.inl rfl | exact Or.inr (Or.inl rfl)) (by decide) (by decide)) (@pvD _ 4 _ _ (by rfl) (by first | exact Or.inl rfl | exact Or.inr (Or.inl rfl)) (by decide) (by decide))) (by rfl) (by first | exact .inl rfl | exact .inr rfl | assumption))))) (by intro _; rfl)) (@pss_one _ _ _ (@ps_ret _ _ _ _ (@pe_op _ _ _ _ _ _ _ _ op_fdivWD (@pvD _ 2 _ _ (by rfl) (by first | exact Or.inl rfl | exact Or.inr (Or.inl rfl)) (by decide) (by decide)) (@pe_int _ _ _ _))))))), ?_⟩
    walk_at "rd"
    refine ⟨_, hS, _, e0, ?_⟩
    walk_at "rd"
    refine ⟨_, _, rp0, hc, by simp [depL, dep, num], ?_⟩
    dsimp only
    rw [if_neg (show ¬ (false = true) by decide), eq_og]
    generalize hss : ps.map (sub c) = ss at q
    have sl : ss.length = ps.length := by rw [← hss, List.length_map]
    have sg' : ∀ i p, ps[i]? = some p → ss[i]? = some (sub c p) := fun i p e => by rw [← hss, List.getElem?_map, e]; rfl
    have s0 : ss.head? = some (sub c p0) := by rw [List.head?_eq_getElem?]; exact sg' 0 p0 g0
    by_cases ho : isog (sub c p0) = true
    · rw [if_pos ho]
      have e : dueOf ss = none := by unfold dueOf; rw [s0, if_pos (by exact ho)]
      rw [e] at q
      exact q _ (Same.refl _)
    rw [if_neg ho]
    have eD : dueOf ss = (lR ss).map (· / 4) := by unfold dueOf; rw [s0, if_neg (by exact ho)]
    rw [eD] at q
    refine ⟨_, .inl hS, by rw [hl]; omega, by rw [hl]; omega, ?_⟩
    rw [hl]
    have en : ((ps.length : Int) - 1).toNat = ps.length - 1 := by omega
    rw [en]
    refine FW_range (Iv_lr l x ss H) ⟨0, none, none, rfl, Same.refl _, ?_⟩ ?_ ?_
    · obtain ⟨p, r, rfl⟩ : ∃ p r, ss = p :: r := by cases ss with | nil => simp at sl; omega | cons p r => exact ⟨p, r, rfl⟩
      rfl
    · rintro i σ H2 hi ⟨f, o1, o2, rfl, s2, ef⟩
      obtain ⟨v1, p1, e1, g1, rp1⟩ := place_get (i := i) hR (by omega)
      obtain ⟨v2, p2, e2, g2, rp2⟩ := place_get (i := i + 1) hR (by omega)
      obtain ⟨t2, t1⟩ := take2 (sg' _ _ g1) (sg' _ _ g2)
      have ei : (0 : Int) + (i : Int) = (i : Int) := by omega
      have ei1 : (i : Int) + 1 = ((i + 1 : Nat) : Int) := by omega
      have eL : lR (ss.take (i + 1 + 1)) = sumO (some f) (tn (sub c p1) (sub c p2)) := by
        rw [t2, lR_app (ss.take i) (sub c p1) [sub c p2], ← t1, ef]
        show sumO (some f) (sumO (tn (sub c p1) (sub c p2)) (some 0)) = _
        rw [(sumO_zero _).2]
      walk_at "rd"
      rw [ei, ei1]
      refine ⟨_, s2.seq hS, _, e1, ?_⟩
      walk_at "rd"
      refine ⟨_, s2.seq hS, _, e2, ?_⟩
      walk_at "rd"
      refine ⟨_, _, _, c, p1, p2, rfl, hc.same s2, rp1.same s2, rp2.same s2, hbc, hbd p1 (List.mem_of_getElem? g1), hbd p2 (List.mem_of_getElem? g2), fun H3 s3 => ?_⟩
      cases ht : tn (sub c p1) (sub c p2) with
      | none =>
        rw [ht, sumO_none'] at eL
        have eN : lR ss = none := by
          have a1 : ss = ss.take i ++ sub c p1 :: sub c p2 :: ss.drop (i + 2) := by
            have := List.take_append_drop (i + 2) ss
            rw [t2, List.append_assoc] at this
            exact this.symm
          have a2 := lR_app (ss.take i) (sub c p1) (sub c p2 :: ss.drop (i + 2))
          rw [← a1] at a2
          rw [a2]
          show sumO _ (sumO (tn (sub c p1) (sub c p2)) _) = none
          rw [ht, sumO_none, sumO_none']
        rw [eN] at q
        walk_at "rd"
        exact q _ (s2.trans s3)
      | some u =>
        rw [ht] at eL
        walk_at "rd"
        exact ⟨f + u, _, _, rfl, s2.trans s3, eL⟩
    · rintro σ H2 ⟨f, o1, o2, rfl, s2, ef⟩
      have et : ss.take (ps.length - 1 + 1) = ss := by rw [List.take_of_length_le (by omega)]
      rw [et] at ef
      rw [ef] at q
      walk_at "rd"
      exact ⟨by decide, by decide, q _ s2⟩
end
section
variable {P : Program} {w : World} {K : PySem.W.Frag} {mg : Str → Option Value} {base : Heap} {t : Adr}
def Iv_sp (K : PySem.W.Frag) (a lw pc : Addr) (H : Hp) (i : Nat) (σ : L2.St) (H2 : Hp) : Prop := ∃ (vs : List V) (qs : List Pl) (o1 : Option V), σ = [some (.ref a), some (.ref lw), o1] ∧ Same H H2 ∧ H2 pc = some (.lst vs) ∧ RpL K H2 (qs.map Pl.D) vs ∧ qs.length = i ∧ ∀ q ∈ qs, bd 70000 q
def Iv_lp (a lw ls : Addr) (H : Hp) (i : Nat) (σ : L2.St) (H2 : Hp) : Prop := ∃ (o1 o2 o3 o4 o5 : Option V), σ = [some (.ref a), some (.ref lw), some (.ref ls), o1, o2, o3, o4, o5] ∧ Same H H2
def sp_law (K : PySem.W.Frag) : Sp := fun vs H Q _ => ∃ (a : Addr) (ns : List Int), vs = [.ref a] ∧ SqL K H a (ns.map V.int) ∧ ns.length ≤ 63 ∧ ∀ H', Q (.bl true) H'
theorem ok_law (T : Txt K mg t) : FnOk P w K mg base CX0 5 t.a_law t.d_law ["_law_script"] (sp_law K) := by
  refine T.law.F.ok sc_law (fun vs H Q E h => ?_) (fun cdv A outer s H vs Q E hr h => ?_)
  · obtain ⟨a, ns, rfl, _⟩ := h; rfl
  · obtain ⟨a, ns, rfl, hS, hl, q⟩ := h
    have hu := hr.units
    refine ⟨_, (@pss_consH _ _ _ _ _ (@ps_set _ _ (1) _ _ _ _ sc_law.nd rfl (Or.inr rfl) (@pe_call _ _ _ _ _ _ _ _ _ _ _ _ _ _ _ _ (ok_Lway T) (hr.mono (by decide)) (by rfl) T.Lway.m T.Lway.F.kp T.Lway.b .nil pass0 (@pa_cons _ _ _ _ _ (@pvD _ 0 _ _ (by rfl) (by first | exact Or.inl rfl | exact Or.inr (Or.inl rfl)) (by decide) (by decide)) (@pa_cons _ _ _ _ _ (@pe_int _ _ _ _) (@pa_cons _ _ _ _ _ (@pe_int _ _ _ _) (@pa_nil _) (by rfl)) (by rfl)) (by rfl)) (by decide) (by rfl) (by rfl)) (by rfl) (by first | exact .inl rfl | exact .inr rfl | assumption)) (@pss_consH _ _ _ _ _ (@ps_setC _ _ _ _ _ _ (defScope s_law) _ _ _ _ (2) _ _ _ _ (["_law_script", "_law_way_here", "_law_spots", "_law_spot_here", "_law_handed", "_law_found", "_law_due", "_law_other"]) (["_law_script", "_law_way_here", "_law_k"]) (["_law_k"]) ([0, 1]) sc_law.nd rfl (Or.inl rfl) rfl rfl rfl ⟨by decide +kernel, by decide +kernel, by decide +kernel, by decide +kernel, by decide +kernel, by decide +kernel⟩ (@pi_range1 _ _ _ _ _ _ (by rfl) T.z_range (@pa_cons _ _ _ _ _ (@pe_callB _ _ _ _ _ _ _ _ _ (call_max2D rfl) (by rfl) T.z_max boot_max (@pa_cons _ _ _ _ _ (@pe_int _ _ _ _) (@pa_cons _ _ _ _ _ (@pe_callB _ _ _ _ _ _ _ _ _ (call_min2D rfl) (by rfl) T.z_min boot_min (@pa_cons _ _ _ _ _ (@pe_int _ _ _ _) (@pa_cons _ _ _ _ _ (@pe_callB _ _ _ _ _ _ _ _ _ call_len_seqD (by rfl) T.z_len PySem.boot_len (@pa_cons _ _ _ _ _ (@pvD _ 0 _ _ (by rfl) (by first | exact Or.inl rfl | exact Or.inr (Or.inl rfl)) (by decide) (by decide)) (@pa_nil _) (by rfl)) (by decide) (by decide) (by rfl) (by rfl)) (@pa_nil _) (by rfl)) (by rfl)) (by decide) (by decide) (by rfl) (by rfl)) (@pa_nil _) (by rfl)) (by rfl)) (by decide) (by decide) (by rfl) (by rfl)) (@pa_nil _) (by rfl)) (by rfl)) (fun _ _ _ _ => (@pg_name _ _ (2) _ (show List.Nodup (["_law_script", "_law_way_here", "_law_k"] : List Str) by decide +kernel) rfl (Or.inl rfl) (by first | exact .inl rfl | exact .inr rfl | assumption))) (fun _ _ _ _ => (@pifs_nil _)) (fun _ _ _ _ => (@pe_call _ _ _ _ _ _ _ _ _ _ _ _ _ _ _ _ (ok_Lspot T) (hr.mono (by decide)) (by rfl) T.Lspot.m T.Lspot.F.kp T.Lspot.b .nil pass0 (@pa_cons _ _ _ _ _ (@pvD _ 0 _ _ (by rfl) (by first | exact Or.inl rfl | exact Or.inr (Or.inl rfl)) (by decide) (by decide)) (@pa_cons _ _ _ _ _ (@pvD _ 2 _ _ (by rfl) (by first | exact Or.inl rfl | exact Or.inr (Or.inl rfl)) (by decide) (by decide)) (@pa_cons _ _ _ _ _ (@pvD _ 1 _ _ (by rfl) (by first | exact Or.inl rfl | exact Or.inr (Or.inl rfl)) (by decide) (by decide)) (@pa_nil _) (by rfl)) (by rfl)) (by rfl)) (by decide) (by rfl) (by rfl))) (by intro _; rfl) (by rfl) (by first | exact .inl rfl | exact .inr rfl | assumption)) (@pss_consH _ _ _ _ _ (@ps_for _ _ _ _ _ _ _ _ PassesOwn.never rfl (@pi_listD _ _ _ _ (@pe_op _ _ _ _ _ _ _ _ op_catD (@pvD _ 2 _ _ (by rfl) (by first | exact Or.inl rfl | exact Or.inr (Or.inl rfl)) (by decide) (by decide)) (@pvD _ 1 _ _ (by rfl) (by first | exact Or.inl rfl | exact Or.inr (Or.inl rfl)) (by decide) (by decide)))) (@pg_name _ _ (3) _ sc_law.nd rfl (Or.inl rfl) (by first | exact .inl rfl | exact .inr rfl | assumption)) (@pss_consH _ _ _ _ _ (@ps_set _ _ (4) _ _ _ _ sc_law.nd rfl (Or.inl rfl) (@pe_callTy _ _ _ _ _ _ _ _ _ call_list_ofL (by rfl) T.z_list boot_list (@pa_cons _ _ _ _ _ (@pvD _ 1 _ _ (by rfl) (by first | exact Or.inl rfl | exact Or.inr (Or.inl rfl)) (by decide) (by decide)) (@pa_nil _) (by rfl)) (by decide) (by decide) (by rfl) (by rfl)) (by rfl) (by first | exact .inl rfl | exact .inr rfl | assumption)) (@pss_consH _ _ _ _ _ (@ps_set _ _ (5) _ _ _ _ sc_law.nd rfl (Or.inl rfl) (@pe_call _ _ _ _ _ _ _ _ _ _ _ _ _ _ _ _ (ok_roundsof T) (hr.mono (by decide)) (by rfl) T.roundsof.m T.roundsof.F.kp T.roundsof.b .nil pass0 (@pa_cons _ _ _ _ _ (@pvD _ 4 _ _ (by rfl) (by first | exact Or.inl rfl | exact Or.inr (Or.inl rfl)) (by decide) (by decide)) (@pa_cons _ _ _ _ _ (@pvD _ 3 _ _ (by rfl) (by first | exact Or.inl rfl | exact Or.inr (Or.inl rfl)) (by decide) (by decide)) (@pa_nil _) (by rfl)) (by rfl)) (by decide) (by rfl) (by rfl)) (by rfl) (by first | exact .inl rfl | exact .inr rfl | assumption)) (@pss_consH _ _ _ _ _ (@ps_if _ _ _ _ _ _ _ _ (@pt_cmpRD _ _ _ _ _ _ _ _ (op_neL hu) (@pvD _ 4 _ _ (by rfl) (by first | exact Or.inl rfl | exact Or.inr (Or.inl rfl)) (by decide) (by decide)) (@pvD _ 1 _ _ (by rfl) (by first | exact Or.inl rfl | exact Or.inr (Or.inl rfl)) (by decide) (by decide)) (nomark _)) (@pss_one _ _ _ (@ps_ret _ _ _ _ (@pe_bl _ _ _ _))) (@pss_nil _)) (@pss_consH _ _ _ _ _ (@ps_set _ _ (6) _ _ _ _ sc_law.nd rfl (Or.inl rfl) (@pe_call _ _ _ _ _ _ _ _ _ _ _ _ _ _ _ _ (ok_Lrounds T) (hr.mono (by decide)) (by rfl) T.Lrounds.m T.Lrounds.F.kp T.Lrounds.b .nil pass0 (@pa_cons _ _ _ _ _ (@pvD _ 1 _ _ (by rfl) (by first | exact Or.inl rfl | exact Or.inr (Or.inl rfl)) (by decide) (by decide)) (@pa_cons _ _ _ _ _ (@pvD _ 3 _ _ (by rfl) (by first | exact Or.inl rfl | exact Or.inr (Or.inl rfl)) (by decide) (by decide)) (@pa_nil _) (by rfl)) (by rfl)) (by decide) (by rfl) (by rfl)) (by rfl) (by first | exact .inl rfl | exact .inr rfl | assumption)) (@pss_consH _ _ _ _ _ (@ps_if _ _ _ _ _ _ _ _ (@PW.pt _ _ _ (@pw_or _ _ _ _ _ _ _ (@pt_cmpRD _ _ _ _ _ _ _ _ op_neD (@pvD _ 5 _ _ (by rfl) (by first | exact Or.inl rfl | exact Or.inr (Or.inl rfl)) (by decide) (by decide)) (@pvD _ 6 _ _ (by rfl) (by first | exact Or.inl rfl | exact Or.inr (Or.inl rfl)) (by decide) (by decide)) (nomark _)) (@pw_or1 _ _ _ _ (@PW.pt _ _ _ (@pw_and _ _ _ _ _ _ _ (@pt_cmpRD _ _ _ _ _ _ _ _ op_notND (@pvD _ 5 _ _ (by rfl) (by first | exact Or.inl rfl | exact Or.inr (Or.inl rfl)) (by decide) (by decide)) (@pe_non _ _ _) (nomark _)) (@pw_and1 _ _ _ _ (@pt_not _ _ _ _ (@pt_valD _ _ _ (@pe_call _ _ _ _ _ _ _ _ _ _ _ _ _ _ _ _ (ok_Lint T) (hr.mono (by decide)) (by rfl) T.Lint.m T.Lint.F.kp T.Lint.b .nil pass0 (@pa_cons _ _ _ _ _ (@pvD _ 5 _ _ (by rfl) (by first | exact Or.inl rfl | exact Or.inr (Or.inl rfl)) (by decide) (by decide)) (@pa_nil _) (by rfl)) (by decide) (by rfl) (by rfl)) (by intro _; rfl))))))))) (@pss_one _ _ _ (@ps_ret _ _ _ _ (@pe_bl _ _ _ _))) (@pss_nil _)) (@pss_consH _ _ _ _ _ (@ps_set _ _ (7) _ _ _ _ sc_law.nd rfl (Or.inl rfl) (@pe_call _ _ _ _ _ _ _ _ _ _ _ _ _ _ _ _ (ok_roundsof T) (hr.mono (by decide)) (by rfl) T.roundsof.m T.roundsof.F.kp T.roundsof.b .nil pass0 (@pa_cons _ _ _ _ _ (@pe_listrev _ _ _ _ _ _ _ rfl (by rfl) T.z_list (by rfl) T.z_reversed (@pvD _ 1 _ _ (by rfl) (by first | exact Or.inl rfl | exact Or.inr (Or.inl rfl)) (by decide) (by decide)) (by rfl) (by rfl)) (@pa_cons _ _ _ _ _ (@pvD _ 3 _ _ (by rfl) (by first | exact Or.inl rfl | exact Or.inr (Or.inl rfl)) (by decide) (by decide)) (@pa_nil _) (by rfl)) (by rfl)) (by decide) (by rfl) (by rfl)) (by rfl) (by first | exact .inl rfl | exact .inr rfl | assumption)) (@pss_one _ _ _ (@ps_if _ _ _ _ _ _ _ _ (@PW.pt _ _ _ (@pw_or _ _ _ _ _ _ _ (@PW.pt _ _ _ (@pw_and _ _ _ _ _ _ _ (@pt_cmpRD _ _ _ _ _ _ _ _ op_isND (@pvD _ 6 _ _ (by rfl) (by first | exact Or.inl rfl | exact Or.inr (Or.inl rfl)) (by decide) (by decide)) (@pe_non _ _ _) (nomark _)) (@pw_and1 _ _ _ _ (@pt_cmpRD _ _ _ _ _ _ _ _ op_notND (@pvD _ 7 _ _ (by rfl) (by first | exact Or.inl rfl | exact Or.inr (Or.inl rfl)) (by decide) (by decide)) (@pe_non _ _ _) (nomark _))))) (@pw_or1 _ _ _ _ (@PW.pt _ _ _ (@pw_and _ _ _ _ _ _ _ (@pt_cmpRD _ _ _ _ _ _ _ _ op_notND (@pvD _ 6 _ _ (by rfl) (by first | exact Or.inl rfl | exact Or.inr (Or.inl rfl)) (by decide) (by decide)) (@pe_non _ _ _) (nomark _)) (@pw_and1 _ _ _ _ (@pt_cmpRD _ _ _ _ _ _ _ _ op_neD (@pvD _ 7 _ _ (by rfl) (by first | exact Or.inl rfl | exact Or.inr (Or.inl rfl)) (by decide) (by decide)) (@pe_op _ _ _ _ _ _ _ _ op_subD (@pe_int _ _ _ _) (@pvD _ 6 _ _ (by rfl) (by first | exact Or.inl rfl | exact Or.inr (Or.inl rfl)) (by decide) (by decide))) (nomark _)))))))) (@pss_one _ _ _ (@ps_ret _ _ _ _ (@pe_bl _ _ _ _))) (@pss_nil _))))))))) (by intro _; rfl)) (@pss_consH _ _ _ _ _ (@ps_if _ _ _ _ _ _ _ _ (@PW.pt _ _ _ (@pw_or _ _ _ _ _ _ _ (@pt_cmpRD _ _ _ _ _ _ _ _ op_notND (@pe_call _ _ _ _ _ _ _ _ _ _ _ _ _ _ _ _ (ok_roundsof T) (hr.mono (by decide)) (by rfl) T.roundsof.m T.roundsof.F.kp T.roundsof.b .nil pass0 (@pa_cons _ _ _ _ _ (@pe_slice _ _ _ _ _ _ _ _ _ _ sl_listD (@pvD _ 1 _ _ (by rfl) (by first | exact Or.inl rfl | exact Or.inr (Or.inl rfl)) (by decide) (by decide)) (@po_none _) (@po_someD _ _ _ (@pe_int _ _ _ _))) (@pa_cons _ _ _ _ _ (@pe_ix _ _ _ _ _ _ _ ix_listD (@pvD _ 1 _ _ (by rfl) (by first | exact Or.inl rfl | exact Or.inr (Or.inl rfl)) (by decide) (by decide)) (@pe_int _ _ _ _) (fun _ _ => rfl)) (@pa_nil _) (by rfl)) (by rfl)) (by decide) (by rfl) (by rfl)) (@pe_non _ _ _) (nomark _)) (@pw_or1 _ _ _ _ (@pt_cmpRD _ _ _ _ _ _ _ _ op_neD (@pe_call _ _ _ _ _ _ _ _ _ _ _ _ _ _ _ _ (ok_roundsof T) (hr.mono (by decide)) (by rfl) T.roundsof.m T.roundsof.F.kp T.roundsof.b .nil pass0 (@pa_cons _ _ _ _ _ (@pe_slice _ _ _ _ _ _ _ _ _ _ sl_listD (@pvD _ 1 _ _ (by rfl) (by first | exact Or.inl rfl | exact Or.inr (Or.inl rfl)) (by decide) (by decide)) (@po_none _) (@po_someD _ _ _ (@pe_int _ _ _ _))) (@pa_consT _ _ _ _ _ _ _ (@pl_tup _ _ _ _ _ (@pls_consT _ _ _ _ _ _ _ (@pl_tup _ _ _ _ _ (@pls_consI _ _ _ _ _ _ (@pls_consI _ _ _ _ _ _ (@pls_nil _))) (by decide)) (@pls_consT _ _ _ _ _ _ _ (@pl_tup _ _ _ _ _ (@pls_consI _ _ _ _ _ _ (@pls_consI _ _ _ _ _ _ (@pls_nil _))) (by decide)) (@pls_nil _))) (by decide)) (@pa_nil _)) (by rfl)) (by decide) (by rfl) (by rfl)) (@pe_int _ _ _ _) (nomark _))))) (@pss_one _ _ _ (@ps_ret _ _ _ _ (@pe_bl _ _ _ _))) (@pss_nil _)) (@pss_one _ _ _ (@ps_ret _ _ _ _ (@pe_cmpR _ _ _ _ _ _ _ _ op_eqD (@pe_call _ _ _ _ _ _ _ _ _ _ _ _ _ _ _ _ (ok_roundsof T) (hr.mono (by decide)) (by rfl) T.roundsof.m T.roundsof.F.kp T.roundsof.b .nil pass0 (@pa_cons _ _ _ _ _ (@pvD _ 1 _ _ (by rfl) (by first | exact Or.inl rfl | exact Or.inr (Or.inl rfl)) (by decide) (by decide)) (@pa_consT _ _ _ _ _ _ _ (@pe_tup _ _ _ _ _ (@pa_consT _ _ _ _ _ _ _ (@pe_tup _ _ _ _ _ (@pa_cons _ _ _ _ _ (@pe_op _ _ _ _ _ _ _ _ op_powD (@pe_int _ _ _ _) (@pe_int _ _ _ _)) (@pa_cons _ _ _ _ _ (@pe_int _ _ _ _) (@pa_nil _) (by rfl)) (by rfl))) (@pa_consT _ _ _ _ _ _ _ (@pl_tup _ _ _ _ _ (@pls_consI _ _ _ _ _ _ (@pls_consI _ _ _ _ _ _ (@pls_nil _))) (by decide)) (@pa_nil _)))) (@pa_nil _)) (by rfl)) (by decide) (by rfl) (by rfl)) (@pe_int _ _ _ _) (nomark _)))))))), ?_⟩
    walk_at "rh"
    refine ⟨a, ns, rfl, hS, hl, fun lw xs r H1 s1 h1 R1 r4 r20 b1 => ?_⟩
    have bW : ∀ q ∈ og :: r ++ [og], bd 20000 q := fun q hq => by
      rcases List.mem_append.mp hq with hq | hq
      · exact b1 q hq
      · rw [List.mem_singleton.mp hq]; exact b1 og (by simp)
    have x1 : xs.length = r.length + 2 := by rw [R1.length, List.length_map]; simp
    have lW : (og :: r ++ [og]).length ≤ 1000 := by simp; omega
    clear b1
    walk_at "rh"
    refine ⟨_, .inl (s1.seq hS), ?_⟩
    rw [List.length_map]
    have hm : ∃ m : Nat, (if (if (ns.length : Int) < 12 then (ns.length : Int) else 12) > 6 then (if (ns.length : Int) < 12 then (ns.length : Int) else 12) else 6) = (m : Int) ∧ m ≤ 12 := by
      by_cases h : (ns.length : Int) < 12
      · rw [if_pos h]
        by_cases h2 : (ns.length : Int) > 6
        · rw [if_pos h2]; exact ⟨ns.length, rfl, by omega⟩
        · rw [if_neg h2]; exact ⟨6, rfl, by decide⟩
      · rw [if_neg h]; exact ⟨12, rfl, by decide⟩
    obtain ⟨m, em, m12⟩ := hm
    rw [em]
    refine ⟨by omega, by omega, fun lsp hlsp => ?_⟩
    rw [Int.toNat_natCast]
    refine CW_range (Iv_sp K a lw lsp H1) ⟨[], [], none, rfl, Same.upd hlsp, upd_same, RpL.nil, rfl, fun q hq => by cases hq⟩ ?_ ?_
    · rintro i σ H10 hi ⟨vs, qs, o1, rfl, s10, hy, hv, hq, hb⟩
      have ei : (0 : Int) + (i : Int) = (i : Int) := by omega
      walk_at "rd"
      rw [ei]
      refine ⟨a, ns, _, lw, xs, _, rfl, (s1.trans s10).seq hS, hl, by omega, by omega, SqL.of (s10 _ _ h1), R1.same s10, by simp, lW, fun q hq => (bW q hq).mono (by decide), fun v p H11 s11 rp bp => ?_⟩
      have hy11 := s11 _ _ hy
      have su : SameT H11 (upd H11 lsp (.lst (vs ++ [v]))) := (SameT.refl _).upd (nt_lst hy11)
      have vl := hv.length
      rw [List.length_map] at vl
      refine ⟨_, hy11, small1000 (by omega), nx hi ⟨vs ++ [v], qs ++ [p], _, rfl, (s10.trans s11).upd2 hlsp, upd_same, ?_, by rw [List.length_append, hq]; rfl, fun q hq => ?_⟩⟩
      · rw [List.map_append]; exact ((hv.same s11).t su).app (RpL.one (rp.t su))
      · rcases List.mem_append.mp hq with hq | hq
        · exact hb q hq
        · rw [List.mem_singleton.mp hq]; exact bp
    · rintro σ H2 ⟨vs, qs, o1, rfl, s2, hy, hv, hq, hb⟩
      have h12 := s2 _ _ h1
      have R12 := R1.same s2
      have vl : vs.length ≤ 12 := by rw [hv.length, List.length_map]; omega
      clear h1 R1 s2 hlsp em s1 hS
      walk_at "rh"
      refine ⟨_, hy, _, h12, Nat.le_of_lt (small1000 (by omega)), fun lc hlc => ?_⟩
      have uc := Same.upd (o := .lst (vs ++ xs)) hlc
      have hc3 : upd H2 lc (.lst (vs ++ xs)) lc = some (.lst (vs ++ xs)) := upd_same
      have h13 := uc _ _ h12
      have R13 := R12.same uc
      have Rc : RpL K (upd H2 lc (.lst (vs ++ xs))) ((qs ++ (og :: r ++ [og])).map Pl.D) (vs ++ xs) := by
        rw [List.map_append]; exact (hv.same uc).app R13
      have bc : ∀ q ∈ qs ++ (og :: r ++ [og]), bd 70000 q := fun q hq => by
        rcases List.mem_append.mp hq with hq | hq
        · exact hb q hq
        · exact (bW q hq).mono (by decide)
      generalize upd H2 lc (.lst (vs ++ xs)) = H3 at hc3 h13 R13 Rc ⊢
      generalize hcs : qs ++ (og :: r ++ [og]) = cs at Rc bc
      generalize vs ++ xs = vc at hc3 Rc ⊢
      clear uc hlc h12 R12 hy hv hb hcs
      refine ⟨⟨_, SqL.of hc3⟩, ?_⟩
      refine FW_list (xs := vc) (Iv_lp a lw lsp H3) ⟨none, none, none, none, none, rfl, Same.refl _⟩ (fun i σ H2 _ h => by obtain ⟨_, _, _, _, _, _, s2⟩ := h; exact SqL.of (s2 _ _ hc3)) ?_ ?_
      · rintro i x σ H4 hi ⟨o1, o2, o3, o4, o5, rfl, s4⟩
        obtain ⟨p, gp, rp⟩ := place_at Rc hi
        have bp := bc p (List.mem_of_getElem? gp)
        have h14 := s4 _ _ h13
        have R14 := R13.same s4
        have eDue : dueOf ((og :: r ++ [og]).map (sub p)) = rnd ((og :: r ++ [og]).map (sub p)) := by
          rw [List.map_append, List.map_cons]
          exact due_eq _ _
        have eRev : rnd ((og :: r ++ [og]).reverse.map (sub p)) = negO (rnd ((og :: r ++ [og]).map (sub p))) := by
          rw [List.map_reverse]; exact rnd_rev _
        generalize eOd : rnd ((og :: r ++ [og]).map (sub p)) = od at eDue eRev
        walk_at "rh"
        refine ⟨_, SqL.of h14, fun lh hlh => ?_⟩
        have u5 := Same.upd (o := .lst xs) hlh
        have hh5 : upd H4 lh (.lst xs) lh = some (.lst xs) := upd_same
        have h15 := u5 _ _ h14
        have R15 := R14.same u5
        have rp5 := rp.same (s4.trans u5)
        have s5 := s4.trans u5
        generalize upd H4 lh (.lst xs) = H5 at hh5 h15 R15 rp5 s5 ⊢
        clear u5 hlh h14 R14 s4
        have bw : ∀ q ∈ og :: r ++ [og], bd 2000000 q := fun q hq => (bW q hq).mono (by decide)
        walk_at "rh"
        refine ⟨lh, xs, _, _, p, rfl, SqL.of hh5, R15, rp5, lW, by simp, bw, bp.mono (by decide), fun H6 s6 => ?_⟩
        rw [eOd]
        walk_at "rh"
        have h16 := s6 _ _ h15
        have R16 := R15.same s6
        refine ⟨xs, SqL.of (s6 _ _ hh5), xs, SqL.of h16, _, R16, _, R16, depL_pl _, ?_⟩
        rw [if_neg (by rw [deqL_self]; decide)]
        walk_at "rh"
        refine ⟨lw, xs, _, _, p, rfl, SqL.of h16, R16, rp5.same s6, lW, by simp, bw, bp.mono (by decide), fun H7 s7 => ?_⟩
        rw [eDue]
        have h17 := s7 _ _ h16
        have R17 := R16.same s7
        have rp7 := rp5.same (s6.trans s7)
        have s37 := (s5.trans s6).trans s7
        clear h15 h16 R15 R16 hh5 rp5 s5 s6 s7
        have bw' : ∀ q ∈ (og :: r ++ [og]).reverse, bd 2000000 q := fun q hq => bw q (List.mem_reverse.mp hq)
        have lW' : ((og :: r ++ [og]).reverse).length ≤ 1000 := by rw [List.length_reverse]; exact lW
        cases od with
        | none =>
          dsimp only [ov, negO] at eRev ⊢
          walk_at "rh"
          walk_at "rh"
          refine ⟨_, SqL.of h17, fun pr hpr => ?_⟩
          have ur := Same.upd (o := .lst xs.reverse) hpr
          have rrev := RpL_rev (R17.same ur)
          refine ⟨pr, _, _, _, p, rfl, SqL.of upd_same, rrev, rp7.same ur, lW', by simp, bw', bp.mono (by decide), fun H8 s8 => ?_⟩
          rw [eRev]
          dsimp only [ov]
          walk_at "rh"
          exact ⟨_, _, _, _, _, rfl, (s37.trans ur).trans s8⟩
        | some n =>
          dsimp only [ov, negO] at eRev ⊢
          walk_at "rh"
          refine ⟨n, rfl, ?_⟩
          walk_at "rh"
          refine ⟨_, SqL.of h17, fun pr hpr => ?_⟩
          have ur := Same.upd (o := .lst xs.reverse) hpr
          have rrev := RpL_rev (R17.same ur)
          refine ⟨pr, _, _, _, p, rfl, SqL.of upd_same, rrev, rp7.same ur, lW', by simp, bw', bp.mono (by decide), fun H8 s8 => ?_⟩
          rw [eRev]
          dsimp only [ov]
          walk_at "rh"
          exact ⟨_, _, _, _, _, rfl, (s37.trans ur).trans s8⟩
      · rintro σ H4 ⟨o1, o2, o3, o4, o5, rfl, s4⟩
        have h14 := s4 _ _ h13
        have R14 := R13.same s4
        have bw : ∀ q ∈ og :: r ++ [og], bd 2000000 q := fun q hq => (bW q hq).mono (by decide)
        clear h13 R13 s4 Rc bc hc3
        walk_at "rh"
        walk_at "rh"
        refine ⟨_, SqL.of h14, fun p1 hp1 => ?_⟩
        have ez : cutV xs none (some 1) = xs.take 1 := cut_to 1
        rw [ez]
        have u1 := Same.upd (o := .lst (xs.take 1)) hp1
        have hz1 : upd H4 p1 (.lst (xs.take 1)) p1 = some (.lst (xs.take 1)) := upd_same
        obtain ⟨v0, p0, e0, g0, rp0⟩ := place_get (i := 0) R14 (by simp)
        have hp0 : og = p0 := Option.some.inj g0
        subst hp0
        have h15 := u1 _ _ h14
        have R15 := R14.same u1
        have rp5 := rp0.same u1
        generalize upd H4 p1 (.lst (xs.take 1)) = H5 at hz1 h15 R15 rp5 ⊢
        clear u1 hp1 rp0 h14 R14
        have bo : ∀ q ∈ [og], bd 2000000 q := fun q hq => by rw [List.mem_singleton.mp hq]; simp [bd, og]
        have n1 : rnd ([og].map (sub og)) = none := rfl
        have n2 : rnd ([og].map (sub ⟨1, 1, 0, 1⟩)) = some 0 := rfl
        refine ⟨_, SqL.of h15, _, e0, p1, _, [og], _, og, rfl, SqL.of hz1, RpL_take 1 R15, rp5, by simp, by simp, bo, bo og (by simp), fun H6 s6 => ?_⟩
        rw [n1]
        dsimp only [ov]
        rw [if_neg (by decide)]
        have h16 := s6 _ _ h15
        have R16 := R15.same s6
        clear h15 R15 rp5 hz1
        refine ⟨_, SqL.of h16, fun p2 hp2 v2 H7 s7 r7 => ?_⟩
        rw [ez] at s7
        have u2 := Same.upd (o := .lst (xs.take 1)) hp2
        have hz2 := s7 _ _ (upd_same (H := H6) (a := p2) (o := .lst (xs.take 1)))
        have s27 := u2.trans s7
        have h17 := s27 _ _ h16
        have R17 := R16.same s27
        clear h16 R16 u2 s7 hp2
        refine ⟨p2, _, [og], _, ⟨1, 1, 0, 1⟩, rfl, SqL.of hz2, RpL_take 1 R17, r7, by simp, by simp, bo, by simp [bd], fun H8 s8 => ?_⟩
        rw [n2]
        dsimp only [ov]
        rw [if_neg (by decide)]
        have h18 := s8 _ _ h17
        have R18 := R17.same s8
        clear h17 R17 hz2 r7
        walk_at "rh"
        refine ⟨⟨by decide, by decide, by decide⟩, by decide, fun pa hpa v9 H9 s9 r9 => ⟨by decide, fun pb hpb => ?_⟩⟩
        have ua := Same.upd (o := .tup [.int (10 ^ Int.toNat 6), .int 0]) hpa
        have ub := Same.upd (o := .tup [.ref pa, v9]) hpb
        have sab := (ua.trans s9).trans ub
        have hA : SqT K (upd H9 pb (.tup [.ref pa, v9])) pa [.int (10 ^ Int.toNat 6), .int 0] := SqT.of ((s9.trans ub) _ _ upd_same)
        have far : ∀ q ∈ (og :: r ++ [og]).map (sub ⟨1000000, 0, 3, 0⟩), sg q.a q.b = -1 := by
          intro q hq
          obtain ⟨q', hq', rfl⟩ := List.mem_map.mp hq
          have b := bW q' hq'
          exact sg_far (by have := b.1.2; simp only [sub]; omega) (by have := b.2.1; simp only [sub]; omega)
        refine ⟨lw, xs, _, _, ⟨1000000, 0, 3, 0⟩, rfl, SqL.of (sab _ _ h18), R18.same sab, ?_, lW, by simp, bw, by simp [bd], fun H10 s10 => ?_⟩
        · exact pair_iff.mpr ⟨pb, _, _, rfl, SqT.of upd_same, num_iff.mpr ⟨pa, rfl, hA⟩, r9.same ub⟩
        rw [rnd_far far]
        exact q _
end
theorem all_mk {l : PySem.W.OpenLaw} {w : World} {K : PySem.W.Frag} {h : Heap} {mg : Str → Option Value} {fa : Addr} (X : K.In h) (G : h.Ns mainGlobals mg) (hfa : mg "law" = some (.ref fa))
    {f0 : Addr} {od0 an0 : Option Addr} {sl0 : Array (Option Value)} {oc0 kV0 dc0 pm0 cd0 ct0 : Value}
    {f1 : Addr} {od1 an1 : Option Addr} {sl1 : Array (Option Value)} {oc1 kV1 dc1 pm1 cd1 ct1 : Value}
    {f2 : Addr} {od2 an2 : Option Addr} {sl2 : Array (Option Value)} {oc2 kV2 dc2 pm2 cd2 ct2 : Value}
    {f3 : Addr} {od3 an3 : Option Addr} {sl3 : Array (Option Value)} {oc3 kV3 dc3 pm3 cd3 ct3 : Value}
    {f4 : Addr} {od4 an4 : Option Addr} {sl4 : Array (Option Value)} {oc4 kV4 dc4 pm4 cd4 ct4 : Value}
    {f5 : Addr} {od5 an5 : Option Addr} {sl5 : Array (Option Value)} {oc5 kV5 dc5 pm5 cd5 ct5 : Value}
    {f6 : Addr} {od6 an6 : Option Addr} {sl6 : Array (Option Value)} {oc6 kV6 dc6 pm6 cd6 ct6 : Value}
    {f7 : Addr} {od7 an7 : Option Addr} {sl7 : Array (Option Value)} {oc7 kV7 dc7 pm7 cd7 ct7 : Value}
    {f8 : Addr} {od8 an8 : Option Addr} {sl8 : Array (Option Value)} {oc8 kV8 dc8 pm8 cd8 ct8 : Value}
    {f9 : Addr} {od9 an9 : Option Addr} {sl9 : Array (Option Value)} {oc9 kV9 dc9 pm9 cd9 ct9 : Value}
    {f10 : Addr} {od10 an10 : Option Addr} {sl10 : Array (Option Value)} {oc10 kV10 dc10 pm10 cd10 ct10 : Value}
    {f11 : Addr} {od11 an11 : Option Addr} {sl11 : Array (Option Value)} {oc11 kV11 dc11 pm11 cd11 ct11 : Value}
    {f12 : Addr} {od12 an12 : Option Addr} {sl12 : Array (Option Value)} {oc12 kV12 dc12 pm12 cd12 ct12 : Value}
    {f13 : Addr} {od13 an13 : Option Addr} {sl13 : Array (Option Value)} {oc13 kV13 dc13 pm13 cd13 ct13 : Value}
    {f14 : Addr} {od14 an14 : Option Addr} {sl14 : Array (Option Value)} {oc14 kV14 dc14 pm14 cd14 ct14 : Value}
    {f15 : Addr} {od15 an15 : Option Addr} {sl15 : Array (Option Value)} {oc15 kV15 dc15 pm15 cd15 ct15 : Value}
    {f16 : Addr} {od16 an16 : Option Addr} {sl16 : Array (Option Value)} {oc16 kV16 dc16 pm16 cd16 ct16 : Value}
    {f17 : Addr} {od17 an17 : Option Addr} {sl17 : Array (Option Value)} {oc17 kV17 dc17 pm17 cd17 ct17 : Value}
    {f18 : Addr} {od18 an18 : Option Addr} {sl18 : Array (Option Value)} {oc18 kV18 dc18 pm18 cd18 ct18 : Value}
    {f19 : Addr} {od19 an19 : Option Addr} {sl19 : Array (Option Value)} {oc19 kV19 dc19 pm19 cd19 ct19 : Value}
    {f20 : Addr} {od20 an20 : Option Addr} {sl20 : Array (Option Value)} {oc20 kV20 dc20 pm20 cd20 ct20 : Value}
    {f21 : Addr} {od21 an21 : Option Addr} {sl21 : Array (Option Value)} {oc21 kV21 dc21 pm21 cd21 ct21 : Value}
    {f22 : Addr} {od22 an22 : Option Addr} {sl22 : Array (Option Value)} {oc22 kV22 dc22 pm22 cd22 ct22 : Value}
    {f23 : Addr} {od23 an23 : Option Addr} {sl23 : Array (Option Value)} {oc23 kV23 dc23 pm23 cd23 ct23 : Value}
    (a0 : PySem.W.nsIn K mainGlobals "minus" = some (some (.ref f0))) (l0 : K.lookup f0 = some ⟨oc0, od0, .func (PySem.W.fnOf "minus" "minus" (defArgs s_minus) (defBody s_minus) (defScope s_minus) .none kV0 dc0 pm0 an0 cd0 ct0), sl0⟩) (c0 : PySem.W.codeIn K cd0 "minus" = true) (k0 : PySem.W.keepIn K (.ref f0) = true)
    (a1 : PySem.W.nsIn K mainGlobals "sign_of_int" = some (some (.ref f1))) (l1 : K.lookup f1 = some ⟨oc1, od1, .func (PySem.W.fnOf "sign_of_int" "sign_of_int" (defArgs s_signofint) (defBody s_signofint) (defScope s_signofint) .none kV1 dc1 pm1 an1 cd1 ct1), sl1⟩) (c1 : PySem.W.codeIn K cd1 "sign_of_int" = true) (k1 : PySem.W.keepIn K (.ref f1) = true)
    (a2 : PySem.W.nsIn K mainGlobals "sign_of" = some (some (.ref f2))) (l2 : K.lookup f2 = some ⟨oc2, od2, .func (PySem.W.fnOf "sign_of" "sign_of" (defArgs s_signof) (defBody s_signof) (defScope s_signof) .none kV2 dc2 pm2 an2 cd2 ct2), sl2⟩) (c2 : PySem.W.codeIn K cd2 "sign_of" = true) (k2 : PySem.W.keepIn K (.ref f2) = true)
    (a3 : PySem.W.nsIn K mainGlobals "twice_product" = some (some (.ref f3))) (l3 : K.lookup f3 = some ⟨oc3, od3, .func (PySem.W.fnOf "twice_product" "twice_product" (defArgs s_twiceproduct) (defBody s_twiceproduct) (defScope s_twiceproduct) .none kV3 dc3 pm3 an3 cd3 ct3), sl3⟩) (c3 : PySem.W.codeIn K cd3 "twice_product" = true) (k3 : PySem.W.keepIn K (.ref f3) = true)
    (a4 : PySem.W.nsIn K mainGlobals "swept" = some (some (.ref f4))) (l4 : K.lookup f4 = some ⟨oc4, od4, .func (PySem.W.fnOf "swept" "swept" (defArgs s_swept) (defBody s_swept) (defScope s_swept) .none kV4 dc4 pm4 an4 cd4 ct4), sl4⟩) (c4 : PySem.W.codeIn K cd4 "swept" = true) (k4 : PySem.W.keepIn K (.ref f4) = true)
    (a5 : PySem.W.nsIn K mainGlobals "are_apart" = some (some (.ref f5))) (l5 : K.lookup f5 = some ⟨oc5, od5, .func (PySem.W.fnOf "are_apart" "are_apart" (defArgs s_areapart) (defBody s_areapart) (defScope s_areapart) .none kV5 dc5 pm5 an5 cd5 ct5), sl5⟩) (c5 : PySem.W.codeIn K cd5 "are_apart" = true) (k5 : PySem.W.keepIn K (.ref f5) = true)
    (a6 : PySem.W.nsIn K mainGlobals "crossing" = some (some (.ref f6))) (l6 : K.lookup f6 = some ⟨oc6, od6, .func (PySem.W.fnOf "crossing" "crossing" (defArgs s_crossing) (defBody s_crossing) (defScope s_crossing) .none kV6 dc6 pm6 an6 cd6 ct6), sl6⟩) (c6 : PySem.W.codeIn K cd6 "crossing" = true) (k6 : PySem.W.keepIn K (.ref f6) = true)
    (a7 : PySem.W.nsIn K mainGlobals "rounds_of" = some (some (.ref f7))) (l7 : K.lookup f7 = some ⟨oc7, od7, .func (PySem.W.fnOf "rounds_of" "rounds_of" (defArgs s_roundsof) (defBody s_roundsof) (defScope s_roundsof) .none kV7 dc7 pm7 an7 cd7 ct7), sl7⟩) (c7 : PySem.W.codeIn K cd7 "rounds_of" = true) (k7 : PySem.W.keepIn K (.ref f7) = true)
    (a8 : PySem.W.nsIn K mainGlobals "_law_cell" = some (some (.ref f8))) (l8 : K.lookup f8 = some ⟨oc8, od8, .func (PySem.W.fnOf "_law_cell" "_law_cell" (defArgs s_Lcell) (defBody s_Lcell) (defScope s_Lcell) .none kV8 dc8 pm8 an8 cd8 ct8), sl8⟩) (c8 : PySem.W.codeIn K cd8 "_law_cell" = true) (k8 : PySem.W.keepIn K (.ref f8) = true)
    (a9 : PySem.W.nsIn K mainGlobals "_law_mixed" = some (some (.ref f9))) (l9 : K.lookup f9 = some ⟨oc9, od9, .func (PySem.W.fnOf "_law_mixed" "_law_mixed" (defArgs s_Lmixed) (defBody s_Lmixed) (defScope s_Lmixed) .none kV9 dc9 pm9 an9 cd9 ct9), sl9⟩) (c9 : PySem.W.codeIn K cd9 "_law_mixed" = true) (k9 : PySem.W.keepIn K (.ref f9) = true)
    (a10 : PySem.W.nsIn K mainGlobals "_law_row" = some (some (.ref f10))) (l10 : K.lookup f10 = some ⟨oc10, od10, .func (PySem.W.fnOf "_law_row" "_law_row" (defArgs s_Lrow) (defBody s_Lrow) (defScope s_Lrow) .none kV10 dc10 pm10 an10 cd10 ct10), sl10⟩) (c10 : PySem.W.codeIn K cd10 "_law_row" = true) (k10 : PySem.W.keepIn K (.ref f10) = true)
    (a11 : PySem.W.nsIn K mainGlobals "_law_int" = some (some (.ref f11))) (l11 : K.lookup f11 = some ⟨oc11, od11, .func (PySem.W.fnOf "_law_int" "_law_int" (defArgs s_Lint) (defBody s_Lint) (defScope s_Lint) .none kV11 dc11 pm11 an11 cd11 ct11), sl11⟩) (c11 : PySem.W.codeIn K cd11 "_law_int" = true) (k11 : PySem.W.keepIn K (.ref f11) = true)
    (a12 : PySem.W.nsIn K mainGlobals "_law_sign" = some (some (.ref f12))) (l12 : K.lookup f12 = some ⟨oc12, od12, .func (PySem.W.fnOf "_law_sign" "_law_sign" (defArgs s_Lsign) (defBody s_Lsign) (defScope s_Lsign) .none kV12 dc12 pm12 an12 cd12 ct12), sl12⟩) (c12 : PySem.W.codeIn K cd12 "_law_sign" = true) (k12 : PySem.W.keepIn K (.ref f12) = true)
    (a13 : PySem.W.nsIn K mainGlobals "_law_moved" = some (some (.ref f13))) (l13 : K.lookup f13 = some ⟨oc13, od13, .func (PySem.W.fnOf "_law_moved" "_law_moved" (defArgs s_Lmoved) (defBody s_Lmoved) (defScope s_Lmoved) .none kV13 dc13 pm13 an13 cd13 ct13), sl13⟩) (c13 : PySem.W.codeIn K cd13 "_law_moved" = true) (k13 : PySem.W.keepIn K (.ref f13) = true)
    (a14 : PySem.W.nsIn K mainGlobals "_law_place" = some (some (.ref f14))) (l14 : K.lookup f14 = some ⟨oc14, od14, .func (PySem.W.fnOf "_law_place" "_law_place" (defArgs s_Lplace) (defBody s_Lplace) (defScope s_Lplace) .none kV14 dc14 pm14 an14 cd14 ct14), sl14⟩) (c14 : PySem.W.codeIn K cd14 "_law_place" = true) (k14 : PySem.W.keepIn K (.ref f14) = true)
    (a15 : PySem.W.nsIn K mainGlobals "_law_minus" = some (some (.ref f15))) (l15 : K.lookup f15 = some ⟨oc15, od15, .func (PySem.W.fnOf "_law_minus" "_law_minus" (defArgs s_Lminus) (defBody s_Lminus) (defScope s_Lminus) .none kV15 dc15 pm15 an15 cd15 ct15), sl15⟩) (c15 : PySem.W.codeIn K cd15 "_law_minus" = true) (k15 : PySem.W.keepIn K (.ref f15) = true)
    (a16 : PySem.W.nsIn K mainGlobals "_law_double" = some (some (.ref f16))) (l16 : K.lookup f16 = some ⟨oc16, od16, .func (PySem.W.fnOf "_law_double" "_law_double" (defArgs s_Ldouble) (defBody s_Ldouble) (defScope s_Ldouble) .none kV16 dc16 pm16 an16 cd16 ct16), sl16⟩) (c16 : PySem.W.codeIn K cd16 "_law_double" = true) (k16 : PySem.W.keepIn K (.ref f16) = true)
    (a17 : PySem.W.nsIn K mainGlobals "_law_way" = some (some (.ref f17))) (l17 : K.lookup f17 = some ⟨oc17, od17, .func (PySem.W.fnOf "_law_way" "_law_way" (defArgs s_Lway) (defBody s_Lway) (defScope s_Lway) .none kV17 dc17 pm17 an17 cd17 ct17), sl17⟩) (c17 : PySem.W.codeIn K cd17 "_law_way" = true) (k17 : PySem.W.keepIn K (.ref f17) = true)
    (a18 : PySem.W.nsIn K mainGlobals "_law_side" = some (some (.ref f18))) (l18 : K.lookup f18 = some ⟨oc18, od18, .func (PySem.W.fnOf "_law_side" "_law_side" (defArgs s_Lside) (defBody s_Lside) (defScope s_Lside) .none kV18 dc18 pm18 an18 cd18 ct18), sl18⟩) (c18 : PySem.W.codeIn K cd18 "_law_side" = true) (k18 : PySem.W.keepIn K (.ref f18) = true)
    (a19 : PySem.W.nsIn K mainGlobals "_law_quarter" = some (some (.ref f19))) (l19 : K.lookup f19 = some ⟨oc19, od19, .func (PySem.W.fnOf "_law_quarter" "_law_quarter" (defArgs s_Lquarter) (defBody s_Lquarter) (defScope s_Lquarter) .none kV19 dc19 pm19 an19 cd19 ct19), sl19⟩) (c19 : PySem.W.codeIn K cd19 "_law_quarter" = true) (k19 : PySem.W.keepIn K (.ref f19) = true)
    (a20 : PySem.W.nsIn K mainGlobals "_law_turns" = some (some (.ref f20))) (l20 : K.lookup f20 = some ⟨oc20, od20, .func (PySem.W.fnOf "_law_turns" "_law_turns" (defArgs s_Lturns) (defBody s_Lturns) (defScope s_Lturns) .none kV20 dc20 pm20 an20 cd20 ct20), sl20⟩) (c20 : PySem.W.codeIn K cd20 "_law_turns" = true) (k20 : PySem.W.keepIn K (.ref f20) = true)
    (a21 : PySem.W.nsIn K mainGlobals "_law_rounds" = some (some (.ref f21))) (l21 : K.lookup f21 = some ⟨oc21, od21, .func (PySem.W.fnOf "_law_rounds" "_law_rounds" (defArgs s_Lrounds) (defBody s_Lrounds) (defScope s_Lrounds) .none kV21 dc21 pm21 an21 cd21 ct21), sl21⟩) (c21 : PySem.W.codeIn K cd21 "_law_rounds" = true) (k21 : PySem.W.keepIn K (.ref f21) = true)
    (a22 : PySem.W.nsIn K mainGlobals "_law_spot" = some (some (.ref f22))) (l22 : K.lookup f22 = some ⟨oc22, od22, .func (PySem.W.fnOf "_law_spot" "_law_spot" (defArgs s_Lspot) (defBody s_Lspot) (defScope s_Lspot) .none kV22 dc22 pm22 an22 cd22 ct22), sl22⟩) (c22 : PySem.W.codeIn K cd22 "_law_spot" = true) (k22 : PySem.W.keepIn K (.ref f22) = true)
    (a23 : PySem.W.nsIn K mainGlobals "law" = some (some (.ref f23))) (l23 : K.lookup f23 = some ⟨oc23, od23, .func (PySem.W.fnOf "law" "law" (defArgs s_law) (defBody s_law) (defScope s_law) .none kV23 dc23 pm23 an23 cd23 ct23), sl23⟩) (c23 : PySem.W.codeIn K cd23 "law" = true) (k23 : PySem.W.keepIn K (.ref f23) = true)
    (z_bool : PySem.W.nsIn K mainGlobals "bool" = some none)
    (z_int : PySem.W.nsIn K mainGlobals "int" = some none)
    (z_isinstance : PySem.W.nsIn K mainGlobals "isinstance" = some none)
    (z_len : PySem.W.nsIn K mainGlobals "len" = some none)
    (z_list : PySem.W.nsIn K mainGlobals "list" = some none)
    (z_max : PySem.W.nsIn K mainGlobals "max" = some none)
    (z_min : PySem.W.nsIn K mainGlobals "min" = some none)
    (z_range : PySem.W.nsIn K mainGlobals "range" = some none)
    (z_reversed : PySem.W.nsIn K mainGlobals "reversed" = some none)
    (z_zip : PySem.W.nsIn K mainGlobals "zip" = some none)
    {u_BEGINNING : Value} (g_BEGINNING : PySem.W.nsIn K mainGlobals "BEGINNING" = some (some u_BEGINNING)) (k_BEGINNING : kdIn K D_BEGINNING u_BEGINNING = true)
    : ∃ fd : FuncData, (∀ (s : Shared) (v : Value), BindsTo s fd ⟨[v], []⟩ [("_law_script", v)]) ∧ ∀ base : Heap, K.In base → base.Ns mainGlobals mg → FnOk l.prog w K mg base CX0 5 fa fd ["_law_script"] (sp_law K) := by
  have e := hfa.symm.trans (PySem.W.mg_of X G a23)
  cases e
  have F0 := fun_mk (st := s_minus) l0 c0 k0
  have b0 := F0.binds (ps := ["one", "other"]) fun _ _ _ _ _ _ us hl => match us, hl with | [_, _], _ => rfl
  have F1 := fun_mk (st := s_signofint) l1 c1 k1
  have b1 := F1.binds (ps := ["value"]) fun _ _ _ _ _ _ us hl => match us, hl with | [_], _ => rfl
  have F2 := fun_mk (st := s_signof) l2 c2 k2
  have b2 := F2.binds (ps := ["number"]) fun _ _ _ _ _ _ us hl => match us, hl with | [_], _ => rfl
  have F3 := fun_mk (st := s_twiceproduct) l3 c3 k3
  have b3 := F3.binds (ps := ["one", "other"]) fun _ _ _ _ _ _ us hl => match us, hl with | [_, _], _ => rfl
  have F4 := fun_mk (st := s_swept) l4 c4 k4
  have b4 := F4.binds (ps := ["start", "end"]) fun _ _ _ _ _ _ us hl => match us, hl with | [_, _], _ => rfl
  have F5 := fun_mk (st := s_areapart) l5 c5 k5
  have b5 := F5.binds (ps := ["one", "other"]) fun _ _ _ _ _ _ us hl => match us, hl with | [_, _], _ => rfl
  have F6 := fun_mk (st := s_crossing) l6 c6 k6
  have b6 := F6.binds (ps := ["start", "end", "side"]) fun _ _ _ _ _ _ us hl => match us, hl with | [_, _, _], _ => rfl
  have F7 := fun_mk (st := s_roundsof) l7 c7 k7
  have b7 := F7.binds (ps := ["way", "place"]) fun _ _ _ _ _ _ us hl => match us, hl with | [_, _], _ => rfl
  have F8 := fun_mk (st := s_Lcell) l8 c8 k8
  have b8 := F8.binds (ps := ["_law_script", "_law_k"]) fun _ _ _ _ _ _ us hl => match us, hl with | [_, _], _ => rfl
  have F9 := fun_mk (st := s_Lmixed) l9 c9 k9
  have b9 := F9.binds (ps := ["_law_cell_here", "_law_k"]) fun _ _ _ _ _ _ us hl => match us, hl with | [_, _], _ => rfl
  have F10 := fun_mk (st := s_Lrow) l10 c10 k10
  have b10 := F10.binds (ps := ["_law_cell_here", "_law_most", "_law_many"]) fun _ _ _ _ _ _ us hl => match us, hl with | [_, _, _], _ => rfl
  have F11 := fun_mk (st := s_Lint) l11 c11 k11
  have b11 := F11.binds (ps := ["_law_found"]) fun _ _ _ _ _ _ us hl => match us, hl with | [_], _ => rfl
  have F12 := fun_mk (st := s_Lsign) l12 c12 k12
  have b12 := F12.binds (ps := ["_law_number"]) fun _ _ _ _ _ _ us hl => match us, hl with | [_], _ => rfl
  have F13 := fun_mk (st := s_Lmoved) l13 c13 k13
  have b13 := F13.binds (ps := ["_law_place_here", "_law_heading", "_law_steps"]) fun _ _ _ _ _ _ us hl => match us, hl with | [_, _, _], _ => rfl
  have F14 := fun_mk (st := s_Lplace) l14 c14 k14
  have b14 := F14.binds (ps := ["_law_row_here", "_law_far"]) fun _ _ _ _ _ _ us hl => match us, hl with | [_, _], _ => rfl
  have F15 := fun_mk (st := s_Lminus) l15 c15 k15
  have b15 := F15.binds (ps := ["_law_one", "_law_other"]) fun _ _ _ _ _ _ us hl => match us, hl with | [_, _], _ => rfl
  have F16 := fun_mk (st := s_Ldouble) l16 c16 k16
  have b16 := F16.binds (ps := ["_law_one", "_law_other"]) fun _ _ _ _ _ _ us hl => match us, hl with | [_, _], _ => rfl
  have F17 := fun_mk (st := s_Lway) l17 c17 k17
  have b17 := F17.binds (ps := ["_law_script", "_law_start", "_law_most"]) fun _ _ _ _ _ _ us hl => match us, hl with | [_, _, _], _ => rfl
  have F18 := fun_mk (st := s_Lside) l18 c18 k18
  have b18 := F18.binds (ps := ["_law_one", "_law_other", "_law_spot_here"]) fun _ _ _ _ _ _ us hl => match us, hl with | [_, _, _], _ => rfl
  have F19 := fun_mk (st := s_Lquarter) l19 c19 k19
  have b19 := F19.binds (ps := ["_law_spot_here", "_law_place_here"]) fun _ _ _ _ _ _ us hl => match us, hl with | [_, _], _ => rfl
  have F20 := fun_mk (st := s_Lturns) l20 c20 k20
  have b20 := F20.binds (ps := ["_law_spot_here", "_law_one", "_law_other"]) fun _ _ _ _ _ _ us hl => match us, hl with | [_, _, _], _ => rfl
  have F21 := fun_mk (st := s_Lrounds) l21 c21 k21
  have b21 := F21.binds (ps := ["_law_way_here", "_law_spot_here"]) fun _ _ _ _ _ _ us hl => match us, hl with | [_, _], _ => rfl
  have F22 := fun_mk (st := s_Lspot) l22 c22 k22
  have b22 := F22.binds (ps := ["_law_script", "_law_k", "_law_way_here"]) fun _ _ _ _ _ _ us hl => match us, hl with | [_, _, _], _ => rfl
  have F23 := fun_mk (st := s_law) l23 c23 k23
  have b23 := F23.binds (ps := ["_law_script"]) fun _ _ _ _ _ _ us hl => match us, hl with | [_], _ => rfl
  obtain ⟨v_BEGINNING, r_BEGINNING, p_BEGINNING⟩ := kd_rp k_BEGINNING
  have T : Txt K mg ⟨_, _, _, _, _, _, _, _, _, _, _, _, _, _, _, _, _, _, _, _, _, _, _, _, _, _, _, _, _, _, _, _, _, _, _, _, _, _, _, _, _, _, _, _, _, _, _, _, _, _⟩ := ⟨⟨F0, b0, PySem.W.mg_of X G a0⟩, ⟨F1, b1, PySem.W.mg_of X G a1⟩, ⟨F2, b2, PySem.W.mg_of X G a2⟩, ⟨F3, b3, PySem.W.mg_of X G a3⟩, ⟨F4, b4, PySem.W.mg_of X G a4⟩, ⟨F5, b5, PySem.W.mg_of X G a5⟩, ⟨F6, b6, PySem.W.mg_of X G a6⟩, ⟨F7, b7, PySem.W.mg_of X G a7⟩, ⟨F8, b8, PySem.W.mg_of X G a8⟩, ⟨F9, b9, PySem.W.mg_of X G a9⟩, ⟨F10, b10, PySem.W.mg_of X G a10⟩, ⟨F11, b11, PySem.W.mg_of X G a11⟩, ⟨F12, b12, PySem.W.mg_of X G a12⟩, ⟨F13, b13, PySem.W.mg_of X G a13⟩, ⟨F14, b14, PySem.W.mg_of X G a14⟩, ⟨F15, b15, PySem.W.mg_of X G a15⟩, ⟨F16, b16, PySem.W.mg_of X G a16⟩, ⟨F17, b17, PySem.W.mg_of X G a17⟩, ⟨F18, b18, PySem.W.mg_of X G a18⟩, ⟨F19, b19, PySem.W.mg_of X G a19⟩, ⟨F20, b20, PySem.W.mg_of X G a20⟩, ⟨F21, b21, PySem.W.mg_of X G a21⟩, ⟨F22, b22, PySem.W.mg_of X G a22⟩, ⟨F23, b23, PySem.W.mg_of X G a23⟩, PySem.W.mg_none_of X G z_bool, PySem.W.mg_none_of X G z_int, PySem.W.mg_none_of X G z_isinstance, PySem.W.mg_none_of X G z_len, PySem.W.mg_none_of X G z_list, PySem.W.mg_none_of X G z_max, PySem.W.mg_none_of X G z_min, PySem.W.mg_none_of X G z_range, PySem.W.mg_none_of X G z_reversed, PySem.W.mg_none_of X G z_zip, PySem.W.mg_of X G g_BEGINNING, r_BEGINNING, p_BEGINNING⟩
  exact ⟨_, fun s v => .of_eq rfl, fun base _ _ => ok_law T⟩
theorem walk {l : PySem.W.OpenLaw} {q : Program} {loose : List Str} {XP : (Str → Option Value) → Heap → Prop} {YP : World → Heap → Prop} {d : DefRec} {K : Params → PySem.W.Frag} (hn : l.most = some 63) (hdf : d.params.defaults = [])
    (hY : ∀ (w : World) (h : Heap), YP w h → (K w.params).In h)
    (F : ∀ (w : World) (mg : Str → Option Value) (fa : Addr) (h : Heap), (K w.params).In h → h.Ns mainGlobals mg → mg d.name = some (.ref fa) →
      ∃ fd : FuncData, (∀ (s : Shared) (u : Value), BindsTo s fd ⟨[u], []⟩ [("_law_script", u)]) ∧ ∀ base : Heap, (K w.params).In base → base.Ns mainGlobals mg → FnOk l.prog w (K w.params) mg base CX0 5 fa fd ["_law_script"] (sp_law (K w.params))) :
    PySem.W.WalkO q loose XP YP l.row.toRowW d [] (fun f vs => PySem.call f vs) :=
  L2.walk_of (n := 63) (k := 5) (x := "_law_script") (CX := fun _ => CX0) (sp := fun w => sp_law (K w.params)) hn (by decide) hdf ⟨rfl, by decide, by decide⟩ hY F (fun _ _ a ns hl _ hS => ⟨a, ns, rfl, hS, hl, fun _ => rfl⟩) fun _ _ _ _ _ z => z
end My
open PySem PySem.W PyProof.Rows
set_option maxRecDepth 100000 in
set_option maxHeartbeats 0 in
theorem PySem.Challenge.cw_turtlehouse_k42_rounds_holds : PySem.Challenge.rw_turtlehouse_k42_rounds.Holds := by
  w_on; o_law; k_head; (case hw => w_witness2)
  k_fill
  refine My.walk (l := PySem.Challenge.rw_turtlehouse_k42_rounds) rfl rfl (fun w h Y => PySem.W.kIn_of Y) ?F
  case F =>
    intro w mg fa h KX G hmg
    refine' My.all_mk KX G hmg ?a0 ?l0 ?c0 ?k0 ?a1 ?l1 ?c1 ?k1 ?a2 ?l2 ?c2 ?k2 ?a3 ?l3 ?c3 ?k3 ?a4 ?l4 ?c4 ?k4 ?a5 ?l5 ?c5 ?k5 ?a6 ?l6 ?c6 ?k6 ?a7 ?l7 ?c7 ?k7 ?a8 ?l8 ?c8 ?k8 ?a9 ?l9 ?c9 ?k9 ?a10 ?l10 ?c10 ?k10 ?a11 ?l11 ?c11 ?k11 ?a12 ?l12 ?c12 ?k12 ?a13 ?l13 ?c13 ?k13 ?a14 ?l14 ?c14 ?k14 ?a15 ?l15 ?c15 ?k15 ?a16 ?l16 ?c16 ?k16 ?a17 ?l17 ?c17 ?k17 ?a18 ?l18 ?c18 ?k18 ?a19 ?l19 ?c19 ?k19 ?a20 ?l20 ?c20 ?k20 ?a21 ?l21 ?c21 ?k21 ?a22 ?l22 ?c22 ?k22 ?a23 ?l23 ?c23 ?k23 ?z_bool ?z_int ?z_isinstance ?z_len ?z_list ?z_max ?z_min ?z_range ?z_reversed ?z_zip ?g_BEGINNING ?k_BEGINNING
    (case a0 => k_is)
    (case l0 => k_is)
    (case c0 => k_is)
    (case k0 => k_is)
    (case a1 => k_is)
    (case l1 => k_is)
    (case c1 => k_is)
    (case k1 => k_is)
    (case a2 => k_is)
    (case l2 => k_is)
    (case c2 => k_is)
    (case k2 => k_is)
    (case a3 => k_is)
    (case l3 => k_is)
    (case c3 => k_is)
    (case k3 => k_is)
    (case a4 => k_is)
    (case l4 => k_is)
    (case c4 => k_is)
    (case k4 => k_is)
    (case a5 => k_is)
    (case l5 => k_is)
    (case c5 => k_is)
    (case k5 => k_is)
    (case a6 => k_is)
    (case l6 => k_is)
    (case c6 => k_is)
    (case k6 => k_is)
    (case a7 => k_is)
    (case l7 => k_is)
    (case c7 => k_is)
    (case k7 => k_is)
    (case a8 => k_is)
    (case l8 => k_is)
    (case c8 => k_is)
    (case k8 => k_is)
    (case a9 => k_is)
    (case l9 => k_is)
    (case c9 => k_is)
    (case k9 => k_is)
    (case a10 => k_is)
    (case l10 => k_is)
    (case c10 => k_is)
    (case k10 => k_is)
    (case a11 => k_is)
    (case l11 => k_is)
    (case c11 => k_is)
    (case k11 => k_is)
    (case a12 => k_is)
    (case l12 => k_is)
    (case c12 => k_is)
    (case k12 => k_is)
    (case a13 => k_is)
    (case l13 => k_is)
    (case c13 => k_is)
    (case k13 => k_is)
    (case a14 => k_is)
    (case l14 => k_is)
    (case c14 => k_is)
    (case k14 => k_is)
    (case a15 => k_is)
    (case l15 => k_is)
    (case c15 => k_is)
    (case k15 => k_is)
    (case a16 => k_is)
    (case l16 => k_is)
    (case c16 => k_is)
    (case k16 => k_is)
    (case a17 => k_is)
    (case l17 => k_is)
    (case c17 => k_is)
    (case k17 => k_is)
    (case a18 => k_is)
    (case l18 => k_is)
    (case c18 => k_is)
    (case k18 => k_is)
    (case a19 => k_is)
    (case l19 => k_is)
    (case c19 => k_is)
    (case k19 => k_is)
    (case a20 => k_is)
    (case l20 => k_is)
    (case c20 => k_is)
    (case k20 => k_is)
    (case a21 => k_is)
    (case l21 => k_is)
    (case c21 => k_is)
    (case k21 => k_is)
    (case a22 => k_is)
    (case l22 => k_is)
    (case c22 => k_is)
    (case k22 => k_is)
    (case a23 => k_is)
    (case l23 => k_is)
    (case c23 => k_is)
    (case k23 => k_is)
    (case z_bool => k_is)
    (case z_int => k_is)
    (case z_isinstance => k_is)
    (case z_len => k_is)
    (case z_list => k_is)
    (case z_max => k_is)
    (case z_min => k_is)
    (case z_range => k_is)
    (case z_reversed => k_is)
    (case z_zip => k_is)
    (case g_BEGINNING => k_is)
    (case k_BEGINNING => with_unfolding_all rfl)

