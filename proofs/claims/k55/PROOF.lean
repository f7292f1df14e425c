import PyProof.Rows.All
import Wide.All
import OpenK.AllK
import Wide.FinOn
import Lean
import PyProof.EqAt
import PyProof.EqKinds
import PyProof.TupleCall
import PyProof.NeKinds
import KE.KRevIter
import PyProof.ZipIter
import PySem.Challenge.RW_turtlehouse_k55_whole_shorter
set_option Elab.async false
set_option linter.all false
set_option maxRecDepth 100000
namespace L2
open PySem PySem.Spec PyProof.Rows

abbrev Key := Sum Int Str
def keyIs : Key → Value → Bool
  | .inl k, v => Value.isInt k v
  | .inr x, v => Value.isStrOf x v
def keyH (w : World) : Key → Int
  | .inl k => hashInt k
  | .inr x => hashStr w x
theorem keyIs_shape : ∀ {k : Key} {v : Value}, keyIs k v = true → (∃ i t, k = Sum.inl i ∧ v = Value.int i t) ∨ (∃ x t, k = Sum.inr x ∧ v = Value.str x t)
  | .inl i, v, h => by
    obtain ⟨t, e⟩ := Value.isInt_shape (k := i) (v := v) h
    exact .inl ⟨i, t, rfl, e⟩
  | .inr x, v, h => by
    obtain ⟨t, e⟩ := Value.isStrOf_shape (x := x) (v := v) h
    exact .inr ⟨x, t, rfl, e⟩
theorem keyIs_int (i : Int) (t : Tok) : keyIs (.inl i) (.int i t) = true := by simp [keyIs, Value.isInt]
theorem keyIs_str (x : Str) (t : Tok) : keyIs (.inr x) (.str x t) = true := by simp [keyIs, Value.isStrOf]
theorem key_ll (a b : Int) : decide ((Sum.inl a : Key) = Sum.inl b) = (a == b) := by
  by_cases e : a = b
  · subst e; simp
  · have h : ¬ (Sum.inl a : Key) = Sum.inl b := fun q => e (Sum.inl.inj q)
    rw [decide_eq_false h]
    exact (beq_eq_false_iff_ne.mpr e).symm
theorem key_rr (a b : Str) : decide ((Sum.inr a : Key) = Sum.inr b) = decide (a = b) := by
  by_cases e : a = b
  · subst e; simp
  · have h : ¬ (Sum.inr a : Key) = Sum.inr b := fun q => e (Sum.inr.inj q)
    rw [decide_eq_false h, decide_eq_false e]
theorem key_lr (a : Int) (b : Str) : decide ((Sum.inl a : Key) = Sum.inr b) = false := decide_eq_false (fun q => nomatch q)
theorem key_rl (a : Str) (b : Int) : decide ((Sum.inr a : Key) = Sum.inl b) = false := decide_eq_false (fun q => nomatch q)

def mixKind (prog : Program) (w : World) : PySem.KeyKind prog w Key where
  is := keyIs
  hash := keyH w
  inj := fun v a b ha hb => by
    rcases keyIs_shape ha with ⟨i, t, rfl, rfl⟩ | ⟨x, t, rfl, rfl⟩
    · rcases keyIs_shape hb with ⟨j, u, rfl, e⟩ | ⟨y, u, rfl, e⟩
      · injection e with e1 _; rw [e1]
      · exact nomatch e
    · rcases keyIs_shape hb with ⟨j, u, rfl, e⟩ | ⟨y, u, rfl, e⟩
      · exact nomatch e
      · injection e with e1 _; rw [e1]
  byValue := fun k v h => by
    rcases keyIs_shape h with ⟨i, t, rfl, rfl⟩ | ⟨x, t, rfl, rfl⟩ <;> rfl
  pyHash := fun hv h => by
    rcases keyIs_shape hv with ⟨i, t, rfl, rfl⟩ | ⟨x, t, rfl, rfl⟩
    · exact wpAny_pyHash_int h
    · exact wpAny_pyHash_str h
  eqBool := fun hu hv h => by
    rcases keyIs_shape hu with ⟨i, t, rfl, rfl⟩ | ⟨x, t, rfl, rfl⟩
    · rcases keyIs_shape hv with ⟨j, u, rfl, rfl⟩ | ⟨y, u, rfl, rfl⟩
      · rw [key_ll] at h; exact wpAny_eqBool_int h
      · rw [key_lr] at h; exact SeqAt.EqAt.int_str i t y u _ _ _ _ h
    · rcases keyIs_shape hv with ⟨j, u, rfl, rfl⟩ | ⟨y, u, rfl, rfl⟩
      · rw [key_rl] at h; exact SeqAt.EqAt.str_int x t j u _ _ _ _ h
      · rw [key_rr] at h; exact wpAny_eqBool_str h
  «strs» := fun k x t v h => by
    rcases keyIs_shape h with ⟨i, u, rfl, e⟩ | ⟨y, u, rfl, e⟩
    · exact nomatch e
    · injection e with e1 _
      subst e1
      cases v <;> rfl

theorem mixKind_int (prog : Program) (w : World) (i : Int) (t : Tok) : (mixKind prog w).is (.inl i) (.int i t) = true := keyIs_int i t
theorem mixKind_str (prog : Program) (w : World) (x : Str) (t : Tok) : (mixKind prog w).is (.inr x) (.str x t) = true := keyIs_str x t
end L2

namespace L2
open PySem PySem.Spec PyProof.Rows

inductive V where
  | non | bl (b : Bool) | int (i : Int) | str (x : Str) | byt (b : Array UInt8) | flt (b : UInt64) | ref (a : Addr) | ty (n : String)
  deriving DecidableEq

def RelV : V → Value → Prop
  | .non, u => u = Value.none
  | .bl b, u => u = Value.bool b
  | .int i, u => ∃ t, u = Value.int i t
  | .str x, u => ∃ t, u = Value.str x t
  | .byt b, u => ∃ t, u = Value.bytes b t
  | .flt b, u => ∃ t, u = Value.float b t
  | .ref a, u => u = Value.ref a
  | .ty n, u => u = Value.type n

abbrev Vals : List V → List Value → Prop := Paired RelV
theorem Vals.length {xs : List V} {us : List Value} (r : Vals xs us) : xs.length = us.length := Paired.length r
theorem Vals.get : ∀ {xs : List V} {us : List Value} {i : Nat} {x : V}, Vals xs us → xs[i]? = some x → ∃ u, us[i]? = some u ∧ RelV x u
  | _, _, _, _, .nil, e => by simp at e
  | _, _, 0, _, .cons r _, e => by simp at e; subst e; exact ⟨_, rfl, r⟩
  | _, _, i + 1, x, .cons _ t, e => by
    obtain ⟨u, h1, h2⟩ := Vals.get (i := i) (x := x) t (by simpa using e)
    exact ⟨u, by simpa using h1, h2⟩
theorem Vals.set {x : V} {u : Value} (r : RelV x u) : ∀ {xs : List V} {us : List Value} (i : Nat), Vals xs us → Vals (xs.set i x) (us.set i u)
  | _, _, _, .nil => .nil
  | _, _, 0, .cons _ t => .cons r t
  | _, _, i + 1, .cons q t => .cons q (Vals.set r i t)
theorem Vals.append : ∀ {xs ys : List V} {us ws : List Value}, Vals xs us → Vals ys ws → Vals (xs ++ ys) (us ++ ws)
  | _, _, _, _, .nil, s => s
  | _, _, _, _, .cons r t, s => .cons r (Vals.append t s)
theorem Vals.take : ∀ {xs : List V} {us : List Value} (n : Nat), Vals xs us → Vals (xs.take n) (us.take n)
  | _, _, 0, _ => .nil
  | _, _, _ + 1, .nil => .nil
  | _, _, n + 1, .cons r t => .cons r (Vals.take n t)
theorem Vals.drop : ∀ {xs : List V} {us : List Value} (n : Nat), Vals xs us → Vals (xs.drop n) (us.drop n)
  | _, _, 0, r => r
  | _, _, _ + 1, .nil => .nil
  | _, _, n + 1, .cons _ t => Vals.drop n t
def RelO : Option V → Option Value → Prop
  | some v, some u => RelV v u
  | none, none => True
  | _, _ => False
def KV {κ : Type} : List (κ × V) → List (κ × Value) → Prop := Paired fun (p : κ × V) (q : κ × Value) => p.1 = q.1 ∧ RelV p.2 q.2

def kV : Key → V
  | .inl i => .int i
  | .inr x => .str x

inductive HO where
  /-- a list -/
  | lst (xs : List V)
  /-- a tuple (never changes) -/
  | tup (xs : List V)
  /-- a dict whose keys are ints and texts; one whose keys are tuples of ints and texts (the empty one is both) -/
  | dK (kvs : List (Key × V)) | dT (kvs : List (List Key × V))
  /-- a set of ints: its members, its size -/
  | set (S : Int → Bool) (n : Nat)
  /-- an instance of the class at C, its dict at dx, its attributes -/
  | ins (C dx : Addr) (fs : List (Str × V))
  /-- the dict of the instance at x -/
  | own (x : Addr)
  /-- the dict of an exception -/
  | xd (fs : List (Str × V))
  /-- a bound method, f of x -/
  | met (f x : Addr)
  /-- a range object lo, lo + 1, .. below hi -/
  | rng (lo hi : Int)
  /-- a thing that is known to the object (the script; a dict while a loop walks it): read, never written while it is so -/
  | frz (o : Obj) (u : HO)
  /-- a code object's table -/
  | tbl (ps : Array Value)
  /-- any other thing, by what is true of its one object (a def of one's own: SetO a S n := HO.ext fun h => ..) -/
  | ext (φ : Heap → Prop)

abbrev Hp := Addr → Option HO
def upd (H : Hp) (a : Addr) (o : HO) : Hp := fun b => if b = a then some o else H b
theorem upd_same {H : Hp} {a : Addr} {o : HO} : upd H a o a = some o := by unfold upd; rw [if_pos rfl]
theorem upd_ne {H : Hp} {a b : Addr} {o : HO} (h : b ≠ a) : upd H a o b = H b := by unfold upd; rw [if_neg h]
theorem upd_upd {H : Hp} {a : Addr} {o u : HO} : upd (upd H a o) a u = upd H a u := by
  funext b; unfold upd; split <;> rfl
theorem ne_of_none {H : Hp} {a b : Addr} {o : HO} (h : H a = some o) (h' : H b = none) : a ≠ b := by
  intro e; subst e; rw [h] at h'; cases h'

section
variable (P : Program) (w : World)
def ObjOk (H : Hp) (h : Heap) (a : Addr) : HO → Prop
  | .lst xs => xs.length ≤ sizeLine ∧ ∃ (its : List Value) (n : Nat), Vals xs its ∧ h.get? a = some { cls := .type "list", data := .seq its.toArray n }
  | .tup xs => xs.length ≤ sizeLine ∧ ∃ its : List Value, Vals xs its ∧ IsTup h a its.toArray
  | .dK kvs => kvs.length ≤ sizeLine ∧ (a == sysModules) = false ∧ ∃ vs, KV kvs vs ∧ h.DictOf (mixKind P w) a vs
  | .dT kvs => kvs.length ≤ sizeLine ∧ (a == sysModules) = false ∧ ∃ xs : List (List Key × Addr × Value),
      Paired (fun (p : List Key × V) (q : List Key × Addr × Value) => p.1 = q.1 ∧ H q.2.1 = some (.tup (p.1.map kV)) ∧ RelV p.2 q.2.2) kvs xs ∧
      ∃ o es ep, h.get? a = some o ∧ o.ExactDict ∧ o.data = .dict es ep ∧ es.toList = xs.map (entryOfKey (tupleKind (mixKind P w))) ∧ (xs.map (·.1)).Nodup
  | .set S n => h.SetOf (intKind P w) a S n
  | .ins C dx fs => H dx = some (.own a) ∧ fs.length ≤ 1000 ∧ dx ≠ a ∧ h.get? a = some (PySem.W.instObj C dx) ∧
      ∃ mA, h.Ns1 dx mA ∧ (∀ f, RelO (fs.lookup f) (mA f)) ∧ PySem.Within mA (fs.map (·.1))
  | .own _ => ∃ o, h.get? a = some o
  | .xd fs => ∃ mA, h.Ns1 a mA ∧ ∀ f, RelO (fs.lookup f) (mA f)
  | .rng lo hi => ∃ t u v, h.get? a = some { cls := .type "range", data := .fields #[.int lo t, .int hi u, .int 1 v] }
  | .frz o u => h.get? a = some o ∧ ObjOk H h a u
  | .tbl ps => h.get? a = some { cls := .none, data := .fields ps }
  | .met f x => h.get? a = some (PySem.W.methodObj (.ref f) (.ref x))
  | .ext φ => φ h ∧ (∃ o, h.get? a = some o) ∧ ∀ h1 h2 : Heap, φ h1 → (∀ o, h1.get? a = some o → h2.get? a = some o) → φ h2
def HOk (H : Hp) (h : Heap) : Prop := ∀ a o, H a = some o → ObjOk P w H h a o
end

section
variable {P : Program} {w : World} {H H' : Hp} {h h' : Heap} {a : Addr} {o : HO}
theorem ObjOk.lt (x : ObjOk P w H h a o) : a < h.objs.size := by
  cases o with
  | lst xs => obtain ⟨_, _, _, _, e⟩ := x; exact Heap.lt_size e
  | tup xs => obtain ⟨_, _, _, p⟩ := x; exact p.lt
  | dK kvs => obtain ⟨_, _, _, _, o, _, _, e, _⟩ := x; exact Heap.lt_size e
  | dT kvs => obtain ⟨_, _, _, _, o, _, _, e, _⟩ := x; exact Heap.lt_size e
  | set S n => obtain ⟨o, _, _, _, e, _⟩ := x; exact Heap.lt_size e
  | ins C dx fs => obtain ⟨_, _, _, e, _⟩ := x; exact Heap.lt_size e
  | own y => obtain ⟨_, e⟩ := x; exact Heap.lt_size e
  | xd fs => obtain ⟨_, ⟨_, _, _, e, _⟩, _⟩ := x; exact Heap.lt_size e
  | rng lo hi => obtain ⟨_, _, _, e⟩ := x; exact Heap.lt_size e
  | frz ob u => obtain ⟨e, _⟩ := x; exact Heap.lt_size e
  | tbl ps => exact Heap.lt_size (show h.get? a = some _ from x)
  | met f y => exact Heap.lt_size (show h.get? a = some _ from x)
  | ext φ => obtain ⟨_, ⟨_, e⟩, _⟩ := x; exact Heap.lt_size e
theorem Paired.mapP {α β : Type} {F G : α → β → Prop} : ∀ {l₁ : List α} {l₂ : List β}, Paired F l₁ l₂ → (∀ a b, F a b → G a b) → Paired G l₁ l₂
  | _, _, .nil, _ => .nil
  | _, _, .cons r t, f => .cons (f _ _ r) (Paired.mapP t f)
theorem ObjOk.stay (x : ObjOk P w H h a o) (k : ∀ b u, (b = a ∨ H b = some (.own a)) → h.get? b = some u → h'.get? b = some u)
    (ho : ∀ b, H b = some (.own a) → H' b = some (.own a)) (ht : ∀ b xs, H b = some (.tup xs) → H' b = some (.tup xs)) : ObjOk P w H' h' a o := by
  induction o with
  | lst xs => obtain ⟨z, its, n, r, e⟩ := x; exact ⟨z, its, n, r, k _ _ (.inl rfl) e⟩
  | tup xs => obtain ⟨z, its, r, ob, e, c⟩ := x; exact ⟨z, its, r, ob, k _ _ (.inl rfl) e, c⟩
  | dK kvs => obtain ⟨z, y, vs, r, ob, es, ep, e, c⟩ := x; exact ⟨z, y, vs, r, ob, es, ep, k _ _ (.inl rfl) e, c⟩
  | dT kvs =>
    obtain ⟨z, y, xs, r, ob, es, ep, e, c⟩ := x
    exact ⟨z, y, xs, Paired.mapP r fun p q z => ⟨z.1, ht _ _ z.2.1, z.2.2⟩, ob, es, ep, k _ _ (.inl rfl) e, c⟩
  | set S n => obtain ⟨ob, es, ep, t, e, c⟩ := x; exact ⟨ob, es, ep, t, k _ _ (.inl rfl) e, c⟩
  | ins C dx fs =>
    obtain ⟨d, z, ne, e, mA, ⟨od, es, ep, e2, c⟩, r⟩ := x
    exact ⟨ho _ d, z, ne, k _ _ (.inl rfl) e, mA, ⟨od, es, ep, k _ _ (.inr d) e2, c⟩, r⟩
  | own y => obtain ⟨ob, e⟩ := x; exact ⟨ob, k _ _ (.inl rfl) e⟩
  | xd fs => obtain ⟨mA, ⟨od, es, ep, e, c⟩, r⟩ := x; exact ⟨mA, ⟨od, es, ep, k _ _ (.inl rfl) e, c⟩, r⟩
  | rng lo hi => obtain ⟨t, u, v, e⟩ := x; exact ⟨t, u, v, k _ _ (.inl rfl) e⟩
  | frz ob u ih => obtain ⟨e, q⟩ := x; exact ⟨k _ _ (.inl rfl) e, ih q⟩
  | tbl ps =>
    have e : h.get? a = some { cls := .none, data := .fields ps } := x
    show h'.get? a = some { cls := .none, data := .fields ps }
    exact k a _ (.inl rfl) e
  | met f y =>
    have e : h.get? a = some (PySem.W.methodObj (.ref f) (.ref y)) := x
    show h'.get? a = some (PySem.W.methodObj (.ref f) (.ref y))
    exact k a _ (.inl rfl) e
  | ext φ => obtain ⟨p, ⟨o, e⟩, st⟩ := x; exact ⟨st _ _ p fun o q => k _ _ (.inl rfl) q, ⟨o, k _ _ (.inl rfl) e⟩, st⟩
theorem HOk.lt (x : HOk P w H h) (e : H a = some o) : a < h.objs.size := (x a o e).lt
theorem HOk.fresh (x : HOk P w H h) (e : h.objs.size ≤ a) : H a = none := by
  cases q : H a with
  | none => rfl
  | some u => exact absurd (Nat.lt_of_lt_of_le (x.lt q) e) (Nat.lt_irrefl _)
theorem HOk.kept (x : HOk P w H h) (k : ∀ b u, h.get? b = some u → h'.get? b = some u) : HOk P w H h' := fun a o e =>
  (x a o e).stay (fun b u _ q => k b u q) (fun _ q => q) fun _ _ q => q
theorem HOk.laid (x : HOk P w H h) (k : ∀ b u, h.get? b = some u → h'.get? b = some u) (hp : h.objs.size ≤ a) (new : ObjOk P w (upd H a o) h' a o) : HOk P w (upd H a o) h' := fun b u e => by
  have hn := x.fresh hp
  by_cases hb : b = a
  · subst hb; rw [upd_same] at e; cases e; exact new
  · rw [upd_ne hb] at e
    exact (x b u e).stay (fun c v _ q => k c v q) (fun c q => by rw [upd_ne (ne_of_none q hn)]; exact q) fun c xs q => by rw [upd_ne (ne_of_none q hn)]; exact q
end

def Rd (H : Hp) (a : Addr) (u : HO) : Prop := H a = some u ∨ ∃ o, H a = some (.frz o u)
theorem Rd.of {H : Hp} {a : Addr} {u : HO} (h : H a = some u) : Rd H a u := .inl h
theorem Rd.ok {P : Program} {w : World} {H : Hp} {h : Heap} {a : Addr} {u : HO} (r : Rd H a u) (x : HOk P w H h) : ObjOk P w H h a u := by
  rcases r with r | ⟨o, r⟩
  · exact x a u r
  · obtain ⟨_, q⟩ := x a _ r
    exact q
def Mut : Option HO → Prop
  | some (.lst _) => True
  | some (.dK _) => True
  | some (.dT _) => True
  | some (.set _ _) => True
  | some (.ins _ _ _) => True
  | some (.ext _) => True
  | _ => False
section
variable {P : Program} {w : World} {H : Hp} {h h' : Heap} {x e : Addr} {o' : HO}
theorem HOk.write (ok : HOk P w H h) (mu : Mut (H x)) (he : e = x ∨ H e = some (.own x)) (k : ∀ b u, b ≠ e → h.get? b = some u → h'.get? b = some u) (heo : ∃ u, h'.get? e = some u)
    (new : ObjOk P w (upd H x o') h' x o') : HOk P w (upd H x o') h' := fun b u q => by
  have nown : ∀ c y, H c = some (.own y) → c ≠ x := fun c y r z => by subst z; rw [r] at mu; exact mu
  have ntup : ∀ c xs, H c = some (.tup xs) → c ≠ x := fun c xs r z => by subst z; rw [r] at mu; exact mu
  by_cases hb : b = x
  · subst hb; rw [upd_same] at q; cases q; exact new
  · rw [upd_ne hb] at q
    by_cases hbe : b = e
    · have q' : H b = some (.own x) := by
        rcases he with z | z
        · exact absurd (hbe.trans z) hb
        · rw [hbe]; exact z
      rw [q] at q'; cases q'
      obtain ⟨v, hv⟩ := heo
      exact ⟨v, by rw [hbe]; exact hv⟩
    · refine (ok b u q).stay (fun c v hc r => k c v ?_ r) (fun c r => by rw [upd_ne (nown c b r)]; exact r) fun c xs r => by rw [upd_ne (ntup c xs r)]; exact r
      rcases hc with rfl | hc
      · exact hbe
      · rintro rfl
        rcases he with z | z
        · exact nown c b hc z
        · rw [hc] at z; cases z; exact hb rfl
end

structure Un (fs ex : List Addr) (H H' : Hp) (h h' : Heap) : Prop where
  keep : ∀ b o, h.get? b = some o → H b = none → b ∉ fs → b ∉ ex → h'.get? b = some o
  slot : ∀ b o, h.get? b = some o → H b = none → b ∈ fs → b ∉ ex → ∃ sl, h'.get? b = some { o with slots := sl }
  free : ∀ b o, h.get? b = some o → H b = none → b ∉ ex → H' b = none
  there : ∀ b o, h.get? b = some o → b ∉ ex → ∃ o', h'.get? b = some o'
  tups : ∀ b xs, H b = some (.tup xs) → H' b = some (.tup xs)
  frzs : ∀ b o u, H b = some (.frz o u) → H' b = some (.frz o u)
  tbls : ∀ b ps, H b = some (.tbl ps) → ∃ more, H' b = some (.tbl (ps ++ more))
section
variable {fs fs' ex ex' : List Addr} {H H1 H2 : Hp} {h h1 h2 h' : Heap} {a x e : Addr} {o : HO}
theorem Un.any (u : Un fs ex H H1 h h1) {b : Addr} {ob : Obj} (q : h.get? b = some ob) (n : H b = none) (hx : b ∉ ex) : ∃ sl, h1.get? b = some { ob with slots := sl } := by
  by_cases hb : b ∈ fs
  · exact u.slot b ob q n hb hx
  · exact ⟨ob.slots, u.keep b ob q n hb hx⟩
theorem Un.trans (a : Un fs ex H H1 h h1) (b : Un fs ex H1 H2 h1 h2) : Un fs ex H H2 h h2 where
  keep := fun c ob q n hc hx => b.keep c ob (a.keep c ob q n hc hx) (a.free c ob q n hx) hc hx
  slot := fun c ob q n hc hx => by
    obtain ⟨sl, e1⟩ := a.slot c ob q n hc hx
    obtain ⟨sl', e2⟩ := b.slot c _ e1 (a.free c ob q n hx) hc hx
    exact ⟨sl', e2⟩
  free := fun c ob q n hx => by
    obtain ⟨o', e1⟩ := a.there c ob q hx
    exact b.free c o' e1 (a.free c ob q n hx) hx
  there := fun c ob q hx => by
    obtain ⟨o', e1⟩ := a.there c ob q hx
    exact b.there c o' e1 hx
  tups := fun c xs q => b.tups c xs (a.tups c xs q)
  frzs := fun c ob xs q => b.frzs c ob xs (a.frzs c ob xs q)
  tbls := fun c ps q => by
    obtain ⟨m1, e1⟩ := a.tbls c ps q
    obtain ⟨m2, e2⟩ := b.tbls c _ e1
    exact ⟨m1 ++ m2, by rw [e2, Array.append_assoc]⟩
theorem Un.kept (k : ∀ b u, h.get? b = some u → h'.get? b = some u) : Un fs ex H H h h' :=
  ⟨fun b ob q _ _ _ => k b ob q, fun b ob q _ _ _ => ⟨ob.slots, k b ob q⟩, fun _ _ _ n _ => n, fun b ob q _ => ⟨ob, k b ob q⟩, fun _ _ q => q, fun _ _ _ q => q, fun _ ps q => ⟨#[], by rw [q]; simp⟩⟩
theorem Un.refl : Un fs ex H H h h := Un.kept fun _ _ q => q
theorem Un.laid (k : ∀ b u, h.get? b = some u → h'.get? b = some u) (hp : h.objs.size ≤ a) (hn : H a = none) : Un fs ex H (upd H a o) h h' where
  keep := fun b u q _ _ _ => k b u q
  slot := fun b u q _ _ _ => ⟨u.slots, k b u q⟩
  free := fun b u q n _ => by rw [upd_ne (Nat.ne_of_lt (Nat.lt_of_lt_of_le (Heap.lt_size q) hp))]; exact n
  there := fun b u q _ => ⟨u, k b u q⟩
  tups := fun b xs q => by rw [upd_ne (ne_of_none q hn)]; exact q
  frzs := fun b u xs q => by rw [upd_ne (ne_of_none q hn)]; exact q
  tbls := fun b ps q => ⟨#[], by rw [upd_ne (ne_of_none q hn), q]; simp⟩
theorem Un.write (mu : Mut (H x)) (he : e = x ∨ H e = some (.own x)) (k : ∀ b u, b ≠ e → h.get? b = some u → h'.get? b = some u) (heo : ∃ u, h'.get? e = some u) : Un fs ex H (upd H x o) h h' := by
  have hx : ∀ b, H b = none → b ≠ x := fun b n z => by subst z; rw [n] at mu; exact mu
  have hb : ∀ b, H b = none → b ≠ e := fun b n z => by
    subst z
    rcases he with r | r
    · exact hx b n r
    · rw [n] at r; cases r
  have hm : ∀ b u, H b = some u → ¬ Mut (some u) → b ≠ x := fun b u q nm z => by subst z; rw [q] at mu; exact nm mu
  refine ⟨fun b u q n _ _ => k b u (hb b n) q, fun b u q n _ _ => ⟨u.slots, k b u (hb b n) q⟩, fun b u q n _ => by rw [upd_ne (hx b n)]; exact n, fun b u q _ => ?_,
    fun b xs q => by rw [upd_ne (hm b _ q fun z => z)]; exact q, fun b u xs q => by rw [upd_ne (hm b _ q fun z => z)]; exact q, fun b ps q => ⟨#[], by rw [upd_ne (hm b _ q fun z => z), q]; simp⟩⟩
  by_cases hbe : b = e
  · subst hbe; exact heo
  · exact ⟨u, k b u hbe q⟩
theorem Un.mono (u : Un fs ex H H1 h h1) (hs : ∀ b ∈ fs, b ∈ fs') (hx : ∀ b ∈ ex, b ∈ ex') : Un fs' ex' H H1 h h1 :=
  ⟨fun b ob q n hb he => u.keep b ob q n (fun z => hb (hs b z)) fun z => he (hx b z), fun _ _ q n _ he => u.any q n fun z => he (hx _ z), fun b ob q n he => u.free b ob q n fun z => he (hx b z), fun b ob q he => u.there b ob q fun z => he (hx b z), u.tups, u.frzs, u.tbls⟩
end

def trk (h : Heap) (H : Hp) : List Addr := (List.range h.objs.size).filter fun a => (H a).isSome
def hidT (h : Heap) (H : Hp) : Heap := PySem.W.hideAll h (trk h H)
theorem hidT_size (h : Heap) (H : Hp) : (hidT h H).objs.size = h.objs.size := PySem.W.hideAll_size _ _
theorem hidT_get {h : Heap} {H : Hp} {b : Addr} {o : Obj} (e : h.get? b = some o) (n : H b = none) : (hidT h H).get? b = some o :=
  PySem.W.hideAll_get _ e fun hm => by
    have q : (H b).isSome = true := (List.mem_filter.mp hm).2
    rw [n] at q; simp at q
theorem of_hidT {h : Heap} {H : Hp} {b : Addr} {o : Obj} (e : (hidT h H).get? b = some o) : h.get? b = some o ∧ H b = none := by
  have e' : h.get? b = some o := PySem.W.of_hideAll (trk h H) e
  refine ⟨e', ?_⟩
  cases q : H b with
  | none => rfl
  | some x =>
    have hm : b ∈ trk h H := List.mem_filter.mpr ⟨List.mem_range.mpr (Heap.lt_size e'), by simp [q]⟩
    have z : (hidT h H).get? b = none := PySem.W.hideAll_none (trk h H) hm
    rw [z] at e; cases e

def allNews (g h : Heap) (L : Addr) : List (Addr × Obj) := (List.range h.objs.size).filterMap fun a => if a = L ∨ (g.get? a).isSome = true then none else (h.get? a).map fun o => (a, o)
def rest (g h : Heap) (L d : Addr) : List (Addr × Obj) := (allNews g h L).filter fun p => decide (p.1 ≠ d)
end L2

namespace L2
open PySem PySem.Spec PyProof.Rows

structure Mod (K : PySem.W.Frag) (mg : Str → Option Value) (base : Heap) : Prop where
  kin : K.In base
  glob : base.Ns mainGlobals mg
  blt : ∃ mb, base.Ns builtinsNs mb ∧ ∀ x : Str, x ≠ "__name__" → mb x = bootBuiltins x
  nolimit : base.NoLimit

structure Cx where
  prog : Program
  w : World
  K : PySem.W.Frag
  mg : Str → Option Value
  base : Heap
  A : Around
  N : List Str
  s₀ : Shared
  H₀ : Hp
  env : Env
  outer : List Env
  stack : List Env
  ex : List Addr
  fn : Str → Bool
  calm : Bool
  pn : List (Addr × Obj)
  xe : Value → Shared → Prop
def frs (l : List Env) : List Addr := l.filterMap (·.frame)
abbrev Cx.fs (X : Cx) : List Addr := frs X.outer

def Vis (sc : Scope) (x : Str) : Prop := sc.names.lookup x = some .local ∨ sc.names.lookup x = some .cell ∨ sc.names.lookup x = some .free
def Loc (sc : Scope) (x : Str) : Prop := sc.names.lookup x = some .local ∨ sc.names.lookup x = some .cell
def Look (env : Env) (h : Heap) (m : Str → Option Value) (x : Str) (u : Value) : Prop :=
  (env.kindOf x = some .local ∧ m x = some u) ∨ ((env.kindOf x = some .cell ∨ env.kindOf x = some .free) ∧ ∃ c, env.cells.lookup x = some c ∧ h.IsCell c (some u))

structure Cx.Ok (X : Cx) : Prop where
  mod : Mod X.K X.mg X.base
  kind : X.env.scope.kind = .function
  glob : X.env.globals = mainGlobals
  blt : X.env.builtins = builtinsNs
  above : X.s₀.heap.objs.size ≤ X.env.locals
  inj : ∀ x y c, X.env.cells.lookup x = some c → X.env.cells.lookup y = some c → x = y
  has : ∀ x, (X.env.kindOf x = some .cell ∨ X.env.kindOf x = some .free) → ∃ c, X.env.cells.lookup x = some c
  cab : ∀ x c, X.fn x = true → X.env.cells.lookup x = some c → X.s₀.heap.objs.size ≤ c
  hd : X.calm = true → X.A.handled = none
  frames : X.A.frames = some X.stack
  stk : X.stack = X.outer ∨ (X.stack = X.env :: X.outer ∧ X.env.frame = some X.env.locals)
  exf : ∀ b ∈ X.ex, b ≠ X.env.locals ∧ ∀ x c, X.env.cells.lookup x = some c → c ≠ b
  bs : ∀ b o, X.base.get? b = some o → X.s₀.heap.get? b = some o ∧ X.H₀ b = none
  bsz : X.base.objs.size ≤ X.s₀.heap.objs.size
  noex : ∀ b o, X.base.get? b = some o → b ∉ X.ex
  exfs : ∀ b ∈ X.ex, b ∉ X.fs
  funs : X.s₀.heap.FunFrames X.base X.outer
  frf : ∀ b ∈ X.fs, X.H₀ b = none

structure Inv (X : Cx) (pins : List (Addr × Obj)) (σ : List (Option V)) (H : Hp) (s : Shared) : Prop where
  ok : X.Ok
  os : s.os = X.s₀.os
  bare : AllBare s.gens
  base : Un X.fs X.ex X.H₀ H X.s₀.heap s.heap
  loc : ∃ m, s.heap.Ns X.env.locals m ∧ ∀ (i : Nat) (x : Str) (v : V), X.N[i]? = some x → σ[i]? = some (some v) → Vis X.env.scope x → ∃ u, RelV v u ∧ Look X.env s.heap m x u
  cell : ∀ x c, X.env.cells.lookup x = some c → ∃ v, s.heap.IsCell c v
  free : H X.env.locals = none
  freeC : ∀ x c, X.env.cells.lookup x = some c → H c = none
  pin : ∀ p ∈ X.pn ++ pins, s.heap.get? p.1 = some p.2 ∧ H p.1 = none ∧ p.1 ≠ X.env.locals ∧ p.1 ∉ X.fs ∧ ∀ v, p.2.data ≠ .cell v
  hok : HOk X.prog X.w H s.heap
  len : σ.length = X.N.length

section
variable {X : Cx} {pins : List (Addr × Obj)} {σ : List (Option V)} {H H' : Hp} {s : Shared} {h' : Heap}

theorem Cx.Ok.nofr (ok : X.Ok) {b : Addr} {o : Obj} (e : X.base.get? b = some o) : b ∉ X.fs := fun hb => by
  have := (ok.funs.mem hb).1
  rw [e] at this; cases this
theorem Inv.bs (I : Inv X pins σ H s) : ∀ b o, X.base.get? b = some o → s.heap.get? b = some o ∧ H b = none := fun b o e =>
  ⟨I.base.keep b o (I.ok.bs b o e).1 (I.ok.bs b o e).2 (I.ok.nofr e) (I.ok.noex b o e), I.base.free b o (I.ok.bs b o e).1 (I.ok.bs b o e).2 (I.ok.noex b o e)⟩
theorem Inv.bk (I : Inv X pins σ H s) : ∀ b o, X.base.get? b = some o → s.heap.get? b = some o := fun b o e => (I.bs b o e).1
theorem Inv.mod (I : Inv X pins σ H s) : Mod X.K X.mg X.base := I.ok.mod
theorem Inv.kIn (I : Inv X pins σ H s) : X.K.In s.heap := I.ok.mod.kin.keeps I.bk
theorem Inv.nolimit (I : Inv X pins σ H s) : s.heap.NoLimit := I.ok.mod.nolimit.keeps I.bk
theorem Inv.lt (I : Inv X pins σ H s) : X.env.locals < s.heap.objs.size := let ⟨_, hn, _⟩ := I.loc; hn.lt
theorem Inv.sz (I : Inv X pins σ H s) : X.s₀.heap.objs.size ≤ s.heap.objs.size := Nat.le_trans I.ok.above (Nat.le_of_lt I.lt)
theorem Inv.nofs (I : Inv X pins σ H s) {a : Addr} (h : s.heap.objs.size ≤ a) : a ∉ X.fs := fun hb => by
  obtain ⟨_, o, ho, _⟩ := I.ok.funs.mem hb
  exact absurd (Nat.lt_of_lt_of_le (Heap.lt_size ho) (Nat.le_trans I.sz h)) (Nat.lt_irrefl _)
theorem Inv.cne (I : Inv X pins σ H s) : ∀ x c, X.env.cells.lookup x = some c → c ≠ X.env.locals := fun x c e z => by
  obtain ⟨v, o, ho, hd⟩ := I.cell x c e
  obtain ⟨m, ⟨o', es, ep, ho', hd', _⟩, _⟩ := I.loc
  rw [z, ho'] at ho; cases ho; rw [hd'] at hd; cases hd
theorem Inv.funs (I : Inv X pins σ H s) : s.heap.FunFrames X.base X.outer := by
  have all : ∀ (l : List Env), (∀ b ∈ frs l, b ∈ X.fs) → X.s₀.heap.FunFrames X.base l → s.heap.FunFrames X.base l := by
    intro l
    induction l with
    | nil => intro _ _; trivial
    | cons env r ih =>
      intro hs hl
      obtain ⟨hk, ⟨L, o, hf, hn, ho, hd⟩, hr⟩ := hl
      have hL : L ∈ X.fs := hs L (by unfold frs; rw [List.filterMap_cons, hf]; exact List.mem_cons_self)
      obtain ⟨sl, e⟩ := I.base.slot L o ho (I.ok.frf L hL) hL fun z => I.ok.exfs L z hL
      exact ⟨hk, ⟨L, _, hf, hn, e, hd⟩, ih (fun b hb => hs b (by unfold frs; rw [List.filterMap_cons, hf]; exact List.mem_cons_of_mem _ hb)) hr⟩
  exact all X.outer (fun _ hb => hb) I.ok.funs

theorem Inv.stack (I : Inv X pins σ H s) : s.heap.FunFrames X.base X.stack := by
  rcases I.ok.stk with e | ⟨e, hf⟩
  · rw [e]; exact I.funs
  · rw [e]
    obtain ⟨m, hn, _⟩ := I.loc
    refine .cons (by rw [I.ok.kind]; decide) hf hn ?_ I.funs
    exact Heap.get?_none_of_le (Nat.le_trans I.ok.bsz I.ok.above)
theorem Inv.stkSub (I : Inv X pins σ H s) : ∀ b ∈ frs X.stack, b ∈ X.env.locals :: X.fs := fun b hb => by
  rcases I.ok.stk with e | ⟨e, hf⟩
  · rw [e] at hb; exact List.mem_cons_of_mem _ hb
  · rw [e] at hb
    unfold frs at hb
    rw [List.filterMap_cons, hf] at hb
    exact hb
theorem Inv.stkFree (I : Inv X pins σ H s) : ∀ b ∈ frs X.stack, H b = none := fun b hb => by
  rcases List.mem_cons.mp (I.stkSub b hb) with e | hb
  · rw [e]; exact I.free
  · obtain ⟨_, o, ho, _⟩ := I.ok.funs.mem hb
    exact I.base.free b o ho (I.ok.frf b hb) fun z => I.ok.exfs b z hb

theorem Inv.step {g' : Array GenState} {t' : Nat} {d' : Drawn} {ch : List Addr} (I : Inv X pins σ H s)
    (hch : ∀ b ∈ ch, (b ∈ X.ex ∨ X.s₀.heap.objs.size ≤ b) ∧ b ≠ X.env.locals ∧ (∀ x c, X.env.cells.lookup x = some c → c ≠ b) ∧ ∀ p ∈ X.pn ++ pins, p.1 ≠ b)
    (keep : ∀ b o, b ≠ X.env.locals → b ∉ X.fs → b ∉ ch → s.heap.get? b = some o → H b = none → h'.get? b = some o)
    (slot : ∀ b o, b ≠ X.env.locals → b ∈ X.fs → b ∉ ch → s.heap.get? b = some o → H b = none → ∃ sl, h'.get? b = some { o with slots := sl }) (free : ∀ b o, b ∉ ch → s.heap.get? b = some o → H b = none → H' b = none)
    (there : ∀ b o, b ∉ ch → s.heap.get? b = some o → ∃ o', h'.get? b = some o')
    (tups : ∀ b xs, H b = some (.tup xs) → H' b = some (.tup xs)) (frzs : ∀ b o u, H b = some (.frz o u) → H' b = some (.frz o u)) (tbls : ∀ b ps, H b = some (.tbl ps) → ∃ more, H' b = some (.tbl (ps ++ more)))
    (ns : ∀ m, s.heap.Ns X.env.locals m → h'.Ns X.env.locals m) (hok : HOk X.prog X.w H' h') (hg : AllBare g') :
    Inv X pins σ H' { s with heap := h', gens := g', drawn := d', toks := t' } := by
  have neL : ∀ b o, X.s₀.heap.get? b = some o → b ≠ X.env.locals := fun b o e => Nat.ne_of_lt (Nat.lt_of_lt_of_le (Heap.lt_size e) I.ok.above)
  have neC : ∀ b o, X.s₀.heap.get? b = some o → b ∉ X.ex → b ∉ ch := fun b o e hx hb => by
    rcases (hch b hb).1 with z | z
    · exact hx z
    · exact absurd (Nat.lt_of_lt_of_le (Heap.lt_size e) z) (Nat.lt_irrefl _)
  have cellK : ∀ x c, X.env.cells.lookup x = some c → ∀ v, s.heap.IsCell c v → h'.IsCell c v := fun x c e v ⟨o, ho, hd⟩ => by
    have nch : c ∉ ch := fun z => (hch c z).2.2.1 x c e rfl
    by_cases hc : c ∈ X.fs
    · obtain ⟨sl, q⟩ := slot c o (I.cne x c e) hc nch ho (I.freeC x c e)
      exact ⟨_, q, hd⟩
    · exact ⟨o, keep c o (I.cne x c e) hc nch ho (I.freeC x c e), hd⟩
  refine ⟨I.ok, I.os, hg, ⟨fun b o e n hb hx => ?_, fun b o e n hb hx => ?_, fun b o e n hx => ?_, fun b o e hx => ?_, fun b xs e => tups b xs (I.base.tups b xs e), fun b o xs e => frzs b o xs (I.base.frzs b o xs e), fun b ps e => ?_⟩, ?_, fun x c e => ?_, ?_, fun x c e => ?_, fun p hp => ?_, hok, I.len⟩
  · exact keep b o (neL b o e) hb (neC b o e hx) (I.base.keep b o e n hb hx) (I.base.free b o e n hx)
  · obtain ⟨sl, e1⟩ := I.base.slot b o e n hb hx
    obtain ⟨sl', e2⟩ := slot b _ (neL b o e) hb (neC b o e hx) e1 (I.base.free b o e n hx)
    exact ⟨sl', e2⟩
  · obtain ⟨o', e1⟩ := I.base.there b o e hx
    exact free b o' (neC b o e hx) e1 (I.base.free b o e n hx)
  · obtain ⟨o', e1⟩ := I.base.there b o e hx
    exact there b o' (neC b o e hx) e1
  · obtain ⟨m1, e1⟩ := I.base.tbls b ps e
    obtain ⟨m2, e2⟩ := tbls b _ e1
    exact ⟨m1 ++ m2, by rw [e2, Array.append_assoc]⟩
  · obtain ⟨m, hn, hl⟩ := I.loc
    refine ⟨m, ns m hn, fun i x v e1 e2 e3 => ?_⟩
    obtain ⟨u, r, l⟩ := hl i x v e1 e2 e3
    refine ⟨u, r, ?_⟩
    rcases l with l | ⟨k, c, e, z⟩
    · exact .inl l
    · exact .inr ⟨k, c, e, cellK x c e _ z⟩
  · obtain ⟨v, z⟩ := I.cell x c e
    exact ⟨v, cellK x c e v z⟩
  · obtain ⟨m, ⟨o, _, _, ho, _⟩, _⟩ := I.loc
    exact free _ o (fun z => (hch _ z).2.1 rfl) ho I.free
  · obtain ⟨v, o, ho, hd⟩ := I.cell x c e
    exact free c o (fun z => (hch c z).2.2.1 x c e rfl) ho (I.freeC x c e)
  · obtain ⟨e, n, ne, nf, d⟩ := I.pin p hp
    have nch : p.1 ∉ ch := fun z => (hch p.1 z).2.2.2 p hp rfl
    exact ⟨keep p.1 p.2 ne nf nch e n, free p.1 p.2 nch e n, ne, nf, d⟩
theorem Inv.un {t' : Nat} (I : Inv X pins σ H s) (u : Un X.fs [] H H' s.heap h') (hok : HOk X.prog X.w H' h') : Inv X pins σ H' { s with heap := h', toks := t' } := by
  obtain ⟨m, ⟨o, es, ep, ho, r⟩, _⟩ := id I.loc
  obtain ⟨sl, hL⟩ := u.any ho I.free (by simp)
  exact I.step (g' := s.gens) (d' := s.drawn) (ch := []) (fun _ z => nomatch z) (fun b o _ hb _ e n => u.keep b o e n hb (by simp)) (fun b o _ hb _ e n => u.slot b o e n hb (by simp)) (fun b o _ e n => u.free b o e n (by simp)) (fun b o _ e => u.there b o e (by simp)) u.tups u.frzs u.tbls (fun m' hm => by
    obtain ⟨o', es', ep', ho', r'⟩ := hm
    rw [ho] at ho'; cases ho'
    exact ⟨_, es', ep', hL, r'⟩) hok I.bare
theorem Inv.call {g' : Array GenState} {t' : Nat} {d' : Drawn} {ch : List Addr} (I : Inv X pins σ H s) (u : Un (frs X.stack) ch H H' s.heap h') (hok : HOk X.prog X.w H' h') (hg : AllBare g')
    (hch : ∀ b ∈ ch, (b ∈ X.ex ∨ X.s₀.heap.objs.size ≤ b) ∧ b ≠ X.env.locals ∧ (∀ x c, X.env.cells.lookup x = some c → c ≠ b) ∧ ∀ p ∈ X.pn ++ pins, p.1 ≠ b) :
    Inv X pins σ H' { s with heap := h', gens := g', drawn := d', toks := t' } := by
  obtain ⟨m, ⟨o, es, ep, ho, r⟩, _⟩ := id I.loc
  obtain ⟨sl, hL⟩ := u.any ho I.free fun z => (hch _ z).2.1 rfl
  exact I.step (ch := ch) hch (fun b o hL hb hc e n => u.keep b o e n (fun z => (List.mem_cons.mp (I.stkSub b z)).elim hL hb) hc) (fun b o _ _ hc e n => u.any e n hc) (fun b o hc e n => u.free b o e n hc) (fun b o hc e => u.there b o e hc) u.tups u.frzs u.tbls (fun m' hm => by
    obtain ⟨o', es', ep', ho', r'⟩ := hm
    rw [ho] at ho'; cases ho'
    exact ⟨_, es', ep', hL, r'⟩) hok hg
theorem Inv.turned {t' : Nat} {it : Addr} (I : Inv X pins σ H s) (k : ∀ b o, b ≠ it → s.heap.get? b = some o → h'.get? b = some o) (hn : H it = none) (hL : it ≠ X.env.locals)
    (h1 : it ∈ X.ex ∨ X.s₀.heap.objs.size ≤ it) (h2 : ∀ x c, X.env.cells.lookup x = some c → c ≠ it) (h3 : ∀ p ∈ X.pn ++ pins, p.1 ≠ it) : Inv X pins σ H { s with heap := h', toks := t' } := by
  have nit : ∀ b u, H b = some u → b ≠ it := fun b u e z => by rw [z, hn] at e; cases e
  refine I.step (g' := s.gens) (d' := s.drawn) (ch := [it]) (fun b hb => ?_) (fun b o _ _ hc e _ => k b o (fun z => hc (by simp [z])) e) (fun b o _ _ hc e _ => ⟨o.slots, k b o (fun z => hc (by simp [z])) e⟩) (fun _ _ _ _ n => n)
    (fun b o hc e => ⟨o, k b o (fun z => hc (by simp [z])) e⟩) (fun _ _ e => e) (fun _ _ _ e => e) (fun b ps e => ⟨#[], by rw [e]; simp⟩) (fun m hm => ?_) (fun b u e => ?_) I.bare
  · have e : b = it := by simpa using hb
    subst e
    exact ⟨h1, hL, h2, h3⟩
  · obtain ⟨o, es, ep, ho, r⟩ := hm
    exact ⟨o, es, ep, k _ o (Ne.symm hL) ho, r⟩
  · refine (I.hok b u e).stay (fun c v hc q => k c v ?_ q) (fun _ q => q) fun _ _ q => q
    rcases hc with z | z
    · rw [z]; exact nit b u e
    · exact nit c _ z
theorem Inv.tok (I : Inv X pins σ H s) (t : Nat) : Inv X pins σ H { s with toks := t } := I.un (h' := s.heap) (t' := t) Un.refl I.hok
theorem Inv.kept {t' : Nat} (I : Inv X pins σ H s) (k : ∀ b u, s.heap.get? b = some u → h'.get? b = some u) : Inv X pins σ H { s with heap := h', toks := t' } := I.un (Un.kept k) (I.hok.kept k)
theorem Inv.laid {a : Addr} {o : HO} {t' : Nat} (I : Inv X pins σ H s) (k : ∀ b u, s.heap.get? b = some u → h'.get? b = some u) (hp : s.heap.objs.size ≤ a) (new : ObjOk X.prog X.w (upd H a o) h' a o) :
    Inv X pins σ (upd H a o) { s with heap := h', toks := t' } := I.un (Un.laid k hp (I.hok.fresh hp)) (I.hok.laid k hp new)
theorem Inv.write {x e : Addr} {o : HO} {t' : Nat} (I : Inv X pins σ H s) (mu : Mut (H x)) (he : e = x ∨ H e = some (.own x)) (k : ∀ b u, b ≠ e → s.heap.get? b = some u → h'.get? b = some u) (heo : ∃ u, h'.get? e = some u)
    (new : ObjOk X.prog X.w (upd H x o) h' x o) : Inv X pins σ (upd H x o) { s with heap := h', toks := t' } := I.un (Un.write mu he k heo) (I.hok.write mu he k heo new)
theorem Inv.pins_of {pins' : List (Addr × Obj)} (I : Inv X pins σ H s) (h : ∀ p ∈ pins', s.heap.get? p.1 = some p.2 ∧ H p.1 = none ∧ p.1 ≠ X.env.locals ∧ p.1 ∉ X.fs ∧ ∀ v, p.2.data ≠ .cell v) : Inv X pins' σ H s :=
  ⟨I.ok, I.os, I.bare, I.base, I.loc, I.cell, I.free, I.freeC, fun p hp => (List.mem_append.mp hp).elim (fun z => I.pin p (List.mem_append_left _ z)) (h p), I.hok, I.len⟩

theorem nodup_ix {N : List Str} (hN : N.Nodup) {i j : Nat} {x : Str} (a : N[i]? = some x) (b : N[j]? = some x) : i = j := by
  obtain ⟨h1, e1⟩ := List.getElem?_eq_some_iff.mp a
  obtain ⟨h2, e2⟩ := List.getElem?_eq_some_iff.mp b
  exact (List.getElem_inj hN).mp (e1.trans e2.symm)

theorem store_ok2 {M : Model} {A : Around} {E : Value → Shared → Prop} {i : Nat} {x : Str} {v : V} {u : Value} {Q : Unit → Shared → Prop} (I : Inv X pins σ H s) (hN : X.N.Nodup) (hi : X.N[i]? = some x) (hx : Loc X.env.scope x) (r : RelV v u)
    (h : ∀ s', Inv X pins (σ.set i (some v)) H s' → (∃ a, Heap.SameBut a s.heap s'.heap ∧ (a = X.env.locals ∨ X.env.cells.lookup x = some a)) → Q () s') (hf : X.fn x = true ∨ X.env.scope.names.lookup x = some .local := by first | exact .inl rfl | exact .inr rfl | assumption) : wpAny M A (storeName X.env x u) Q E s := by
  obtain ⟨m, hn, hl⟩ := id I.loc
  have hcls : (X.env.scope.kind == .class || (X.env.scope.kind == .module && X.env.locals != X.env.globals)) = false := by rw [I.ok.kind]; rfl
  have hiσ : i < σ.length := by rw [I.len]; exact (List.getElem?_eq_some_iff.mp hi).1
  have cne := I.cne
  have tracked : ∀ {a : Addr} {h' : Heap}, (∃ o, s.heap.get? a = some o ∧ H a = none) → Heap.SameBut a s.heap h' → HOk X.prog X.w H h' := fun {a h'} ha hs b ob e => by
    obtain ⟨_, _, hfree⟩ := ha
    refine (I.hok b ob e).stay (fun c w' hc q => (hs.2 c ?_).trans q) (fun _ q => q) fun _ _ q => q
    rintro rfl
    rcases hc with rfl | hc
    · rw [hfree] at e; cases e
    · rw [hfree] at hc; cases hc
  rcases hx with hk | hk
  · refine wpAny_storeName_local hk hn (fun h' hn' hs => ?_) hcls
    obtain ⟨oL, _, _, hoL, _⟩ := id hn
    refine h _ ⟨I.ok, I.os, I.bare, ⟨fun b o e n hb hx => ?_, fun b o e n hb hx => ?_, I.base.free, fun b o e hx => ?_, I.base.tups, I.base.frzs, I.base.tbls⟩, ⟨_, hn', fun j y v' e1 e2 e3 => ?_⟩, fun y c e => ?_, I.free, I.freeC, fun p hp => ?_, tracked ⟨oL, hoL, I.free⟩ hs, by simpa using I.len⟩ ⟨_, hs, .inl rfl⟩
    · exact (hs.2 b (Nat.ne_of_lt (Nat.lt_of_lt_of_le (Heap.lt_size e) I.ok.above))).trans (I.base.keep b o e n hb hx)
    · obtain ⟨sl, e1⟩ := I.base.slot b o e n hb hx
      exact ⟨sl, (hs.2 b (Nat.ne_of_lt (Nat.lt_of_lt_of_le (Heap.lt_size e) I.ok.above))).trans e1⟩
    · obtain ⟨o', e1⟩ := I.base.there b o e hx
      exact ⟨o', (hs.2 b (Nat.ne_of_lt (Nat.lt_of_lt_of_le (Heap.lt_size e) I.ok.above))).trans e1⟩
    · by_cases hj : j = i
      · subst hj
        rw [hi] at e1; cases e1
        rw [List.getElem?_set_self hiσ] at e2
        cases e2
        exact ⟨u, r, .inl ⟨hk, by simp⟩⟩
      · rw [List.getElem?_set_ne (Ne.symm hj)] at e2
        obtain ⟨u', r', q⟩ := hl j y v' e1 e2 e3
        refine ⟨u', r', ?_⟩
        rcases q with ⟨k, e⟩ | ⟨k, c, e, z⟩
        · refine .inl ⟨k, ?_⟩
          have : y ≠ x := fun e => hj (nodup_ix hN e1 (e ▸ hi))
          simp [this, e]
        · exact .inr ⟨k, c, e, z.sameBut hs (cne y c e)⟩
    · obtain ⟨w', z⟩ := I.cell y c e
      exact ⟨w', z.sameBut hs (cne y c e)⟩
    · obtain ⟨e, n, ne, nf, d⟩ := I.pin p hp
      exact ⟨(hs.2 p.1 ne).trans e, n, ne, nf, d⟩
  · have hfn : X.fn x = true := by
      rcases hf with z | z
      · exact z
      · rw [z] at hk; cases hk
    obtain ⟨c, hc⟩ := I.ok.has x (.inl hk)
    obtain ⟨w', z⟩ := I.cell x c hc
    refine wpAny_storeName_cell I.ok.kind hk hc z (fun h' hc' hs => ?_)
    obtain ⟨oc, hoc, hocd⟩ := id z
    refine h { s with heap := h' } ⟨I.ok, I.os, I.bare, ⟨fun b o e n hb hx => ?_, fun b o e n hb hx => ?_, I.base.free, fun b o e hx => ?_, I.base.tups, I.base.frzs, I.base.tbls⟩, ⟨m, hn.sameBut hs (Ne.symm (cne x c hc)), fun j y v' e1 e2 e3 => ?_⟩, fun y c' e => ?_, I.free, I.freeC, fun p hp => ?_, tracked ⟨oc, hoc, I.freeC x c hc⟩ hs, by simpa using I.len⟩ ⟨c, hs, .inr hc⟩
    · exact (hs.2 b (Nat.ne_of_lt (Nat.lt_of_lt_of_le (Heap.lt_size e) (I.ok.cab x c hfn hc)))).trans (I.base.keep b o e n hb hx)
    · obtain ⟨sl, e1⟩ := I.base.slot b o e n hb hx
      exact ⟨sl, (hs.2 b (Nat.ne_of_lt (Nat.lt_of_lt_of_le (Heap.lt_size e) (I.ok.cab x c hfn hc)))).trans e1⟩
    · obtain ⟨o', e1⟩ := I.base.there b o e hx
      exact ⟨o', (hs.2 b (Nat.ne_of_lt (Nat.lt_of_lt_of_le (Heap.lt_size e) (I.ok.cab x c hfn hc)))).trans e1⟩
    · by_cases hj : j = i
      · subst hj
        rw [hi] at e1; cases e1
        rw [List.getElem?_set_self hiσ] at e2
        cases e2
        exact ⟨u, r, .inr ⟨.inl hk, c, hc, hc'⟩⟩
      · rw [List.getElem?_set_ne (Ne.symm hj)] at e2
        obtain ⟨u', r', q⟩ := hl j y v' e1 e2 e3
        refine ⟨u', r', ?_⟩
        rcases q with q | ⟨k, c', e, z'⟩
        · exact .inl q
        · refine .inr ⟨k, c', e, z'.sameBut hs ?_⟩
          rintro rfl
          exact hj (nodup_ix hN e1 (I.ok.inj _ _ _ e hc ▸ hi))
    · by_cases hcc : c' = c
      · subst hcc; exact ⟨_, hc'⟩
      · obtain ⟨w2, z2⟩ := I.cell y c' e
        exact ⟨w2, z2.sameBut hs hcc⟩
    · obtain ⟨e, n, ne, nf, d⟩ := I.pin p hp
      refine ⟨(hs.2 p.1 ?_).trans e, n, ne, nf, d⟩
      intro q
      rw [q, hoc] at e
      have q' : oc = p.2 := Option.some.inj e
      exact d w' (by rw [← q']; exact hocd)
theorem store_ok {M : Model} {A : Around} {E : Value → Shared → Prop} {i : Nat} {x : Str} {v : V} {u : Value} {Q : Unit → Shared → Prop} (I : Inv X pins σ H s) (hN : X.N.Nodup) (hi : X.N[i]? = some x) (hx : Loc X.env.scope x) (r : RelV v u)
    (h : ∀ s', Inv X pins (σ.set i (some v)) H s' → Q () s') (hf : X.fn x = true ∨ X.env.scope.names.lookup x = some .local := by first | exact .inl rfl | exact .inr rfl | assumption) : wpAny M A (storeName X.env x u) Q E s :=
  store_ok2 I hN hi hx r (fun s' I' _ => h s' I') hf
theorem Inv.call' {s' : Shared} {ch : List Addr} (I : Inv X pins σ H s) (ho : s'.os = s.os) (u : Un (frs X.stack) ch H H' s.heap s'.heap) (hok : HOk X.prog X.w H' s'.heap) (hg : AllBare s'.gens)
    (hch : ∀ b ∈ ch, (b ∈ X.ex ∨ X.s₀.heap.objs.size ≤ b) ∧ b ≠ X.env.locals ∧ (∀ x c, X.env.cells.lookup x = some c → c ≠ b) ∧ ∀ p ∈ X.pn ++ pins, p.1 ≠ b) : Inv X pins σ H' s' := by
  obtain ⟨h', g', d', t', o'⟩ := s'
  have e : o' = s.os := ho
  subst e
  exact I.call (g' := g') (t' := t') (d' := d') u hok hg hch
end

abbrev XK := Value → Option Addr → Hp → Prop
abbrev St := List (Option V)
abbrev VK := V → Hp → Prop
abbrev TE := St → Hp → VK → Prop
abbrev TT := St → Hp → (Bool → Hp → Prop) → Prop
abbrev TA := St → Hp → (List V → Hp → Prop) → Prop
structure Ends where
  nx : St → Hp → Prop
  rt : VK
  bk : St → Hp → Prop := fun _ _ => False
  ct : St → Hp → Prop := fun _ _ => False
abbrev TS := Ends → St → Hp → Prop

def EP (X : Cx) (pins : List (Addr × Obj)) (σ : St) (Q : VK) (u : Value) (s' : Shared) : Prop := ∃ v H', Inv X pins σ H' s' ∧ RelV v u ∧ Q v H'
def TP (X : Cx) (pins : List (Addr × Obj)) (σ : St) (Q : Bool → Hp → Prop) (b : Bool) (s' : Shared) : Prop := ∃ H', Inv X pins σ H' s' ∧ Q b H'
def AP (X : Cx) (pins : List (Addr × Obj)) (σ : St) (Q : List V → Hp → Prop) (us : List Value) (s' : Shared) : Prop := ∃ vs H', Inv X pins σ H' s' ∧ Vals vs us ∧ Q vs H'
def SP (X : Cx) (pins : List (Addr × Obj)) (D : Ends) (f : Flow) (s' : Shared) : Prop :=
  match f with
  | .next => ∃ σ' H', Inv X pins σ' H' s' ∧ D.nx σ' H'
  | .brk => ∃ σ' H', Inv X pins σ' H' s' ∧ D.bk σ' H'
  | .cont => ∃ σ' H', Inv X pins σ' H' s' ∧ D.ct σ' H'
  | .ret u => ∃ v σ' H', Inv X pins σ' H' s' ∧ RelV v u ∧ D.rt v H'

def PE (X : Cx) (e : Expr) (t : TE) : Prop :=
  ∀ (pins : List (Addr × Obj)) (s : Shared) (σ : St) (H : Hp) (Q : VK), Inv X pins σ H s → t σ H Q → wpAny (model X.prog X.w) X.A (eval e X.env) (EP X pins σ Q) X.xe s
def PT (X : Cx) (e : Expr) (t : TT) : Prop :=
  ∀ (pins : List (Addr × Obj)) (s : Shared) (σ : St) (H : Hp) (Q : Bool → Hp → Prop), Inv X pins σ H s → t σ H Q → wpAny (model X.prog X.w) X.A (isTrue e X.env (eval e X.env)) (TP X pins σ Q) X.xe s
def PW (X : Cx) (e : Expr) (t : TT) : Prop :=
  ∀ (whole : Sem Value) (pins : List (Addr × Obj)) (s : Shared) (σ : St) (H : Hp) (Q : Bool → Hp → Prop), Inv X pins σ H s → t σ H Q → wpAny (model X.prog X.w) X.A (isTrue e X.env whole) (TP X pins σ Q) X.xe s
theorem PW.pt {X : Cx} {e : Expr} {t : TT} (h : PW X e t) : PT X e t := h _
def PA (X : Cx) (es : List Expr) (t : TA) : Prop :=
  ∀ (pos : Pos) (pins : List (Addr × Obj)) (s : Shared) (σ : St) (H : Hp) (Q : List V → Hp → Prop), Inv X pins σ H s → t σ H Q → wpAny (model X.prog X.w) X.A (spliced (backTo pos (starEach es X.env))) (AP X pins σ Q) X.xe s
def PS (X : Cx) (st : Stmt) (t : TS) : Prop :=
  ∀ (pins : List (Addr × Obj)) (s : Shared) (σ : St) (H : Hp) (D : Ends), Inv X pins σ H s → t D σ H → wpAny (model X.prog X.w) X.A (exec st X.env) (SP X pins D) X.xe s
def PSs (X : Cx) (st : List Stmt) (t : TS) : Prop :=
  ∀ (pins : List (Addr × Obj)) (s : Shared) (σ : St) (H : Hp) (D : Ends), Inv X pins σ H s → t D σ H → wpAny (model X.prog X.w) X.A (execs st X.env) (SP X pins D) X.xe s
theorem thn {α : Type} {t : Sem α} {Q Q' : α → Shared → Prop} {M : Model} {A : Around} {E : Value → Shared → Prop} {s : Shared} (h : wpAny M A t Q E s) (hQ : ∀ a s, Q a s → Q' a s) : wpAny M A t Q' E s := wpAny_mono h hQ fun _ _ x => x
end L2

namespace L2
open PySem PySem.Spec PyProof.Rows
section
variable {X : Cx}

def tVar (i : Nat) : TE := fun σ H Q => ∃ v, σ[i]? = some (some v) ∧ Q v H
def tC (v : V) : TE := fun _ H Q => Q v H
theorem pe_var {i : Nat} {x : Str} {pos : Pos} (hN : X.N[i]? = some x) (hv : Vis X.env.scope x) (hd : (x == ("__debug__" : Str)) = false := by decide) (hcd : (x == ("__classdict__" : Str)) = false := by decide) : PE X (.Name x pos) (tVar i) := by
  intro pins s σ H Q I h
  obtain ⟨v, e, h⟩ := h
  obtain ⟨m, hn, hl⟩ := I.loc
  obtain ⟨u, r, l⟩ := hl i x v hN e hv
  have fin : EP X pins σ Q u s := ⟨v, H, I, r, h⟩
  rcases l with ⟨hk, hm⟩ | ⟨hk, c, hc, hcell⟩
  · exact wpAny_Name (wpAny_loadName_local I.ok.kind hk hn hm fin) hd
  · rcases hk with hk | hk
    · exact wpAny_Name (wpAny_loadName_cell I.ok.kind hk hc hcell fin) hd
    · exact wpAny_Name (wpAny_loadName_free I.ok.kind hk hc hcell fin hcd) hd
theorem pe_int {i j pos} : PE X (.Constant (.int i) j pos) (tC (.int i)) := fun _ _ _ H _ I h => wpAny_Constant_int ⟨.int i, H, I.tok _, ⟨_, rfl⟩, h⟩
theorem pe_bl {b j pos} : PE X (.Constant (.bool b) j pos) (tC (.bl b)) := fun _ _ _ H _ I h => Constant_bool ⟨.bl b, H, I, rfl, h⟩
theorem pe_non {j pos} : PE X (.Constant .none j pos) (tC .non) := fun _ _ _ H _ I h => Constant_none ⟨.non, H, I, rfl, h⟩
theorem pe_str {x j pos} : PE X (.Constant (.str x) j pos) (tC (.str x)) := fun _ _ _ H _ I h => Calls.Constant_str ⟨.str x, H, I.tok _, ⟨_, rfl⟩, h⟩

def Gl (X : Cx) (x : Str) : Prop := X.env.kindOf x = some .globalImplicit
theorem ld_glob {E : Value → Shared → Prop} {pins : List (Addr × Obj)} {s : Shared} {σ : St} {H : Hp} {x : Str} {u : Value} {pos : Pos} {Q : Value → Shared → Prop} (I : Inv X pins σ H s) (hg : Gl X x) (hm : X.mg x = some u) (h : Q u s)
    (hd : (x == ("__debug__" : Str)) = false := by decide) : wpAny (model X.prog X.w) X.A (eval (.Name x pos) X.env) Q E s :=
  Calls.Name_function_global I.ok.kind hg (Calls.loadGlobal_global (by rw [I.ok.glob]; exact I.mod.glob.keeps I.bk) hm h) hd
theorem ld_blt {E : Value → Shared → Prop} {pins : List (Addr × Obj)} {s : Shared} {σ : St} {H : Hp} {x : Str} {u : Value} {pos : Pos} {Q : Value → Shared → Prop} (I : Inv X pins σ H s) (hg : Gl X x) (hm : X.mg x = none) (hv : bootBuiltins x = some u) (h : Q u s)
    (hn : x ≠ "__name__" := by decide) (hd : (x == ("__debug__" : Str)) = false := by decide) : wpAny (model X.prog X.w) X.A (eval (.Name x pos) X.env) Q E s := by
  obtain ⟨mb, h1, h2⟩ := I.mod.blt
  exact Calls.Name_function_global I.ok.kind hg (Calls.loadGlobal_builtin (by rw [I.ok.glob]; exact I.mod.glob.keeps I.bk) hm (by rw [I.ok.blt]; exact h1.keeps I.bk) ((h2 x hn).trans hv) h) hd
theorem pe_glob {x : Str} {v : V} {u : Value} {pos : Pos} (hg : Gl X x) (hm : X.mg x = some u) (r : RelV v u) (hd : (x == ("__debug__" : Str)) = false := by decide) : PE X (.Name x pos) (tC v) :=
  fun _ _ _ H _ I h => ld_glob I hg hm ⟨v, H, I, r, h⟩ hd
theorem pe_bltn {x : Str} {v : V} {u : Value} {pos : Pos} (hg : Gl X x) (hm : X.mg x = none) (hv : bootBuiltins x = some u) (r : RelV v u) (hn : x ≠ "__name__" := by decide) (hd : (x == ("__debug__" : Str)) = false := by decide) : PE X (.Name x pos) (tC v) :=
  fun _ _ _ H _ I h => ld_blt I hg hm hv ⟨v, H, I, r, h⟩ hn hd

def t2I (ta tb : TE) (k : Int → Int → Hp → Prop) : St → Hp → Prop := fun σ H => ta σ H fun x H1 => tb σ H1 fun y H2 => ∃ i j, x = .int i ∧ y = .int j ∧ k i j H2
def tAdd (ta tb : TE) : TE := fun σ H Q => t2I ta tb (fun i j H2 => Q (.int (i + j)) H2) σ H
def tSub (ta tb : TE) : TE := fun σ H Q => t2I ta tb (fun i j H2 => Q (.int (i - j)) H2) σ H
def tMul (ta tb : TE) : TE := fun σ H Q => t2I ta tb (fun i j H2 => (-(2 ^ 64) < i ∧ i < 2 ^ 64) ∧ Q (.int (i * j)) H2) σ H
variable {a b : Expr} {ta tb : TE} {pos : Pos}
def PC (X : Cx) (op : CmpOp) (a b : Expr) (t : TE) : Prop :=
  ∀ (pins : List (Addr × Obj)) (s : Shared) (σ : St) (H : Hp) (Q : VK), Inv X pins σ H s → t σ H Q →
    wpAny (model X.prog X.w) X.A (eval a X.env) (fun v s₁ => wpAny (model X.prog X.w) X.A (eval b X.env) (fun u s₂ => wpAny (model X.prog X.w) X.A (compareOp op v u) (EP X pins σ Q) X.xe s₂) X.xe s₁) X.xe s
def tCmp (p : Int → Int → Bool) (ta tb : TE) : TE := fun σ H Q => t2I ta tb (fun i j H2 => Q (.bl (p i j)) H2) σ H
abbrev tLt : TE → TE → TE := tCmp fun i j => decide (i < j)
abbrev tLe : TE → TE → TE := tCmp fun i j => decide (i ≤ j)
abbrev tGt : TE → TE → TE := tCmp fun i j => decide (j < i)
abbrev tGe : TE → TE → TE := tCmp fun i j => decide (j ≤ i)
abbrev tEqI : TE → TE → TE := tCmp fun i j => decide (i = j)
abbrev tNeI : TE → TE → TE := tCmp fun i j => !decide (i = j)
def tIsN (ta : TE) : TE := fun σ H Q => ta σ H fun x H1 => Q (.bl (decide (x = .non))) H1
def tNotN (ta : TE) : TE := fun σ H Q => ta σ H fun x H1 => Q (.bl (!decide (x = .non))) H1
def tB (t : TE) : TT := fun σ H Q => t σ H fun x H1 => ∃ c, x = .bl c ∧ Q c H1
theorem pt_val {e : Expr} {t : TE} (h : PE X e t) (he : ∀ whole, isTrue e X.env whole = (do let v ← whole; standAt e.pos; holding [v] (truthy v)) := by intro _; rfl) : PT X e (tB t) := by
  intro pins s σ H Q I hw
  refine isTrue_plain (thn (h pins s σ H _ I hw) fun v s1 ⟨x, H1, I1, r1, q1⟩ => ?_) (he _)
  obtain ⟨d, rfl, q⟩ := q1
  cases r1
  exact wpAny_truthy_bool ⟨H1, I1, q⟩

variable {tA tB' : TT} {rest : List Expr}
def tAnd (t u : TT) : TT := fun σ H Q => t σ H fun c H1 => if c = true then u σ H1 Q else Q false H1
def tOr (t u : TT) : TT := fun σ H Q => t σ H fun c H1 => if c = true then Q true H1 else u σ H1 Q
def tNot (t : TT) : TT := fun σ H Q => t σ H fun c H1 => Q (!c) H1
theorem pw_and1 (ha : PT X a tA) : PW X (.BoolOp .And [a] pos) tA := by
  intro wh pins s σ H Q I h
  refine isTrue_and (thn (ha pins s σ H Q I h) fun c s1 e => ?_)
  cases c with
  | true => exact isTrue_and_nil e
  | false => exact e
theorem pw_or1 (ha : PT X a tA) : PW X (.BoolOp .Or [a] pos) tA := by
  intro wh pins s σ H Q I h
  refine isTrue_or (thn (ha pins s σ H Q I h) fun c s1 e => ?_)
  cases c with
  | false => exact isTrue_or_nil e
  | true => exact e
theorem pw_and (ha : PT X a tA) (hb : PW X (.BoolOp .And (b :: rest) pos) tB') : PW X (.BoolOp .And (a :: b :: rest) pos) (tAnd tA tB') := by
  intro wh pins s σ H Q I h
  refine isTrue_and (thn (ha pins s σ H _ I h) fun c s1 ⟨H1, I1, q1⟩ => ?_)
  cases c with
  | true => exact hb wh pins s1 σ H1 Q I1 q1
  | false => exact ⟨H1, I1, q1⟩
theorem pw_or (ha : PT X a tA) (hb : PW X (.BoolOp .Or (b :: rest) pos) tB') : PW X (.BoolOp .Or (a :: b :: rest) pos) (tOr tA tB') := by
  intro wh pins s σ H Q I h
  refine isTrue_or (thn (ha pins s σ H _ I h) fun c s1 ⟨H1, I1, q1⟩ => ?_)
  cases c with
  | true => exact ⟨H1, I1, q1⟩
  | false => exact hb wh pins s1 σ H1 Q I1 q1
theorem pt_not (ha : PT X a tA) : PT X (.UnaryOp .Not a pos) (tNot tA) := by
  intro pins s σ H Q I h
  exact isTrue_not (ha pins s σ H (fun c H1 => Q (!c) H1) I h)
def tAndV (ta tb : TE) : TE := fun σ H Q => ta σ H fun x H1 => ∃ c, x = .bl c ∧ if c = true then tb σ H1 Q else Q (.bl false) H1
def tOrV (ta tb : TE) : TE := fun σ H Q => ta σ H fun x H1 => ∃ c, x = .bl c ∧ if c = true then Q (.bl true) H1 else tb σ H1 Q
def tNotV (ta : TE) : TE := fun σ H Q => ta σ H fun x H1 => ∃ c, x = .bl c ∧ Q (.bl (!c)) H1
theorem pe_one {op} {t : TE} (h : PE X a t) : PE X (.BoolOp op [a] pos) t := fun pins s σ H Q I hw => BoolOp_one (h pins s σ H Q I hw)
theorem pe_and (ha : PE X a ta) (hb : PE X (.BoolOp .And (b :: rest) pos) tb) : PE X (.BoolOp .And (a :: b :: rest) pos) (tAndV ta tb) := by
  intro pins s σ H Q I h
  refine BoolOp_and (thn (ha pins s σ H _ I h) fun v s1 ⟨x, H1, I1, r1, q1⟩ => ?_)
  obtain ⟨c, rfl, q1⟩ := q1
  cases r1
  refine wpAny_truthy_bool ?_
  cases c with
  | true => exact hb pins s1 σ H1 Q I1 q1
  | false => exact ⟨.bl false, H1, I1, rfl, q1⟩
theorem pe_not (ha : PE X a ta) : PE X (.UnaryOp .Not a pos) (tNotV ta) := by
  intro pins s σ H Q I h
  refine UnaryOp_ (thn (ha pins s σ H _ I h) fun v s1 ⟨x, H1, I1, r1, q1⟩ => ?_)
  obtain ⟨c, rfl, q1⟩ := q1
  cases r1
  exact not_of (wpAny_truthy_bool ⟨.bl (!c), H1, I1, rfl, q1⟩)
def tIf (t : TT) (ta tb : TE) : TE := fun σ H Q => t σ H fun c H1 => if c = true then ta σ H1 Q else tb σ H1 Q
end
end L2

namespace L2
open PySem PySem.Spec PyProof.Rows

def SqL (K : PySem.W.Frag) (H : Hp) (a : Addr) (xs : List V) : Prop :=
  Rd H a (.lst xs) ∨
    ∃ (o : Obj) (its : Array Value) (n : Nat), K.lookup a = some o ∧ o.cls = .type "list" ∧ o.dict = none ∧ o.data = .seq its n ∧ its.size ≤ sizeLine ∧ Vals xs its.toList
def SqT (K : PySem.W.Frag) (H : Hp) (a : Addr) (xs : List V) : Prop :=
  Rd H a (.tup xs) ∨
    ∃ (o : Obj) (its : Array Value) (n : Nat), K.lookup a = some o ∧ o.cls = .type "tuple" ∧ o.data = .seq its n ∧ its.size ≤ sizeLine ∧ Vals xs its.toList
def absV : Value → Option V
  | .none => some .non
  | .bool b => some (.bl b)
  | .int i _ => some (.int i)
  | .str x _ => some (.str x)
  | .bytes b _ => some (.byt b)
  | .float b _ => some (.flt b)
  | .ref a => some (.ref a)
  | .type n => some (.ty n)
  | _ => none
theorem RelV.abs {x : V} {u : Value} (r : RelV x u) : absV u = some x := by
  cases x with
  | non => cases r; rfl
  | bl _ => cases r; rfl
  | int _ => obtain ⟨t, rfl⟩ := r; rfl
  | str _ => obtain ⟨t, rfl⟩ := r; rfl
  | byt _ => obtain ⟨t, rfl⟩ := r; rfl
  | flt _ => obtain ⟨t, rfl⟩ := r; rfl
  | ref _ => cases r; rfl
  | ty _ => cases r; rfl
theorem RelV.inj {x y : V} {u : Value} (r : RelV x u) (q : RelV y u) : x = y := Option.some.inj (r.abs.symm.trans q.abs)
theorem Vals.inj : ∀ {xs ys : List V} {us : List Value}, Vals xs us → Vals ys us → xs = ys
  | _, _, _, .nil, .nil => rfl
  | _, _, _, .cons r t, .cons r' t' => by rw [r.inj r', Vals.inj t t']
section
variable {X : Cx} {pins : List (Addr × Obj)} {σ : St} {H : Hp} {s : Shared} {a : Addr} {xs ys : List V}
theorem SqL.of {K : PySem.W.Frag} (h : H a = some (.lst xs)) : SqL K H a xs := .inl (.inl h)
theorem SqT.of {K : PySem.W.Frag} (h : H a = some (.tup xs)) : SqT K H a xs := .inl (.inl h)
theorem Inv.list (I : Inv X pins σ H s) (h : SqL X.K H a xs) : ∃ its : List Value, Vals xs its ∧ PlainL s.heap a its.toArray ∧ xs.length ≤ sizeLine := by
  rcases h with h | ⟨o, its, n, hk, hc, hd, hs, hz, r⟩
  · obtain ⟨z, its, n, r, e⟩ := h.ok I.hok
    exact ⟨its, r, ⟨_, n, e, rfl, rfl, rfl⟩, z⟩
  · refine ⟨its.toList, r, ⟨o, n, I.kIn a o hk, hc, hd, by simpa using hs⟩, ?_⟩
    have e := r.length
    simp only [Array.length_toList] at e
    omega
theorem Inv.tuple (I : Inv X pins σ H s) (h : SqT X.K H a xs) : ∃ its : List Value, Vals xs its ∧ IsTup s.heap a its.toArray ∧ xs.length ≤ sizeLine := by
  rcases h with h | ⟨o, its, n, hk, hc, hs, hz, r⟩
  · obtain ⟨z, its, r, p⟩ := h.ok I.hok
    exact ⟨its, r, p, z⟩
  · refine ⟨its.toList, r, ⟨o, I.kIn a o hk, hc, n, by simpa using hs⟩, ?_⟩
    have e := r.length
    simp only [Array.length_toList] at e
    omega
theorem Inv.list_inj (I : Inv X pins σ H s) (h : SqL X.K H a xs) (h' : SqL X.K H a ys) : xs = ys := by
  obtain ⟨its, r, ⟨o, n, e, _, _, d⟩, _⟩ := I.list h
  obtain ⟨its', r', ⟨o', n', e', _, _, d'⟩, _⟩ := I.list h'
  rw [e] at e'; cases e'
  rw [d] at d'
  injection d' with d1 _
  have : its = its' := by simpa using congrArg Array.toList d1
  subst this
  exact r.inj r'
theorem Inv.tuple_inj (I : Inv X pins σ H s) (h : SqT X.K H a xs) (h' : SqT X.K H a ys) : xs = ys := by
  obtain ⟨its, r, ⟨o, e, _, n, d⟩, _⟩ := I.tuple h
  obtain ⟨its', r', ⟨o', e', _, n', d'⟩, _⟩ := I.tuple h'
  rw [e] at e'; cases e'
  rw [d] at d'
  injection d' with d1 _
  have : its = its' := by simpa using congrArg Array.toList d1
  subst this
  exact r.inj r'
end

abbrev Cx.wish (X : Cx) (E : Value → Shared → Prop) : Cx := { X with xe := E }
abbrev Cx.nox (X : Cx) : Cx := X.wish fun _ _ => False
theorem Cx.Ok.wish {X : Cx} (ok : X.Ok) (E : Value → Shared → Prop) : (X.wish E).Ok :=
  ⟨ok.mod, ok.kind, ok.glob, ok.blt, ok.above, ok.inj, ok.has, ok.cab, ok.hd, ok.frames, ok.stk, ok.exf, ok.bs, ok.bsz, ok.noex, ok.exfs, ok.funs, ok.frf⟩
theorem Cx.Ok.unwish {X : Cx} {E : Value → Shared → Prop} (ok : (X.wish E).Ok) : X.Ok :=
  ⟨ok.mod, ok.kind, ok.glob, ok.blt, ok.above, ok.inj, ok.has, ok.cab, ok.hd, ok.frames, ok.stk, ok.exf, ok.bs, ok.bsz, ok.noex, ok.exfs, ok.funs, ok.frf⟩
section
variable {X : Cx} {pins : List (Addr × Obj)} {σ : St} {H : Hp} {s : Shared} {E : Value → Shared → Prop}
theorem Inv.wish (I : Inv X pins σ H s) (E : Value → Shared → Prop) : Inv (X.wish E) pins σ H s := ⟨I.ok.wish E, I.os, I.bare, I.base, I.loc, I.cell, I.free, I.freeC, I.pin, I.hok, I.len⟩
theorem Inv.unwish (I : Inv (X.wish E) pins σ H s) : Inv X pins σ H s := ⟨I.ok.unwish, I.os, I.bare, I.base, I.loc, I.cell, I.free, I.freeC, I.pin, I.hok, I.len⟩
theorem SP.unwish {D : Ends} {f : Flow} {s' : Shared} (h : SP (X.wish E) pins D f s') : SP X pins D f s' := by
  cases f with
  | next => obtain ⟨σ', H', I, q⟩ := h; exact ⟨σ', H', I.unwish, q⟩
  | brk => obtain ⟨σ', H', I, q⟩ := h; exact ⟨σ', H', I.unwish, q⟩
  | cont => obtain ⟨σ', H', I, q⟩ := h; exact ⟨σ', H', I.unwish, q⟩
  | ret u => obtain ⟨v, σ', H', I, r, q⟩ := h; exact ⟨v, σ', H', I.unwish, r, q⟩
theorem PE.nox {e : Expr} {t : TE} (h : PE X.nox e t) : PE X e t := fun pins s σ H Q I hw =>
  wpAny_mono (h pins s σ H Q (I.wish _) hw) (fun _ _ ⟨v, H', I', r, q⟩ => ⟨v, H', I'.unwish, r, q⟩) fun _ _ z => False.elim z
theorem PT.nox {e : Expr} {t : TT} (h : PT X.nox e t) : PT X e t := fun pins s σ H Q I hw =>
  wpAny_mono (h pins s σ H Q (I.wish _) hw) (fun _ _ ⟨H', I', q⟩ => ⟨H', I'.unwish, q⟩) fun _ _ z => False.elim z
theorem PSs.nox {st : List Stmt} {t : TS} (h : PSs X.nox st t) : PSs X st t := fun pins s σ H D I hw =>
  wpAny_mono (h pins s σ H D (I.wish _) hw) (fun _ _ q => q.unwish) fun _ _ z => False.elim z
end

section
variable {X : Cx} {st : Stmt} {rest : List Stmt} {t u : TS} {e : Expr} {te : TE} {pos : Pos}
def tNext : TS := fun D σ H => D.nx σ H
def tSeq (t u : TS) : TS := fun D σ H => t { D with nx := u D } σ H
theorem pss_nil : PSs X [] tNext := fun _ _ σ H _ I h => wpAny_execs_nil ⟨σ, H, I, h⟩
theorem pss_cons (h1 : PS X st t) (h2 : PSs X rest u) : PSs X (st :: rest) (tSeq t u) := by
  intro pins s σ H D I h
  refine wpAny_execs_cons (thn (h1 pins s σ H { D with nx := u D } I h) fun f s1 q => ?_)
  cases f with
  | next =>
    obtain ⟨σ', H', I', q⟩ := q
    exact h2 pins s1 σ' H' D I' q
  | ret v => exact q
  | brk => exact q
  | cont => exact q
theorem pss_one (h1 : PS X st t) : PSs X [st] t := by
  intro pins s σ H D I h
  refine wpAny_execs_cons (thn (h1 pins s σ H D I h) fun f s1 q => ?_)
  cases f with
  | next => exact wpAny_execs_nil q
  | ret v => exact q
  | brk => exact q
  | cont => exact q
def tBreak : TS := fun D σ H => D.bk σ H
def tCont : TS := fun D σ H => D.ct σ H
theorem Inv.quiet {pins : List (Addr × Obj)} {σ : St} {H : Hp} {s : Shared} (I : Inv X pins σ H s) : interactive X.env = false := by simp [interactive, I.ok.kind]
def tDrop (te : TE) : TS := fun D σ H => te σ H fun _ H1 => D.nx σ H1
theorem ps_expr (he : PE X e te) (hs : swapsWith e none pos.line X.env = pure false := by rfl) : PS X (.Expr e pos) (tDrop te) := by
  intro pins s σ H D I h
  exact wpAny_Expr_any (thn (he pins s σ H _ I h) fun v s1 ⟨x, H1, I1, r1, q1⟩ => ⟨σ, H1, I1, q1⟩) I.quiet hs
def tRet (te : TE) : TS := fun D σ H => te σ H D.rt
theorem ps_ret (he : PE X e te) : PS X (.Return (some e) pos) (tRet te) := by
  intro pins s σ H D I h
  exact wpAny_Return_some (thn (he pins s σ H _ I h) fun v s1 ⟨x, H1, I1, r1, q1⟩ => ⟨x, σ, H1, I1, r1, q1⟩)
def tRetN : TS := fun D _ H => D.rt .non H
def tIfS (c : TT) (t u : TS) : TS := fun D σ H => c σ H fun b H1 => if b = true then t D σ H1 else u D σ H1
theorem ps_if {c : Expr} {a b : List Stmt} {tc : TT} (hc : PT X c tc) (ha : PSs X a t) (hb : PSs X b u) : PS X (.If c a b pos) (tIfS tc t u) := by
  intro pins s σ H D I h
  refine wpAny_If (thn (hc pins s σ H _ I h) fun d s1 ⟨H1, I1, q1⟩ => ?_)
  cases d with
  | true => exact ha pins s1 σ H1 D I1 q1
  | false => exact hb pins s1 σ H1 D I1 q1
def tNever : TS := fun _ _ _ => False
theorem ps_never : PS X st tNever := fun _ _ _ _ _ _ h => h.elim
end

abbrev TG := V → St → Hp → (St → Hp → Prop) → Prop
abbrev TGs := List V → St → Hp → (St → Hp → Prop) → Prop
def PG (X : Cx) (target : Expr) (t : TG) : Prop :=
  ∀ (pins : List (Addr × Obj)) (s : Shared) (σ : St) (H : Hp) (v : V) (u : Value) (Q : St → Hp → Prop), Inv X pins σ H s → RelV v u → t v σ H Q →
    wpAny (model X.prog X.w) X.A (assign target X.env u) (fun _ s' => ∃ σ' H', Inv X pins σ' H' s' ∧ Q σ' H') X.xe s
def PGs (X : Cx) (ts : List Expr) (t : TGs) : Prop :=
  ∀ (pins : List (Addr × Obj)) (s : Shared) (σ : St) (H : Hp) (vs : List V) (us : List Value) (Q : St → Hp → Prop), Inv X pins σ H s → Vals vs us → t vs σ H Q →
    wpAny (model X.prog X.w) X.A (assignInOrder ((assignEach ts X.env).map (·.2)) us) (fun _ s' => ∃ σ' H', Inv X pins σ' H' s' ∧ Q σ' H') X.xe s
abbrev TSet := V → V → V → Hp → (Hp → Prop) → Prop
def PSet (X : Cx) (t : TSet) : Prop :=
  ∀ (pins : List (Addr × Obj)) (s : Shared) (σ : St) (H : Hp) (o i v : V) (ov iv u : Value) (Q : Hp → Prop), Inv X pins σ H s → RelV o ov → RelV i iv → RelV v u → t o i v H Q →
    wpAny (model X.prog X.w) X.A (setItem ov iv u) (fun _ s' => ∃ H', Inv X pins σ H' s' ∧ Q H') X.xe s
abbrev TIp := V → V → Hp → VK → Prop
def PIp (X : Cx) (op : Operator) (t : TIp) : Prop :=
  ∀ (pins : List (Addr × Obj)) (s : Shared) (σ : St) (H : Hp) (x y : V) (v u : Value) (Q : VK), Inv X pins σ H s → RelV x v → RelV y u → t x y H Q →
    wpAny (model X.prog X.w) X.A (inplaceOp op v u) (EP X pins σ Q) X.xe s
section
variable {X : Cx} {pos : Pos}
def gName (i : Nat) : TG := fun v σ H Q => Q (σ.set i (some v)) H
theorem pg_name {i : Nat} {x : Str} (hN : X.N.Nodup) (hi : X.N[i]? = some x) (hx : Loc X.env.scope x) (hf : X.fn x = true ∨ X.env.scope.names.lookup x = some .local := by first | exact .inl rfl | exact .inr rfl | assumption) : PG X (.Name x pos) (gName i) := by
  intro pins s σ H v u Q I r h
  exact wpAny_assign_Name (store_ok I hN hi hx r (fun s' I' => ⟨_, H, I', h⟩) hf)
def gNil : TGs := fun vs σ H Q => vs = [] ∧ Q σ H
def gCons (t : TG) (u : TGs) : TGs := fun vs σ H Q => ∃ v r, vs = v :: r ∧ t v σ H fun σ' H' => u r σ' H' Q
theorem pgs_nil : PGs X [] gNil := by
  intro pins s σ H vs us Q I r h
  obtain ⟨e, h⟩ := h
  subst e
  cases r
  exact assignInOrder_nil ⟨σ, H, I, h⟩
theorem pgs_cons {e : Expr} {es : List Expr} {t : TG} {u : TGs} (h1 : PG X e t) (h2 : PGs X es u)
    (hs : (assignEach (e :: es) X.env).map (·.2) = assign e X.env :: (assignEach es X.env).map (·.2) := by rfl) : PGs X (e :: es) (gCons t u) := by
  intro pins s σ H vs us Q I r h
  obtain ⟨v, vr, e1, h⟩ := h
  subst e1
  cases r with
  | cons r rr =>
    rw [hs]
    refine assignInOrder_cons (thn (h1 pins s σ H _ _ _ I r h) fun _ s1 ⟨σ1, H1, I1, q1⟩ => ?_)
    exact h2 pins s1 σ1 H1 _ _ Q I1 rr q1
def gTup (K : PySem.W.Frag) (n : Nat) (t : TGs) : TG := fun v σ H Q => ∃ a xs, v = .ref a ∧ SqT K H a xs ∧ xs.length = n ∧ t xs σ H Q
theorem pg_tup {es : List Expr} {k : Nat} {t : TGs} {n : Nat} (hc : X.calm = true) (h : PGs X es t)
    (hn : (assignEach es X.env).length = n := by rfl) (hst : (assignEach es X.env).findIdx? (·.1) = none := by rfl) : PG X (.Tuple es k pos) (gTup X.K n t) := by
  intro pins s σ H v u Q I r hw
  obtain ⟨a, xs, e1, hq, hl, hw⟩ := hw
  subst e1
  cases r
  obtain ⟨its, rv, ht, hz⟩ := I.tuple hq
  refine assign_Tuple_tuple (I.ok.hd hc) ht (by simp [hn, ← hl, rv.length]) hst fun h' hx => ?_
  have I1 : Inv X pins σ H { s with heap := h' } := I.kept (t' := s.toks) fun b o e => hx b o (Nat.ne_of_lt (Heap.lt_size e)) e
  exact h pins _ σ H xs _ Q I1 (by simpa using rv) hw
def gSub (to ti : TE) (t : TSet) : TG := fun v σ H Q => to σ H fun o H1 => ti σ H1 fun i H2 => t o i v H2 fun H3 => Q σ H3
def tAsg (te : TE) (g : TG) : TS := fun D σ H => te σ H fun x H1 => g x σ H1 D.nx
theorem ps_asg {tg e : Expr} {te : TE} {g : TG} (he : PE X e te) (hg : PG X tg g) (hs : swapsWithSole [tg] e pos.line X.env = pure false := by rfl) (hw : swappedStores [tg] e X.env = pure none := by rfl)
    (h1 : (assignEach [tg] X.env).map (·.2) = [assign tg X.env] := by rfl) : PS X (.Assign [tg] e pos) (tAsg te g) := by
  intro pins s σ H D I h
  refine wpAny_Assign_stores (thn (he pins s σ H _ I h) fun v s1 ⟨x, H1, I1, r1, q1⟩ => ?_) hs hw
  rw [h1]
  exact thn (hg pins s1 σ H1 x v _ I1 r1 q1) fun _ s2 q => q
theorem ps_set {i : Nat} {x : Str} {e : Expr} {te : TE} {pos' : Pos} (hN : X.N.Nodup) (hi : X.N[i]? = some x) (hx : Loc X.env.scope x) (he : PE X e te) (hs : swapsWith e (some (.Name x pos')) pos.line X.env = pure false := by rfl) (hf : X.fn x = true ∨ X.env.scope.names.lookup x = some .local := by first | exact .inl rfl | exact .inr rfl | assumption) :
    PS X (.Assign [.Name x pos'] e pos) (tAsg te (gName i)) := by
  intro pins s σ H D I h
  refine wpAny_Assign_Name (thn (he pins s σ H _ I h) fun v s1 ⟨y, H1, I1, r1, q1⟩ => ?_) hs
  exact store_ok I1 hN hi hx r1 (fun s2 I2 => ⟨_, H1, I2, q1⟩) hf
def tPar (i j : Nat) (ta : TA) : TS := fun D σ H => ta σ H fun vs H1 => ∃ v w, vs = [v, w] ∧ D.nx ((σ.set i (some v)).set j (some w)) H1
def tAug (i : Nat) (te : TE) (ti : TIp) : TS := fun D σ H => ∃ x, σ[i]? = some (some x) ∧ te σ H fun y H1 => ti x y H1 fun z H2 => D.nx (σ.set i (some z)) H2
def tAugS (to ti te : TE) (tget : V → V → Hp → VK → Prop) (tip : TIp) (tset : TSet) : TS := fun D σ H => to σ H fun o H1 => ti σ H1 fun i H2 => tget o i H2 fun x H3 => te σ H3 fun y H4 => tip x y H4 fun z H5 => tset o i z H5 fun H6 => D.nx σ H6
def PGet (X : Cx) (t : V → V → Hp → VK → Prop) : Prop :=
  ∀ (pins : List (Addr × Obj)) (s : Shared) (σ : St) (H : Hp) (o i : V) (ov iv : Value) (Q : VK), Inv X pins σ H s → RelV o ov → RelV i iv → t o i H Q →
    wpAny (model X.prog X.w) X.A (getItem ov iv) (EP X pins σ Q) X.xe s
def ipI (f : Int → Int → Int) : TIp := fun x y H Q => ∃ i j, x = .int i ∧ y = .int j ∧ Q (.int (f i j)) H
end

section
variable {X : Cx} {pos : Pos}
def tWhile (c : TT) (tb : TS) : TS := fun D σ H => ∃ W : Nat → St → Hp → Prop, (∃ m, W m σ H) ∧ ∀ m σ H, W m σ H →
  c σ H fun b H1 => if b = true then ∃ N : St → Hp → Prop, (∀ σ' H', N σ' H' → ∃ m', m' < m ∧ W m' σ' H') ∧ tb { D with nx := N, ct := N, bk := D.nx } σ H1 else D.nx σ H1
theorem ps_while {c : Expr} {body : List Stmt} {tc : TT} {tb : TS} (hp : PassesOwn (model X.prog X.w) X.A X.env X.xe) (hc : PT X c tc) (hb : PSs X body tb) : PS X (.While c body [] pos) (tWhile tc tb) := by
  intro pins s σ H D I h
  obtain ⟨W, ⟨m0, w0⟩, turn⟩ := h
  refine wpAny_While (codeAny_whileLoop (fun n s' => ∃ σ' H', Inv X pins σ' H' s' ∧ W n σ' H') ?_ m0 ⟨σ, H, I, w0⟩)
  rintro n s1 ⟨σ1, H1, I1, w1⟩
  refine wpAny_passesOwn hp (thn (hc pins s1 σ1 H1 _ I1 (turn n σ1 H1 w1)) fun b s2 ⟨H2, I2, q2⟩ => ?_)
  cases b with
  | true =>
    obtain ⟨N, hN, q2⟩ := q2
    rw [if_pos rfl]
    refine wpAny_passesOwn hp (thn (hb pins s2 σ1 H2 _ I2 q2) fun f s3 q3 => ?_)
    cases f with
    | next =>
      obtain ⟨σ3, H3, I3, n3⟩ := q3
      obtain ⟨m', hm, w3⟩ := hN σ3 H3 n3
      exact ⟨m', hm, σ3, H3, I3, w3⟩
    | cont =>
      obtain ⟨σ3, H3, I3, n3⟩ := q3
      obtain ⟨m', hm, w3⟩ := hN σ3 H3 n3
      exact ⟨m', hm, σ3, H3, I3, w3⟩
    | brk => exact q3
    | ret v => exact q3
  | false =>
    rw [if_neg Bool.false_ne_true]
    exact wpAny_execs_nil ⟨σ1, H2, I2, q2⟩
end

structure It where
  go : Nat → Hp → Prop
  yld : Nat → Hp → V → Hp → Prop
  stop : Nat → Hp → Prop
def FpOk (X : Cx) (pins : List (Addr × Obj)) (H : Hp) (b : Addr) : Prop :=
  H b = none ∧ b ≠ X.env.locals ∧ b ∉ X.fs ∧ (b ∈ X.ex ∨ X.s₀.heap.objs.size ≤ b) ∧ (∀ x c, X.env.cells.lookup x = some c → c ≠ b) ∧ ∀ p ∈ X.pn ++ pins, p.1 ≠ b
theorem Inv.fpOk {X : Cx} {pins : List (Addr × Obj)} {σ : St} {H H' : Hp} {s : Shared} {b : Addr} (I : Inv X pins σ H s) (hb : s.heap.objs.size ≤ b) (hn : H' b = none) : FpOk X pins H' b := by
  refine ⟨hn, Nat.ne_of_gt (Nat.lt_of_lt_of_le I.lt hb), I.nofs hb, .inr (Nat.le_trans I.sz hb), fun x c e z => ?_, fun p hp z => ?_⟩
  · obtain ⟨v, q⟩ := I.cell x c e
    exact absurd (Nat.lt_of_lt_of_le q.lt (by rw [z]; exact hb)) (Nat.lt_irrefl _)
  · exact absurd (Nat.lt_of_lt_of_le (Heap.lt_size (I.pin p hp).1) (by rw [z]; exact hb)) (Nat.lt_irrefl _)
structure Turn (P : Program) (w : World) (K : PySem.W.Frag) (tg : Expr) (J : It) (fp : List Addr) (it : Addr) (tn : Nat → Heap → Prop) : Prop where
  mem : it ∈ fp
  obj : ∀ i h, tn i h → ∀ b ∈ fp, ∃ o, h.get? b = some o ∧ ∀ v, o.data ≠ .cell v
  keep : ∀ i h h', tn i h → (∀ b ∈ fp, ∀ o, h.get? b = some o → h'.get? b = some o) → tn i h'
  item : ∀ (X : Cx), X.prog = P → X.w = w → X.K = K → X.calm = true → ∀ (i : Nat) (pins : List (Addr × Obj)) (s : Shared) (σ : St) (H : Hp) (E : Value → Shared → Prop), Inv X pins σ H s → (∀ b ∈ fp, FpOk X pins H b) → tn i s.heap → J.go i H →
    wpAny (model P w) X.A (pyNext (.ref it)) (fun r s1 => ∃ u, r = some u ∧
      wpAny (model P w) X.A (letOwnedTupleGo tg (.ref it) u) (fun _ s2 => ∃ x H', Inv X pins σ H' s2 ∧ RelV x u ∧ J.yld i H x H' ∧ tn (i + 1) s2.heap ∧ ∀ b ∈ fp, H' b = none) E s1) E s
  done : ∀ (X : Cx), X.prog = P → X.w = w → X.K = K → X.calm = true → ∀ (i : Nat) (pins : List (Addr × Obj)) (s : Shared) (σ : St) (H : Hp) (E : Value → Shared → Prop), Inv X pins σ H s → (∀ b ∈ fp, FpOk X pins H b) → tn i s.heap → J.stop i H →
    wpAny (model P w) X.A (pyNext (.ref it)) (fun r s1 => r = none ∧ Inv X pins σ H s1) E s
  self : ∀ (A : Around) (i : Nat) (s : Shared) (Q : Value → Shared → Prop) (E : Value → Shared → Prop), tn i s.heap → Q (.ref it) s → wpAny (model P w) A (pyIter (.ref it)) Q E s
abbrev TI := St → Hp → (It → Hp → Prop) → Prop
def PIE (X : Cx) (pins : List (Addr × Obj)) (σ : St) (tg : Expr) (R : It → Hp → Prop) (itv : Value) (s2 : Shared) : Prop :=
  ∃ (it : Addr) (fp : List Addr) (tn : Nat → Heap → Prop) (J : It) (H' : Hp), itv = .ref it ∧ Inv X pins σ H' s2 ∧ Turn X.prog X.w X.K tg J fp it tn ∧ tn 0 s2.heap ∧ (∀ b ∈ fp, FpOk X pins H' b) ∧ R J H'
def PI (X : Cx) (tg iter : Expr) (wi : TI) : Prop :=
  ∀ (pins : List (Addr × Obj)) (s : Shared) (σ : St) (H : Hp) (R : It → Hp → Prop), Inv X pins σ H s → wi σ H R →
    wpAny (model X.prog X.w) X.A (eval iter X.env) (fun v s1 => wpAny (model X.prog X.w) X.A (pyIter v) (PIE X pins σ tg R) X.xe s1) X.xe s

theorem go_of {M : Model} {A : Around} {E : Value → Shared → Prop} {s : Shared} {tg : Expr} {it : Addr} {u : Value} {o : Obj} {n : String} {vs : Array Value} {Q : Unit → Shared → Prop} (ho : s.heap.get? it = some o) (hc : o.cls = .type n) (hd : o.data = .fields vs)
    (hn : ["enumerate", "zip", "dict_itemiterator", "dict_reverseitemiterator", "odict_iterator", "itertools.zip_longest", "itertools.pairwise"].contains n = false) (hQ : Q () s) : wpAny M A (letOwnedTupleGo tg (.ref it) u) Q E s := by
  unfold letOwnedTupleGo
  cases tg <;> first
    | exact wpAny_pure hQ
    | (cases u <;> first
        | exact wpAny_pure hQ
        | (refine wpAny_bind (wpAny_load ho ?_)
           rw [hc, hd]
           show wpAny M A (if (["enumerate", "zip", "dict_itemiterator", "dict_reverseitemiterator", "odict_iterator", "itertools.zip_longest", "itertools.pairwise"].contains n && vs[0]? == some (rawInt _)) = true then _ else _) Q E s
           rw [if_neg (by intro h; rw [hn, Bool.false_and] at h; cases h)]
           exact wpAny_pure hQ))

def Itl (K : PySem.W.Frag) (a : Addr) : It :=
  ⟨fun i H => ∃ xs x, SqL K H a xs ∧ xs[i]? = some x, fun i H x H' => H' = H ∧ ∀ xs, SqL K H a xs → xs[i]? = some x, fun i H => ∃ xs, SqL K H a xs ∧ xs.length ≤ i⟩
def Itt (K : PySem.W.Frag) (a : Addr) : It :=
  ⟨fun i H => ∃ xs x, SqT K H a xs ∧ xs[i]? = some x, fun i H x H' => H' = H ∧ ∀ xs, SqT K H a xs → xs[i]? = some x, fun i H => ∃ xs, SqT K H a xs ∧ xs.length ≤ i⟩
def Itr (lo : Int) (n : Nat) : It := ⟨fun i _ => i < n, fun i H x H' => H' = H ∧ x = .int (lo + i), fun i _ => n ≤ i⟩
theorem turn_list {P : Program} {w : World} {K : PySem.W.Frag} {tg : Expr} (a it : Addr) : Turn P w K tg (Itl K a) [it] it (fun i h => h.IsListIter it a i) where
  mem := by simp
  obj := fun i h st b hb => by
    have e : b = it := by simpa using hb
    subst e
    obtain ⟨o, e, c, d⟩ := st
    exact ⟨o, e, fun v z => by rw [d] at z; cases z⟩
  keep := fun i h h' st k => st.at fun o e => k it (by simp) o e
  item := by
    intro X hP hw hK hc i pins s σ H E I hf st hg
    subst hP hw hK
    obtain ⟨xs, x, hq, hx⟩ := hg
    obtain ⟨its, rv, p, hz⟩ := I.list hq
    obtain ⟨u, hu, ru⟩ := rv.get hx
    obtain ⟨f0, f1, f2, f3, f4, f5⟩ := hf it (by simp)
    refine wpAny_pyNext_list_item st p.isList (x := u) (by simpa using hu) fun h' st' sb => ?_
    have I1 : Inv X pins σ H { s with heap := h' } := I.turned (t' := s.toks) (fun b o hb e => (sb.2 b hb).trans e) f0 f1 f3 f4 f5
    obtain ⟨o, e, c, d⟩ := id st'
    exact ⟨u, rfl, go_of (s := { s with heap := h' }) e c d (by decide) ⟨x, H, I1, ru, ⟨rfl, fun ys hy => by rw [I.list_inj hy hq]; exact hx⟩, st', fun b hb => (hf b hb).1⟩⟩
  done := by
    intro X hP hw hK hc i pins s σ H E I hf st hg
    subst hP hw hK
    obtain ⟨xs, hq, hx⟩ := hg
    obtain ⟨its, rv, p, hz⟩ := I.list hq
    obtain ⟨f0, f1, f2, f3, f4, f5⟩ := hf it (by simp)
    have hl := rv.length
    exact wpAny_pyNext_list_end (I.ok.hd hc) st p.isList (by simp; omega) fun h' eb => ⟨rfl, I.turned (t' := s.toks) (fun b o hb e => eb b o hb e) f0 f1 f3 f4 f5⟩
  self := fun _ _ _ _ _ st h => wpAny_pyIter_listiter st h
theorem turn_tuple {P : Program} {w : World} {K : PySem.W.Frag} {tg : Expr} (a it : Addr) : Turn P w K tg (Itt K a) [it] it (fun i h => h.IsTupleIter it a i) where
  mem := by simp
  obj := fun i h st b hb => by
    have e : b = it := by simpa using hb
    subst e
    obtain ⟨o, e, c, d⟩ := st
    exact ⟨o, e, fun v z => by rw [d] at z; cases z⟩
  keep := fun i h h' st k => st.at fun o e => k it (by simp) o e
  item := by
    intro X hP hw hK hc i pins s σ H E I hf st hg
    subst hP hw hK
    obtain ⟨xs, x, hq, hx⟩ := hg
    obtain ⟨its, rv, p, hz⟩ := I.tuple hq
    obtain ⟨u, hu, ru⟩ := rv.get hx
    obtain ⟨f0, f1, f2, f3, f4, f5⟩ := hf it (by simp)
    refine wpAny_pyNext_tuple_item st (show s.heap.IsTuple a its.toArray from p) (x := u) (by simpa using hu) fun h' st' sb => ?_
    have I1 : Inv X pins σ H { s with heap := h' } := I.turned (t' := s.toks) (fun b o hb e => (sb.2 b hb).trans e) f0 f1 f3 f4 f5
    obtain ⟨o, e, c, d⟩ := id st'
    exact ⟨u, rfl, go_of (s := { s with heap := h' }) e c d (by decide) ⟨x, H, I1, ru, ⟨rfl, fun ys hy => by rw [I.tuple_inj hy hq]; exact hx⟩, st', fun b hb => (hf b hb).1⟩⟩
  done := by
    intro X hP hw hK hc i pins s σ H E I hf st hg
    subst hP hw hK
    obtain ⟨xs, hq, hx⟩ := hg
    obtain ⟨its, rv, p, hz⟩ := I.tuple hq
    obtain ⟨f0, f1, f2, f3, f4, f5⟩ := hf it (by simp)
    have hl := rv.length
    exact wpAny_pyNext_tuple_end (I.ok.hd hc) st (show s.heap.IsTuple a its.toArray from p) (by simp; omega) fun h' eb => ⟨rfl, I.turned (t' := s.toks) (fun b o hb e => eb b o hb e) f0 f1 f3 f4 f5⟩
  self := fun _ _ _ _ _ st h => wpAny_pyIter_tupleiter st h
theorem turn_range {P : Program} {w : World} {K : PySem.W.Frag} {tg : Expr} (it : Addr) (lo : Int) (n : Nat) : Turn P w K tg (Itr lo n) [it] it (fun i h => IsRangeIter h it (lo + (i : Nat) * 1) ((n : Int) - (i : Nat)) 1) where
  mem := by simp
  obj := fun i h st b hb => by
    have e : b = it := by simpa using hb
    subst e
    exact ⟨_, st, fun v z => by
      have z' : Data.fields _ = Data.cell v := z
      cases z'⟩
  keep := fun i h h' st k => k it (by simp) _ st
  item := by
    intro X hP hw hK hc i pins s σ H E I hf st hg
    subst hP hw hK
    obtain ⟨f0, f1, f2, f3, f4, f5⟩ := hf it (by simp)
    have W := Walks.range (prog := X.prog) (w := X.w) (I.ok.hd hc) it lo 1 n
    refine W.item i s _ _ hg st fun v h' tk hv st' kk => ?_
    obtain ⟨t, rfl⟩ := hv
    have I1 : Inv X pins σ H { s with heap := h', toks := tk } := I.turned (fun b o hb e => kk b o (by simpa using hb) e) f0 f1 f3 f4 f5
    refine ⟨_, rfl, go_of (s := { s with heap := h', toks := tk }) (n := "range_iterator") st' rfl rfl (by decide) ⟨.int (lo + i), H, I1, ⟨t, ?_⟩, ⟨rfl, rfl⟩, st', fun b hb => (hf b hb).1⟩⟩
    rw [Int.mul_one]
  done := by
    intro X hP hw hK hc i pins s σ H E I hf st hg
    subst hP hw hK
    obtain ⟨f0, f1, f2, f3, f4, f5⟩ := hf it (by simp)
    exact wpAny_pyNext_range_end (I.ok.hd hc) st (by have : n ≤ i := hg; omega) fun h' eb => ⟨rfl, I.turned (t' := s.toks) (fun b o hb e => eb b o hb e) f0 f1 f3 f4 f5⟩
  self := fun _ _ _ _ _ st h => wpAny_pyIter_rangeiter st h
end L2

namespace L2
open PySem PySem.Spec PyProof.Rows
section
variable {X : Cx} {tg : Expr}
def iList (K : PySem.W.Frag) (tl : TE) : TI := fun σ H R => tl σ H fun x H1 => ∃ a, x = .ref a ∧ (∃ xs, SqL K H1 a xs) ∧ R (Itl K a) H1
def iTup (K : PySem.W.Frag) (tl : TE) : TI := fun σ H R => tl σ H fun x H1 => ∃ a, x = .ref a ∧ (∃ xs, SqT K H1 a xs) ∧ R (Itt K a) H1
theorem pi_list {l : Expr} {tl : TE} (hl : PE X l tl) : PI X tg l (iList X.K tl) := by
  intro pins s σ H R I h
  refine thn (hl pins s σ H _ I h) fun v s1 ⟨x, H1, I1, r1, q1⟩ => ?_
  obtain ⟨a, e, ⟨xs, hq⟩, q⟩ := q1
  subst e
  cases r1
  obtain ⟨its, rv, p, hz⟩ := I1.list hq
  refine wpAny_pyIter_list p.isList ?_
  refine ⟨s1.heap.objs.size, [s1.heap.objs.size], _, _, H1, rfl, I1.kept (t' := s1.toks) fun b o e => Heap.get?_push_of_some _ e, turn_list a _, ⟨_, Heap.get?_push_size _ rfl, rfl, rfl⟩, fun b hb => ?_, q⟩
  have e : b = s1.heap.objs.size := by simpa using hb
  subst e
  exact I1.fpOk (Nat.le_refl _) (I1.hok.fresh (Nat.le_refl _))
theorem pi_tup {l : Expr} {tl : TE} (hl : PE X l tl) : PI X tg l (iTup X.K tl) := by
  intro pins s σ H R I h
  refine thn (hl pins s σ H _ I h) fun v s1 ⟨x, H1, I1, r1, q1⟩ => ?_
  obtain ⟨a, e, ⟨xs, hq⟩, q⟩ := q1
  subst e
  cases r1
  obtain ⟨its, rv, p, hz⟩ := I1.tuple hq
  refine wpAny_pyIter_tuple (show s1.heap.IsTuple a its.toArray from p) ?_
  refine ⟨s1.heap.objs.size, [s1.heap.objs.size], _, _, H1, rfl, I1.kept (t' := s1.toks) fun b o e => Heap.get?_push_of_some _ e, turn_tuple a _, ⟨_, Heap.get?_push_size _ rfl, rfl, rfl⟩, fun b hb => ?_, q⟩
  have e : b = s1.heap.objs.size := by simpa using hb
  subst e
  exact I1.fpOk (Nat.le_refl _) (I1.hok.fresh (Nat.le_refl _))
theorem range_it {pins : List (Addr × Obj)} {σ : St} {H : Hp} {s : Shared} {R : It → Hp → Prop} {E : Value → Shared → Prop} {lo hi : Int} {t u v : Tok} {tk : Nat} (I : Inv X pins σ H s) (h1 : -(2 ^ 62) ≤ lo) (h2 : lo < 2 ^ 62) (h3 : -(2 ^ 62) ≤ hi) (h4 : hi < 2 ^ 62)
    (q : R (Itr lo (hi - lo).toNat) H) : wpAny (model X.prog X.w) X.A (pyIter (.ref s.heap.objs.size)) (PIE X pins σ tg R) E { s with heap := s.heap.push { cls := .type "range", data := .fields #[.int lo t, .int hi u, .int 1 v] }, toks := tk } := by
  refine wpAny_pyIter_range (IsRange.new ..) (small_one h1 h2 h3 h4) ?_
  have I1 : Inv X pins σ H { s with heap := s.heap.push { cls := .type "range", data := .fields #[.int lo t, .int hi u, .int 1 v] }, toks := tk } := I.kept fun b o e => Heap.get?_push_of_some _ e
  refine ⟨(s.heap.push { cls := .type "range", data := .fields #[.int lo t, .int hi u, .int 1 v] }).objs.size, [(s.heap.push { cls := .type "range", data := .fields #[.int lo t, .int hi u, .int 1 v] }).objs.size], _, _, H, rfl,
    I1.kept (t' := tk) fun b o e => Heap.get?_push_of_some _ e, turn_range _ lo (hi - lo).toNat, ?_, fun b hb => ?_, q⟩
  · have e1 : lo + ((0 : Nat) : Int) * 1 = lo := by simp
    have e2 : (((hi - lo).toNat : Nat) : Int) - ((0 : Nat) : Int) = Builtin.Range.rangeSize lo hi 1 := by rw [rangeSize_one]; split <;> omega
    show IsRangeIter _ _ (lo + ((0 : Nat) : Int) * 1) ((((hi - lo).toNat : Nat) : Int) - ((0 : Nat) : Int)) 1
    rw [e1, e2]
    exact Heap.get?_push_size _ rfl
  · have e : b = (s.heap.push { cls := .type "range", data := .fields #[.int lo t, .int hi u, .int 1 v] }).objs.size := by simpa using hb
    subst e
    exact I1.fpOk (Nat.le_refl _) (I1.hok.fresh (Nat.le_refl _))
def iRng1 (ta : TA) : TI := fun σ H R => ta σ H fun vs H1 => ∃ j : Int, vs = [.int j] ∧ -(2 ^ 62) ≤ j ∧ j < 2 ^ 62 ∧ R (Itr 0 j.toNat) H1
def iRng2 (ta : TA) : TI := fun σ H R => ta σ H fun vs H1 => ∃ i j : Int, vs = [.int i, .int j] ∧ (-(2 ^ 62) ≤ i ∧ i < 2 ^ 62 ∧ -(2 ^ 62) ≤ j ∧ j < 2 ^ 62) ∧ R (Itr i (j - i).toNat) H1
theorem pi_range1 {a : Expr} {ta : TA} {p pos : Pos} (hg : Gl X "range") (hm : X.mg "range" = none) (ha : PA X [a] ta) (hs : starEach [a] X.env = [(false, eval a X.env)] := by rfl) : PI X tg (.Call (.Name "range" p) [a] [] pos) (iRng1 ta) := by
  intro pins s σ H R I h
  refine Call_ (ld_blt I hg hm boot_range (PyProof.Rows.callWith_type1 (thn (ha pos pins s σ H _ I h) fun us s1 ⟨vs, H1, I1, r1, q1⟩ => ?_) hs rfl))
  obtain ⟨j, e, q1, q2, q⟩ := q1
  subst e
  cases r1 with
  | cons r rr =>
    cases rr
    obtain ⟨t, rfl⟩ := r
    exact call_range_1 (range_it I1 (by omega) (by omega) q1 q2 (by simpa using q))
theorem pi_range2 {a b : Expr} {ta : TA} {p pos : Pos} (hg : Gl X "range") (hm : X.mg "range" = none) (ha : PA X [a, b] ta) (hs : starEach [a, b] X.env = [(false, eval a X.env), (false, eval b X.env)] := by rfl) (hs2 : starEach [b] X.env = [(false, eval b X.env)] := by rfl) :
    PI X tg (.Call (.Name "range" p) [a, b] [] pos) (iRng2 ta) := by
  intro pins s σ H R I h
  refine Call_ (ld_blt I hg hm boot_range (PyProof.Rows.callWith_type1 (thn (ha pos pins s σ H _ I h) fun us s1 ⟨vs, H1, I1, r1, q1⟩ => ?_) (by rw [hs, hs2]) (by rw [hs2]; rfl)))
  obtain ⟨i, j, e, ⟨q1, q2, q3, q4⟩, q⟩ := q1
  subst e
  cases r1 with
  | cons r rr =>
    cases rr with
    | cons r' rr =>
      cases rr
      obtain ⟨t, rfl⟩ := r
      obtain ⟨t', rfl⟩ := r'
      exact call_range_2 (range_it I1 q1 q2 q3 q4 q)

def tFor (wi : TI) (g : TG) (tb : TS) : TS := fun D σ H => wi σ H fun J H1 => ∃ W : Nat → Nat → St → Hp → Prop, (∃ m, W 0 m σ H1) ∧ ∀ i m σ H, W i m σ H →
  (J.stop i H ∧ D.nx σ H) ∨ (J.go i H ∧ ∃ N : St → Hp → Prop, (∀ σ' H', N σ' H' → ∃ m', m' < m ∧ W (i + 1) m' σ' H') ∧ ∀ x H', J.yld i H x H' → g x σ H' fun σ2 H2 => tb { D with nx := N, ct := N, bk := D.nx } σ2 H2)
def pinsAt (fp : List Addr) (h : Heap) : List (Addr × Obj) := fp.filterMap fun b => (h.get? b).map fun o => (b, o)
theorem mem_pinsAt {fp : List Addr} {h : Heap} {b : Addr} {o : Obj} (hb : b ∈ fp) (e : h.get? b = some o) : (b, o) ∈ pinsAt fp h := List.mem_filterMap.mpr ⟨b, hb, by rw [e]; rfl⟩
theorem of_pinsAt {fp : List Addr} {h : Heap} {p : Addr × Obj} (hp : p ∈ pinsAt fp h) : p.1 ∈ fp ∧ h.get? p.1 = some p.2 := by
  obtain ⟨b, hb, e⟩ := List.mem_filterMap.mp hp
  cases q : h.get? b with
  | none => rw [q] at e; cases e
  | some o =>
    rw [q] at e
    have e' : (b, o) = p := Option.some.inj e
    subst e'
    exact ⟨hb, q⟩
theorem Inv.pinned {pins : List (Addr × Obj)} {σ : St} {H : Hp} {s : Shared} {fp : List Addr} (I : Inv X pins σ H s) (hf : ∀ b ∈ fp, FpOk X pins H b) (ho : ∀ b ∈ fp, ∃ o, s.heap.get? b = some o ∧ ∀ v, o.data ≠ .cell v) : Inv X (pins ++ pinsAt fp s.heap) σ H s :=
  I.pins_of fun p hp => (List.mem_append.mp hp).elim (fun z => I.pin p (List.mem_append_right _ z)) fun z => by
    obtain ⟨hb, e⟩ := of_pinsAt z
    obtain ⟨f0, f1, f2, _⟩ := hf p.1 hb
    obtain ⟨o, e', d⟩ := ho p.1 hb
    rw [e] at e'; cases e'
    exact ⟨e, f0, f1, f2, d⟩
theorem Inv.unpinned {pins pl : List (Addr × Obj)} {σ : St} {H : Hp} {s : Shared} (I : Inv X (pins ++ pl) σ H s) : Inv X pins σ H s := I.pins_of fun p hp => I.pin p (List.mem_append_right _ (List.mem_append_left _ hp))
theorem ps_for {iter : Expr} {body : List Stmt} {wi : TI} {g : TG} {tb : TS} {pos : Pos} (hp : PassesOwn (model X.prog X.w) X.A X.env X.xe) (hc : X.calm = true) (hi : PI X tg iter wi) (hg : PG X tg g) (hb : PSs X body tb)
    (hs : ∀ x, foldedSetIterable iter X.env x = pure x := by intro _; rfl) : PS X (.For tg iter body [] pos) (tFor wi g tb) := by
  intro pins s σ H D I h
  refine wpAny_For (thn (hi pins s σ H _ I h) fun v s1 h1 => thn h1 fun itv s2 h2 => ?_) hs
  obtain ⟨it, fp, tn, J, H2, e, I2, T, st2, f2, W, ⟨m0, w0⟩, turn⟩ := h2
  subst e
  -- what stays true of the iterator's objects through the loop
  have stat : ∀ {H' : Hp}, (∀ b ∈ fp, H' b = none) → ∀ b ∈ fp, FpOk X pins H' b := fun hn b hb => ⟨hn b hb, (f2 b hb).2⟩
  refine codeAny_forLoop_any (fun n s' => ∃ i σ' H', Inv X pins σ' H' s' ∧ tn i s'.heap ∧ (∀ b ∈ fp, H' b = none) ∧ W i n σ' H') ?_ m0 ⟨0, σ, H2, I2, st2, fun b hb => (f2 b hb).1, w0⟩
  rintro n s3 ⟨i, σ3, H3, I3, st3, fr3, w3⟩
  rcases turn i n σ3 H3 w3 with ⟨stop, qn⟩ | ⟨go, N, hN, step⟩
  · refine wpAny_passesOwn hp (thn (T.done X rfl rfl rfl hc i pins s3 σ3 H3 X.xe I3 (stat fr3) st3 stop) fun r s4 ⟨hr, I4⟩ => ?_)
    subst hr
    exact wpAny_execs_nil ⟨σ3, H3, I4, qn⟩
  · refine wpAny_passesOwn hp (thn (T.item X rfl rfl rfl hc i pins s3 σ3 H3 X.xe I3 (stat fr3) st3 go) fun r s4 ⟨u, hr, h4⟩ => ?_)
    subst hr
    refine wpAny_passesOwn hp (thn h4 fun _ s5 ⟨x, H5, I5, r5, y5, st5, fr5⟩ => ?_)
    have I5' := I5.pinned (stat fr5) (T.obj _ _ st5)
    refine wpAny_passesOwn hp (thn (hg _ s5 σ3 H5 x u _ I5' r5 (step x H5 y5)) fun _ s6 ⟨σ6, H6, I6, q6⟩ => ?_)
    refine wpAny_passesOwn hp (thn (hb _ s6 σ6 H6 _ I6 q6) fun f s7 q7 => ?_)
    have again : ∀ {σ7 : St} {H7 : Hp}, Inv X (pins ++ pinsAt fp s5.heap) σ7 H7 s7 → N σ7 H7 → ∃ m, m < n ∧ ∃ i σ' H', Inv X pins σ' H' s7 ∧ tn i s7.heap ∧ (∀ b ∈ fp, H' b = none) ∧ W i m σ' H' := fun {σ7 H7} I7 n7 => by
      obtain ⟨m', hm, w7⟩ := hN σ7 H7 n7
      refine ⟨m', hm, i + 1, σ7, H7, I7.unpinned, T.keep _ _ _ st5 fun b hb o e => (I7.pin (b, o) (List.mem_append_right _ (List.mem_append_right _ (mem_pinsAt hb e)))).1, fun b hb => ?_, w7⟩
      obtain ⟨o, e, d⟩ := T.obj _ _ st5 b hb
      exact (I7.pin (b, o) (List.mem_append_right _ (List.mem_append_right _ (mem_pinsAt hb e)))).2.1
    cases f with
    | next => obtain ⟨σ7, H7, I7, n7⟩ := q7; exact again I7 n7
    | cont => obtain ⟨σ7, H7, I7, n7⟩ := q7; exact again I7 n7
    | brk => obtain ⟨σ7, H7, I7, q7⟩ := q7; exact ⟨σ7, H7, I7.unpinned, q7⟩
    | ret v => obtain ⟨x7, σ7, H7, I7, r7, q7⟩ := q7; exact ⟨x7, σ7, H7, I7.unpinned, r7, q7⟩
end

theorem for_tup {K : PySem.W.Frag} {a : Addr} {xs : List V} {g : TG} {tb : TS} {D : Ends} {σ : St} {H : Hp} (Pv : Nat → St → Hp → Prop) (h0 : Pv 0 σ H) (hl : ∀ i σ H, i ≤ xs.length → Pv i σ H → SqT K H a xs)
    (hs : ∀ i x σ H, xs[i]? = some x → Pv i σ H → g x σ H fun σ2 H2 => tb { D with nx := Pv (i + 1), ct := Pv (i + 1), bk := D.nx } σ2 H2) (hd : ∀ σ H, Pv xs.length σ H → D.nx σ H) :
    ∃ W : Nat → Nat → St → Hp → Prop, (∃ m, W 0 m σ H) ∧ ∀ i m σ H, W i m σ H →
      ((Itt K a).stop i H ∧ D.nx σ H) ∨ ((Itt K a).go i H ∧ ∃ N : St → Hp → Prop, (∀ σ' H', N σ' H' → ∃ m', m' < m ∧ W (i + 1) m' σ' H') ∧ ∀ x H', (Itt K a).yld i H x H' → g x σ H' fun σ2 H2 => tb { D with nx := N, ct := N, bk := D.nx } σ2 H2) := by
  refine ⟨fun i m σ H => m = xs.length - i ∧ i ≤ xs.length ∧ Pv i σ H, ⟨xs.length, by simp, Nat.zero_le _, h0⟩, ?_⟩
  rintro i m σ H ⟨rfl, hi, p⟩
  have q := hl i σ H hi p
  by_cases hlt : i < xs.length
  · refine .inr ⟨⟨xs, xs[i], q, by simp [hlt]⟩, Pv (i + 1), fun σ' H' p' => ⟨xs.length - (i + 1), by omega, rfl, hlt, p'⟩, fun x H' y => ?_⟩
    obtain ⟨e, y⟩ := y
    subst e
    exact hs i x σ _ (y xs q) p
  · have e : i = xs.length := by omega
    subst e
    exact .inl ⟨⟨xs, q, Nat.le_refl _⟩, hd σ H p⟩
theorem for_range {lo : Int} {n : Nat} {g : TG} {tb : TS} {D : Ends} {σ : St} {H : Hp} (Pv : Nat → St → Hp → Prop) (h0 : Pv 0 σ H)
    (hs : ∀ i σ H, i < n → Pv i σ H → g (.int (lo + i)) σ H fun σ2 H2 => tb { D with nx := Pv (i + 1), ct := Pv (i + 1), bk := D.nx } σ2 H2) (hd : ∀ σ H, Pv n σ H → D.nx σ H) :
    ∃ W : Nat → Nat → St → Hp → Prop, (∃ m, W 0 m σ H) ∧ ∀ i m σ H, W i m σ H →
      ((Itr lo n).stop i H ∧ D.nx σ H) ∨ ((Itr lo n).go i H ∧ ∃ N : St → Hp → Prop, (∀ σ' H', N σ' H' → ∃ m', m' < m ∧ W (i + 1) m' σ' H') ∧ ∀ x H', (Itr lo n).yld i H x H' → g x σ H' fun σ2 H2 => tb { D with nx := N, ct := N, bk := D.nx } σ2 H2) := by
  refine ⟨fun i m σ H => m = n - i ∧ i ≤ n ∧ Pv i σ H, ⟨n, by simp, Nat.zero_le _, h0⟩, ?_⟩
  rintro i m σ H ⟨rfl, hi, p⟩
  by_cases hlt : i < n
  · refine .inr ⟨hlt, Pv (i + 1), fun σ' H' p' => ⟨n - (i + 1), by omega, rfl, hlt, p'⟩, fun x H' y => ?_⟩
    obtain ⟨e, y⟩ := y
    subst e y
    exact hs i σ _ hlt p
  · have e : i = n := by omega
    subst e
    exact .inl ⟨Nat.le_refl _, hd σ H p⟩
end L2

namespace L2
open PySem PySem.Spec PyProof.Rows

abbrev R2 := V → V → Hp → VK → Prop
def OpR (X : Cx) (f : Value → Value → Sem Value) (r : R2) : Prop :=
  ∀ (pins : List (Addr × Obj)) (s : Shared) (σ : St) (H : Hp) (x y : V) (v u : Value) (Q : VK), Inv X pins σ H s → RelV x v → RelV y u → r x y H Q →
    wpAny (model X.prog X.w) X.A (f v u) (EP X pins σ Q) X.xe s
def UnR (X : Cx) (f : Value → Sem Value) (r : V → Hp → VK → Prop) : Prop :=
  ∀ (pins : List (Addr × Obj)) (s : Shared) (σ : St) (H : Hp) (x : V) (v : Value) (Q : VK), Inv X pins σ H s → RelV x v → r x H Q →
    wpAny (model X.prog X.w) X.A (f v) (EP X pins σ Q) X.xe s
def CallR (X : Cx) (f : Value) (r : List V → Hp → VK → Prop) : Prop :=
  ∀ (pins : List (Addr × Obj)) (s : Shared) (σ : St) (H : Hp) (xs : List V) (us : List Value) (Q : VK), Inv X pins σ H s → Vals xs us → r xs H Q →
    wpAny (model X.prog X.w) X.A (call f us) (EP X pins σ Q) X.xe s
def TruR (X : Cx) (r : V → Hp → (Bool → Hp → Prop) → Prop) : Prop :=
  ∀ (pins : List (Addr × Obj)) (s : Shared) (σ : St) (H : Hp) (x : V) (v : Value) (Q : Bool → Hp → Prop), Inv X pins σ H s → RelV x v → r x H Q →
    wpAny (model X.prog X.w) X.A (truthy v) (TP X pins σ Q) X.xe s

def tOp (r : R2) (ta tb : TE) : TE := fun σ H Q => ta σ H fun x H1 => tb σ H1 fun y H2 => r x y H2 Q
def tUn (r : V → Hp → VK → Prop) (ta : TE) : TE := fun σ H Q => ta σ H fun x H1 => r x H1 Q
def rI (C : Int → Int → Prop) (g : Int → Int → V) : R2 := fun x y H Q => ∃ i j, x = .int i ∧ y = .int j ∧ C i j ∧ Q (g i j) H
def rI0 (g : Int → Int → V) : R2 := fun x y H Q => ∃ i j, x = .int i ∧ y = .int j ∧ Q (g i j) H
def rU (g : Int → V) : V → Hp → VK → Prop := fun x H Q => ∃ i, x = .int i ∧ Q (g i) H

section
variable {X : Cx} {a b c : Expr} {ta tb tc : TE} {pos : Pos}

theorem binT (ha : PE X a ta) (hb : PE X b tb) {pins : List (Addr × Obj)} {s : Shared} {σ : St} {H : Hp} {R : V → V → Hp → Prop} (I : Inv X pins σ H s)
    (h : ta σ H fun x H1 => tb σ H1 fun y H2 => R x y H2) {Q : Value → Shared → Prop} {f : Value → Value → Sem Value}
    (hf : ∀ v u s2 x y H2, Inv X pins σ H2 s2 → RelV x v → RelV y u → R x y H2 → wpAny (model X.prog X.w) X.A (f v u) Q X.xe s2) :
    wpAny (model X.prog X.w) X.A (eval a X.env) (fun v s₁ => wpAny (model X.prog X.w) X.A (eval b X.env) (fun u s₂ => wpAny (model X.prog X.w) X.A (f v u) Q X.xe s₂) X.xe s₁) X.xe s := by
  refine thn (ha pins s σ H _ I h) fun v s1 ⟨x, H1, I1, r1, q1⟩ => ?_
  refine thn (hb pins s1 σ H1 _ I1 q1) fun u s2 ⟨y, H2, I2, r2, q2⟩ => ?_
  exact hf v u s2 x y H2 I2 r1 r2 q2

theorem pe_op {op : Operator} {r : R2} (ho : OpR X (binaryOp op) r) (ha : PE X a ta) (hb : PE X b tb) : PE X (.BinOp a op b pos) (tOp r ta tb) := by
  intro pins s σ H Q I h
  exact wpAny_BinOp (binT ha hb I h fun v u s2 x y H2 I2 rx ry q => ho pins s2 σ H2 x y v u Q I2 rx ry q)
theorem pe_un {op : UnaryOp} {r : V → Hp → VK → Prop} (ho : UnR X (unaryOp op) r) (ha : PE X a ta) : PE X (.UnaryOp op a pos) (tUn r ta) := by
  intro pins s σ H Q I h
  exact UnaryOp_ (thn (ha pins s σ H _ I h) fun v s1 ⟨x, H1, I1, r1, q1⟩ => ho pins s1 σ H1 x v Q I1 r1 q1)
theorem opI {f : Value → Value → Sem Value} {C : Int → Int → Prop} {g : Int → Int → Int}
    (rule : ∀ (i j : Int) (t u : Tok) (s : Shared) (Q : Value → Shared → Prop) (E : Value → Shared → Prop), C i j → Q (.int (g i j) s.toks) { s with toks := s.toks + 1 } → wpAny (model X.prog X.w) X.A (f (.int i t) (.int j u)) Q E s) :
    OpR X f (rI C fun i j => .int (g i j)) := by
  intro pins s σ H x y v u Q I rx ry h
  obtain ⟨i, j, rfl, rfl, hc, q⟩ := h
  obtain ⟨t, rfl⟩ := rx
  obtain ⟨t', rfl⟩ := ry
  exact rule i j t t' s _ _ hc ⟨.int (g i j), H, I.tok _, ⟨_, rfl⟩, q⟩
theorem opI0 {f : Value → Value → Sem Value} {g : Int → Int → Int}
    (rule : ∀ (i j : Int) (t u : Tok) (s : Shared) (Q : Value → Shared → Prop) (E : Value → Shared → Prop), Q (.int (g i j) s.toks) { s with toks := s.toks + 1 } → wpAny (model X.prog X.w) X.A (f (.int i t) (.int j u)) Q E s) :
    OpR X f (rI0 fun i j => .int (g i j)) := by
  intro pins s σ H x y v u Q I rx ry h
  obtain ⟨i, j, rfl, rfl, q⟩ := h
  obtain ⟨t, rfl⟩ := rx
  obtain ⟨t', rfl⟩ := ry
  exact rule i j t t' s _ _ ⟨.int (g i j), H, I.tok _, ⟨_, rfl⟩, q⟩
theorem opB0 {f : Value → Value → Sem Value} {g : Int → Int → Bool}
    (rule : ∀ (i j : Int) (t u : Tok) (s : Shared) (Q : Value → Shared → Prop) (E : Value → Shared → Prop), Q (.bool (g i j)) s → wpAny (model X.prog X.w) X.A (f (.int i t) (.int j u)) Q E s) :
    OpR X f (rI0 fun i j => .bl (g i j)) := by
  intro pins s σ H x y v u Q I rx ry h
  obtain ⟨i, j, rfl, rfl, q⟩ := h
  obtain ⟨t, rfl⟩ := rx
  obtain ⟨t', rfl⟩ := ry
  exact rule i j t t' s _ _ ⟨.bl (g i j), H, I, rfl, q⟩

def CDiv (i j : Int) : Prop := 0 < j ∧ j < 1073741824
def CDivN (i j : Int) : Prop := j ≠ 0 ∧ j.natAbs < 1073741824
def CPow (i j : Int) : Prop := 0 ≤ j ∧ j ≤ 1000000 ∧ i.natAbs < 2 ^ 64
def CMul (i j : Int) : Prop := (-(2 ^ 64) < i ∧ i < 2 ^ 64) ∨ (-(2 ^ 64) < j ∧ j < 2 ^ 64)
theorem CMul.ok {i j : Int} (h : CMul i j) : IntMulOk i j := by
  rcases h with ⟨h1, h2⟩ | ⟨h1, h2⟩
  · exact .of_left (intBits_le_64 h1 h2)
  · exact .of_right (intBits_le_64 h1 h2)
theorem op_add : OpR X (binaryOp .Add) (rI0 fun i j => .int (i + j)) := opI0 fun _ _ _ _ _ _ _ q => add_int q
theorem op_sub : OpR X (binaryOp .Sub) (rI0 fun i j => .int (i - j)) := opI0 fun _ _ _ _ _ _ _ q => sub_int q
theorem op_mod : OpR X (binaryOp .Mod) (rI (fun _ j => 0 < j) fun i j => .int (i % j)) := opI fun i j _ _ _ _ _ hc q => by
  have h1 : (0 : Int) < j := hc
  exact mod_int' (by omega) (by rw [Int.fmod_eq_emod_of_nonneg i (by omega)]; exact q)
theorem op_pow : OpR X (binaryOp .Pow) (rI CPow fun i j => .int (i ^ j.toNat)) := opI fun _ _ _ _ _ _ _ hc q => pow_int_small hc.1 hc.2.1 hc.2.2 q
theorem unI {f : Value → Sem Value} {g : Int → Int}
    (rule : ∀ (i : Int) (t : Tok) (s : Shared) (Q : Value → Shared → Prop) (E : Value → Shared → Prop), Q (.int (g i) s.toks) { s with toks := s.toks + 1 } → wpAny (model X.prog X.w) X.A (f (.int i t)) Q E s) :
    UnR X f (rU fun i => .int (g i)) := by
  intro pins s σ H x v Q I rx h
  obtain ⟨i, rfl, q⟩ := h
  obtain ⟨t, rfl⟩ := rx
  exact rule i t s _ _ ⟨.int (g i), H, I.tok _, ⟨_, rfl⟩, q⟩
theorem un_neg : UnR X (unaryOp .USub) (rU fun i => .int (-i)) := unI fun _ _ _ _ _ q => neg_int q
end

def scal : V → V → Bool
  | .non, .non => true | .non, .int _ => true | .int _, .non => true | .non, .bl _ => true | .bl _, .non => true | .non, .str _ => true | .str _, .non => true
  | .int _, .int _ => true | .bl _, .bl _ => true | .str _, .str _ => true | .byt _, .byt _ => true
  | .int _, .str _ => true | .str _, .int _ => true | .bl _, .str _ => true | .str _, .bl _ => true
  | _, _ => false
def rEq : R2 := fun x y H Q => scal x y = true ∧ Q (.bl (decide (x = y))) H
def rNe : R2 := fun x y H Q => scal x y = true ∧ Q (.bl (!decide (x = y))) H

theorem dec_int {i j : Int} : decide (V.int i = V.int j) = (i == j) := by
  rw [Bool.eq_iff_iff]
  simp
theorem dec_bl {i j : Bool} : decide (V.bl i = V.bl j) = (i == j) := by
  rw [Bool.eq_iff_iff]
  simp
theorem dec_str {i j : Str} : decide (V.str i = V.str j) = (i == j) := by
  rw [Bool.eq_iff_iff]
  simp
theorem dec_byt {i j : Array UInt8} : decide (V.byt i = V.byt j) = (i.toList == j.toList) := by
  rw [Bool.eq_iff_iff]
  cases i
  cases j
  simp

section
variable {X : Cx} {a b c : Expr} {ta tb tc : TE} {pos : Pos}
theorem fin_bl {pins : List (Addr × Obj)} {σ : St} {H : Hp} {s : Shared} {Q : VK} {k k' : Bool} (I : Inv X pins σ H s) (q : Q (.bl k) H) (e : k = k') : EP X pins σ Q (.bool k') s := by
  subst e
  exact ⟨.bl k, H, I, rfl, q⟩
theorem op_eq : OpR X (compareOp .Eq) rEq := by
  intro pins s σ H x y v u Q I rx ry h
  obtain ⟨hs, q⟩ := h
  cases x with
  | non =>
    cases rx
    cases y with
    | non => cases ry; exact PySem.EqNone.eq_none_none (fin_bl I q (by simp))
    | bl j => cases ry; exact PySem.EqNone.eq_none_bool (fin_bl I q (by simp))
    | int j => obtain ⟨t', rfl⟩ := ry; exact PySem.EqNone.eq_none_int (fin_bl I q (by simp))
    | str j => obtain ⟨t', rfl⟩ := ry; exact PySem.EqNone.eq_none_str (fin_bl I q (by simp))
    | _ => exact absurd (show false = true from hs) Bool.false_ne_true
  | bl i =>
    cases rx
    cases y with
    | non => cases ry; exact PySem.EqNone.eq_bool_none (fin_bl I q (by simp))
    | bl j => cases ry; exact eq_bool (fin_bl I q dec_bl)
    | str j => obtain ⟨t', rfl⟩ := ry; exact PySem.EqMixed.eq_bool_str (fin_bl I q (by simp))
    | _ => exact absurd (show false = true from hs) Bool.false_ne_true
  | int i =>
    obtain ⟨t, rfl⟩ := rx
    cases y with
    | non => cases ry; exact PySem.EqNone.eq_int_none (fin_bl I q (by simp))
    | int j => obtain ⟨t', rfl⟩ := ry; exact eq_int (fin_bl I q dec_int)
    | str j => obtain ⟨t', rfl⟩ := ry; exact PySem.EqMixed.eq_int_str (fin_bl I q (by simp))
    | _ => exact absurd (show false = true from hs) Bool.false_ne_true
  | str i =>
    obtain ⟨t, rfl⟩ := rx
    cases y with
    | non => cases ry; exact PySem.EqNone.eq_str_none (fin_bl I q (by simp))
    | bl j => cases ry; exact PySem.EqMixed.eq_str_bool (fin_bl I q (by simp))
    | int j => obtain ⟨t', rfl⟩ := ry; exact PySem.EqMixed.eq_str_int (fin_bl I q (by simp))
    | str j => obtain ⟨t', rfl⟩ := ry; exact eq_str (fin_bl I q dec_str)
    | _ => exact absurd (show false = true from hs) Bool.false_ne_true
  | byt i =>
    obtain ⟨t, rfl⟩ := rx
    cases y with
    | byt j => obtain ⟨t', rfl⟩ := ry; exact PySem.W.eq_bytes (fin_bl I q dec_byt)
    | _ => exact absurd (show false = true from hs) Bool.false_ne_true
  | _ => cases y <;> exact absurd (show false = true from hs) Bool.false_ne_true
theorem op_ne : OpR X (compareOp .NotEq) rNe := by
  intro pins s σ H x y v u Q I rx ry h
  obtain ⟨hs, q⟩ := h
  cases x with
  | non =>
    cases rx
    cases y with
    | non => cases ry; exact PySem.EqNone.ne_none_none (fin_bl I q (by simp))
    | bl j => cases ry; exact PySem.EqNone.ne_none_bool (fin_bl I q (by simp))
    | int j => obtain ⟨t', rfl⟩ := ry; exact PySem.EqNone.ne_none_int (fin_bl I q (by simp))
    | str j => obtain ⟨t', rfl⟩ := ry; exact PySem.EqNone.ne_none_str (fin_bl I q (by simp))
    | _ => exact absurd (show false = true from hs) Bool.false_ne_true
  | bl i =>
    cases rx
    cases y with
    | non => cases ry; exact PySem.EqNone.ne_bool_none (fin_bl I q (by simp))
    | bl j => cases ry; exact ne_bool (fin_bl I q (congrArg not dec_bl))
    | str j => obtain ⟨t', rfl⟩ := ry; exact PySem.EqMixed.ne_bool_str (fin_bl I q (by simp))
    | _ => exact absurd (show false = true from hs) Bool.false_ne_true
  | int i =>
    obtain ⟨t, rfl⟩ := rx
    cases y with
    | non => cases ry; exact PySem.EqNone.ne_int_none (fin_bl I q (by simp))
    | int j => obtain ⟨t', rfl⟩ := ry; exact ne_int (fin_bl I q (congrArg not dec_int))
    | str j => obtain ⟨t', rfl⟩ := ry; exact PySem.EqMixed.ne_int_str (fin_bl I q (by simp))
    | _ => exact absurd (show false = true from hs) Bool.false_ne_true
  | str i =>
    obtain ⟨t, rfl⟩ := rx
    cases y with
    | non => cases ry; exact PySem.EqNone.ne_str_none (fin_bl I q (by simp))
    | bl j => cases ry; exact PySem.EqMixed.ne_str_bool (fin_bl I q (by simp))
    | int j => obtain ⟨t', rfl⟩ := ry; exact PySem.EqMixed.ne_str_int (fin_bl I q (by simp))
    | str j => obtain ⟨t', rfl⟩ := ry; exact ne_str (fin_bl I q (congrArg not dec_str))
    | _ => exact absurd (show false = true from hs) Bool.false_ne_true
  | byt i =>
    obtain ⟨t, rfl⟩ := rx
    cases y with
    | byt j => obtain ⟨t', rfl⟩ := ry; exact PySem.W.ne_bytes (fin_bl I q (congrArg not dec_byt))
    | _ => exact absurd (show false = true from hs) Bool.false_ne_true
  | _ => cases y <;> exact absurd (show false = true from hs) Bool.false_ne_true

theorem op_lt : OpR X (compareOp .Lt) (rI0 fun i j => .bl (decide (i < j))) := opB0 fun _ _ _ _ _ _ _ q => lt_int q
theorem op_le : OpR X (compareOp .LtE) (rI0 fun i j => .bl (decide (i ≤ j))) := opB0 fun _ _ _ _ _ _ _ q => le_int q
theorem op_gt : OpR X (compareOp .Gt) (rI0 fun i j => .bl (decide (j < i))) := opB0 fun _ _ _ _ _ _ _ q => gt_int q
theorem op_ge : OpR X (compareOp .GtE) (rI0 fun i j => .bl (decide (j ≤ i))) := opB0 fun _ _ _ _ _ _ _ q => ge_int q
theorem op_isN : OpR X (compareOp .Is) (fun x y H Q => y = .non ∧ Q (.bl (decide (x = .non))) H) := by
  intro pins s σ H x y v u Q I rx ry h
  obtain ⟨rfl, q⟩ := h
  cases ry
  refine is_none_gen (fin_bl I q ?_)
  cases x <;> first
    | (cases rx; rfl)
    | (obtain ⟨t, rfl⟩ := rx; rfl)
def isObj : HO → Bool
  | .lst _ => true
  | .ins _ _ _ => true
  | _ => false
theorem OpR.or {f : Value → Value → Sem Value} {r r' : R2} (h : OpR X f r) (h' : OpR X f r') : OpR X f (fun x y H Q => r x y H Q ∨ r' x y H Q) := by
  intro pins s σ H x y v u Q I rx ry q
  rcases q with q | q
  · exact h pins s σ H x y v u Q I rx ry q
  · exact h' pins s σ H x y v u Q I rx ry q

theorem nomark (b : Expr) {op : CmpOp} (h : op ≠ .In := by decide) (h2 : op ≠ .NotIn := by decide) : behindInMarks op b = false := by
  have e1 : (op == CmpOp.In) = false := by cases op <;> first | rfl | exact absurd rfl h
  have e2 : (op == CmpOp.NotIn) = false := by cases op <;> first | rfl | exact absurd rfl h2
  cases b <;> simp [behindInMarks, e1, e2]
theorem pe_cmpR {op : CmpOp} {r : R2} (ho : OpR X (compareOp op) r) (ha : PE X a ta) (hb : PE X b tb) (hm : behindInMarks op b = false) : PE X (.Compare a [op] [b] pos) (tOp r ta tb) := by
  intro pins s σ H Q I h
  exact wpAny_Compare1 (binT ha hb I h fun v u s2 x y H2 I2 rx ry q => ho pins s2 σ H2 x y v u Q I2 rx ry q) hm
def tTest (t : TE) : TT := fun σ H Q => t σ H fun x H' => ∃ k, x = .bl k ∧ Q k H'
theorem pt_cmpR {op : CmpOp} {r : R2} (ho : OpR X (compareOp op) r) (ha : PE X a ta) (hb : PE X b tb) (hm : behindInMarks op b = false) : PT X (.Compare a [op] [b] pos) (tTest (tOp r ta tb)) := by
  intro pins s σ H Q I h
  refine wpAny_isTrue_Compare1 (thn (ha pins s σ H _ I h) fun v s1 ⟨x, H1, I1, r1, q1⟩ => thn (hb pins s1 σ H1 _ I1 q1) fun u s2 ⟨y, H2, I2, r2, q2⟩ =>
    thn (ho pins s2 σ H2 x y v u _ I2 r1 r2 q2) fun c s3 ⟨z, H3, I3, r3, k, e, q3⟩ => ?_) hm
  subst e
  cases r3
  exact wpAny_truthy_bool ⟨H3, I3, q3⟩
def tChain (r r' : R2) (ta tb tc : TE) : TE := fun σ H Q => ta σ H fun x H1 => tb σ H1 fun y H2 => r x y H2 fun z H3 => ∃ k, z = .bl k ∧
  (if k = true then tc σ H3 fun w' H4 => r' y w' H4 Q else Q (.bl false) H3)
theorem pe_chain {op op' : CmpOp} {r r' : R2} (ho : OpR X (compareOp op) r) (ho' : OpR X (compareOp op') r') (ha : PE X a ta) (hb : PE X b tb) (hc : PE X c tc)
    (hm : lastMarks [op, op'] [b, c] = false := by with_unfolding_all rfl) : PE X (.Compare a [op, op'] [b, c] pos) (tChain r r' ta tb tc) := by
  intro pins s σ H Q I h
  refine Compare_chain (thn (ha pins s σ H _ I h) fun v s1 ⟨x, H1, I1, r1, q1⟩ => chain_link (thn (hb pins s1 σ H1 _ I1 q1) fun u s2 ⟨y, H2, I2, r2, q2⟩ =>
    thn (ho pins s2 σ H2 x y v u _ I2 r1 r2 q2) fun d s3 ⟨z, H3, I3, r3, k, e, q3⟩ => ?_)) hm
  subst e
  cases r3
  refine wpAny_truthy_bool ?_
  cases k with
  | false => exact ite_ff ⟨.bl false, H3, I3, rfl, q3⟩
  | true => exact ite_tt (chain_last (thn (hc pins s3 σ H3 _ I3 q3) fun w' s4 ⟨z', H4, I4, r4, q4⟩ => ho' pins s4 σ H4 y z' u w' Q I4 r2 r4 q4))
theorem pt_chain {op op' : CmpOp} {r r' : R2} (ho : OpR X (compareOp op) r) (ho' : OpR X (compareOp op') r') (ha : PE X a ta) (hb : PE X b tb) (hc : PE X c tc)
    (hm : lastMarks [op, op'] [b, c] = false := by with_unfolding_all rfl) : PT X (.Compare a [op, op'] [b, c] pos) (tTest (tChain r r' ta tb tc)) := by
  intro pins s σ H Q I h
  refine isTrue_chain (thn (ha pins s σ H _ I h) fun v s1 ⟨x, H1, I1, r1, q1⟩ => test_link (thn (hb pins s1 σ H1 _ I1 q1) fun u s2 ⟨y, H2, I2, r2, q2⟩ =>
    thn (ho pins s2 σ H2 x y v u _ I2 r1 r2 q2) fun d s3 ⟨z, H3, I3, r3, k, e, q3⟩ => ?_)) hm
  subst e
  cases r3
  refine wpAny_truthy_bool ?_
  cases k with
  | false =>
    obtain ⟨k', e', q'⟩ := q3
    cases e'
    exact ite_ff ⟨H3, I3, q'⟩
  | true =>
    refine ite_tt (test_last (thn (hc pins s3 σ H3 _ I3 q3) fun w' s4 ⟨z', H4, I4, r4, q4⟩ => thn (ho' pins s4 σ H4 y z' u w' _ I4 r2 r4 q4) fun d' s5 ⟨z2, H5, I5, r5, k2, e2, q5⟩ => ?_))
    subst e2
    cases r5
    exact wpAny_truthy_bool ⟨H5, I5, q5⟩

def TruV (K : PySem.W.Frag) (x : V) (H : Hp) (k : Bool) : Prop :=
  match x with
  | .non => k = false
  | .bl b => k = b
  | .int i => k = (i != 0)
  | .str y => y.length ≤ sizeLine ∧ k = ((y.length : Int) != 0)
  | .byt y => y.size ≤ sizeLine ∧ k = ((y.size : Int) != 0)
  | .ref p => (∃ xs, SqL K H p xs ∧ k = !xs.isEmpty) ∨ (∃ xs, SqT K H p xs ∧ k = !xs.isEmpty) ∨ ∃ kvs, H p = some (.dK kvs) ∧ k = !kvs.isEmpty
  | _ => False
theorem line63 : (sizeLine : Nat) < 2 ^ 63 := by rw [sizeLine_eq]; decide
def PlainIxT (b : Expr) : Prop := ∀ o i, subscripted b false o i = operate [o, i] (getItem o i)
theorem vals1 {x : V} {us : List Value} (r : Vals [x] us) : ∃ u, us = [u] ∧ RelV x u := by
  cases r with
  | cons r1 r2 => cases r2; exact ⟨_, rfl, r1⟩
theorem vals2 {x y : V} {us : List Value} (r : Vals [x, y] us) : ∃ u w', us = [u, w'] ∧ RelV x u ∧ RelV y w' := by
  cases r with
  | cons r1 r2 =>
    cases r2 with
    | cons r3 r4 => cases r4; exact ⟨_, _, rfl, r1, r3⟩
theorem call_max2 (hc : X.calm = true) : CallR X (.builtin "max") (fun xs H Q => ∃ i j, xs = [.int i, .int j] ∧ Q (.int (if j > i then j else i)) H) := by
  intro pins s σ H xs us Q I r h
  obtain ⟨i, j, rfl, q⟩ := h
  obtain ⟨u, w', rfl, ⟨t, rfl⟩, ⟨t', rfl⟩⟩ := vals2 r
  refine max_two_ints (I.ok.hd hc) fun h' tk k => ⟨_, H, I.kept k, ?_, q⟩
  by_cases hj : j > i
  · rw [if_pos hj, if_pos hj]; exact ⟨_, rfl⟩
  · rw [if_neg hj, if_neg hj]; exact ⟨_, rfl⟩
theorem call_min2 (hc : X.calm = true) : CallR X (.builtin "min") (fun xs H Q => ∃ i j, xs = [.int i, .int j] ∧ Q (.int (if j < i then j else i)) H) := by
  intro pins s σ H xs us Q I r h
  obtain ⟨i, j, rfl, q⟩ := h
  obtain ⟨u, w', rfl, ⟨t, rfl⟩, ⟨t', rfl⟩⟩ := vals2 r
  refine min_two_ints (I.ok.hd hc) fun h' tk k => ⟨_, H, I.kept k, ?_, q⟩
  by_cases hj : j < i
  · rw [if_pos hj, if_pos hj]; exact ⟨_, rfl⟩
  · rw [if_neg hj, if_neg hj]; exact ⟨_, rfl⟩
def LenV (K : PySem.W.Frag) (x : V) (H : Hp) (n : Nat) : Prop :=
  match x with
  | .str y => y.length ≤ sizeLine ∧ n = y.length
  | .byt y => y.size ≤ sizeLine ∧ n = y.size
  | .ref p => (∃ xs, SqL K H p xs ∧ n = xs.length) ∨ ∃ xs, SqT K H p xs ∧ n = xs.length
  | _ => False
end
end L2

namespace L2
open PySem PySem.Spec PyProof.Rows

structure ObjM (h : Heap) (x dx C : Addr) (mA : Str → Option Value) : Prop where
  obj : h.get? x = some (PySem.W.instObj C dx)
  ns : h.Ns1 dx mA
  ne : dx ≠ x

theorem lookIn_ns {h : Heap} {dx : Addr} {mA : Str → Option Value} (n : h.Ns1 dx mA) : ∃ od, h.get? dx = some od ∧ ∀ name, PySem.W.lookIn name od = some (mA name) := by
  obtain ⟨o, es, ep, ho, hd, hk, _, hm⟩ := n
  refine ⟨o, ho, fun name => ?_⟩
  have e := hm name
  unfold nsFind findBy at e
  rw [← Array.find?_toList] at e
  unfold PySem.W.lookIn
  rw [hd]
  dsimp only
  split
  · rename_i y q
    rw [q] at e
    exact congrArg some e
  · rename_i q
    rw [q] at e
    have a : es.toList.any (·.refKey) = false := by
      rw [List.any_eq_false]
      intro y hy
      obtain ⟨z, t, hkey⟩ := hk y (Array.mem_toList_iff.mp hy)
      simp [DictEntry.refKey, hkey]
    have a' : ¬ es.toList.any (·.refKey) = true := by rw [a]; exact Bool.false_ne_true
    rw [if_neg a']
    exact congrArg some e

theorem ObjM.look {h : Heap} {x dx C : Addr} {mA : Str → Option Value} (I : ObjM h x dx C mA) : ∃ od, PySem.W.InstAt h x (PySem.W.instObj C dx) C (some od) ∧ ∀ name, PySem.W.lookIn name od = some (mA name) :=
  let ⟨od, ho, hl⟩ := lookIn_ns I.ns
  ⟨od, ⟨I.obj, rfl, rfl, ho⟩, hl⟩

section
variable {prog : Program} {w : World} {A : Around} {E : Value → Shared → Prop} {s : Shared} {K : PySem.W.Frag} {x dx C f : Addr} {mA : Str → Option Value} {name : Str} {v : Value}

end

def putF (f : Str) (v : V) : List (Str × V) → List (Str × V)
  | [] => [(f, v)]
  | (g, x) :: r => if g = f then (g, v) :: r else (g, x) :: putF f v r
section
variable {P : Program} {w : World} {H H' : Hp} {h h' : Heap} {a C dx : Addr} {fs fs' : List (Str × V)}
theorem ins_get (hok : HOk P w H h) (e : H a = some (.ins C dx fs)) : ∃ mA, ObjM h a dx C mA ∧ (∀ f, RelO (fs.lookup f) (mA f)) ∧ PySem.Within mA (fs.map (·.1)) ∧ fs.length ≤ 1000 ∧ H dx = some (.own a) := by
  obtain ⟨d, z, ne, ob, mA, n, r, q⟩ := (show ObjOk P w H h a (.ins C dx fs) from hok a _ e)
  exact ⟨mA, ⟨ob, n, ne⟩, r, q, z, d⟩
end

structure Cls (K : PySem.W.Frag) (C : Addr) : Prop where
  pg : PySem.W.plainGet K C Str.empty = true
  hd : PySem.W.hasDictIn K C = true
  po : PySem.W.plainOver K C = true
  sa : PySem.W.findIn K (.ref C) "__setattr__" = some (some (.builtin "object.__setattr__"))
theorem Cls.get {K : PySem.W.Frag} {C : Addr} (c : Cls K C) (f : Str) : PySem.W.plainGet K C f = true := c.pg
def NoAttr (K : PySem.W.Frag) (C : Addr) (f : Str) : Prop := PySem.W.findIn K (.ref C) f = some none
structure Con (K : PySem.W.Frag) (C : Addr) (f : Str) (v : V) (u : Value) : Prop where
  at_ : PySem.W.findIn K (.ref C) f = some (some u)
  rel : RelV v u
  get : PySem.W.specialIn K u "__get__" = some none
  cp : PySem.W.copiedNames.contains f = false
structure Meth (K : PySem.W.Frag) (C : Addr) (m : Str) (f : Addr) : Prop where
  at_ : PySem.W.findIn K (.ref C) m = some (some (.ref f))
  fn : PySem.W.isFn K (.ref f) = true
  kp : PySem.W.keepIn K (.ref f) = true

section
variable {X : Cx} {pins : List (Addr × Obj)} {σ : St} {H : Hp} {s : Shared} {a C dx : Addr} {fs : List (Str × V)} {f : Str} {v : V} {A : Around} {E : Value → Shared → Prop}

theorem Inv.made (I : Inv X pins σ H s) : Inv X pins σ (upd (upd H s.heap.objs.size (.own (s.heap.objs.size + 1))) (s.heap.objs.size + 1) (.ins C s.heap.objs.size []))
    { s with heap := (s.heap.push PySem.W.emptyDict).push (PySem.W.instObj C s.heap.objs.size) } := by
  have e1 : (s.heap.push PySem.W.emptyDict).get? s.heap.objs.size = some PySem.W.emptyDict := Heap.get?_push_size s.heap rfl
  have e2 : ((s.heap.push PySem.W.emptyDict).push (PySem.W.instObj C s.heap.objs.size)).get? (s.heap.objs.size + 1) = some (PySem.W.instObj C s.heap.objs.size) := by
    have := Heap.get?_push_size (s.heap.push PySem.W.emptyDict) (o := PySem.W.instObj C s.heap.objs.size) rfl
    rwa [Heap.size_push] at this
  have e3 : (s.heap.push PySem.W.emptyDict).Ns s.heap.objs.size (fun _ => none) := ⟨PySem.W.emptyDict, #[], _, e1, rfl, (fun e he => absurd he (by simp)), fun _ => rfl⟩
  have I1 := I.laid (a := s.heap.objs.size) (o := .own (s.heap.objs.size + 1)) (h' := s.heap.push PySem.W.emptyDict) (t' := s.toks) (fun b u q => Heap.get?_push_of_some _ q) (Nat.le_refl _) ⟨_, e1⟩
  refine I1.laid (a := s.heap.objs.size + 1) (o := .ins C s.heap.objs.size []) (t' := s.toks) (fun b u q => Heap.get?_push_of_some _ q) (Nat.le_of_eq (Heap.size_push _ _)) ?_
  have ne : s.heap.objs.size ≠ s.heap.objs.size + 1 := Nat.ne_of_lt (Nat.lt_succ_self _)
  refine ⟨by rw [upd_ne ne, upd_same], Nat.zero_le _, ne, e2, fun _ => none, (Heap.Ns1.of_empty e3).at fun o q => Heap.get?_push_of_some _ q, fun _ => True.intro, fun y hy => absurd rfl hy⟩

end

def tFld (K : PySem.W.Frag) (ta : TE) (f : Str) : TE := fun σ H Q => ta σ H fun x H1 => ∃ a C dx fs v, x = .ref a ∧ H1 a = some (.ins C dx fs) ∧ Cls K C ∧ NoAttr K C f ∧ fs.lookup f = some v ∧ Q v H1
def tCon (K : PySem.W.Frag) (ta : TE) (f : Str) : TE := fun σ H Q => ta σ H fun x H1 => ∃ a C dx fs v u, x = .ref a ∧ H1 a = some (.ins C dx fs) ∧ Cls K C ∧ Con K C f v u ∧ fs.lookup f = none ∧ Q v H1
def sFld (K : PySem.W.Frag) (ta tv : TE) (f : Str) : TS := fun D σ H => tv σ H fun y H1 => ta σ H1 fun x H2 => ∃ a C dx fs, x = .ref a ∧ H2 a = some (.ins C dx fs) ∧ Cls K C ∧ NoAttr K C f ∧ fs.length < 1000 ∧
  D.nx σ (upd H2 a (.ins C dx (putF f y fs)))
def InOp (X : Cx) (op : Operator) (rd : V → V → Hp → VK → Prop) : Prop :=
  ∀ (pins : List (Addr × Obj)) (s : Shared) (σ : St) (H : Hp) (x y : V) (u v : Value) (Q : VK), Inv X pins σ H s → RelV x u → RelV y v → rd x y H Q → wpAny (model X.prog X.w) X.A (inplaceOp op u v) (EP X pins σ Q) X.xe s
def sFldAug (K : PySem.W.Frag) (ta tv : TE) (rd : V → V → Hp → VK → Prop) (f : Str) : TS := fun D σ H => ta σ H fun x H1 => ∃ a C dx fs v, x = .ref a ∧ H1 a = some (.ins C dx fs) ∧ Cls K C ∧ NoAttr K C f ∧ fs.lookup f = some v ∧
  tv σ H1 fun y H2 => rd v y H2 fun z H3 => ∃ dx' fs', H3 a = some (.ins C dx' fs') ∧ fs'.length < 1000 ∧ D.nx σ (upd H3 a (.ins C dx' (putF f z fs')))

section
variable {X : Cx} {o e value : Expr} {f : Str} {pos pos' tpos : Pos} {ta tv : TE}
def rAdd : V → V → Hp → VK → Prop := fun x y H Q => ∃ i j, x = .int i ∧ y = .int j ∧ Q (.int (i + j)) H
def rSub : V → V → Hp → VK → Prop := fun x y H Q => ∃ i j, x = .int i ∧ y = .int j ∧ Q (.int (i - j)) H
end

section
variable {X : Cx} {pins : List (Addr × Obj)} {σ : St} {H : Hp} {s : Shared} {A : Around} {E : Value → Shared → Prop} {Q : Value → Shared → Prop} {c : Value} {b : Bool}
inductive TyOf (K : PySem.W.Frag) (H : Hp) : V → Value → Prop where
  | non : TyOf K H .non (.type "NoneType")
  | bl (x : Bool) : TyOf K H (.bl x) (.type "bool")
  | int (i : Int) : TyOf K H (.int i) (.type "int")
  | str (x : Str) : TyOf K H (.str x) (.type "str")
  | flt (x : UInt64) : TyOf K H (.flt x) (.type "float")
  | lst {a : Addr} {xs : List V} (e : H a = some (.lst xs)) : TyOf K H (.ref a) (.type "list")
  | frz {a : Addr} {o : Obj} {xs : List V} (e : H a = some (.frz o (.lst xs))) : TyOf K H (.ref a) (.type "list")
  | tup {a : Addr} {xs : List V} (e : H a = some (.tup xs)) : TyOf K H (.ref a) (.type "tuple")
  | dK {a : Addr} {kvs : List (Key × V)} (e : H a = some (.dK kvs)) : TyOf K H (.ref a) (.type "dict")
  | dT {a : Addr} {kvs : List (List Key × V)} (e : H a = some (.dT kvs)) : TyOf K H (.ref a) (.type "dict")
  | ins {a C dx : Addr} {fs : List (Str × V)} (e : H a = some (.ins C dx fs)) (cl : Cls K C) (ha : PySem.W.findIn K (.ref C) "__class__" = some (some (.builtin "object.__class__")))
      (hn : PySem.W.specialIn K (.builtin "object.__class__") "__get__" = some (some (.builtin "getset_descriptor.__get__"))) (htk : PySem.W.takesIn K (.builtin "object.__class__") = some true)
      (hm : PySem.W.mroIn K C (.type "object") = some true) : TyOf K H (.ref a) (.ref C)
theorem isinst_ok {x : V} {u t : Value} (I : Inv X pins σ H s) (rx : RelV x u) (ty : TyOf X.K H x t) (e : PySem.W.kitOne X.K t c = some b) (h : ∀ tk, Q (.bool b) { s with toks := tk }) :
    wpAny (model X.prog X.w) A (call (.builtin "isinstance") [u, c]) Q E s := by
  cases ty with
  | non => cases (show u = Value.none from rx); exact PySem.W.kia_one PySem.W.kitx_none I.kIn True.intro e (fun z => nomatch z) h
  | bl y => cases (show u = Value.bool y from rx); exact PySem.W.kia_one PySem.W.kitx_bool I.kIn True.intro e (fun z => nomatch z) h
  | int i => obtain ⟨t, q⟩ := (show ∃ t, u = Value.int i t from rx); cases q; exact PySem.W.kia_one PySem.W.kitx_int I.kIn True.intro e (fun z => nomatch z) h
  | str y => obtain ⟨t, q⟩ := (show ∃ t, u = Value.str y t from rx); cases q; exact PySem.W.kia_one PySem.W.kitx_str I.kIn True.intro e (fun z => nomatch z) h
  | flt y => obtain ⟨t, q⟩ := (show ∃ t, u = Value.float y t from rx); cases q; exact PySem.W.kia_one PySem.W.kitx_float I.kIn True.intro e (fun z => nomatch z) h
  | @lst a xs ea =>
    cases (show u = Value.ref a from rx)
    obtain ⟨_, _, n, _, h1⟩ := (show ObjOk X.prog X.w H s.heap a (.lst xs) from I.hok a _ ea)
    exact PySem.W.kia_one PySem.W.kitx_list I.kIn ⟨_, h1, rfl⟩ e (fun z => nomatch z) h
  | @frz a ob xs ea =>
    cases (show u = Value.ref a from rx)
    obtain ⟨_, _, _, n, _, h1⟩ := (show ObjOk X.prog X.w H s.heap a (.frz ob (.lst xs)) from I.hok a _ ea)
    exact PySem.W.kia_one PySem.W.kitx_list I.kIn ⟨_, h1, rfl⟩ e (fun z => nomatch z) h
  | @tup a xs ea =>
    cases (show u = Value.ref a from rx)
    obtain ⟨_, _, _, p⟩ := (show ObjOk X.prog X.w H s.heap a (.tup xs) from I.hok a _ ea)
    obtain ⟨o, h1, h2, _⟩ := p
    exact PySem.W.kia_one PySem.W.kitx_tuple I.kIn ⟨o, h1, h2⟩ e (fun z => nomatch z) h
  | @dK a kvs ea =>
    cases (show u = Value.ref a from rx)
    obtain ⟨_, _, vs, _, p⟩ := (show ObjOk X.prog X.w H s.heap a (.dK kvs) from I.hok a _ ea)
    obtain ⟨o, es, ep, h1, h2, _⟩ := p
    exact PySem.W.kia_one PySem.W.kitx_dict I.kIn ⟨o, h1, h2.1⟩ e (fun z => nomatch z) h
  | @dT a kvs ea =>
    cases (show u = Value.ref a from rx)
    obtain ⟨_, _, xs, _, o, es, ep, h1, h2, _⟩ := (show ObjOk X.prog X.w H s.heap a (.dT kvs) from I.hok a _ ea)
    exact PySem.W.kia_one PySem.W.kitx_dict I.kIn ⟨o, h1, h2.1⟩ e (fun z => nomatch z) h
  | @ins a C dx fs ea cl ha hn htk hm =>
    cases (show u = Value.ref a from rx)
    obtain ⟨mA, O, _⟩ := ins_get I.hok ea
    obtain ⟨od, J, _⟩ := O.look
    exact PySem.W.kia_one (PySem.W.kitx_own (cl.get _) cl.hd ha hn htk hm) I.kIn J e (fun z => nomatch z) h
end
end L2

namespace L2
open PySem PySem.Spec PyProof.Rows

structure Room (k : Nat) (A : Around) : Prop where
  hd : A.handled = none
  dp : A.depth + 3 * k + 5 < recursionLimit
  un : A.units + 16 * k + 200 < cLine
theorem Room.mono {j k : Nat} {A : Around} (r : Room k A) (h : j ≤ k) : Room j A := ⟨r.hd, by have := r.dp; omega, by have := r.un; omega⟩
theorem Room.deeper {k : Nat} {A : Around} (r : Room (k + 1) A) (env : Env) : Room k (A.deeper env) :=
  ⟨r.hd, by have := r.dp; show A.depth + 1 + 3 * k + 5 < _; omega, by have := r.un; show A.units + 3 + 16 * k + 200 < _; omega⟩
theorem Room.in1 {k : Nat} {A : Around} (r : Room (k + 1) A) : Room k A.in1 :=
  ⟨r.hd, by have := r.dp; show A.depth + 3 * k + 5 < _; omega, by have := r.un; show A.units + 1 + 16 * k + 200 < _; omega⟩
theorem Room.depth {k : Nat} {A : Around} (r : Room k A) : A.depth < recursionLimit := by have := r.dp; omega
theorem Room.units {k : Nat} {A : Around} (r : Room k A) : A.units + 64 < cLine := by have := r.un; omega
def tNil : TA := fun _ H Q => Q [] H
def tCons (ta : TE) (tr : TA) : TA := fun σ H Q => ta σ H fun x H1 => tr σ H1 fun xs H2 => Q (x :: xs) H2
section
variable {X : Cx} {e : Expr} {es : List Expr} {te : TE} {t : TA} {pos : Pos}
theorem pa_nil : PA X [] tNil := fun _ _ _ _ H Q I h => Calls.spliced_nil ⟨[], H, I, .nil, h⟩
theorem pa_cons (ha : PE X e te) (hr : PA X es t) (hs : starEach (e :: es) X.env = (false, eval e X.env) :: starEach es X.env := by rfl) : PA X (e :: es) (tCons te t) := by
  intro pos pins s σ H Q I h
  rw [hs]
  show wpAny _ _ (spliced ((false, eval e X.env) :: backTo pos (starEach es X.env))) _ _ s
  refine Calls.spliced_cons (thn (ha pins s σ H _ I h) fun u s1 ⟨x, H1, I1, r1, q1⟩ => ?_)
  exact thn (hr pos pins s1 σ H1 _ I1 q1) fun us s2 ⟨xs, H2, I2, r2, q2⟩ => ⟨x :: xs, H2, I2, .cons r1 r2, q2⟩

def tTup (t : TA) : TE := fun σ H Q => t σ H fun xs H1 => xs.length ≤ sizeLine ∧ ∀ p, H1 p = none → Q (.ref p) (upd H1 p (.tup xs))
def tLst (t : TA) : TE := fun σ H Q => t σ H fun xs H1 => xs.length ≤ sizeLine ∧ ∀ p, H1 p = none → Q (.ref p) (upd H1 p (.lst xs))
theorem pe_tup {x1} (h : PA X es t) : PE X (.Tuple es x1 pos) (tTup t) := by
  intro pins s σ H Q I hq
  refine wpAny_Tuple_spliced (thn (h pos pins s σ H _ I hq) fun us s1 ⟨xs, H1, I1, r, z, q⟩ => ⟨by rw [← r.length]; exact z, ?_⟩)
  have hf : H1 s1.heap.objs.size = none := I1.hok.fresh (Nat.le_refl _)
  refine ⟨.ref s1.heap.objs.size, upd H1 s1.heap.objs.size (.tup xs), I1.laid (t' := s1.toks) (fun b u e => Heap.get?_push_of_some _ e) (Nat.le_refl _) ?_, rfl, q _ hf⟩
  exact ⟨z, us, r, ⟨_, Heap.get?_push_size _ rfl, rfl, _, rfl⟩⟩
theorem pe_lst (h : PA X es t) : PE X (.List es pos) (tLst t) := by
  intro pins s σ H Q I hq
  refine wpAny_List_spliced (thn (h pos pins s σ H _ I hq) fun us s1 ⟨xs, H1, I1, r, z, q⟩ => ⟨by rw [← r.length]; exact z, ?_⟩)
  have hf : H1 s1.heap.objs.size = none := I1.hok.fresh (Nat.le_refl _)
  refine ⟨.ref s1.heap.objs.size, upd H1 s1.heap.objs.size (.lst xs), I1.laid (t' := s1.toks) (fun b u e => Heap.get?_push_of_some _ e) (Nat.le_refl _) ?_, rfl, q _ hf⟩
  exact ⟨z, us, 0, r, Heap.get?_push_size _ rfl⟩
end

abbrev Sp := List V → Hp → VK → XK → Prop
abbrev CXT := List Env → Hp → Shared → XK → Value → Shared → Prop

structure Env0 (P : Program) (w : World) (K : PySem.W.Frag) (mg : Str → Option Value) (base : Heap) (A : Around) (outer : List Env) (s : Shared) (H : Hp) : Prop where
  frames : A.frames = some outer
  mod : Mod K mg base
  bs : ∀ b o, base.get? b = some o → s.heap.get? b = some o ∧ H b = none
  bsz : base.objs.size ≤ s.heap.objs.size
  funs : s.heap.FunFrames base outer
  frf : ∀ b ∈ frs outer, H b = none
  hok : HOk P w H s.heap
  bare : AllBare s.gens
def CE (outer : List Env) (P : Program) (w : World) (H : Hp) (s : Shared) (Q : VK) (u : Value) (s' : Shared) : Prop :=
  ∃ v H', s'.os = s.os ∧ AllBare s'.gens ∧ Un (frs outer) [] H H' s.heap s'.heap ∧ HOk P w H' s'.heap ∧ RelV v u ∧ Q v H'
def CR (CX : CXT) (outer : List Env) (P : Program) (w : World) (H : Hp) (s : Shared) (Q : VK) (E : XK) (r : Result) (s' : Shared) : Prop :=
  match r with
  | .ok (.ret u) => CE outer P w H s Q u s'
  | .ok _ => False
  | .error e => CX outer H s E e s'
structure FnOk (P : Program) (w : World) (K : PySem.W.Frag) (mg : Str → Option Value) (base : Heap) (CX : CXT) (k : Nat) (f : Addr) (fd : FuncData) (ps : List Str) (sp : Sp) : Prop where
  len : ∀ vs H Q E, sp vs H Q E → vs.length = ps.length
  run : ∀ (A : Around) (outer : List Env) (s : Shared) (H : Hp) (args : Args) (us : List Value) (vs : List V) (Q : VK) (E : XK), Room k A → Env0 P w K mg base A outer s H → BindsTo s fd args (ps.zip us) → Vals vs us → sp vs H Q E →
    codeAny (model P w) A (.call (.ref f) args) (CR CX outer P w H s Q E) s
theorem FnOk.mono {P : Program} {w : World} {K : PySem.W.Frag} {mg : Str → Option Value} {base : Heap} {CX : CXT} {j k : Nat} {f : Addr} {fd : FuncData} {ps : List Str} {sp : Sp} (F : FnOk P w K mg base CX j f fd ps sp) (h : j ≤ k) :
    FnOk P w K mg base CX k f fd ps sp := ⟨F.len, fun A outer s H args us vs Q E hr => F.run A outer s H args us vs Q E (hr.mono h)⟩
theorem FnOk.imp {P : Program} {w : World} {K : PySem.W.Frag} {mg : Str → Option Value} {base : Heap} {CX : CXT} {k : Nat} {f : Addr} {fd : FuncData} {ps : List Str} {sp sp' : Sp} (F : FnOk P w K mg base CX k f fd ps sp)
    (h : ∀ vs H Q E, sp' vs H Q E → sp vs H Q E) : FnOk P w K mg base CX k f fd ps sp' :=
  ⟨fun vs H Q E q => F.len vs H Q E (h _ _ _ _ q), fun A outer s H args us vs Q E hr he hb hv hs => F.run A outer s H args us vs Q E hr he hb hv (h _ _ _ _ hs)⟩

theorem Env0.in1 {P : Program} {w : World} {K : PySem.W.Frag} {mg : Str → Option Value} {base : Heap} {A : Around} {outer : List Env} {s : Shared} {H : Hp} (e : Env0 P w K mg base A outer s H) :
    Env0 P w K mg base A.in1 outer s H := ⟨e.frames, e.mod, e.bs, e.bsz, e.funs, e.frf, e.hok, e.bare⟩

section
variable {X : Cx} {pins : List (Addr × Obj)} {σ : St} {H : Hp} {s s' : Shared}
theorem Inv.env0 (I : Inv X pins σ H s) : Env0 X.prog X.w X.K X.mg X.base X.A X.stack s H :=
  ⟨I.ok.frames, I.ok.mod, I.bs, Nat.le_trans I.ok.bsz I.sz, I.stack, I.stkFree, I.hok, I.bare⟩
theorem Inv.after {Q : VK} {u : Value} (I : Inv X pins σ H s) (h : CE X.stack X.prog X.w H s Q u s') : EP X pins σ Q u s' := by
  obtain ⟨v, H', os, bare, un, hok, r, q⟩ := h
  obtain ⟨hh, g, d, t, os'⟩ := s'
  obtain rfl : os' = s.os := os
  exact ⟨v, H', I.call (h' := hh) (g' := g) (d' := d) (t' := t) (ch := []) un hok bare (fun b z => absurd z (by simp)), r, q⟩
end

def tCall (sp : Sp) (dvs : List V) (E : XK) (t : TA) : TE := fun σ H Q => t σ H fun vs H1 => sp (vs ++ dvs) H1 Q E
def tMeth (C : Addr) (m : Str) (sp : Sp) (dvs : List V) (E : XK) (ta : TE) (t : TA) : TE := fun σ H Q => ta σ H fun x H1 => ∃ a dx fs, x = .ref a ∧ H1 a = some (.ins C dx fs) ∧ fs.lookup m = none ∧
  t σ H1 fun vs H2 => sp (x :: (vs ++ dvs)) H2 Q E
def tMake (C : Addr) (sp : Sp) (dvs : List V) (E : XK) (t : TA) : TE := fun σ H Q => t σ H fun vs H1 => ∀ x dx, H1 x = none → H1 dx = none → dx ≠ x →
  sp (.ref x :: (vs ++ dvs)) (upd (upd H1 dx (.own x)) x (.ins C dx [])) (fun v H2 => v = .non ∧ Q (.ref x) H2) E

def Binds (K : PySem.W.Frag) (fd : FuncData) (ps : List Str) (ds : List Value) : Prop :=
  ∀ (s : Shared) (us : List Value), K.In s.heap → (us ++ ds).length = ps.length → BindsTo s fd ⟨us, []⟩ (ps.zip (us ++ ds))
theorem Binds.all {K : PySem.W.Frag} {fd : FuncData} {ps : List Str} (h : ∀ us : List Value, us.length = ps.length → bindArgs fd ⟨us, []⟩ = pure (ps.zip us)) : Binds K fd ps [] := fun s us _ hl => by
  rw [List.append_nil] at hl ⊢
  exact .of_eq (h us hl)

def Passes (CX : CXT) (X : Cx) (E : XK) : Prop := ∀ (pins : List (Addr × Obj)) (σ : St) (H : Hp) (s : Shared) (e : Value) (s' : Shared), Inv X pins σ H s → CX X.stack H s E e s' → X.xe e s'

section
variable {X : Cx} {CX : CXT} {k : Nat} {f C : Addr} {fd : FuncData} {ps : List Str} {sp : Sp} {dvs : List V} {ds : List Value} {E : XK} {x m : Str} {p pos apos : Pos} {e o : Expr} {es : List Expr} {ta : TE} {t : TA}

theorem run_fn {pins : List (Addr × Obj)} {σ : St} {H : Hp} {s : Shared} {Q : VK} {us : List Value} {vs : List V} (F : FnOk X.prog X.w X.K X.mg X.base CX k f fd ps sp) (hr : Room k X.A) (hb : Binds X.K fd ps ds) (hd : Vals dvs ds) (hx : Passes CX X E)
    (I : Inv X pins σ H s) (r : Vals vs us) (h : sp (vs ++ dvs) H Q E) : wpAny (model X.prog X.w) X.A (call (.ref f) us) (EP X pins σ Q) X.xe s := by
  have r2 : Vals (vs ++ dvs) (us ++ ds) := r.append hd
  have hl : (us ++ ds).length = ps.length := by rw [← r2.length]; exact F.len _ _ _ _ h
  refine wpAny_call (codeAny_mono (F.run X.A X.stack s H ⟨us, []⟩ (us ++ ds) (vs ++ dvs) Q E hr I.env0 (hb s us I.kIn hl) r2 h) fun r s' hq => ?_)
  cases r with
  | error e => exact hx pins σ H s e s' I hq
  | ok fl =>
    cases fl with
    | ret u => exact I.after hq
    | next => exact False.elim hq
    | brk => exact False.elim hq
    | cont => exact False.elim hq

theorem pe_call (F : FnOk X.prog X.w X.K X.mg X.base CX k f fd ps sp) (hr : Room k X.A) (hg : Gl X x) (hm : X.mg x = some (.ref f)) (hk : PySem.W.keepIn X.K (.ref f) = true) (hb : Binds X.K fd ps ds) (hd : Vals dvs ds) (hx : Passes CX X E)
    (ha : PA X (e :: es) t) (hdb : (x == ("__debug__" : Str)) = false := by decide) (he : starEach (e :: es) X.env = (false, eval e X.env) :: starEach es X.env := by rfl) (hpl : (backTo pos (starEach es X.env)).any (·.1) = false := by rfl) :
    PE X (.Call (.Name x p) (e :: es) [] pos) (tCall sp dvs E t) := by
  intro pins s σ H Q I h
  refine wpAny_Call_Name_kw (ld_glob I hg hm ?_ hdb)
  refine PySem.W.callWith_K (h₀ := X.base) I.ok.mod.kin hk (thn (ha pos pins s σ H _ I h) fun us s1 ⟨vs, H1, I1, r, q⟩ => ⟨I1.kIn, ?_⟩) he hpl
  exact run_fn F hr hb hd hx I1 r q
structure Mk (K : PySem.W.Frag) (C f : Addr) : Prop where
  makes : PySem.W.makesIn K C = true
  init : PySem.W.findIn K (.ref C) "__init__" = some (some (.ref f))
  fn : PySem.W.isFn K (.ref f) = true
  kp : PySem.W.keepIn K (.ref C) = true

end

def PK (X : Cx) (kws : List Keyword) (t : TA) : Prop :=
  ∀ (pos : Pos) (pins : List (Addr × Obj)) (s : Shared) (σ : St) (H : Hp) (Q : List V → Hp → Prop), Inv X pins σ H s → t σ H Q → wpAny (model X.prog X.w) X.A (evalAll ((backToKw pos (keywordEach kws X.env)).map (·.2))) (AP X pins σ Q) X.xe s
section
variable {X : Cx} {CX : CXT} {k : Nat} {f C : Addr} {fd : FuncData} {ps ks : List Str} {sp : Sp} {E : XK} {x m : Str} {p pos apos kpos : Pos} {e o : Expr} {es : List Expr} {kws : List Keyword} {te ta : TE} {t tk : TA} {nm : Option Str}
structure KBinds (K : PySem.W.Frag) (fd : FuncData) (ps ks : List Str) (g : List Value → List Value → List Value) (gV : List V → List V → List V) : Prop where
  to : ∀ (s : Shared) (us ws : List Value), K.In s.heap → (g us ws).length = ps.length → BindsTo s fd ⟨us, ks.zip ws⟩ (ps.zip (g us ws))
  rel : ∀ {vs : List V} {us : List Value} {zs : List V} {ws : List Value}, Vals vs us → Vals zs ws → Vals (gV vs zs) (g us ws)
def tCallK (sp : Sp) (gV : List V → List V → List V) (E : XK) (t tk : TA) : TE := fun σ H Q => t σ H fun vs H1 => tk σ H1 fun zs H2 => sp (gV vs zs) H2 Q E
variable {g : List Value → List Value → List Value} {gV : List V → List V → List V}
end

structure FnScope (N P : List Str) (sc : Scope) : Prop where
  kind : sc.kind = .function
  co : sc.isCoroutine = false
  gen : sc.isGenerator = false
  nd : N.Nodup
  pre : N.take P.length = P
  par : ∀ x ∈ P, sc.names.lookup x = some .local ∨ sc.names.lookup x = some .cell
  nofree : ∀ y ∈ sc.names, y.2 ≠ .free

theorem bindL_out {kindOf : Str → Option NameKind} {x : Str} : ∀ {binds : List (Str × Value)} {m : Str → Option Value}, (∀ v, (x, v) ∉ binds) → bindL kindOf binds m x = m x
  | [], _, _ => rfl
  | (n, v) :: r, m, h => by
    unfold bindL
    rw [bindL_out fun w hw => h w (List.mem_cons_of_mem _ hw)]
    split
    · have : x ≠ n := by rintro rfl; exact h v List.mem_cons_self
      simp [this]
    · rfl
theorem bindC_out {kindOf : Str → Option NameKind} {x : Str} : ∀ {binds : List (Str × Value)} {m : Str → Option Value}, (∀ v, (x, v) ∉ binds) → bindC kindOf binds m x = m x
  | [], _, _ => rfl
  | (n, v) :: r, m, h => by
    unfold bindC
    rw [bindC_out fun w hw => h w (List.mem_cons_of_mem _ hw)]
    split
    · rfl
    · have : x ≠ n := by rintro rfl; exact h v List.mem_cons_self
      simp [this]
theorem bindL_get {kindOf : Str → Option NameKind} {x : Str} {v : Value} : ∀ {P : List Str} {vs : List Value} {i : Nat} {m : Str → Option Value}, P.Nodup → P[i]? = some x → vs[i]? = some v → kindOf x = some .local →
    bindL kindOf (P.zip vs) m x = some v
  | [], _, _, _, _, h, _, _ => by simp at h
  | _ :: _, [], _, _, _, _, h, _ => by simp at h
  | p :: P, w :: vs, 0, m, nd, h1, h2, hk => by
    simp at h1 h2; subst h1; subst h2
    show bindL kindOf ((p, w) :: P.zip vs) m p = _
    unfold bindL
    rw [bindL_out fun v hv => (List.nodup_cons.mp nd).1 (List.of_mem_zip hv).1, if_pos hk]
    simp
  | p :: P, w :: vs, i + 1, m, nd, h1, h2, hk => by
    show bindL kindOf ((p, w) :: P.zip vs) m x = _
    unfold bindL
    exact bindL_get (i := i) (List.nodup_cons.mp nd).2 (by simpa using h1) (by simpa using h2) hk
theorem bindC_get {kindOf : Str → Option NameKind} {x : Str} {v : Value} : ∀ {P : List Str} {vs : List Value} {i : Nat} {m : Str → Option Value}, P.Nodup → P[i]? = some x → vs[i]? = some v → kindOf x ≠ some .local →
    bindC kindOf (P.zip vs) m x = some v
  | [], _, _, _, _, h, _, _ => by simp at h
  | _ :: _, [], _, _, _, _, h, _ => by simp at h
  | p :: P, w :: vs, 0, m, nd, h1, h2, hk => by
    simp at h1 h2; subst h1; subst h2
    show bindC kindOf ((p, w) :: P.zip vs) m p = _
    unfold bindC
    rw [bindC_out fun v hv => (List.nodup_cons.mp nd).1 (List.of_mem_zip hv).1, if_neg hk]
    simp
  | p :: P, w :: vs, i + 1, m, nd, h1, h2, hk => by
    show bindC kindOf ((p, w) :: P.zip vs) m x = _
    unfold bindC
    exact bindC_get (i := i) (List.nodup_cons.mp nd).2 (by simpa using h1) (by simpa using h2) hk

def start (N : List Str) (vs : List V) : St := vs.map some ++ List.replicate (N.length - vs.length) none

def cxOf (CX : CXT) (P : Program) (w : World) (K : PySem.W.Frag) (mg : Str → Option Value) (base : Heap) (N : List Str) (qual : Str) (scope : Scope) (f : Addr) (cd : Value) (A : Around) (outer : List Env) (s : Shared) (H : Hp) (E : XK) : Cx where
  prog := P
  w := w
  K := K
  mg := mg
  base := base
  A := A.deeper (envOfC qual scope s.heap.objs.size f cd)
  N := N
  s₀ := s
  H₀ := H
  env := envOfC qual scope s.heap.objs.size f cd
  outer := outer
  stack := envOfC qual scope s.heap.objs.size f cd :: outer
  ex := []
  calm := true
  fn := fun _ => true
  pn := []
  xe := fun e s' => wpAny (model P w) (A.deeper (envOfC qual scope s.heap.objs.size f cd)) (leaving (envOfC qual scope s.heap.objs.size f cd) e) (fun _ s'' => CX outer H s E e s'') (fun e' s'' => CX outer H s E e' s'') s'

theorem cell_has {sc : Scope} {n : Nat} {x : Str} (h : sc.names.lookup x = some .cell) : ∃ c, (cellsFrom n sc.names []).lookup x = some c := by
  have q := PySem.W.cellsFrom_some sc.names n [] (.inl h)
  exact Option.isSome_iff_exists.mp q

theorem inv_start {CX : CXT} {P : Program} {w : World} {K : PySem.W.Frag} {mg : Str → Option Value} {base : Heap} {N ps : List Str} {qual : Str} {scope : Scope} {f : Addr} {cd : Value} {A : Around} {outer : List Env} {s s1 : Shared} {H : Hp} {E : XK} {us : List Value} {vs : List V}
    (S : FnScope N ps scope) (hd : A.handled = none) (e0 : Env0 P w K mg base A outer s H) (hl : vs.length = ps.length) (r : Vals vs us)
    (x : InCallC s s.heap.objs.size (bindL (envOfC qual scope s.heap.objs.size f cd).kindOf (ps.zip us) fun _ => none) (cellsFrom (s.heap.objs.size + 1) scope.names []) (bindC (envOfC qual scope s.heap.objs.size f cd).kindOf (ps.zip us) fun _ => none) s1) :
    Inv (cxOf CX P w K mg base N qual scope f cd A outer s H E) [] (start N vs) H s1 := by
  have hpl : ps.length ≤ N.length := by have := congrArg List.length S.pre; rw [List.length_take] at this; omega
  obtain ⟨h1, tk, rfl, hk⟩ := x.done
  have noA : ∀ b : Addr, b ∉ (cxOf CX P w K mg base N qual scope f cd A outer s H E).ex := fun b z => absurd (show b ∈ ([] : List Addr) from z) (by simp)
  refine ⟨⟨e0.mod, S.kind, rfl, rfl, Nat.le_refl _, fun y z c h1 h2 => ?_, fun y hy => ?_, fun y c _ h => ?_, fun _ => hd, Around.frames_deeper e0.frames, .inr ⟨rfl, rfl⟩, fun b z => absurd z (noA b), e0.bs, e0.bsz, fun b _ _ => noA b, fun b z => absurd z (noA b), e0.funs, e0.frf⟩,
    rfl, e0.bare, Un.kept hk, ⟨_, x.toInCall.ns, fun i y v h1 h2 h3 => ?_⟩, fun y c h => ⟨_, x.cell y c h⟩, e0.hok.fresh (Nat.le_refl _), fun y c h => ?_, fun p hp => absurd (show p ∈ ([] : List (Addr × Obj)) from hp) (by simp), e0.hok.kept hk, ?_⟩
  · exact name_of_addr x.apart (PySem.mem_of_lookup h1) (PySem.mem_of_lookup h2)
  · have hy : scope.names.lookup y = some .cell ∨ scope.names.lookup y = some .free := hy
    rcases hy with hy | hy
    · exact cell_has hy
    · exact absurd rfl (S.nofree _ (PySem.mem_of_lookup hy))
  · exact Nat.le_of_lt (x.above y c (PySem.mem_of_lookup h))
  · have hi : i < vs.length := by
      unfold start at h2
      by_cases hi : i < vs.length
      · exact hi
      · rw [List.getElem?_append_right (by simpa using hi)] at h2
        rw [List.getElem?_replicate] at h2
        split at h2 <;> cases h2
    have ha : vs[i]? = some v := by
      unfold start at h2
      rw [List.getElem?_append_left (by simpa using hi), List.getElem?_map] at h2
      cases e : vs[i]? with
      | none => rw [e] at h2; cases h2
      | some a => rw [e] at h2; cases h2; rfl
    obtain ⟨u, hu, rv⟩ := r.get ha
    have hp : ps[i]? = some y := by
      rw [← S.pre, List.getElem?_take_of_lt (by omega)]; exact h1
    have ndP : ps.Nodup := by rw [← S.pre]; exact S.nd.sublist (List.take_sublist _ _)
    refine ⟨u, rv, ?_⟩
    rcases S.par y (List.mem_of_getElem? hp) with k | k
    · exact .inl ⟨k, bindL_get ndP hp hu k⟩
    · obtain ⟨c, e⟩ := cell_has (n := s.heap.objs.size + 1) k
      refine .inr ⟨.inl k, c, e, ?_⟩
      have q := x.cell y c e
      rw [bindC_get ndP hp hu (by show scope.names.lookup y ≠ _; rw [k]; decide)] at q
      exact q
  · exact e0.hok.fresh (Nat.le_of_lt (x.above y c (PySem.mem_of_lookup h)))
  · unfold start
    show _ = N.length
    rw [List.length_append, List.length_map, List.length_replicate]
    omega

theorem fn_of {CX : CXT} {P : Program} {w : World} {K : PySem.W.Frag} {mg : Str → Option Value} {base : Heap} {k : Nat} {f : Addr} {name qual : Str} {params : Arguments} {body : List Stmt} {scope : Scope} {dV kV doc pm cdv ct oc : Value} {an od : Option Addr}
    {osl : Array (Option Value)} {N ps : List Str} {sp : Sp} (lk : K.lookup f = some ⟨oc, od, .func (PySem.W.fnOf name qual params body scope dV kV doc pm an cdv ct), osl⟩) (hcd : PySem.W.codeIn K cdv qual = true) (S : FnScope N ps scope)
    (len : ∀ vs H Q E, sp vs H Q E → vs.length = ps.length)
    (hbody : ∀ (A : Around) (outer : List Env) (s : Shared) (H : Hp) (vs : List V) (Q : VK) (E : XK), Room k (A.deeper (envOfC qual scope s.heap.objs.size f cdv)) → sp vs H Q E →
      ∃ t, PSs (cxOf CX P w K mg base N qual scope f cdv A outer s H E) body t ∧ t { nx := fun _ H' => Q .non H', rt := Q } (start N vs) H) :
    FnOk P w K mg base CX (k + 1) f (PySem.W.fnOf name qual params body scope dV kV doc pm an cdv ct) ps sp := by
  refine ⟨len, fun A outer s H args us vs Q E hr e0 hb r hsp => ?_⟩
  have hl := len _ _ _ _ hsp
  have KX : K.In s.heap := e0.mod.kin.keeps fun b o e => (e0.bs b o e).1
  have lim : s.heap.NoLimit := e0.mod.nolimit.keeps fun b o e => (e0.bs b o e).1
  have hkind : ∀ y ∈ ps.zip us, scope.names.lookup y.1 = some .local ∨ (scope.names.lookup y.1 = some .cell ∧ ((cellsFrom (s.heap.objs.size + 1) scope.names []).lookup y.1).isSome = true) := fun ⟨n, v⟩ hy => by
    rcases S.par n (List.of_mem_zip hy).1 with q | q
    · exact .inl q
    · exact .inr ⟨q, PySem.W.cellsFrom_some _ _ _ (.inl q)⟩
  refine codeAny_call_function hr.depth (KX _ _ lk) rfl S.co S.gen rfl (PySem.W.codeRec_of KX hcd) (hb _ _ _ _ ?_)
  refine wpAny_newFunctionEnv_cells S.kind hkind fun env he s1 x => ?_
  subst he
  refine ⟨lim.keeps x.toInCall.keep, codeAny_func ?_⟩
  obtain ⟨t, ht, hq⟩ := hbody A outer s H vs Q E (hr.deeper _) hsp
  have I : Inv (cxOf CX P w K mg base N qual scope f cdv A outer s H E) [] (start N vs) H s1 := inv_start S hr.hd e0 hl r x
  refine wpAny_mono (ht [] s1 (start N vs) H _ I hq) (fun fl s' hs => ?_) fun e s' hs => hs
  have fin : ∀ {σ' : St} {H' : Hp} {v : V} {u : Value}, Inv (cxOf CX P w K mg base N qual scope f cdv A outer s H E) [] σ' H' s' → RelV v u → Q v H' → CE outer P w H s Q u s' :=
    fun {σ' H' v u} J rv q => ⟨v, H', J.os, J.bare, J.base, J.hok, rv, q⟩
  cases fl with
  | ret u =>
    obtain ⟨v, σ', H', J, rv, q⟩ := hs
    exact fin J rv q
  | next =>
    obtain ⟨σ', H', J, q⟩ := hs
    exact fin (v := V.non) (u := Value.none) J rfl q
  | brk =>
    obtain ⟨_, _, _, q⟩ := hs
    exact False.elim q
  | cont =>
    obtain ⟨_, _, _, q⟩ := hs
    exact False.elim q
end L2

namespace L2
open PySem PySem.Spec PyProof.Rows
section
variable {X : Cx} {x : Str} {p pos : Pos} {e : Expr} {es : List Expr} {t : TA} {id T : String} {r : List V → Hp → VK → Prop}

def tCB (r : List V → Hp → VK → Prop) (t : TA) : TE := fun σ H Q => t σ H fun vs H1 => r vs H1 Q
theorem pe_callB (hc : CallR X (.builtin id) r) (hg : Gl X x) (hm : X.mg x = none) (hv : bootBuiltins x = some (.builtin id)) (ha : PA X (e :: es) t) (hn : x ≠ "__name__" := by decide) (hdb : (x == ("__debug__" : Str)) = false := by decide)
    (he : starEach (e :: es) X.env = (false, eval e X.env) :: starEach es X.env := by rfl) (hpl : (backTo pos (starEach es X.env)).any (·.1) = false := by rfl) : PE X (.Call (.Name x p) (e :: es) [] pos) (tCB r t) := by
  intro pins s σ H Q I h
  refine wpAny_Call_Name_kw (ld_blt I hg hm hv ?_ hn hdb)
  exact PyProof.Rows.callWith_builtin1 (thn (ha pos pins s σ H _ I h) fun us s1 ⟨vs, H1, I1, r1, q1⟩ => hc pins s1 σ H1 vs us Q I1 r1 q1) he hpl
end
end L2

namespace HT
open PySem PyProof.Rows

def lexLt : List Int → List Int → Bool
  | [], [] => false
  | [], _ :: _ => true
  | _ :: _, [] => false
  | x :: xs, y :: ys => if x = y then lexLt xs ys else decide (x < y)
section
open PySem.SeqAt
open PySem.AutoSeq1 (wpAny_loadPart')
open PySem.MeetsSeq PySem.MeetsSeq2 PySem.MeetsSeq3

end

section
variable {prog : Program} {w : World} {A : Around} {E : Value → Shared → Prop} {s : Shared}

theorem cat_tup {t b : Addr} {vs ws : List Value} {Q : Value → Shared → Prop} (ht : IsTup s.heap t vs.toArray) (hb : IsTup s.heap b ws.toArray) (hv : vs ≠ [])
    (h1 : ws = [] → Q (.ref t) s) (h2 : ws ≠ [] → Q (.ref s.heap.objs.size) { s with heap := s.heap.push { cls := .type "tuple", data := .seq (vs ++ ws).toArray } })
    (hsz : vs.length + ws.length ≤ sizeLine) : wpAny (model prog w) A (binaryOp .Add (.ref t) (.ref b)) Q E s := by
  obtain ⟨⟨cls, dd, data, sl⟩, ho, hc, n, hd⟩ := id ht
  obtain ⟨⟨cls2, dd2, data2, sl2⟩, ho2, hc2, n2, hd2⟩ := id hb
  simp only at hc hd hc2 hd2
  subst hc hd hc2 hd2
  have e : vs.toArray ++ ws.toArray = (vs ++ ws).toArray := by simp
  by_cases hw : ws = []
  · exact concat_meets ⟨_, ho, rfl⟩ ⟨_, ho2, rfl⟩ noFill_tuple_add seq_tuple_add PySem.F.slot_tuple_add PySem.F.entry_tuple_add (PySem.F.args_tuple_add_2 _ _)
      (tuple_addW1 t b vs.toArray ws.toArray n n2 dd dd2 sl sl2 (by simpa using hv) (by simp [hw])) ⟨ho, ho2, h1 hw⟩
  · refine concat_meets ⟨_, ho, rfl⟩ ⟨_, ho2, rfl⟩ noFill_tuple_add seq_tuple_add PySem.F.slot_tuple_add PySem.F.entry_tuple_add (PySem.F.args_tuple_add_2 _ _)
      (tuple_addW2 t b vs.toArray ws.toArray n n2 dd dd2 sl sl2 (by simpa using hv) (by simpa using hw) (by rw [List.size_toArray, List.size_toArray]; exact hsz)) ⟨ho, ho2, ?_⟩
    rw [e]
    exact h2 hw

def sIx (n d : Nat) : Option Int → Nat
  | none => d
  | some v => if v < 0 then (v + (n : Int)).toNat else min v.toNat n
theorem sIx_nat (n d k : Nat) : sIx n d (some (k : Int)) = min k n := by
  show (if (k : Int) < 0 then ((k : Int) + (n : Int)).toNat else min (k : Int).toNat n) = min k n
  rw [if_neg (by omega), Int.toNat_natCast]
theorem sIx_le (n d : Nat) (hd : d ≤ n) (o : Option Int) : sIx n d o ≤ n := by
  cases o with
  | none => exact hd
  | some v =>
    show (if v < 0 then (v + (n : Int)).toNat else min v.toNat n) ≤ n
    by_cases hv : v < 0
    · rw [if_pos hv]; omega
    · rw [if_neg hv]; exact Nat.min_le_right _ _
theorem clip_eq (v : Int) (n d : Nat) : (if v < 0 then max (v + (n : Int)) 0 else min v (n : Int)) = ((sIx n d (some v) : Nat) : Int) := by
  show (if v < 0 then max (v + (n : Int)) 0 else min v (n : Int)) = (((if v < 0 then (v + (n : Int)).toNat else min v.toNat n) : Nat) : Int)
  by_cases hv : v < 0
  · simp only [if_pos hv]; omega
  · simp only [if_neg hv]; omega
theorem adjust_gen (lo hi : Option Int) (n : Nat) : Builtin.Slice.sliceAdjust lo hi 1 (n : Int) = (((sIx n 0 lo : Nat) : Int), ((sIx n n hi : Nat) : Int)) := by
  have h1 : ¬ ((1 : Int) < 0) := by omega
  unfold Builtin.Slice.sliceAdjust
  simp only [h1, if_false]
  refine Prod.ext ?_ ?_
  · cases lo with
    | none => rfl
    | some v => exact clip_eq v n 0
  · cases hi with
    | none => rfl
    | some v => exact clip_eq v n n
theorem places_gen (i j : Nat) : Builtin.Slice.slicePlaces (i : Int) (j : Int) 1 = j - i := by
  unfold Builtin.Slice.slicePlaces
  have h1 : (1 : Int) > 0 := by omega
  simp only [h1, if_true, Int.ediv_one]
  split <;> omega
theorem slicePart_ {v : Value} {o : Option Int} {Q : Option Int → Shared → Prop} (p : IsPart v o) (h : Q o s) : wpAny (model prog w) A (Builtin.Slice.slicePartIndex v) Q E s := by
  cases p with
  | none => exact slicePart_none h
  | int i t => exact slicePart_int h
theorem sliceApplied_gen {sl : Addr} {vl vu : Value} {lo hi : Option Int} {n : Nat} {Q : Int × Int × Nat → Shared → Prop} (hs : s.heap.IsSliceOf sl vl vu .none) (pl : IsPart vl lo) (pu : IsPart vu hi)
    (h : Q (((sIx n 0 lo : Nat) : Int), 1, sIx n n hi - sIx n 0 lo) s) : wpAny (model prog w) A (Builtin.Slice.sliceApplied (.ref sl) (pure (n : Int))) Q E s := by
  obtain ⟨os, hos, hcs, hds⟩ := id hs
  unfold Builtin.Slice.sliceApplied Builtin.Slice.sliceFields
  refine wpAny_bind (wpAny_bind (wpAny_field hos hds (x := vl) rfl (wpAny_bind (wpAny_field hos hds (x := vu) rfl (wpAny_bind (wpAny_field hos hds (x := .none) rfl (wpAny_pure ?_)))))))
  refine wpAny_bind (slicePart_none ?_)
  show wpAny _ _ (if ((1 : Int) == 0) = true then _ else _) _ _ s
  rw [if_neg (by decide)]
  refine wpAny_bind (slicePart_ pl (wpAny_bind (slicePart_ pu (wpAny_bind (wpAny_pure ?_)))))
  show wpAny _ _ (match Builtin.Slice.sliceAdjust lo hi 1 (n : Int) with | (lo, hi) => pure (lo, (1 : Int), Builtin.Slice.slicePlaces lo hi 1)) _ _ s
  rw [adjust_gen lo hi n]
  show wpAny _ _ (pure (((sIx n 0 lo : Nat) : Int), (1 : Int), Builtin.Slice.slicePlaces ((sIx n 0 lo : Nat) : Int) ((sIx n n hi : Nat) : Int) 1)) _ _ s
  rw [places_gen]
  exact wpAny_pure h
theorem pick_gen (xs : Array Value) (i k : Nat) : ((List.range k).filterMap fun (m : Nat) => xs[((i : Int) + (m : Int) * 1).toNat]?).toArray = ((xs.toList.drop i).take k).toArray := by
  have e : (fun (m : Nat) => xs[((i : Int) + (m : Int) * 1).toNat]?) = fun m => xs[i + m]? := by
    funext m
    have : ((i : Int) + (m : Int) * 1).toNat = i + m := by omega
    rw [this]
  rw [e]
  have := pick_run xs i k
  rw [List.filterMap_map] at this
  have e2 : ((fun x => xs[x]?) ∘ fun x => i + x) = fun m => xs[i + m]? := rfl
  rw [e2] at this
  rw [this]

theorem getItem_tuple_cut {t sl : Addr} {items : Array Value} {vl vu : Value} {lo hi : Option Int} {Q : Value → Shared → Prop} (ht : IsTup s.heap t items) (hs : s.heap.IsSliceOf sl vl vu .none) (pl : IsPart vl lo) (pu : IsPart vu hi)
    (hw : ¬ (sIx items.size 0 lo = 0 ∧ sIx items.size items.size hi = items.size))
    (h : Q (.ref s.heap.objs.size) { s with heap := s.heap.push { cls := .type "tuple", data := .seq ((items.toList.drop (sIx items.size 0 lo)).take (sIx items.size items.size hi - sIx items.size 0 lo)).toArray } })
    (hsz : items.size ≤ sizeLine) : wpAny (model prog w) A (getItem (.ref t) (.ref sl)) Q E s := by
  have htake : sizeOk (.seq ((items.toList.drop (sIx items.size 0 lo)).take (sIx items.size items.size hi - sIx items.size 0 lo)).toArray) := by
    show ((items.toList.drop (sIx items.size 0 lo)).take (sIx items.size items.size hi - sIx items.size 0 lo)).toArray.size ≤ sizeLine
    rw [List.size_toArray, List.length_take, List.length_drop, Array.length_toList]
    omega
  have hj : sIx items.size items.size hi ≤ items.size := sIx_le _ _ (Nat.le_refl _) hi
  obtain ⟨os, hos, hcs, hds⟩ := id hs
  have hTs : s.TypeIs (.ref sl) "slice" := ⟨os, hos, hcs⟩
  unfold getItem
  try with_reducible refine wpAny_holding ?_
  first | refine wpAny_bind (wpAny_pure ?_) | skip
  refine wpAny_bind (wpAny_sequenceKey ht.typeIs (by decide) ?_)
  refine wpAny_bind (wpAny_callSpecial?_slot (name := Str.ofString "__getitem__") ht.typeIs PyProof.Rows.slot_tuple_getitem
    (wpAny_call_entry PyProof.Rows.slot_tuple_getitem ht.typeIs entry_tuple_getitem ?_ (args_tuple_getitem _ _)))
  show wpAny _ _ (Builtin.Tuple.tupleItemsOf (.ref t) >>= _) _ _ s
  refine wpAny_bind (tupleItemsOf_ ht ?_)
  refine wpAny_bind (wpAny_typeOf hTs ?_)
  rw [if_pos (by decide)]
  refine wpAny_bind (sliceApplied_gen hs pl pu ?_)
  have hno : ¬ ((((sIx items.size 0 lo : Nat) : Int) == 0 && (1 : Int) == 1 && (sIx items.size items.size hi - sIx items.size 0 lo) == items.size) = true) := by
    intro q
    rw [Bool.and_eq_true, Bool.and_eq_true] at q
    have q1 : ((sIx items.size 0 lo : Nat) : Int) = 0 := eq_of_beq q.1.1
    have q2 : sIx items.size items.size hi - sIx items.size 0 lo = items.size := eq_of_beq q.2
    exact hw ⟨by omega, by omega⟩
  show wpAny _ _ (if (((sIx items.size 0 lo : Nat) : Int) == 0 && (1 : Int) == 1 && (sIx items.size items.size hi - sIx items.size 0 lo) == items.size) = true then _ else _) _ _ s
  rw [if_neg hno, pick_gen]
  first
    | exact wpAny_bind (m := Builtin.Tuple.tupleExact _) (wpAny_newObj_type (wpAny_pure ⟨_, rfl, wpAny_pure h⟩) htake)
    | exact wpAny_bind (m := Builtin.Tuple.tupleExact _) (wpAny_newObj_type (wpAny_bind (wpAny_pure (wpAny_pure ⟨_, rfl, wpAny_pure h⟩))) htake)
    | exact wpAny_bind (wpAny_bind (m := Builtin.Tuple.tupleExact _) (wpAny_newObj_type (wpAny_pure (wpAny_pure ⟨_, rfl, wpAny_pure h⟩)) htake))
    | exact wpAny_bind (wpAny_bind (m := Builtin.Tuple.tupleExact _) (wpAny_newObj_type (wpAny_pure ⟨_, rfl, wpAny_pure h⟩) htake))
end
end HT

namespace L2
open PySem PySem.Spec PyProof.Rows

abbrev TO := St → Hp → (Option Int → Hp → Prop) → Prop
def PO (X : Cx) (e : Option Expr) (t : TO) : Prop :=
  ∀ (pins : List (Addr × Obj)) (s : Shared) (σ : St) (H : Hp) (Q : Option Int → Hp → Prop), Inv X pins σ H s → t σ H Q →
    wpAny (model X.prog X.w) X.A (evalPart e X.env) (fun u s' => ∃ o H', Inv X pins σ H' s' ∧ IsPart u o ∧ Q o H') X.xe s
def tNoPart : TO := fun _ H Q => Q none H
def tPart (t : TE) : TO := fun σ H Q => t σ H fun x H1 => ∃ i, x = .int i ∧ Q (some i) H1

section
variable {X : Cx} {e : Expr} {te : TE} {lo hi : Option Expr} {tl th : TO} {pos p2 : Pos}

theorem po_some (h : PE X e te) : PO X (some e) (tPart te) := by
  intro pins s σ H Q I hw
  rw [evalPart_some]
  refine thn (h pins s σ H _ I hw) fun u s1 ⟨x, H1, I1, r1, q1⟩ => ?_
  obtain ⟨i, rfl, q⟩ := q1
  obtain ⟨t, rfl⟩ := r1
  exact ⟨some i, H1, I1, .int i t, q⟩

def SlR (X : Cx) (r : V → Option Int → Option Int → Hp → VK → Prop) : Prop :=
  ∀ (pins : List (Addr × Obj)) (s : Shared) (σ : St) (H : Hp) (x : V) (v vl vu : Value) (lo hi : Option Int) (sl : Addr) (Q : VK), Inv X pins σ H s → RelV x v → s.heap.IsSliceOf sl vl vu .none → IsPart vl lo → IsPart vu hi → r x lo hi H Q →
    ∃ T id, typeLookup (.type T) "__getitem__" = pure (some (.builtin id)) ∧ s.TypeIs v T ∧ wpAny (model X.prog X.w) X.A (getItem v (.ref sl)) (EP X pins σ Q) X.xe s
theorem SlR.or {r r' : V → Option Int → Option Int → Hp → VK → Prop} (h : SlR X r) (h' : SlR X r') : SlR X (fun x lo hi H Q => r x lo hi H Q ∨ r' x lo hi H Q) := by
  intro pins s σ H x v vl vu lo hi sl Q I rx hs pl pu q
  rcases q with q | q
  · exact h pins s σ H x v vl vu lo hi sl Q I rx hs pl pu q
  · exact h' pins s σ H x v vl vu lo hi sl Q I rx hs pl pu q
def tSl (r : V → Option Int → Option Int → Hp → VK → Prop) (te : TE) (tl th : TO) : TE := fun σ H Q => te σ H fun x H1 => tl σ H1 fun l H2 => th σ H2 fun u H3 => r x l u H3 Q
theorem pe_slice {r : V → Option Int → Option Int → Hp → VK → Prop} (hr : SlR X r) (he : PE X e te) (hl : PO X lo tl) (hu : PO X hi th) : PE X (.Subscript e (.Slice lo hi none p2) pos) (tSl r te tl th) := by
  intro pins s σ H Q I h
  refine Subscript_ (thn (he pins s σ H _ I h) fun v s1 ⟨x, H1, I1, r1, q1⟩ => ?_)
  refine wpAny_Slice (thn (hl pins s1 σ H1 _ I1 q1) fun vl s2 ⟨l, H2, I2, pl, q2⟩ => thn (hu pins s2 σ H2 _ I2 q2) fun vu s3 ⟨u, H3, I3, pu, q3⟩ => ?_)
  rw [evalPart_none]
  refine wpAny_pure ?_
  have I4 : Inv X pins σ H3 { s3 with heap := s3.heap.push { cls := .type "slice", data := .fields #[vl, vu, .none] } } := I3.kept (t' := s3.toks) fun b ob q => Heap.get?_push_of_some _ q
  obtain ⟨T, id, hT, ht, hg⟩ := hr pins { s3 with heap := s3.heap.push { cls := .type "slice", data := .fields #[vl, vu, .none] } } σ H3 x v vl vu l u s3.heap.objs.size Q I4 r1 (Heap.IsSliceOf.new ..) pl pu q3
  show wpAny (model X.prog X.w) X.A (subscriptTail e (.Slice lo hi none p2) v (.ref s3.heap.objs.size)) (EP X pins σ Q) X.xe { s3 with heap := s3.heap.push { cls := .type "slice", data := .fields #[vl, vu, .none] } }
  exact tail_any (ops := [.ref s3.heap.objs.size, v]) ht hT hg (by with_unfolding_all rfl)

def cutV (xs : List V) (lo hi : Option Int) : List V := (xs.drop (HT.sIx xs.length 0 lo)).take (HT.sIx xs.length xs.length hi - HT.sIx xs.length 0 lo)
theorem cutV_length (xs : List V) (lo hi : Option Int) : (cutV xs lo hi).length ≤ xs.length := by
  unfold cutV
  rw [List.length_take, List.length_drop]
  omega
def rSlT (K : PySem.W.Frag) : V → Option Int → Option Int → Hp → VK → Prop := fun x lo hi H Q => ∃ a xs, x = .ref a ∧ SqT K H a xs ∧
  ¬ (HT.sIx xs.length 0 lo = 0 ∧ HT.sIx xs.length xs.length hi = xs.length) ∧ ∀ p, H p = none → Q (.ref p) (upd H p (.tup (cutV xs lo hi)))
theorem sl_tup : SlR X (rSlT X.K) := by
  intro pins s σ H x v vl vu lo hi sl Q I rx hs pl pu h
  obtain ⟨a, xs, rfl, hx, hw, q⟩ := h
  cases rx
  obtain ⟨its, r, ht, hz⟩ := I.tuple hx
  have hlen : its.toArray.size = xs.length := by rw [List.size_toArray]; exact r.length.symm
  refine ⟨"tuple", _, PyProof.Rows.slot_tuple_getitem.lookup, ht.typeIs, ?_⟩
  refine HT.getItem_tuple_cut ht hs pl pu (by rw [hlen]; exact hw) ?_ (by rw [hlen]; exact hz)
  rw [hlen]
  refine ⟨.ref s.heap.objs.size, _, I.laid (t' := s.toks) (o := .tup (cutV xs lo hi)) (fun b ob q => Heap.get?_push_of_some _ q) (Nat.le_refl _) ?_, rfl, q _ (I.hok.fresh (Nat.le_refl _))⟩
  exact ⟨Nat.le_trans (cutV_length xs lo hi) hz, _, (r.drop (HT.sIx xs.length 0 lo)).take (HT.sIx xs.length xs.length hi - HT.sIx xs.length 0 lo), IsTup.new _ _⟩

def rLtT (K : PySem.W.Frag) : R2 := fun x y H Q => ∃ a b ns ms, x = .ref a ∧ y = .ref b ∧ SqT K H a (ns.map V.int) ∧ SqT K H b (ms.map V.int) ∧ Q (.bl (HT.lexLt ns ms)) H
def rCatT (K : PySem.W.Frag) : R2 := fun x y H Q => ∃ a b xs ys, x = .ref a ∧ y = .ref b ∧ SqT K H a xs ∧ SqT K H b ys ∧ xs ≠ [] ∧ xs.length + ys.length ≤ sizeLine ∧
  (ys = [] → Q (.ref a) H) ∧ (ys ≠ [] → ∀ p, H p = none → Q (.ref p) (upd H p (.tup (xs ++ ys))))
theorem Vals.nil_iff {xs : List V} {us : List Value} (r : Vals xs us) : us = [] ↔ xs = [] := by
  cases r with
  | nil => simp
  | cons _ _ => simp
theorem op_catT : OpR X (binaryOp .Add) (rCatT X.K) := by
  intro pins s σ H x y v u Q I rx ry h
  obtain ⟨a, b, xs, ys, rfl, rfl, ha, hb, hx, hz, q1, q2⟩ := h
  cases rx
  cases ry
  obtain ⟨its, r1, p1, _⟩ := I.tuple ha
  obtain ⟨its2, r2, p2, _⟩ := I.tuple hb
  refine HT.cat_tup p1 p2 (fun z => hx (r1.nil_iff.mp z)) (fun z => ⟨.ref a, H, I, rfl, q1 (r2.nil_iff.mp z)⟩) (fun z => ?_) (by rw [← r1.length, ← r2.length]; exact hz)
  refine ⟨.ref s.heap.objs.size, _, I.laid (t' := s.toks) (o := .tup (xs ++ ys)) (fun b ob q => Heap.get?_push_of_some _ q) (Nat.le_refl _) ?_, rfl, q2 (fun w => z (r2.nil_iff.mpr w)) _ (I.hok.fresh (Nat.le_refl _))⟩
  exact ⟨by rw [List.length_append]; exact hz, _, r1.append r2, IsTup.new _ _⟩
end
end L2

namespace L2
open PySem PySem.Spec PyProof.Rows

def ixN (n : Nat) (i : Int) : Option Nat := if 0 ≤ i then (if i < n then some i.toNat else none) else if -(n : Int) ≤ i then some (i + n).toNat else none
def atI {α : Type} (xs : List α) (i : Int) : Option α := (ixN xs.length i).bind fun j => xs[j]?
theorem ixN_seq {n : Nat} {i : Int} {j : Nat} (h : ixN n i = some j) : seqIndex? i n = some j ∧ j < n ∧ -(n : Int) ≤ i ∧ i < n := by
  unfold ixN at h
  by_cases h0 : 0 ≤ i
  · rw [if_pos h0] at h
    by_cases h1 : i < n
    · rw [if_pos h1] at h
      have e : i.toNat = j := Option.some.inj h
      exact ⟨by rw [seqIndex_of h0 h1, e], by omega, by omega, h1⟩
    · rw [if_neg h1] at h; cases h
  · rw [if_neg h0] at h
    by_cases h1 : -(n : Int) ≤ i
    · rw [if_pos h1] at h
      have e : (i + n).toNat = j := Option.some.inj h
      exact ⟨by rw [seqIndex_neg (by omega) h1, e], by omega, h1, by omega⟩
    · rw [if_neg h1] at h; cases h
theorem atI_get {α : Type} {xs : List α} {i : Int} {v : α} (h : atI xs i = some v) : ∃ j, seqIndex? i xs.length = some j ∧ xs[j]? = some v ∧ j < xs.length ∧ -(xs.length : Int) ≤ i ∧ i < xs.length := by
  unfold atI at h
  cases e : ixN xs.length i with
  | none => rw [e] at h; cases h
  | some j =>
    rw [e] at h
    obtain ⟨h1, h2, h3, h4⟩ := ixN_seq e
    exact ⟨j, h1, h, h2, h3, h4⟩
theorem atI_nat {α : Type} {xs : List α} {j : Nat} {v : α} (h : xs[j]? = some v) : atI xs (j : Int) = some v := by
  have hj : j < xs.length := (List.getElem?_eq_some_iff.mp h).1
  have e : ixN xs.length (j : Int) = some j := by
    unfold ixN
    rw [if_pos (by omega), if_pos (by omega)]; simp
  unfold atI; rw [e]; exact h
def PlainIx (b : Expr) : Prop := ∀ o i, subscripted b false o i = operate [o, i] (getItem o i)
def IxR (X : Cx) (r : R2) : Prop :=
  ∀ (value slice : Expr) (pins : List (Addr × Obj)) (s : Shared) (σ : St) (H : Hp) (x y : V) (v u : Value) (Q : VK), Inv X pins σ H s → RelV x v → RelV y u → r x y H Q →
    subscripted slice false v u = operate [v, u] (getItem v u) → wpAny (model X.prog X.w) X.A (subscriptTail value slice v u) (EP X pins σ Q) X.xe s
def MtR (X : Cx) (id : String) (r : V → List V → Hp → VK → Prop) : Prop :=
  ∀ (pins : List (Addr × Obj)) (s : Shared) (σ : St) (H : Hp) (x : V) (xs : List V) (v : Value) (us : List Value) (Q : VK), Inv X pins σ H s → RelV x v → Vals xs us → r x xs H Q →
    wpAny (model X.prog X.w) X.A (call (.builtin id) (v :: us)) (EP X pins σ Q) X.xe s
section
variable {X : Cx} {a b : Expr} {ta tb : TE} {pos : Pos}
theorem IxR.or {r r' : R2} (h : IxR X r) (h' : IxR X r') : IxR X (fun x y H Q => r x y H Q ∨ r' x y H Q) := by
  intro value slice pins s σ H x y v u Q I rx ry q hs
  rcases q with q | q
  · exact h value slice pins s σ H x y v u Q I rx ry q hs
  · exact h' value slice pins s σ H x y v u Q I rx ry q hs
theorem MtR.or {id : String} {r r' : V → List V → Hp → VK → Prop} (h : MtR X id r) (h' : MtR X id r') : MtR X id (fun x xs H Q => r x xs H Q ∨ r' x xs H Q) := by
  intro pins s σ H x xs v us Q I rx rs q
  rcases q with q | q
  · exact h pins s σ H x xs v us Q I rx rs q
  · exact h' pins s σ H x xs v us Q I rx rs q
theorem pe_ix {r : R2} (hr : IxR X r) (ha : PE X a ta) (hb : PE X b tb) (hs : PlainIx b) : PE X (.Subscript a b pos) (tOp r ta tb) := by
  intro pins s σ H Q I h
  exact Subscript_ (binT ha hb I h fun v u s2 x y H2 I2 rx ry q => hr a b pins s2 σ H2 x y v u Q I2 rx ry q (hs _ _))

def rIxL (K : PySem.W.Frag) : R2 := fun x y H Q => ∃ p xs i v, x = .ref p ∧ y = .int i ∧ SqL K H p xs ∧ atI xs i = some v ∧ Q v H
def rIxT (K : PySem.W.Frag) : R2 := fun x y H Q => ∃ p xs i v, x = .ref p ∧ y = .int i ∧ SqT K H p xs ∧ atI xs i = some v ∧ Q v H
def rIxS : R2 := fun x y H Q => ∃ z i c, x = .str z ∧ y = .int i ∧ z.length ≤ sizeLine ∧ atI z.cps.toList i = some c ∧ Q (.str ⟨#[c]⟩) H
theorem ix_list : IxR X (rIxL X.K) := by
  intro value slice pins s σ H x y v u Q I rx ry h hs
  obtain ⟨p, xs, i, z, rfl, rfl, hq, he, q⟩ := h
  cases rx
  obtain ⟨t, rfl⟩ := ry
  obtain ⟨its, r, pl, hz⟩ := I.list hq
  obtain ⟨j, h1, h2, h3, h4, h5⟩ := atI_get he
  obtain ⟨w, ew, rw'⟩ := r.get h2
  have hl := r.length
  have hn := line63
  have fin : EP X pins σ Q w s := ⟨z, H, I, rw', q⟩
  by_cases h0 : 0 ≤ i
  · have hj : i.toNat = j := by
      rw [seqIndex_of h0 h5] at h1
      exact Option.some.inj h1
    exact item_listR pl.isList h0 (by omega) (by rw [hj]; simpa using ew) fin hs
  · have hj : (i + (its.toArray.size : Int)).toNat = j := by
      rw [seqIndex_neg (by omega) h4] at h1
      rw [List.size_toArray, ← hl]
      exact Option.some.inj h1
    exact subscriptTail_builtinR (x := w) pl.isList.typeIs slot_list_getitem.lookup
      (wpAny_getItem_list_neg (Q := fun r s' => r = w ∧ EP X pins σ Q r s') pl.isList (by omega) (by rw [List.size_toArray] <;> omega) (by omega) (by rw [hj]; simpa using ew) ⟨rfl, fin⟩) hs
theorem ix_tup : IxR X (rIxT X.K) := by
  intro value slice pins s σ H x y v u Q I rx ry h hs
  obtain ⟨p, xs, i, z, rfl, rfl, hq, he, q⟩ := h
  cases rx
  obtain ⟨t, rfl⟩ := ry
  obtain ⟨its, r, pl, hz⟩ := I.tuple hq
  obtain ⟨j, h1, h2, h3, h4, h5⟩ := atI_get he
  obtain ⟨w, ew, rw'⟩ := r.get h2
  have hl := r.length
  have hn := line63
  have fin : EP X pins σ Q w s := ⟨z, H, I, rw', q⟩
  exact subscriptTail_builtinR (x := w) pl.typeIs slot_tuple_getitem.lookup
    (getItem_tuple (j := j) (Q := fun r s' => r = w ∧ EP X pins σ Q r s') pl (by omega) (by omega) (by rw [List.size_toArray, ← hl]; exact h1) (by simpa using ew) ⟨rfl, fin⟩) hs
def rIx (K : PySem.W.Frag) : R2 := fun x y H Q => rIxL K x y H Q ∨ rIxT K x y H Q ∨ rIxS x y H Q
theorem Inv.lst {pins : List (Addr × Obj)} {σ : St} {H : Hp} {s : Shared} {p : Addr} {xs : List V} (I : Inv X pins σ H s) (h : H p = some (.lst xs)) :
    ∃ (its : List Value) (n : Nat), Vals xs its ∧ s.heap.get? p = some { cls := .type "list", data := .seq its.toArray n } ∧ xs.length ≤ sizeLine := by
  obtain ⟨z, its, n, r, e⟩ := I.hok p _ h
  exact ⟨its, n, r, e, z⟩
def rSetL : V → V → V → Hp → (Hp → Prop) → Prop := fun o i v H Q => ∃ p xs k j, o = .ref p ∧ i = .int k ∧ H p = some (.lst xs) ∧ ixN xs.length k = some j ∧ Q (upd H p (.lst (xs.set j v)))
def rSlL (K : PySem.W.Frag) : V → Option Int → Option Int → Hp → VK → Prop := fun x lo hi H Q => ∃ a xs, x = .ref a ∧ SqL K H a xs ∧ ∀ p, H p = none → Q (.ref p) (upd H p (.lst (cutV xs lo hi)))
def flatV : V → Bool
  | .non => true
  | .bl _ => true
  | .int _ => true
  | .str _ => true
  | _ => false
def eqV : V → V → Bool
  | .non, .non => true
  | .bl a, .bl b => a == b
  | .bl a, .int b => (if a then 1 else 0) == b
  | .int a, .bl b => a == (if b then 1 else 0)
  | .int a, .int b => a == b
  | .str a, .str b => a == b
  | _, _ => false
theorem eqAt_V {A : Around} {s : Shared} {y x : V} {u v : Value} (ry : RelV y u) (rx : RelV x v) (fy : flatV y = true) (fx : flatV x = true) : SeqAt.EqAt A s u v (eqV y x) := by
  cases y with
  | non =>
    cases ry
    cases x with
    | non => cases rx; exact SeqAt.EqAt.same _
    | bl b => cases rx; exact SeqAt.EqAt.none_bool b
    | int b => obtain ⟨t, rfl⟩ := rx; exact SeqAt.EqAt.none_int b t
    | str b => obtain ⟨t, rfl⟩ := rx; exact SeqAt.EqAt.none_str b t
    | _ => exact absurd (show false = true from fx) Bool.false_ne_true
  | bl a =>
    cases ry
    cases x with
    | non => cases rx; exact SeqAt.EqAt.bool_none a
    | bl b => cases rx; exact SeqAt.EqAt.bool_bool a b
    | int b => obtain ⟨t, rfl⟩ := rx; exact SeqAt.EqAt.bool_int a b t
    | str b => obtain ⟨t, rfl⟩ := rx; exact SeqAt.EqAt.bool_str a b t
    | _ => exact absurd (show false = true from fx) Bool.false_ne_true
  | int a =>
    obtain ⟨t', rfl⟩ := ry
    cases x with
    | non => cases rx; exact SeqAt.EqAt.int_none a t'
    | bl b => cases rx; exact SeqAt.EqAt.int_bool a t' b
    | int b => obtain ⟨t, rfl⟩ := rx; exact SeqAt.EqAt.int_int a t' b t
    | str b => obtain ⟨t, rfl⟩ := rx; exact SeqAt.EqAt.int_str a t' b t
    | _ => exact absurd (show false = true from fx) Bool.false_ne_true
  | str a =>
    obtain ⟨t', rfl⟩ := ry
    cases x with
    | non => cases rx; exact SeqAt.EqAt.str_none a t'
    | bl b => cases rx; exact SeqAt.EqAt.str_bool a t' b
    | int b => obtain ⟨t, rfl⟩ := rx; exact SeqAt.EqAt.str_int a t' b t
    | str b => obtain ⟨t, rfl⟩ := rx; exact SeqAt.EqAt.str_str a t' b t
    | _ => exact absurd (show false = true from fx) Bool.false_ne_true
  | _ => exact absurd (show false = true from fy) Bool.false_ne_true
def eqU (x : V) (u : Value) : Bool := match u with
  | .none => eqV .non x
  | .bool b => eqV (.bl b) x
  | .int i _ => eqV (.int i) x
  | .str z _ => eqV (.str z) x
  | _ => false
theorem eqU_of {x y : V} {u : Value} (r : RelV y u) (f : flatV y = true) : eqU x u = eqV y x := by
  cases y with
  | non => cases r; rfl
  | bl b => cases r; rfl
  | int i => obtain ⟨t, rfl⟩ := r; rfl
  | str z => obtain ⟨t, rfl⟩ := r; rfl
  | _ => exact absurd (show false = true from f) Bool.false_ne_true
theorem any_eqU {x : V} : ∀ {xs : List V} {us : List Value}, Vals xs us → xs.all flatV = true → us.any (eqU x) = xs.any fun y => eqV y x
  | _, _, .nil, _ => rfl
  | y :: xs, u :: us, .cons r t, f => by
    rw [List.all_cons, Bool.and_eq_true] at f
    rw [List.any_cons, List.any_cons, eqU_of r f.1, any_eqU t f.2]
theorem mem_eqAt {A : Around} {s : Shared} {x : V} {v : Value} (rx : RelV x v) (fx : flatV x = true) : ∀ {xs : List V} {us : List Value}, Vals xs us → xs.all flatV = true → ∀ u ∈ us, SeqAt.EqAt A s u v (eqU x u)
  | _, _, .nil, _ => fun u hu => by cases hu
  | y :: xs, u :: us, .cons r t, f => fun u' hu => by
    rw [List.all_cons, Bool.and_eq_true] at f
    rcases List.mem_cons.mp hu with rfl | hu
    · rw [eqU_of r f.1]; exact eqAt_V r rx f.1 fx
    · exact mem_eqAt rx fx t f.2 u' hu
def inV (x : V) (xs : List V) : Bool := xs.any fun y => eqV y x
def rIn (K : PySem.W.Frag) (neg : Bool) : R2 := fun x y H Q => ∃ p xs, y = .ref p ∧ (SqL K H p xs ∨ SqT K H p xs) ∧ flatV x = true ∧ xs.all flatV = true ∧ Q (.bl (if neg then !inV x xs else inV x xs)) H
theorem op_in_seq : OpR X (compareOp .In) (rIn X.K false) := by
  intro pins s σ H x y v u Q I rx ry h
  obtain ⟨p, xs, rfl, hq, fx, fs, q⟩ := h
  cases ry
  rcases hq with hq | hq
  · obtain ⟨its, r, pl, hz⟩ := I.list hq
    refine SeqAt.in_listAt (eqU x) pl.isList (fun w hw => mem_eqAt rx fx r fs w (by simpa using hw)) ⟨.bl _, H, I, rfl, ?_⟩
    rw [show its.toArray.any (eqU x) = its.any (eqU x) by simp, any_eqU r fs]
    exact q
  · obtain ⟨its, r, pl, hz⟩ := I.tuple hq
    refine SeqAt.in_tupleAt (eqU x) pl (fun w hw => mem_eqAt rx fx r fs w (by simpa using hw)) ⟨.bl _, H, I, rfl, ?_⟩
    rw [show its.toArray.any (eqU x) = its.any (eqU x) by simp, any_eqU r fs]
    exact q
theorem op_notIn_seq : OpR X (compareOp .NotIn) (rIn X.K true) := by
  intro pins s σ H x y v u Q I rx ry h
  obtain ⟨p, xs, rfl, hq, fx, fs, q⟩ := h
  cases ry
  rcases hq with hq | hq
  · obtain ⟨its, r, pl, hz⟩ := I.list hq
    refine SeqAt.notIn_listAt (eqU x) pl.isList (fun w hw => mem_eqAt rx fx r fs w (by simpa using hw)) ⟨.bl _, H, I, rfl, ?_⟩
    rw [show its.toArray.any (eqU x) = its.any (eqU x) by simp, any_eqU r fs]
    exact q
  · obtain ⟨its, r, pl, hz⟩ := I.tuple hq
    refine SeqAt.notIn_tupleAt (eqU x) pl (fun w hw => mem_eqAt rx fx r fs w (by simpa using hw)) ⟨.bl _, H, I, rfl, ?_⟩
    rw [show its.toArray.any (eqU x) = its.any (eqU x) by simp, any_eqU r fs]
    exact q
theorem call_len_seq : CallR X (.builtin "len") (fun xs H Q => ∃ p ys, xs = [.ref p] ∧ (SqL X.K H p ys ∨ SqT X.K H p ys) ∧ Q (.int ys.length) H) := by
  intro pins s σ H xs us Q I r h
  obtain ⟨p, ys, rfl, hq, q⟩ := h
  obtain ⟨u, rfl, rx⟩ := vals1 r
  cases rx
  have hn := line63
  rcases hq with hq | hq
  · obtain ⟨its, r', pl, hz⟩ := I.list hq
    have hlen := r'.length
    exact Calls.call_len_list pl.isList (by simp only [List.size_toArray] <;> omega) ⟨.int ys.length, H, I.tok _, ⟨s.toks + 1, by rw [List.size_toArray, hlen]⟩, q⟩
  · obtain ⟨its, r', pl, hz⟩ := I.tuple hq
    have hlen := r'.length
    exact len_tuple pl (by simp only [List.size_toArray] <;> omega) ⟨.int ys.length, H, I.tok _, ⟨s.toks + 1, by rw [List.size_toArray, hlen]⟩, q⟩
theorem CallR.or {f : Value} {r r' : List V → Hp → VK → Prop} (h : CallR X f r) (h' : CallR X f r') : CallR X f (fun xs H Q => r xs H Q ∨ r' xs H Q) := by
  intro pins s σ H xs us Q I rs q
  rcases q with q | q
  · exact h pins s σ H xs us Q I rs q
  · exact h' pins s σ H xs us Q I rs q
def tyV (K : PySem.W.Frag) (T : String) (x : V) (H : Hp) : Prop := match x with
  | .str _ => T = "str"
  | .int _ => T = "int"
  | .ref p => (T = "list" ∧ ∃ xs, SqL K H p xs) ∨ (T = "tuple" ∧ ∃ o, K.lookup p = some o ∧ o.cls = .type "tuple" ∧ o.dict = none) ∨
      (T = "dict" ∧ ((∃ kvs, H p = some (.dK kvs)) ∨ ∃ kvs, H p = some (.dT kvs))) ∨ (T = "set" ∧ ∃ S n, H p = some (.set S n))
  | _ => False
theorem tyV_is {pins : List (Addr × Obj)} {σ : St} {H : Hp} {s : Shared} {T : String} {x : V} {v : Value} (I : Inv X pins σ H s) (r : RelV x v) (ty : tyV X.K T x H) :
    s.TypeIs v T ∧ ∀ a, v = .ref a → ∃ ob, s.heap.get? a = some ob ∧ ob.dict = none := by
  cases x with
  | str z =>
    obtain ⟨t, rfl⟩ := r
    cases (show T = "str" from ty)
    exact ⟨typeIs_str s z t, fun _ e => nomatch e⟩
  | int i =>
    obtain ⟨t, rfl⟩ := r
    cases (show T = "int" from ty)
    exact ⟨typeIs_int s i t, fun _ e => nomatch e⟩
  | ref p =>
    cases r
    rcases ty with ⟨rfl, xs, hq⟩ | ⟨rfl, o, hk, hc, hd⟩ | ⟨rfl, hk⟩ | ⟨rfl, S, n, hk⟩
    · obtain ⟨its, _, pl, _⟩ := I.list hq
      refine ⟨pl.isList.typeIs, fun a e => ?_⟩
      cases e
      obtain ⟨o, n, e, c, hd, _⟩ := pl
      exact ⟨o, e, hd⟩
    · refine ⟨⟨o, I.kIn p o hk, hc⟩, fun a e => ?_⟩
      cases e
      exact ⟨o, I.kIn _ o hk, hd⟩
    · have z : ∃ o, s.heap.get? p = some o ∧ o.ExactDict := by
        rcases hk with ⟨kvs, hk⟩ | ⟨kvs, hk⟩
        · obtain ⟨_, _, _, _, o, _, _, e, ex, _⟩ := I.hok p _ hk
          exact ⟨o, e, ex⟩
        · obtain ⟨_, _, _, _, o, _, _, e, ex, _⟩ := I.hok p _ hk
          exact ⟨o, e, ex⟩
      obtain ⟨o, e, ex⟩ := z
      refine ⟨⟨o, e, ex.1⟩, fun a e2 => ?_⟩
      cases e2
      exact ⟨o, e, ex.2.1⟩
    · obtain ⟨o, _, _, _, e, ex, _⟩ := I.hok p _ hk
      refine ⟨⟨o, e, ex.1⟩, fun a e2 => ?_⟩
      cases e2
      exact ⟨o, e, ex.2.1⟩
  | _ => exact False.elim ty
def tBM0 (K : PySem.W.Frag) (T : String) (r : V → List V → Hp → VK → Prop) (to : TE) : TE := fun σ H Q => to σ H fun x H1 => tyV K T x H1 ∧ r x [] H1 Q
def tBM (K : PySem.W.Frag) (T : String) (r : V → List V → Hp → VK → Prop) (to : TE) (t : TA) : TE := fun σ H Q => to σ H fun x H1 => tyV K T x H1 ∧ t σ H1 fun xs H2 => r x xs H2 Q
variable {o e : Expr} {es : List Expr} {to : TE} {t : TA} {name : Str} {apos cpos : Pos} {T id : String} {r : V → List V → Hp → VK → Prop}
theorem pe_bm0 (pa : PlainAttrs T) (slot : Slot T name id) (hty : typeOf (.builtin id) = pure (.type "method_descriptor")) (hm : MtR X id r) (ho : PE X o to)
    (hbase : attributeBase o name X.env (eval o X.env) = eval o X.env := by rfl) (hline : (apos.endLine == cpos.line) = true := by rfl) : PE X (.Call (.Attribute o name apos) [] [] cpos) (tBM0 X.K T r to) := by
  intro pins s σ H Q I h
  refine wpAny_Call_method0_late hbase hline (thn (ho pins s σ H _ I h) fun v s1 ⟨x, H1, I1, r1, ty, q1⟩ => ?_)
  obtain ⟨h1, h2⟩ := tyV_is I1 r1 ty
  exact ⟨T, id, pa, slot, hty, h1, h2, Calls.callWith_builtin rfl (PySem.evalArgs_none (hm pins s1 σ H1 x [] v [] Q I1 r1 .nil q1))⟩
theorem pe_bm (pa : PlainAttrs T) (slot : Slot T name id) (hty : typeOf (.builtin id) = pure (.type "method_descriptor")) (hm : MtR X id r) (ho : PE X o to) (ha : PA X (e :: es) t)
    (hbase : attributeBase o name X.env (eval o X.env) = eval o X.env := by rfl)
    (hfew : ((backTo cpos (starEach (e :: es) X.env)).all (fun x => !x.1) && (backToKw cpos (keywordEach [] X.env)).all (fun x => x.1.isSome)
      && decide ((e :: es).length + ([] : List Keyword).length + (if ([] : List Keyword).isEmpty then 0 else 1) < 30)) = true := by rfl)
    (hline : (apos.endLine == cpos.line) = true := by rfl) (hs : starEach (e :: es) X.env = (false, eval e X.env) :: starEach es X.env := by rfl) (hplain : (backTo cpos (starEach es X.env)).any (·.1) = false := by rfl) :
    PE X (.Call (.Attribute o name apos) (e :: es) [] cpos) (tBM X.K T r to t) := by
  intro pins s σ H Q I h
  refine wpAny_Call_method_late hbase hfew hline rfl (thn (ho pins s σ H _ I h) fun v s1 ⟨x, H1, I1, r1, ty, q1⟩ => ?_)
  obtain ⟨h1, h2⟩ := tyV_is I1 r1 ty
  refine ⟨T, id, pa, slot, hty, h1, h2, ?_⟩
  have hA := ha cpos pins s1 σ H1 _ I1 q1
  rw [hs] at hA ⊢
  refine Calls.callWith_builtin (by show (false || (backTo cpos (starEach es X.env)).any (·.1)) = false; rw [hplain] <;> rfl) (Calls.evalArgs_plain ?_)
  exact thn hA fun us s2 ⟨vs, H2, I2, r2, q2⟩ => hm pins s2 σ H2 x vs v us Q I2 r1 r2 q2
/- xs.append(e), list.index on a module's tuple .. are MtR facts of 06m -/
end
end L2

namespace L2
open PySem PySem.Spec PyProof.Rows

def MtM (X : Cx) (id : String) (r : V → List V → Hp → VK → Prop) : Prop :=
  ∀ (pins : List (Addr × Obj)) (s : Shared) (σ : St) (H : Hp) (x : V) (xs : List V) (v : Value) (us : List Value) (Q : VK), Inv X pins σ H s → RelV x v → Vals xs us → r x xs H Q →
    wpAny (model X.prog X.w) X.A (call (.builtin id) (v :: us)) (EP X pins σ Q) X.xe s

theorem Vals.one : ∀ {x : V} {us : List Value}, Vals [x] us → ∃ u, us = [u] ∧ RelV x u
  | _, _, .cons r .nil => ⟨_, rfl, r⟩
theorem Vals.two : ∀ {x y : V} {us : List Value}, Vals [x, y] us → ∃ u v, us = [u, v] ∧ RelV x u ∧ RelV y v
  | _, _, _, .cons r (.cons q .nil) => ⟨_, _, rfl, r, q⟩
theorem Vals.zero : ∀ {us : List Value}, Vals [] us → us = []
  | _, .nil => rfl
theorem Vals.dropLast {xs : List V} {us : List Value} (h : Vals xs us) : Vals xs.dropLast us.dropLast := by
  induction h with
  | nil => exact .nil
  | cons r t ih =>
    cases t with
    | nil => exact .nil
    | cons q t' => exact .cons r ih
theorem Vals.eraseIdx : ∀ {xs : List V} {us : List Value} (i : Nat), Vals xs us → Vals (xs.eraseIdx i) (us.eraseIdx i)
  | _, _, _, .nil => .nil
  | _, _, 0, .cons _ t => t
  | _, _, i + 1, .cons r t => .cons r (Vals.eraseIdx i t)
theorem Vals.reverse {xs : List V} {us : List Value} (h : Vals xs us) : Vals xs.reverse us.reverse := by
  induction h with
  | nil => exact .nil
  | cons r t ih => rw [List.reverse_cons, List.reverse_cons]; exact Vals.append ih (.cons r .nil)
theorem Vals.rep {xs : List V} {us : List Value} (h : Vals xs us) : ∀ k : Nat, Vals (List.replicate k xs).flatten (List.replicate k us).flatten
  | 0 => .nil
  | k + 1 => by
    rw [List.replicate_succ, List.replicate_succ, List.flatten_cons, List.flatten_cons]
    exact Vals.append h (Vals.rep h k)
theorem erase_last {α : Type} (l : List α) : l.eraseIdx (l.length - 1) = l.dropLast := by
  induction l with
  | nil => rfl
  | cons a r ih =>
    cases r with
    | nil => rfl
    | cons b r =>
      have e : (a :: b :: r).length - 1 = ((b :: r).length - 1) + 1 := by
        have h1 : (a :: b :: r).length = r.length + 2 := rfl
        have h2 : (b :: r).length = r.length + 1 := rfl
        omega
      rw [e, List.eraseIdx_cons_succ, ih]
      all_goals rfl
theorem foldl_rep (its : List Value) : ∀ (k : Nat) (acc : List Value),
    List.foldl (fun x1 x2 => x1 ++ x2) acc.toArray (List.replicate k its.toArray) = (acc ++ (List.replicate k its).flatten).toArray
  | 0, acc => by simp
  | k + 1, acc => by
    have e : acc.toArray ++ its.toArray = (acc ++ its).toArray := by simp
    have e2 : (acc ++ its) ++ (List.replicate k its).flatten = acc ++ (List.replicate (k + 1) its).flatten := by
      rw [List.replicate_succ, List.flatten_cons, List.append_assoc]
    rw [← e2, ← foldl_rep its k (acc ++ its), ← e, List.replicate_succ, List.foldl_cons]

section
variable {X : Cx} {pins : List (Addr × Obj)} {σ : St} {H : Hp} {s : Shared} {l b : Addr} {xs ys zs : List V}

theorem Inv.lset {its its' : List Value} {n : Nat} {f : Array Value → Array Value} {t' : Nat} (I : Inv X pins σ H s) (hH : H l = some (.lst xs))
    (e : s.heap.get? l = some { cls := .type "list", data := .seq its.toArray n }) (hf : f its.toArray = its'.toArray) (hv : Vals ys its') (hz : ys.length ≤ sizeLine) :
    Inv X pins σ (upd H l (.lst ys)) { s with heap := s.heap.update l (Obj.mapSeq f), toks := t' } := by
  have q := PySem.IsL.update e f
  rw [hf] at q
  refine I.write (x := l) (e := l) (by rw [hH]; exact trivial) (.inl rfl) (fun b' u hb hu => (Heap.get?_update_other s.heap (Obj.mapSeq f) (Ne.symm hb)).trans hu) ⟨_, q⟩ ?_
  exact ⟨hz, its', _, hv, q⟩
theorem Inv.lnew {its : List Value} {t' : Nat} (I : Inv X pins σ H s) (hv : Vals ys its) (hz : ys.length ≤ sizeLine) :
    Inv X pins σ (upd H s.heap.objs.size (.lst ys)) { s with heap := s.heap.push { cls := .type "list", data := .seq its.toArray }, toks := t' } :=
  I.laid (fun _ _ q => Heap.get?_push_of_some _ q) (Nat.le_refl _) ⟨hz, its, 0, hv, Heap.get?_push_size _ rfl⟩
theorem Inv.fresh (I : Inv X pins σ H s) : H s.heap.objs.size = none := I.hok.fresh (Nat.le_refl _)
theorem Inv.lstM (I : Inv X pins σ H s) (hH : H l = some (.lst xs)) : xs.length ≤ sizeLine ∧ ∃ (its : List Value) (n : Nat), Vals xs its ∧ xs.length = its.length ∧ s.heap.get? l = some { cls := .type "list", data := .seq its.toArray n } := by
  obtain ⟨z, its, n, r, e⟩ := I.hok l _ hH
  exact ⟨z, its, n, r, r.length, e⟩

end

section
variable {X : Cx}

def rAppend : V → List V → Hp → VK → Prop := fun x vs H Q => ∃ l xs y, x = .ref l ∧ vs = [y] ∧ H l = some (.lst xs) ∧ xs.length < sizeLine ∧ Q .non (upd H l (.lst (xs ++ [y])))
theorem mt_append : MtM X "list.append" rAppend := by
  intro pins s σ H x vs v us Q I rx rv h
  obtain ⟨l, xs, y, rfl, rfl, hH, hz, q⟩ := h
  cases rx
  obtain ⟨u, rfl, ru⟩ := rv.one
  obtain ⟨z, its, n, r, hl, e⟩ := I.lstM hH
  refine call_meets F.slot_list_append ⟨_, e, rfl⟩ F.entry_list_append (F.args_list_append_2 _ _) (PySem.list_append l its.toArray n u (by rw [List.size_toArray]; omega)) ⟨e, ?_⟩
  refine ⟨.non, _, I.lset (its' := its ++ [u]) hH e (by simp) (r.append (.cons ru .nil)) ?_, rfl, q⟩
  rw [List.length_append, List.length_singleton]
  omega

def rExtend : V → List V → Hp → VK → Prop := fun x vs H Q => ∃ l b xs zs, x = .ref l ∧ vs = [.ref b] ∧ H l = some (.lst xs) ∧ H b = some (.lst zs) ∧ xs.length + zs.length ≤ sizeLine ∧ Q .non (upd H l (.lst (xs ++ zs)))
def rPop : V → List V → Hp → VK → Prop := fun x vs H Q => ∃ l xs y, x = .ref l ∧ vs = [] ∧ H l = some (.lst xs) ∧ xs[xs.length - 1]? = some y ∧ Q y (upd H l (.lst xs.dropLast))
theorem mt_pop : MtM X "list.pop" rPop := by
  intro pins s σ H x vs v us Q I rx rv h
  obtain ⟨l, xs, y, rfl, rfl, hH, hy, q⟩ := h
  cases rx
  have hus := rv.zero
  subst hus
  obtain ⟨z, its, n, r, hl, e⟩ := I.lstM hH
  obtain ⟨u, hu, ru⟩ := r.get hy
  have hy' : its.toArray[its.toArray.size - 1]? = some u := by
    show its.toArray[its.length - 1]? = some u
    rw [← Array.getElem?_toList, ← hl]
    exact hu
  refine call_meets F.slot_list_pop ⟨_, e, rfl⟩ F.entry_list_pop (F.args_list_pop_1 _) (MeetsSeq.list_pop_last l its.toArray n u hy' (by rw [List.size_toArray]; omega)) ⟨e, ?_⟩
  refine ⟨y, _, I.lset (its' := its.dropLast) hH e ?_ r.dropLast ?_, ru, q⟩
  · show its.toArray.eraseIdxIfInBounds (its.toArray.size - 1) = its.dropLast.toArray
    rw [List.size_toArray, List.eraseIdxIfInBounds_toArray, erase_last]
  · rw [List.length_dropLast]
    omega

def rPopAt : V → List V → Hp → VK → Prop := fun x vs H Q => ∃ l xs i k y, x = .ref l ∧ vs = [.int i] ∧ H l = some (.lst xs) ∧ -(2 ^ 63) ≤ i ∧ i < 2 ^ 63 ∧ seqIndex? i xs.length = some k ∧ xs[k]? = some y ∧ Q y (upd H l (.lst (xs.eraseIdx k)))
def rReverse : V → List V → Hp → VK → Prop := fun x vs H Q => ∃ l xs, x = .ref l ∧ vs = [] ∧ H l = some (.lst xs) ∧ Q .non (upd H l (.lst xs.reverse))
def rClear : V → List V → Hp → VK → Prop := fun x vs H Q => ∃ l xs, x = .ref l ∧ vs = [] ∧ H l = some (.lst xs) ∧ Q .non (upd H l (.lst []))
def rCat : R2 := fun x y H Q => ∃ l b xs zs, x = .ref l ∧ y = .ref b ∧ H l = some (.lst xs) ∧ H b = some (.lst zs) ∧ xs.length + zs.length ≤ sizeLine ∧ ∀ p, H p = none → Q (.ref p) (upd H p (.lst (xs ++ zs)))
theorem op_cat : OpR X (binaryOp .Add) rCat := by
  intro pins s σ H x y v u Q I rx ry h
  obtain ⟨l, b, xs, zs, rfl, rfl, hH, hB, hz, q⟩ := h
  cases rx
  cases ry
  obtain ⟨z, its, n, r, hl, e⟩ := I.lstM hH
  obtain ⟨z2, its2, n2, r2, hl2, e2⟩ := I.lstM hB
  refine PySem.P.add_list e e2 ?_ (by rw [List.size_toArray, List.size_toArray]; omega)
  have ea : its.toArray ++ its2.toArray = (its ++ its2).toArray := by simp
  rw [ea]
  exact ⟨.ref _, _, I.lnew (t' := s.toks) (r.append r2) (by rw [List.length_append]; omega), rfl, q _ I.fresh⟩
def rRep : R2 := fun x y H Q => ∃ l k xs, x = .ref l ∧ y = .int k ∧ H l = some (.lst xs) ∧ -(2 ^ 63) ≤ k ∧ k < 2 ^ 63 ∧ xs.length * k.toNat ≤ sizeLine ∧
  ∀ p, H p = none → Q (.ref p) (upd H p (.lst (List.replicate k.toNat xs).flatten))
theorem len_rep {α : Type} (xs : List α) (k : Nat) : (List.replicate k xs).flatten.length = k * xs.length := by
  induction k with
  | zero => simp
  | succ k ih => rw [List.replicate_succ, List.flatten_cons, List.length_append, ih, Nat.succ_mul, Nat.add_comm]
end

section
variable {prog : Program} {w : World} {A : Around} {E : Value → Shared → Prop} {s : Shared}
end

section
variable {X : Cx}
end
end L2

namespace Att
open PySem PySem.W PySem.Calls PyProof.Rows

theorem ints_of_wellAll {P : Params} {h : Heap} : ∀ (ns : List Int) (vs : List Value), WellAll P h vs (ns.map WData.int) → IntsAre vs ns := by
  intro ns
  induction ns with
  | nil =>
    intro vs w
    rw [List.map_nil] at w
    cases w
    exact .nil
  | cons n ns ih =>
    intro vs w
    rw [List.map_cons] at w
    cases w with
    | cons a b =>
      cases a
      exact .cons _ _ (ih _ b)

theorem script_of {l : OpenLaw} {n : Nat} (hn : l.most = some n) {P : Params} {h : Heap} {args : List WData} {vals : List Value}
    (hpre : l.row.toRowW.claim.pre args = true) (hwl : WellAll P h vals args) :
    ∃ a vs ns, vals = [Value.ref a] ∧ args = [WData.list (ns.map WData.int)] ∧ h.get? a = some { cls := .type "list", data := .seq vs.toArray } ∧ IntsAre vs ns ∧ ns.length ≤ n := by
  have hsh : WShape.hasAll [] args [.list .int] = true := (pre_splitW hpre).1
  have hc : l.pre.holds [] { args := args } = true := (pre_splitW hpre).2
  obtain ⟨d, r, rfl, h1, h2⟩ := hasAllW_cons hsh
  obtain rfl := hasAllW_nil h2
  obtain ⟨xs, rfl, h3⟩ := hasW_list h1
  obtain ⟨ns, rfl⟩ := items_int h3
  have hlen : ns.length ≤ n := by
    unfold OpenLaw.pre at hc
    have h4 : (WTm.not (.lt (.lit (.int (n : Int))) (.len (.arg 0)))).holds [] { args := [.list (ns.map .int)] } = true := by
      have h4 := (holds_andW hc).1
      rw [hn] at h4
      exact h4
    have h5 := condW_of h4 (w_not (w_lt w_lit (w_len_list (w_arg rfl))))
    rw [List.length_map] at h5
    refine Nat.le_of_not_lt fun q => ?_
    have q' : (n : Int) < ((ns.length : Nat) : Int) := by omega
    first
      | (rw [decide_eq_true q'] at h5; exact absurd h5 (by decide))
      | (simp at h5; omega)
  cases hwl with
  | cons w1 w2 =>
    cases w2
    cases w1 with
    | list ho hall => exact ⟨_, _, ns, rfl, rfl, ho, ints_of_wellAll ns _ hall, hlen⟩

theorem post_true (l : OpenLaw) (args : List WData) : l.row.toRowW.claim.post args (.bool true) args = true :=
  postW_of (r := l.row.toRowW) (X := (true == true))
    (show WShape.has [] (.bool true) .bool = true by first | rfl | decide | simp [WShape.has, WShape.arms, WShape.armsAll])
    (show (WTm.eq .res (.lit (.bool true))).value [] { args := args, res := some (.bool true), after := args } = some (.bool (true == true)) from w_eq_bool (w_res rfl) w_lit) rfl

theorem attach_call {l : OpenLaw} {n : Nat} {q : Program} {loose : List Str} {XP : (Str → Option Value) → Heap → Prop} {YP : World → Heap → Prop} {d : DefRec}
    (hn : l.most = some n) (hdf : d.params.defaults = [])
    (call : ∀ (w : World) (s₀ s₁ : Shared) (mg mb : Str → Option Value) (fa : Addr) (o : Obj) (pm cd doc : Value) (a : Addr) (vs : List Value) (ns : List Int),
      Ground q loose [] XP w s₀ mg mb s₁.heap → YP w s₁.heap →
      s₁.heap.get? fa = some o → o.data = .func (docDef d.name d.params d.body d.scope pm cd doc) → s₁.heap.CodeRec cd d.name → mg d.name = some (.ref fa) →
      s₁.heap.get? a = some { cls := .type "list", data := .seq vs.toArray } → IntsAre vs ns → ns.length ≤ n → s₁.gens = #[] →
      codeAny (model l.prog w) callerA (.call (.ref fa) ⟨[.ref a], []⟩) (fun r s' => r = .ok (.ret (.bool true)) ∧ OldK s₁.heap s'.heap ∧ s'.os = s₁.os ∧ AllBare s'.gens) s₁) :
    WalkO q loose XP YP l.row.toRowW d [] (fun f vs => PySem.call f vs) := by
  intro w s₀ s₁ mg mb G Y fa o pm cd doc dV kV ho hd hcd hD hmg hg args vals as hpre hlay hrd hwl hlo
  obtain rfl : dV = .none := Dflts.none hD hdf
  obtain rfl : kV = .none := Dflts.noKw hD
  obtain ⟨a, vs, ns, rfl, rfl, hobj, hints, hlen⟩ := script_of hn hpre hwl
  refine enter_call (codeAny_mono (call w s₀ s₁ mg mb fa o pm cd doc a vs ns G Y ho (fd_plain hd) hcd hmg hobj hints hlen hg) fun r s' hq => ?_)
  obtain ⟨rfl, h2, h3, h4⟩ := hq
  exact ⟨.inl ⟨.bool true, .bool true, [], rfl, fun _ => rfl, .bool true, post_true l _, fun _ => ⟨List.Pairwise.nil, fun _ hm => (nomatch hm)⟩⟩, h2, h3, h4⟩

section
variable {prog : Program} {w : World} {A : Around} {E : Value → Shared → Prop} {s : Shared} {K : Frag}

def noObjs (h : Heap) : Heap := { h with objs := #[] }
def ledger (h : Heap) (L d : Addr) : List (Addr × Obj) := (List.range h.objs.size).filterMap fun a => if a = L ∨ a = d then none else (h.get? a).map fun o => (a, o)
end
end Att

namespace L2
open PySem PySem.Spec PyProof.Rows

theorem vals_ints : ∀ {vs : List Value} {ns : List Int}, IntsAre vs ns → Vals (ns.map V.int) vs
  | _, _, .nil => .nil
  | _, _, .cons n t h => .cons ⟨t, rfl⟩ (vals_ints h)

def Only (H : Hp) : Prop := ∀ b, H b = none ∨ ∃ o xs, H b = some (.frz o (.lst xs))

theorem law_call {P : Program} {w : World} {K : PySem.W.Frag} {mg mb : Str → Option Value} {CX : CXT} {k : Nat} {fa a : Addr} {fd : FuncData} {x : Str} {sp : Sp} {s₁ : Shared} {vs : List Value} {ns : List Int}
    (KX : K.In s₁.heap) (hns : s₁.heap.Ns mainGlobals mg) (hb : s₁.heap.Ns builtinsNs mb) (hbb : ∀ x : Str, x ≠ "__name__" → mb x = bootBuiltins x) (hlim : s₁.heap.NoLimit) (hg : s₁.gens = #[])
    (ha : s₁.heap.get? a = some { cls := .type "list", data := .seq vs.toArray }) (hi : IntsAre vs ns) (hl : ns.length ≤ sizeLine) (hr : Room k callerA)
    (F : ∀ base : Heap, K.In base → base.Ns mainGlobals mg → FnOk P w K mg base CX k fa fd [x] sp) (hbind : ∀ (s : Shared) (u : Value), BindsTo s fd ⟨[u], []⟩ [(x, u)])
    (hsp : ∀ H : Hp, Only H → SqL K H a (ns.map V.int) → sp [.ref a] H (fun v _ => v = .bl true) fun _ _ _ => False)
    (hCX : ∀ H e s', CX [] H s₁ (fun _ _ _ => False) e s' → False) :
    codeAny (model P w) callerA (.call (.ref fa) ⟨[.ref a], []⟩) (fun r s' => r = .ok (.ret (.bool true)) ∧ OldK s₁.heap s'.heap ∧ s'.os = s₁.os ∧ AllBare s'.gens) s₁ := by
  have rv := vals_ints hi
  have lenV := hi.length
  -- from an abstract heap in which nothing but the script may be tracked
  have core : ∀ H : Hp, Only H → SqL K H a (ns.map V.int) → HOk P w H s₁.heap → (∀ b, H b ≠ none → b = a) → (H a ≠ none → K.lookup a = none) →
      codeAny (model P w) callerA (.call (.ref fa) ⟨[.ref a], []⟩) (fun r s' => r = .ok (.ret (.bool true)) ∧ OldK s₁.heap s'.heap ∧ s'.os = s₁.os ∧ AllBare s'.gens) s₁ := by
    intro H hO hS hok hA hK
    have base_of : ∀ {b : Addr} {o : Obj}, s₁.heap.get? b = some o → H b = none → (hidT s₁.heap H).get? b = some o := fun e n => hidT_get e n
    have noA : ∀ {b : Addr} {o : Obj} {es : Array DictEntry} {ep : Nat}, s₁.heap.get? b = some o → o.data = .dict es ep → H b = none := fun {b o es ep} e d => by
      cases q : H b with
      | none => rfl
      | some u =>
        have e' : b = a := hA b (by rw [q]; simp)
        subst e'
        rw [ha] at e; cases e
        have d' : Data.seq vs.toArray _ = Data.dict es ep := d
        cases d'
    have nsK : ∀ {b : Addr} {m : Str → Option Value}, s₁.heap.Ns b m → (hidT s₁.heap H).Ns b m := fun {b m} ⟨o, es, ep, e, d, r⟩ => ⟨o, es, ep, base_of e (noA e d), d, r⟩
    have hKb : K.In (hidT s₁.heap H) := fun b o e => base_of (KX b o e) (by
      cases q : H b with
      | none => rfl
      | some u =>
        have e' : b = a := hA b (by rw [q]; simp)
        subst e'
        rw [hK (by rw [q]; simp)] at e; cases e)
    have hM : Mod K mg (hidT s₁.heap H) := ⟨hKb, nsK hns, ⟨mb, nsK hb, hbb⟩, let ⟨mc, h1, h2⟩ := hlim; ⟨mc, nsK h1, h2⟩⟩
    have e0 : Env0 P w K mg (hidT s₁.heap H) callerA [] s₁ H := ⟨rfl, hM, fun b o e => of_hidT e, Nat.le_of_eq (hidT_size _ _), trivial, fun b hb => absurd (show b ∈ ([] : List Addr) from hb) (by simp), hok, .of_eq hg⟩
    refine codeAny_mono ((F _ hKb (nsK hns)).run callerA [] s₁ H ⟨[.ref a], []⟩ [.ref a] [.ref a] _ _ hr e0 (hbind s₁ (.ref a)) (.cons rfl .nil) (hsp H hO hS)) fun r s' h => ?_
    cases r with
    | error e => exact (hCX H e s' h).elim
    | ok fl =>
      cases fl with
      | next => exact False.elim h
      | brk => exact False.elim h
      | cont => exact False.elim h
      | ret u =>
        obtain ⟨v, H', os, bare, un, hok', r', q⟩ := h
        have q' : v = .bl true := q
        subst q'
        obtain rfl : u = Value.bool true := r'
        refine ⟨rfl, OldK.of_keep fun b o e => ?_, os, bare⟩
        cases q : H b with
        | none => exact un.keep b o e q (by intro z; exact absurd (show b ∈ ([] : List Addr) from z) (by simp)) (by simp)
        | some u =>
          rcases hO b with z | ⟨ob, xs, z⟩
          · rw [q] at z; cases z
          · have z2 := un.frzs b ob _ z
            obtain ⟨e1, _⟩ := hok b _ z
            obtain ⟨e2, _⟩ := hok' b _ z2
            rw [e] at e1; cases e1
            exact e2
  cases hk : K.lookup a with
  | some o =>
    -- the script is one of the module's own objects
    have e := KX a o hk
    rw [ha] at e
    cases e
    refine core (fun _ => none) (fun _ => .inl rfl) (.inr ⟨_, vs.toArray, _, hk, rfl, rfl, rfl, by rw [List.size_toArray, lenV]; exact hl, by simpa using rv⟩) (fun b u z => by have z' : (none : Option HO) = some u := z; cases z') (fun b z => absurd rfl z) fun z => absurd rfl z
  | none =>
    refine core (fun b => if b = a then some (.frz { cls := .type "list", data := .seq vs.toArray } (.lst (ns.map V.int))) else none) (fun b => ?_) (.inl (.inr ⟨{ cls := .type "list", data := .seq vs.toArray }, if_pos rfl⟩)) (fun b u z => ?_) (fun b z => ?_) fun _ => hk
    · by_cases hb : b = a
      · exact .inr ⟨_, _, if_pos hb⟩
      · exact .inl (if_neg hb)
    · by_cases hb : b = a
      · have z' := (if_pos hb).symm.trans z
        cases z'
        subst hb
        exact ⟨ha, by rw [List.length_map]; exact hl, vs, _, rv, ha⟩
      · have z' := (if_neg hb).symm.trans z
        cases z'
    · by_cases hb : b = a
      · exact hb
      · exact absurd (if_neg hb) z
end L2

namespace L2
open PySem PySem.Spec PyProof.Rows

abbrev KOf {K : PySem.W.Frag} {h : Heap} (_ : K.In h) : PySem.W.Frag := K

theorem walk_of {l : PySem.W.OpenLaw} {n k : Nat} {q : Program} {loose : List Str} {XP : (Str → Option Value) → Heap → Prop} {YP : World → Heap → Prop} {d : DefRec} {K : Params → PySem.W.Frag} {CX : World → CXT} {sp : World → Sp} {x : Str}
    (hn : l.most = some n) (hn2 : n ≤ sizeLine) (hdf : d.params.defaults = []) (hr : Room k callerA)
    (hY : ∀ (w : World) (h : Heap), YP w h → (K w.params).In h)
    (F : ∀ (w : World) (mg : Str → Option Value) (fa : Addr) (h : Heap), (K w.params).In h → h.Ns mainGlobals mg → mg d.name = some (.ref fa) →
      ∃ fd : FuncData, (∀ (s : Shared) (u : Value), BindsTo s fd ⟨[u], []⟩ [(x, u)]) ∧
        ∀ base : Heap, (K w.params).In base → base.Ns mainGlobals mg → FnOk l.prog w (K w.params) mg base (CX w) k fa fd [x] (sp w))
    (hsp : ∀ (w : World) (H : Hp) (a : Addr) (ns : List Int), ns.length ≤ n → Only H → SqL (K w.params) H a (ns.map V.int) → sp w [.ref a] H (fun v _ => v = .bl true) fun _ _ _ => False)
    (hCX : ∀ (w : World) (H : Hp) (s : Shared) (e : Value) (s' : Shared), CX w [] H s (fun _ _ _ => False) e s' → False) :
    PySem.W.WalkO q loose XP YP l.row.toRowW d [] (fun f vs => PySem.call f vs) := by
  refine Att.attach_call hn hdf fun w s₀ s₁ mg mb fa o pm cd doc a vs ns G Y ho hd hcd hmg hobj hints hlen hg => ?_
  have KX := hY w _ Y
  obtain ⟨fd, hb, hF⟩ := F w mg fa _ KX G.T.g hmg
  exact law_call KX G.T.g G.T.b G.T.builtins G.T.nolimit hg hobj hints (Nat.le_trans hlen hn2) hr hF hb (fun H hO hS => hsp w H a ns hlen hO hS) fun H e s' => hCX w H s₁ e s'
end L2

/- THE LAST THEOREM (shape; LID, My.* are yours):
   My.Adr: a structure of the addresses that your layer names (classes, functions); My.Txt K t: a structure (Prop) of the equations over K;
   My.txt_mk : {K} {implicit addresses ..} (e1 : nsIn K mainGlobals "law" = some (some (.ref f))) (e2 : K.lookup f = some ⟨oc, od, .func (fnOf "law" "law" params body scope dV kV doc pm an cdv ct), sl⟩) (e3 : codeIn K cdv "law" = true) .. : ∃ t, My.Txt K t

set_option maxRecDepth 100000 in
set_option maxHeartbeats 0 in
theorem PySem.Challenge.cw_LID_holds : PySem.Challenge.rw_LID.Holds := by
  w_on; o_law; k_head; (case hw => w_witness2)
  k_fill
  refine L2.walk_of (l := PySem.Challenge.rw_LID) (n := 63) (k := 40) (x := "script") (CX := fun w => ..) (sp := fun _ => My.sp_law) rfl (by decide) rfl ⟨rfl, by decide, by decide⟩ (fun w h Y => PySem.W.kIn_of Y) ?F ?S ?C
  case F =>
    intro w mg fa h KX G hmg
    have T : ∃ t, My.Txt (L2.KOf KX) t := by
      dsimp only [L2.KOf]                          -- K must stand as «<heap const> w.params» for k_is
      refine' My.txt_mk ?e1 ?e2 ?e3 ..
      (case e1 => PySem.W.k_is)                    -- in the order: a name -> its address -> its object -> its parts
      (case e2 => PySem.W.k_is)
      ..
    obtain ⟨t, T⟩ := T
    have e0 := hmg.symm.trans (PySem.W.mg_of KX G T.law)
    cases e0                                       -- fa is the law's own address
    exact ⟨_, fun s u => .of_eq rfl, fun base kb nb => My.law_fn T kb nb⟩     -- if «.of_eq rfl» comes too early: refine' ⟨_, ?b, fun base kb nb => My.law_fn T kb nb⟩; exact fun s u => .of_eq rfl
  case S => exact fun w H a ns hl hO hS => ..
  case C => exact ..
(the tactic k_is has no namespace: write k_is) -/

namespace L2
open PySem PySem.Spec PyProof.Rows

def inClass (s : Stmt) (j : Nat) : Stmt := match s with
  | .ClassDef _ _ _ body _ _ _ _ _ _ _ => body.getD j (.Pass ⟨0, 0, 0, 0⟩)
  | _ => .Pass ⟨0, 0, 0, 0⟩
def defArgs (s : Stmt) : Arguments := match s with
  | .FunctionDef _ a _ _ _ _ _ _ _ _ => a
  | _ => { posonlyargs := [], args := [], vararg := none, kwonlyargs := [], kw_defaults := [], kwarg := none, defaults := [] }
def defBody (s : Stmt) : List Stmt := match s with
  | .FunctionDef _ _ b _ _ _ _ _ _ _ => b
  | _ => []
def defScope (s : Stmt) : Scope := match s with
  | .FunctionDef _ _ _ _ _ _ sc _ _ _ => sc
  | _ => { kind := .function, names := [], isGenerator := false, isCoroutine := false }

abbrev CX0 : CXT := fun _ _ _ _ _ _ => False
abbrev E0 : XK := fun _ _ _ => False
theorem pass0 {X : Cx} : Passes CX0 X E0 := fun _ _ _ _ _ _ _ h => h.elim

structure Fun (K : PySem.W.Frag) (x qual : Str) (st : Stmt) (f : Addr) (fd : FuncData) : Prop where
  ex : ∃ (oc : Value) (od : Option Addr) (kV doc pm : Value) (an : Option Addr) (cdv ct : Value) (osl : Array (Option Value)),
    fd = PySem.W.fnOf x qual (defArgs st) (defBody st) (defScope st) .none kV doc pm an cdv ct ∧ K.lookup f = some ⟨oc, od, .func fd, osl⟩ ∧ PySem.W.codeIn K cdv qual = true
  kp : PySem.W.keepIn K (.ref f) = true
section
variable {P : Program} {w : World} {K : PySem.W.Frag} {mg : Str → Option Value} {base : Heap}
theorem Fun.ok {x qual : Str} {st : Stmt} {f : Addr} {fd : FuncData} {N ps : List Str} {k : Nat} {sp : Sp} (F : Fun K x qual st f fd) (S : FnScope N ps (defScope st)) (len : ∀ vs H Q E, sp vs H Q E → vs.length = ps.length)
    (hbody : ∀ (cdv : Value) (A : Around) (outer : List Env) (s : Shared) (H : Hp) (vs : List V) (Q : VK) (E : XK), Room k (A.deeper (envOfC qual (defScope st) s.heap.objs.size f cdv)) → sp vs H Q E →
      ∃ t, PSs (cxOf CX0 P w K mg base N qual (defScope st) f cdv A outer s H E).nox (defBody st) t ∧ t { nx := fun _ H' => Q .non H', rt := Q } (start N vs) H) : FnOk P w K mg base CX0 (k + 1) f fd ps sp := by
  obtain ⟨oc, od, kV, doc, pm, an, cdv, ct, osl, rfl, lk, hcd⟩ := F.ex
  refine fn_of lk hcd S len fun A outer s H vs Q E hr hsp => ?_
  obtain ⟨t, h, q⟩ := hbody cdv A outer s H vs Q E hr hsp
  exact ⟨t, h.nox, q⟩
theorem Fun.binds {x qual : Str} {st : Stmt} {f : Addr} {fd : FuncData} {ps : List Str} (F : Fun K x qual st f fd)
    (h : ∀ (kV doc pm : Value) (an : Option Addr) (cdv ct : Value) (us : List Value), us.length = ps.length → bindArgs (PySem.W.fnOf x qual (defArgs st) (defBody st) (defScope st) .none kV doc pm an cdv ct) ⟨us, []⟩ = pure (ps.zip us)) : Binds K fd ps [] := by
  obtain ⟨oc, od, kV, doc, pm, an, cdv, ct, osl, rfl, lk, hcd⟩ := F.ex
  exact .all (h kV doc pm an cdv ct)
theorem fun_mk {x qual : Str} {st : Stmt} {f : Addr} {oc : Value} {od an : Option Addr} {osl : Array (Option Value)} {kV doc pm cdv ct : Value} (l : K.lookup f = some ⟨oc, od, .func (PySem.W.fnOf x qual (defArgs st) (defBody st) (defScope st) .none kV doc pm an cdv ct), osl⟩)
    (c : PySem.W.codeIn K cdv qual = true) (k : PySem.W.keepIn K (.ref f) = true) : Fun K x qual st f (PySem.W.fnOf x qual (defArgs st) (defBody st) (defScope st) .none kV doc pm an cdv ct) := ⟨⟨oc, od, kV, doc, pm, an, cdv, ct, osl, rfl, l, c⟩, k⟩
end
theorem small1000 {n : Nat} (h : n ≤ 1000) : n < sizeLine := Nat.lt_of_le_of_lt h (by decide)

section
variable {X : Cx}
theorem pv (i : Nat) {x : Str} {pos : Pos} (hN : X.N[i]? = some x := by rfl) (hv : Vis X.env.scope x := by first | exact Or.inl rfl | exact Or.inr (Or.inl rfl) | exact Or.inr (Or.inr rfl)) (hd : (x == ("__debug__" : Str)) = false := by decide)
    (hcd : (x == ("__classdict__" : Str)) = false := by decide) : PE X (.Name x pos) (tVar i) := pe_var hN hv hd hcd
end

def Same (H H' : Hp) : Prop := ∀ b o, H b = some o → H' b = some o
theorem Same.refl (H : Hp) : Same H H := fun _ _ h => h
theorem Same.trans {H H1 H2 : Hp} (a : Same H H1) (b : Same H1 H2) : Same H H2 := fun c o h => b c o (a c o h)
theorem Same.free {H H' : Hp} (e : Same H H') {l : Addr} (h : H' l = Option.none) : H l = Option.none := by
  cases q : H l with
  | none => rfl
  | some o =>
    rw [e l o q] at h
    cases h
theorem Same.seq {K : PySem.W.Frag} {H H' : Hp} {a : Addr} {xs : List V} (e : Same H H') (h : SqL K H a xs) : SqL K H' a xs := by
  rcases h with (h | ⟨o, h⟩) | h
  · exact .inl (.inl (e _ _ h))
  · exact .inl (.inr ⟨o, e _ _ h⟩)
  · exact .inr h

end L2

set_option Elab.async false
set_option linter.all false
set_option maxRecDepth 100000
set_option maxHeartbeats 4000000
namespace L2
open PySem PySem.Spec PyProof.Rows

theorem comp_loop {prog : Program} {w : World} {A : Around} {R : Result → Shared → Prop} {s : Shared} {elt target iter : Expr} {ifs : List Expr} {scope : Scope} {pos : Pos} {it acc : Value} {env : Env} (I : Nat → Shared → Prop)
    (turn : ∀ n s, I n s → wpAny (model prog w) A (pyNext it) (fun r s₁ => match r with
      | none => R (.ok .next) s₁
      | some v => wpAny (model prog w) A (letOwnedTupleGo target it v) (fun _ s₁' => wpAny (model prog w) A (assign target env v) (fun _ s₂ =>
          wpAny (model prog w) A (forIn ifs true fun c r => if r = true then do let ok ← isTrue c env (eval c env); pure (ForInStep.yield ok) else pure (ForInStep.yield r)) (fun ok s₃ =>
            if ok = true then wpAny (model prog w) A (eval elt env) (fun x s₄ =>
              wpAny (model prog w) A (call (.builtin "list.append") [acc, x]) (fun _ s₅ => ∃ m, m < n ∧ I m s₅) (fun _ _ => False) s₄) (fun _ _ => False) s₃
            else ∃ m, m < n ∧ I m s₃) (fun _ _ => False) s₂) (fun _ _ => False) s₁') (fun _ _ => False) s₁) (fun _ _ => False) s)
    (n : Nat) (h : I n s) :
    codeAny (model prog w) A (.compLoop (.ListComp elt [⟨target, iter, ifs, 0⟩] scope pos) 0 it acc env) R s := by
  refine codeAny_loop rfl I (fun n s hI => ?_) n h
  show wpAny _ A ((compTurn (.ListComp elt [⟨target, iter, ifs, 0⟩] scope pos) 0 it acc env).onRaise (fun x => do noteFrame x env; theTreesLotGoes x)) _ _ s
  refine wpAny_noted ?_
  rw [compTurn_list]
  refine wpAny_bind (wpAny_standAt (wpAny_bind (wpAny_mono (turn n s hI) (fun r s₁ h₁ => ?_) fun _ _ z => False.elim z)))
  cases r with
  | none => exact wpAny_pure h₁
  | some v =>
    refine wpAny_bind (wpAny_mono h₁ (fun _ s₁' h₁' => ?_) fun _ _ z => False.elim z)
    refine wpAny_bind (wpAny_mono h₁' (fun _ s₂ h₂ => wpAny_bind (wpAny_mono h₂ (fun ok s₃ h₃ => ?_) fun _ _ z => False.elim z)) fun _ _ z => False.elim z)
    cases ok with
    | false => exact wpAny_pure ⟨rfl, h₃⟩
    | true =>
      exact wpAny_bind (wpAny_bind (wpAny_mono h₃ (fun x s₄ h₄ => wpAny_bind (wpAny_mono h₄ (fun _ s₅ h₅ => wpAny_pure (wpAny_pure ⟨rfl, h₅⟩)) fun _ _ z => False.elim z)) fun _ _ z => False.elim z))

def clGo (cells : List (Str × Addr)) : List (Str × NameKind) → List (Str × Addr) → List (Str × Addr)
  | [], acc => acc
  | (n, k) :: r, acc => if k == .free then clGo cells r ((n, (cells.lookup n).getD 0) :: acc) else clGo cells r acc
theorem clos_go {env : Env} : ∀ (names : List (Str × NameKind)) (acc : List (Str × Addr)), (∀ y ∈ names, y.2 = .free → ∃ c, env.cells.lookup y.1 = some c) →
    (forIn names acc fun x r => if (x.snd == NameKind.free) = true then do let a ← cellOf env x.fst; pure (ForInStep.yield ((x.fst, a) :: r)) else pure (ForInStep.yield r)) = (pure (clGo env.cells names acc) : Sem _)
  | [], acc, _ => rfl
  | (n, k) :: r, acc, h => by
    rw [List.forIn_cons]
    have hr : ∀ y ∈ r, y.2 = .free → ∃ c, env.cells.lookup y.1 = some c := fun y hy => h y (List.mem_cons_of_mem _ hy)
    by_cases hk : k = .free
    · subst hk
      obtain ⟨c, hc⟩ := h (n, .free) List.mem_cons_self rfl
      have ih := clos_go r ((n, c) :: acc) hr
      simp only [clGo, beq_self_eq_true, if_true, cellOf, hc, Option.getD_some, pure_bind]
      exact ih
    · have hb : (k == NameKind.free) = false := by simpa using hk
      have ih := clos_go r acc hr
      simp only [clGo, hb, Bool.false_eq_true, if_false, pure_bind]
      exact ih
theorem clos_eq {scope : Scope} {env : Env} (h : ∀ y ∈ scope.names, y.2 = .free → ∃ c, env.cells.lookup y.1 = some c) : closureFor scope env = pure (clGo env.cells scope.names []) := by
  have e := clos_go (env := env) scope.names [] h
  simp only [closureFor]
  rw [e]
  rfl
theorem clGo_sub {cells : List (Str × Addr)} : ∀ (names : List (Str × NameKind)) (acc : List (Str × Addr)), (∀ y ∈ names, y.2 = .free → ∃ c, cells.lookup y.1 = some c) → (∀ y c, acc.lookup y = some c → cells.lookup y = some c) →
    ∀ y c, (clGo cells names acc).lookup y = some c → cells.lookup y = some c
  | [], acc, _, ha, y, c, e => ha y c e
  | (n, k) :: r, acc, h, ha, y, c, e => by
    have hr : ∀ y ∈ r, y.2 = .free → ∃ c, cells.lookup y.1 = some c := fun y hy => h y (List.mem_cons_of_mem _ hy)
    by_cases hk : k = .free
    · subst hk
      obtain ⟨d, hd⟩ := h (n, .free) List.mem_cons_self rfl
      simp only [clGo, beq_self_eq_true, if_true] at e
      refine clGo_sub r _ hr (fun z b q => ?_) y c e
      rw [List.lookup_cons] at q
      cases hz : z == n with
      | true =>
        rw [hz] at q
        have : z = n := by simpa using hz
        subst this
        rw [hd] at q ⊢
        exact q
      | false => rw [hz] at q; exact ha z b q
    · have hb : (k == NameKind.free) = false := by simpa using hk
      simp only [clGo, hb, Bool.false_eq_true, if_false] at e
      exact clGo_sub r acc hr ha y c e
theorem clGo_acc {cells : List (Str × Addr)} : ∀ (names : List (Str × NameKind)) (acc : List (Str × Addr)) (y : Str), (∃ c, acc.lookup y = some c) → ∃ c, (clGo cells names acc).lookup y = some c
  | [], acc, y, h => h
  | (n, k) :: r, acc, y, h => by
    by_cases hk : (k == NameKind.free) = true
    · simp only [clGo, hk, if_true]
      refine clGo_acc r _ y ?_
      rw [List.lookup_cons]
      cases hz : y == n with
      | true => exact ⟨_, rfl⟩
      | false => exact h
    · simp only [clGo, hk, if_false]
      exact clGo_acc r acc y h
theorem clGo_has {cells : List (Str × Addr)} : ∀ (names : List (Str × NameKind)) (acc : List (Str × Addr)) (y : Str), (y, NameKind.free) ∈ names → ∃ c, (clGo cells names acc).lookup y = some c
  | (n, k) :: r, acc, y, h => by
    rcases List.mem_cons.mp h with e | h
    · cases e
      simp only [clGo, beq_self_eq_true, if_true]
      refine clGo_acc r _ _ ?_
      rw [List.lookup_cons]
      simp
    · by_cases hk : (k == NameKind.free) = true
      · simp only [clGo, hk, if_true]
        exact clGo_has r _ y h
      · simp only [clGo, hk, if_false]
        exact clGo_has r _ y h
theorem lookup_memC {β : Type} : ∀ {l : List (Str × β)} {y : Str} {b : β}, l.lookup y = some b → (y, b) ∈ l
  | [], _, _, e => by cases e
  | (n, k) :: r, y, b, e => by
    rw [List.lookup_cons] at e
    cases hz : y == n with
    | true =>
      rw [hz] at e
      have : y = n := by simpa using hz
      subst this
      cases e
      exact List.mem_cons_self
    | false => rw [hz] at e; exact List.mem_cons_of_mem _ (lookup_memC e)
theorem relabel_free {scope : Scope} {env : Env} {y : Str} (hc : ∀ z ∈ scope.names, z.2 ≠ .cell) (h : (relabel scope env).names.lookup y = some .cell ∨ (relabel scope env).names.lookup y = some .free) : (y, NameKind.free) ∈ scope.names := by
  have key : ∀ k, (relabel scope env).names.lookup y = some k → (k = .cell ∨ k = .free) → (y, NameKind.free) ∈ scope.names := fun k e hk => by
    have m := lookup_memC e
    obtain ⟨⟨n, k0⟩, hm, e0⟩ := List.mem_map.mp m
    dsimp only at e0
    split at e0
    · rename_i hh
      cases e0
      have : k0 = .free := by
        simp only [Bool.and_eq_true, beq_iff_eq] at hh
        exact hh.1.1
      subst this
      exact hm
    · cases e0
      rcases hk with rfl | rfl
      · exact absurd rfl (hc _ hm)
      · exact hm
  rcases h with h | h
  · exact key _ h (.inl rfl)
  · exact key _ h (.inr rfl)
theorem relabel_vis {env : Env} : ∀ {names : List (Str × NameKind)} {y : Str}, names.lookup y = some .free →
    (names.map fun (n, k) => if (k == NameKind.free && env.scope.kind == .function && env.kindOf n == some .cell) then (n, NameKind.cell) else (n, k)).lookup y = some .cell ∨
    (names.map fun (n, k) => if (k == NameKind.free && env.scope.kind == .function && env.kindOf n == some .cell) then (n, NameKind.cell) else (n, k)).lookup y = some .free
  | [], _, h => by simp at h
  | (n, k) :: r, y, h => by
    have ih := @relabel_vis env r y
    simp only [List.map_cons]
    cases hx : y == n with
    | true =>
      simp only [List.lookup_cons, hx] at h
      cases h
      by_cases hc : (NameKind.free == NameKind.free && env.scope.kind == .function && env.kindOf n == some .cell) = true
      · rw [if_pos hc]; left; simp only [List.lookup_cons, hx]
      · rw [if_neg hc]; right; simp only [List.lookup_cons, hx]
    | false =>
      simp only [List.lookup_cons, hx] at h
      by_cases hc : (k == NameKind.free && env.scope.kind == .function && env.kindOf n == some .cell) = true
      · rw [if_pos hc]; simp only [List.lookup_cons, hx]; exact ih h
      · rw [if_neg hc]; simp only [List.lookup_cons, hx]; exact ih h

def cxC (X : Cx) (scope : Scope) (cl : List (Str × Addr)) (N : List Str) (s₃ : Shared) (H₃ : Hp) (fp : List Addr) : Cx where
  prog := X.prog
  w := X.w
  K := X.K
  mg := X.mg
  base := X.base
  A := X.A
  N := N
  s₀ := s₃
  H₀ := H₃
  env := compEnvC scope cl s₃.heap.objs.size X.env
  outer := X.stack
  stack := X.stack
  ex := fp
  fn := fun _ => false
  calm := true
  pn := []
  xe := fun _ _ => False

structure CompOk (scope sc : Scope) (N0 : List Str) (js : List Nat) (os N : List Str) : Prop where
  kind : scope.kind = .function
  cell : ∀ y ∈ scope.names, y.2 ≠ .cell
  names : ∀ y ∈ scope.names, y.2 = .local → scope.names.lookup y.1 = some .local
  free : ∀ y ∈ scope.names, y.2 = .free → (sc.names.lookup y.1 = some .cell ∨ sc.names.lookup y.1 = some .free)
  slots : ∀ j ∈ js, ((N0[j]?).bind fun y => scope.names.lookup y) = some .free
  eq : N.map some = js.map (N0[·]?) ++ os.map some

def stC (js : List Nat) (os : List Str) (σ : St) : St := js.map (fun j => (σ[j]?).join) ++ List.replicate os.length none

def PIfs (X : Cx) (ifs : List Expr) (t : TT) : Prop :=
  ∀ (pins : List (Addr × Obj)) (s : Shared) (σ : St) (H : Hp) (Q : Bool → Hp → Prop), Inv X pins σ H s → t σ H Q →
    wpAny (model X.prog X.w) X.A (forIn ifs true fun c r => if r = true then do let ok ← isTrue c X.env (eval c X.env); pure (ForInStep.yield ok) else pure (ForInStep.yield r)) (TP X pins σ Q) X.xe s
def tYes : TT := fun _ H Q => Q true H
theorem pifs_nil {X : Cx} : PIfs X [] tYes := fun _ _ _ H _ I h => wpAny_pure ⟨H, I, h⟩
def tComp (js : List Nat) (os : List Str) (wi : TI) (g : TG) (tt : TT) (te : TE) : TE := fun σ H Q => wi σ H fun J H1 => ∀ p, H1 p = none →
  ∃ W : Nat → Nat → St → Hp → Prop, (∃ m, W 0 m (stC js os σ) (upd H1 p (.lst []))) ∧ ∀ i m σ H, W i m σ H →
    (J.stop i H ∧ Q (.ref p) H) ∨ (J.go i H ∧ ∀ x H', J.yld i H x H' → g x σ H' fun σ2 H2 => tt σ2 H2 fun b H3 =>
      if b = true then te σ2 H3 fun y H4 => ∃ ys, H4 p = some (.lst ys) ∧ ys.length < sizeLine ∧ ∃ m', m' < m ∧ W (i + 1) m' σ2 (upd H4 p (.lst (ys ++ [y])))
      else ∃ m', m' < m ∧ W (i + 1) m' σ2 H3)

section
variable {X : Cx}
theorem inv_comp {scope sc : Scope} {N0 N os : List Str} {js fp : List Nat} {pins : List (Addr × Obj)} {σ : St} {H₃ : Hp} {s₃ : Shared} {h' : Heap} {t' : Nat} {m : Str → Option Value}
    (hc : X.calm = true) (hsc : X.env.scope = sc) (hN : X.N = N0) (ok : CompOk scope sc N0 js os N) (I : Inv X pins σ H₃ s₃) (hf : ∀ b ∈ fp, FpOk X pins H₃ b) (hfs : ∀ b ∈ fp, b < s₃.heap.objs.size)
    (hns : h'.Ns s₃.heap.objs.size m) (hk : ∀ b o, s₃.heap.get? b = some o → h'.get? b = some o) :
    Inv (cxC X scope (clGo X.env.cells scope.names []) N s₃ H₃ fp) [] (stC js os σ) H₃ { s₃ with heap := h', toks := t' } := by
  have hfree : ∀ y ∈ scope.names, y.2 = .free → ∃ c, X.env.cells.lookup y.1 = some c := fun y hy e => I.ok.has _ (by
    have := ok.free y hy e
    rw [← hsc] at this
    exact this)
  have sub := clGo_sub (cells := X.env.cells) scope.names [] hfree (fun _ _ e => by cases e)
  have has : ∀ y, (y, NameKind.free) ∈ scope.names → ∃ c, (clGo X.env.cells scope.names []).lookup y = some c := fun y hy => clGo_has scope.names [] y hy
  refine ⟨⟨I.ok.mod, ok.kind, I.ok.glob, I.ok.blt, Nat.le_refl _, fun x y c e1 e2 => I.ok.inj x y c (sub _ _ e1) (sub _ _ e2), fun x e => has x (relabel_free ok.cell e), (fun _ _ e => by cases e), (fun _ => I.ok.hd hc), I.ok.frames, .inl rfl, ?_, ?_, ?_, ?_, ?_, I.stack, I.stkFree⟩,
    rfl, I.bare, Un.kept hk, ⟨m, hns, ?_⟩, ?_, I.hok.fresh (Nat.le_refl _), ?_, ?_, I.hok.kept hk, ?_⟩
  · exact fun b hb => ⟨Nat.ne_of_lt (hfs b hb), fun x c e => (hf b hb).2.2.2.2.1 x c (sub _ _ e)⟩
  · exact I.bs
  · exact Nat.le_trans I.ok.bsz I.sz
  · intro b o e hb
    rcases (hf b hb).2.2.2.1 with z | z
    · exact I.ok.noex b o e z
    · exact absurd (Nat.lt_of_lt_of_le (Heap.lt_size e) (Nat.le_trans I.ok.bsz z)) (Nat.lt_irrefl _)
  · intro b hb z
    rcases List.mem_cons.mp (I.stkSub b z) with e | e
    · exact (hf b hb).2.1 e
    · exact (hf b hb).2.2.1 e
  · intro i x v e1 e2 e3
    have hl : i < js.length := by
      apply Classical.byContradiction
      intro hh
      have e2' : (stC js os σ)[i]? = some (some v) := e2
      unfold stC at e2'
      rw [List.getElem?_append_right (by simpa using Nat.le_of_not_lt hh)] at e2'
      rw [List.getElem?_replicate] at e2'
      split at e2' <;> cases e2'
    have ej : js[i]? = some js[i] := List.getElem?_eq_getElem hl
    have e2' : (stC js os σ)[i]? = some (some v) := e2
    unfold stC at e2'
    rw [List.getElem?_append_left (by simpa using hl), List.getElem?_map, ej] at e2'
    have e2'' : (σ[js[i]]?).join = some v := Option.some.inj e2'
    have e1' : N[i]? = some x := e1
    have en : N0[js[i]]? = some x := by
      have q : (N.map some)[i]? = some (some x) := by rw [List.getElem?_map, e1']; rfl
      rw [ok.eq, List.getElem?_append_left (by simpa using hl), List.getElem?_map, ej] at q
      exact Option.some.inj q
    have hfr := ok.slots _ (List.getElem_mem hl)
    rw [en] at hfr
    replace hfr : scope.names.lookup x = some .free := hfr
    have eσ : σ[js[i]]? = some (some v) := by
      cases q : σ[js[i]]? with
      | none => rw [q] at e2''; cases e2''
      | some o => rw [q] at e2''; exact congrArg some e2''
    have kk := ok.free (x, .free) (lookup_memC hfr) rfl
    obtain ⟨m0, hn0, hl0⟩ := I.loc
    obtain ⟨u, r, l⟩ := hl0 js[i] x v (by rw [hN]; exact en) eσ (by rw [hsc]; exact .inr kk)
    refine ⟨u, r, .inr ⟨relabel_vis hfr, ?_⟩⟩
    rcases l with ⟨k, _⟩ | ⟨k, c, e, z⟩
    · have k' : sc.names.lookup x = some .local := by rw [← hsc]; exact k
      rcases kk with q | q <;> (dsimp only at q; rw [q] at k'; cases k')
    · obtain ⟨c', hc'⟩ := has x (lookup_memC hfr)
      have := sub _ _ hc'
      rw [e] at this; cases this
      exact ⟨c, hc', z.keeps hk⟩
  · intro x c e
    obtain ⟨v, z⟩ := I.cell x c (sub _ _ e)
    exact ⟨v, z.keeps hk⟩
  · exact fun x c e => I.freeC x c (sub _ _ e)
  · intro p hp
    cases hp
  · show (stC js os σ).length = N.length
    have := congrArg List.length ok.eq
    simp at this
    simp [stC, this]

theorem pe_comp {elt iter tg : Expr} {ifs : List Expr} {scope sc : Scope} {pos : Pos} {wi : TI} {g : TG} {tt : TT} {te : TE} {N0 N os : List Str} {js : List Nat}
    (hc : X.calm = true) (hsc : X.env.scope = sc) (hN : X.N = N0) (ok : CompOk scope sc N0 js os N) (hi : PI X tg iter wi)
    (hg : ∀ s₃ H₃ fp cl, PG (cxC X scope cl N s₃ H₃ fp) tg g) (ht : ∀ s₃ H₃ fp cl, PIfs (cxC X scope cl N s₃ H₃ fp) ifs tt) (he : ∀ s₃ H₃ fp cl, PE (cxC X scope cl N s₃ H₃ fp) elt te)
    (hs : ∀ x, foldedSetIterable iter X.env x = pure x := by intro _; rfl) :
    PE X (.ListComp elt [⟨tg, iter, ifs, 0⟩] scope pos) (tComp js os wi g tt te) := by
  intro pins s σ H Q I h
  rw [eval_ListComp]
  have hfree : ∀ y ∈ scope.names, y.2 = .free → ∃ c, X.env.cells.lookup y.1 = some c := fun y hy e => I.ok.has _ (by
    have := ok.free y hy e
    rw [← hsc] at this
    exact this)
  refine wpAny_comprehension_free (use := none) rfl hs (clos_eq hfree) ok.kind ok.names (thn (hi pins s σ H _ I h) fun v s1 h1 => thn h1 fun itv s2 h2 => ?_)
  obtain ⟨it, fp, tn, J, H1, e, I2, T, st2, f2, hW⟩ := h2
  subst e
  refine wpAny_newObj_type (wpAny_newFunctionEnv ok.cell (by intro y hy; simp at hy) (fun h₁ hns₁ hsb₁ => ?_) ok.kind)
  dsimp only at hns₁ hsb₁ ⊢
  have hfr : H1 s2.heap.objs.size = none := I2.fresh
  have I3 := I2.lnew (ys := []) (its := []) (t' := s2.toks) .nil (Nat.zero_le _)
  generalize hs3 : ({ s2 with heap := s2.heap.push { cls := .type "list", data := .seq ([] : List Value).toArray }, toks := s2.toks } : Shared) = s₃ at I3
  have eh : s2.heap.push { cls := .type "list", dict := none, data := .seq ([] : List Value).toArray } = s₃.heap := by rw [← hs3]
  rw [eh] at hns₁ hsb₁ ⊢
  have k23 : ∀ b o, s2.heap.get? b = some o → s₃.heap.get? b = some o := fun b o q => by rw [← eh]; exact Heap.get?_push_of_some _ q
  have lt2 : ∀ b ∈ fp, b < s2.heap.objs.size := fun b hb => by
    obtain ⟨o, q, _⟩ := T.obj _ _ st2 b hb
    exact Heap.lt_size q
  have sz3 : s2.heap.objs.size ≤ s₃.heap.objs.size := by rw [← eh, Heap.size_push]; exact Nat.le_succ _
  have f3 : ∀ b ∈ fp, FpOk X pins (upd H1 s2.heap.objs.size (.lst [])) b := fun b hb => ⟨by rw [upd_ne (Nat.ne_of_lt (lt2 b hb))]; exact (f2 b hb).1, (f2 b hb).2⟩
  have k34 : ∀ b o, s₃.heap.get? b = some o → h₁.get? b = some o := fun b o q => hsb₁.extBut b o (Nat.ne_of_lt (Heap.lt_size q)) (Heap.get?_push_of_some _ q)
  have I4 := inv_comp (t' := s₃.toks) hc hsc hN ok I3 f3 (fun b hb => Nat.lt_of_lt_of_le (lt2 b hb) sz3) hns₁ k34
  generalize hX' : cxC X scope (clGo X.env.cells scope.names []) N s₃ (upd H1 s2.heap.objs.size (.lst [])) fp = X' at I4
  obtain ⟨W, ⟨m0, w0⟩, turn⟩ := hW _ hfr
  have st4 : tn 0 h₁ := T.keep _ _ _ st2 fun b hb o q => k34 b o (k23 b o q)
  have stat : ∀ {H' : Hp}, (∀ b ∈ fp, H' b = none) → ∀ b ∈ fp, FpOk X' [] H' b := fun {H'} hn b hb => by
    subst hX'
    refine ⟨hn b hb, Nat.ne_of_lt (Nat.lt_of_lt_of_le (lt2 b hb) sz3), fun z => ?_, .inl hb, fun x c e => ?_, fun p hp => by cases hp⟩
    · rcases List.mem_cons.mp (I2.stkSub b z) with q | q
      · exact (f2 b hb).2.1 q
      · exact (f2 b hb).2.2.1 q
    · exact (f2 b hb).2.2.2.2.1 x c (clGo_sub (cells := X.env.cells) scope.names [] hfree (fun _ _ e => by cases e) _ _ e)
  have ePr : X'.prog = X.prog := by subst hX'; rfl
  have eW : X'.w = X.w := by subst hX'; rfl
  have eK : X'.K = X.K := by subst hX'; rfl
  have eA : X'.A = X.A := by subst hX'; rfl
  have eE : X'.env = compEnvC scope (clGo X.env.cells scope.names []) s₃.heap.objs.size X.env := by subst hX'; rfl
  have eC : X'.calm = true := by subst hX'; rfl
  have eX : X'.xe = fun _ _ => False := by subst hX'; rfl
  have hg' : PG X' tg g := by subst hX'; exact hg _ _ _ _
  have ht' : PIfs X' ifs tt := by subst hX'; exact ht _ _ _ _
  have he' : PE X' elt te := by subst hX'; exact he _ _ _ _
  have fin : ∀ {σ' : St} {H' : Hp} {s' : Shared}, Inv X' [] σ' H' s' → (∀ b ∈ fp, H' b = none) → Q (.ref s2.heap.objs.size) H' → compPost (model X.prog X.w) X.A X.xe none (EP X pins σ Q) (.ref s2.heap.objs.size) s₃.heap.objs.size (.ok .next) s' := by
    intro σ' H' s' I' hn q
    obtain ⟨m, hm, _⟩ := id I'.loc
    subst hX'
    refine ⟨m, hm, fun h'' sb => ⟨.ref s2.heap.objs.size, H', ?_, rfl, q⟩⟩
    have fC : H' s₃.heap.objs.size = none := I'.free
    have hok' : HOk X.prog X.w H' h'' := fun b ob e => by
      refine (I'.hok b ob e).stay (fun c w' hc' q' => (sb.2 c ?_).trans q') (fun _ q' => q') fun _ _ q' => q'
      rintro rfl
      rcases hc' with z | z
      · have e' := e; rw [← z] at e'; rw [fC] at e'; cases e'
      · rw [fC] at z; cases z
    have u1 : Un (frs X.stack) fp (upd H1 s2.heap.objs.size (.lst [])) H' s₃.heap h'' := by
      have b0 := I'.base
      have ne : ∀ b o, s₃.heap.get? b = some o → b ≠ s₃.heap.objs.size := fun b o e => Nat.ne_of_lt (Heap.lt_size e)
      exact ⟨fun b o e n hb hx => (sb.2 b (ne b o e)).trans (b0.keep b o e n hb hx), fun b o e n hb hx => by
          obtain ⟨sl, z⟩ := b0.slot b o e n hb hx
          exact ⟨sl, (sb.2 b (ne b o e)).trans z⟩, b0.free, fun b o e hx => by
          obtain ⟨o', z⟩ := b0.there b o e hx
          exact ⟨o', (sb.2 b (ne b o e)).trans z⟩, b0.tups, b0.frzs, b0.tbls⟩
    exact I3.call' (s' := { s' with heap := h'' }) (ch := fp) I'.os u1 hok' I'.bare fun b hb => ⟨(f2 b hb).2.2.2.1, (f2 b hb).2.1, (f2 b hb).2.2.2.2.1, (f2 b hb).2.2.2.2.2⟩
  have loop : codeAny (model X.prog X.w) X.A (.compLoop (.ListComp elt [⟨tg, iter, ifs, 0⟩] scope pos) 0 (.ref it) (.ref s2.heap.objs.size) (compEnvC scope (clGo X.env.cells scope.names []) s₃.heap.objs.size X.env))
      (compPost (model X.prog X.w) X.A X.xe none (EP X pins σ Q) (.ref s2.heap.objs.size) s₃.heap.objs.size) { s₃ with heap := h₁, toks := s₃.toks } := by
    refine comp_loop (fun n s' => ∃ i σ' H', Inv X' [] σ' H' s' ∧ tn i s'.heap ∧ (∀ b ∈ fp, H' b = none) ∧ W i n σ' H') ?_ m0 ⟨0, _, _, I4, st4, fun b hb => (f3 b hb).1, w0⟩
    rintro n s5 ⟨i, σ5, H5, I5, st5, fr5, w5⟩
    rw [← ePr, ← eW, ← eA, ← eE]
    rcases turn i n σ5 H5 w5 with ⟨stop, qn⟩ | ⟨go, step⟩
    · have := T.done X' ePr eW eK eC i [] s5 σ5 H5 X'.xe I5 (stat fr5) st5 stop
      rw [eX] at this
      rw [← ePr, ← eW] at this
      refine thn this fun r s6 ⟨hr, I6⟩ => ?_
      subst hr
      dsimp only
      rw [ePr, eW, eA]
      exact fin I6 fr5 qn
    · have := T.item X' ePr eW eK eC i [] s5 σ5 H5 X'.xe I5 (stat fr5) st5 go
      rw [eX] at this
      rw [← ePr, ← eW] at this
      refine thn this fun r s6 ⟨u, hr, h6⟩ => ?_
      subst hr
      dsimp only
      refine thn h6 fun _ s7 ⟨x, H7, I7, r7, y7, st7, fr7⟩ => ?_
      have I7' := I7.pinned (stat fr7) (T.obj _ _ st7)
      have g7 := hg' _ s7 σ5 H7 x u _ I7' r7 (step x H7 y7)
      rw [eX] at g7
      refine thn g7 fun _ s8 ⟨σ8, H8, I8, q8⟩ => ?_
      have t8 := ht' _ s8 σ8 H8 _ I8 q8
      rw [eX] at t8
      have again : ∀ {σ9 : St} {H9 : Hp} {s9 : Shared}, Inv X' ([] ++ pinsAt fp s7.heap) σ9 H9 s9 → tn (i + 1) s9.heap ∧ ∀ b ∈ fp, H9 b = none := fun {σ9 H9 s9} I9 => by
        refine ⟨T.keep _ _ _ st7 fun b hb o e => (I9.pin (b, o) (List.mem_append_right _ (List.mem_append_right _ (mem_pinsAt hb e)))).1, fun b hb => ?_⟩
        obtain ⟨o, e, d⟩ := T.obj _ _ st7 b hb
        exact (I9.pin (b, o) (List.mem_append_right _ (List.mem_append_right _ (mem_pinsAt hb e)))).2.1
      refine thn t8 fun b s9 ⟨H9, I9, q9⟩ => ?_
      cases b with
      | false =>
        rw [if_neg Bool.false_ne_true] at q9 ⊢
        obtain ⟨m', hm, w9⟩ := q9
        exact ⟨m', hm, i + 1, σ8, H9, I9.unpinned, (again I9).1, (again I9).2, w9⟩
      | true =>
        rw [if_pos rfl] at q9 ⊢
        have e9 := he' _ s9 σ8 H9 _ I9 q9
        rw [eX] at e9
        refine thn e9 fun y s10 ⟨z, H10, I10, r10, ys, hy, hlen, m', hm, w10⟩ => ?_
        have a10 := mt_append (X := X') _ s10 σ8 H10 (.ref s2.heap.objs.size) [z] _ _ (fun _ H11 => H11 = upd H10 s2.heap.objs.size (.lst (ys ++ [z]))) I10 rfl (.cons r10 .nil) ⟨_, ys, z, rfl, rfl, hy, hlen, rfl⟩
        rw [eX] at a10
        refine thn a10 fun _ s11 ⟨_, H11, I11, _, e11⟩ => ?_
        subst e11
        exact ⟨m', hm, i + 1, σ8, _, I11.unpinned, (again I11).1, (again I11).2, w10⟩
  have es : ({ s2 with heap := h₁, toks := s2.toks + ([] : List (Str × Value)).length } : Shared) = { s₃ with heap := h₁, toks := s₃.toks } := by rw [← hs3]; rfl
  rw [show ({ s2 with heap := h₁, toks := s2.toks + ([] : List (Str × Value)).length } : Shared) = { s₃ with heap := h₁, toks := s₃.toks } from es]
  exact codeAny_compStart_list loop (T.self _ 0 _ _ _ st4 loop)
end
end L2

set_option Elab.async false
set_option linter.all false
set_option maxRecDepth 100000
set_option maxHeartbeats 4000000
namespace L2
open PySem PySem.Spec PyProof.Rows
section
variable {prog : Program} {w : World} {A : Around} {E : Value → Shared → Prop} {s : Shared}
end
section
variable {X : Cx} {pos : Pos}
def gLst (K : PySem.W.Frag) (n : Nat) (t : TGs) : TG := fun v σ H Q => ∃ a xs, v = .ref a ∧ SqL K H a xs ∧ xs.length = n ∧ t xs σ H Q
def CMulW (i j : Int) : Prop := i.natAbs < 2 ^ 1048576 ∧ j.natAbs < 2 ^ 1048576
theorem op_mulW : OpR X (binaryOp .Mult) (rI (fun i j => IntMulOk i j) fun i j => .int (i * j)) := opI fun _ _ _ _ _ _ _ hc q => mul_int q hc
theorem mulOk_bits {i j : Int} (m n : Nat) (h1 : i.natAbs < 2 ^ m) (h2 : j.natAbs < 2 ^ n) (h : m + n ≤ 134217728) : IntMulOk i j := IntMulOk.of_le (intBits_le h1) (intBits_le h2) h
theorem mulOk_l {i j : Int} (h1 : -(2 ^ 64) < i) (h2 : i < 2 ^ 64) : IntMulOk i j := .of_left (intBits_le_64 h1 h2)
theorem mulOk_r {i j : Int} (h1 : -(2 ^ 64) < j) (h2 : j < 2 ^ 64) : IntMulOk i j := .of_right (intBits_le_64 h1 h2)
theorem op_fdivW : OpR X (binaryOp .FloorDiv) (rI (fun _ j => 0 < j ∧ j < 2 ^ 100) fun i j => .int (i / j)) := opI fun i j _ _ s Q E hc q => by
  refine floordiv_int (Int.ne_of_gt hc.1) (by rw [Int.fdiv_eq_ediv_of_nonneg _ (Int.le_of_lt hc.1)]; exact q) (.inl (PyProof.noPylong_of_log2 ?_))
  have h1 : j.natAbs < 2 ^ 100 := by omega
  have h0 : j.natAbs ≠ 0 := by omega
  have := (Nat.log2_lt h0).mpr h1
  omega

def tIsi (K : PySem.W.Frag) (c : Value) (t : TA) : TE := fun σ H Q => t σ H fun xs H1 => ∃ x y ty b, xs = [x, y] ∧ RelV y c ∧ TyOf K H1 x ty ∧ PySem.W.kitOne K ty c = some b ∧ Q (.bl b) H1
theorem call_isi {c : Value} : CallR X (.builtin "isinstance") (fun xs H Q => ∃ x y ty b, xs = [x, y] ∧ RelV y c ∧ (∃ n, c = .type n) ∧ TyOf X.K H x ty ∧ PySem.W.kitOne X.K ty c = some b ∧ Q (.bl b) H) := by
  intro pins s σ H xs us Q I rv h
  obtain ⟨x, y, ty, b, rfl, ry, ⟨n, rfl⟩, hty, hk, q⟩ := h
  obtain ⟨u, u', rfl, ru, ru'⟩ := rv.two
  have e : u' = .type n := by
    cases y with
    | ty m => have := (show Value.type n = Value.type m from ry); cases this; exact ru'
    | non => cases ry
    | bl _ => cases ry
    | int _ => obtain ⟨_, z⟩ := ry; cases z
    | str _ => obtain ⟨_, z⟩ := ry; cases z
    | byt _ => obtain ⟨_, z⟩ := ry; cases z
    | flt _ => obtain ⟨_, z⟩ := ry; cases z
    | ref _ => cases ry
  subst e
  exact isinst_ok I ru hty hk fun tk => ⟨.bl b, H, I.tok _, rfl, q⟩
theorem kit_int_int {K : PySem.W.Frag} : PySem.W.kitOne K (.type "int") (.type "int") = some true := rfl
theorem kit_of {K : PySem.W.Frag} {T U : String} {b : Bool} (h0 : (Value.type T == Value.type U) = false) (h1 : PySem.W.kitMeta U = true) (h2 : ((fastBuiltinMro T).map (·.contains (.type U))) = some b) : PySem.W.kitOne K (.type T) (.type U) = some b := by
  unfold PySem.W.kitOne
  rw [h0, if_neg Bool.false_ne_true]
  unfold PySem.W.kitCls
  dsimp only
  rw [h1, if_pos rfl]
  exact h2
theorem kit_int_bool {K : PySem.W.Frag} : PySem.W.kitOne K (.type "int") (.type "bool") = some false := kit_of (by decide +kernel) (by decide +kernel) (by decide +kernel)
theorem kit_tuple_tuple {K : PySem.W.Frag} : PySem.W.kitOne K (.type "tuple") (.type "tuple") = some true := rfl
end
end L2

set_option Elab.async false
set_option linter.all false
set_option maxRecDepth 100000
set_option maxHeartbeats 4000000
namespace L2
open PySem PySem.Spec PyProof.Rows
def FW (J : It) (g : TG) (tb : TS) (D : Ends) (σ : St) (H1 : Hp) : Prop := ∃ W : Nat → Nat → St → Hp → Prop, (∃ m, W 0 m σ H1) ∧ ∀ i m σ H, W i m σ H →
  (J.stop i H ∧ D.nx σ H) ∨ (J.go i H ∧ ∃ N : St → Hp → Prop, (∀ σ' H', N σ' H' → ∃ m', m' < m ∧ W (i + 1) m' σ' H') ∧ ∀ x H', J.yld i H x H' → g x σ H' fun σ2 H2 => tb { D with nx := N, ct := N, bk := D.nx } σ2 H2)
theorem tFor_eq (wi : TI) (g : TG) (tb : TS) (D : Ends) (σ : St) (H : Hp) : tFor wi g tb D σ H = wi σ H fun J H1 => FW J g tb D σ H1 := rfl
theorem FW_range {lo : Int} {n : Nat} {g : TG} {tb : TS} {D : Ends} {σ : St} {H : Hp} (Pv : Nat → St → Hp → Prop) (h0 : Pv 0 σ H)
    (hs : ∀ i σ H, i < n → Pv i σ H → g (.int (lo + i)) σ H fun σ2 H2 => tb { D with nx := Pv (i + 1), ct := Pv (i + 1), bk := D.nx } σ2 H2) (hd : ∀ σ H, Pv n σ H → D.nx σ H) : FW (Itr lo n) g tb D σ H := for_range Pv h0 hs hd
theorem FW_tup {K : PySem.W.Frag} {a : Addr} {xs : List V} {g : TG} {tb : TS} {D : Ends} {σ : St} {H : Hp} (Pv : Nat → St → Hp → Prop) (h0 : Pv 0 σ H) (hl : ∀ i σ H, i ≤ xs.length → Pv i σ H → SqT K H a xs)
    (hs : ∀ i x σ H, xs[i]? = some x → Pv i σ H → g x σ H fun σ2 H2 => tb { D with nx := Pv (i + 1), ct := Pv (i + 1), bk := D.nx } σ2 H2) (hd : ∀ σ H, Pv xs.length σ H → D.nx σ H) : FW (Itt K a) g tb D σ H := for_tup Pv h0 hl hs hd
def CW (J : It) (g : TG) (tt : TT) (te : TE) (p : Addr) (Q : VK) (σ : St) (H1 : Hp) : Prop :=
  ∃ W : Nat → Nat → St → Hp → Prop, (∃ m, W 0 m σ H1) ∧ ∀ i m σ H, W i m σ H →
    (J.stop i H ∧ Q (.ref p) H) ∨ (J.go i H ∧ ∀ x H', J.yld i H x H' → g x σ H' fun σ2 H2 => tt σ2 H2 fun b H3 =>
      if b = true then te σ2 H3 fun y H4 => ∃ ys, H4 p = some (.lst ys) ∧ ys.length < sizeLine ∧ ∃ m', m' < m ∧ W (i + 1) m' σ2 (upd H4 p (.lst (ys ++ [y])))
      else ∃ m', m' < m ∧ W (i + 1) m' σ2 H3)
theorem tComp_eq (js : List Nat) (os : List Str) (wi : TI) (g : TG) (tt : TT) (te : TE) (σ : St) (H : Hp) (Q : VK) : tComp js os wi g tt te σ H Q = wi σ H fun J H1 => ∀ p, H1 p = none → CW J g tt te p Q (stC js os σ) (upd H1 p (.lst [])) := rfl
def Nx (n i : Nat) (P : Prop) : Prop := ∃ m', m' < n - i ∧ m' = n - (i + 1) ∧ i + 1 ≤ n ∧ P
theorem nx {n i : Nat} {P : Prop} (h : i < n) (p : P) : Nx n i P := ⟨n - (i + 1), by omega, rfl, h, p⟩
theorem CW_range {lo : Int} {n : Nat} {g : TG} {tt : TT} {te : TE} {p : Addr} {Q : VK} {σ : St} {H : Hp} (Pv : Nat → St → Hp → Prop) (h0 : Pv 0 σ H)
    (hs : ∀ i σ H, i < n → Pv i σ H → g (.int (lo + i)) σ H fun σ2 H2 => tt σ2 H2 fun b H3 => if b = true then te σ2 H3 fun y H4 => ∃ ys, H4 p = some (.lst ys) ∧ ys.length < sizeLine ∧ Nx n i (Pv (i + 1) σ2 (upd H4 p (.lst (ys ++ [y])))) else Nx n i (Pv (i + 1) σ2 H3))
    (hd : ∀ σ H, Pv n σ H → Q (.ref p) H) : CW (Itr lo n) g tt te p Q σ H := by
  refine ⟨fun i m σ H => m = n - i ∧ i ≤ n ∧ Pv i σ H, ⟨n, by simp, Nat.zero_le _, h0⟩, ?_⟩
  rintro i m σ H ⟨rfl, hi, q⟩
  by_cases hlt : i < n
  · refine .inr ⟨hlt, fun x H' y => ?_⟩
    obtain ⟨e, y⟩ := y
    subst e y
    exact hs i σ _ hlt q
  · have e : i = n := by omega
    subst e
    exact .inl ⟨Nat.le_refl _, hd σ H q⟩
theorem CW_list {K : PySem.W.Frag} {a : Addr} {xs : List V} {g : TG} {tt : TT} {te : TE} {p : Addr} {Q : VK} {σ : St} {H : Hp} (Pv : Nat → St → Hp → Prop) (h0 : Pv 0 σ H) (hl : ∀ i σ H, i ≤ xs.length → Pv i σ H → SqL K H a xs)
    (hs : ∀ i x σ H, xs[i]? = some x → Pv i σ H → g x σ H fun σ2 H2 => tt σ2 H2 fun b H3 => if b = true then te σ2 H3 fun y H4 => ∃ ys, H4 p = some (.lst ys) ∧ ys.length < sizeLine ∧ Nx xs.length i (Pv (i + 1) σ2 (upd H4 p (.lst (ys ++ [y])))) else Nx xs.length i (Pv (i + 1) σ2 H3))
    (hd : ∀ σ H, Pv xs.length σ H → Q (.ref p) H) : CW (Itl K a) g tt te p Q σ H := by
  refine ⟨fun i m σ H => m = xs.length - i ∧ i ≤ xs.length ∧ Pv i σ H, ⟨xs.length, by simp, Nat.zero_le _, h0⟩, ?_⟩
  rintro i m σ H ⟨rfl, hi, q⟩
  have w := hl i σ H hi q
  by_cases hlt : i < xs.length
  · refine .inr ⟨⟨xs, xs[i], w, by simp [hlt]⟩, fun x H' y => ?_⟩
    obtain ⟨e, y⟩ := y
    subst e
    exact hs i x σ _ (y xs w) q
  · have e : i = xs.length := by omega
    subst e
    exact .inl ⟨⟨xs, w, Nat.le_refl _⟩, hd σ H q⟩
theorem while_m {c : TT} {tb : TS} {D : Ends} {σ : St} {H : Hp} (Pv : St → Hp → Prop) (μ : St → Hp → Nat) (h0 : Pv σ H)
    (hs : ∀ σ H, Pv σ H → c σ H fun b H1 => if b = true then ∃ N : St → Hp → Prop, (∀ σ' H', N σ' H' → ∃ m', m' < μ σ H ∧ (m' = μ σ' H' ∧ Pv σ' H')) ∧ tb { D with nx := N, ct := N, bk := D.nx } σ H1 else D.nx σ H1) : tWhile c tb D σ H := by
  refine ⟨fun m σ H => m = μ σ H ∧ Pv σ H, ⟨_, rfl, h0⟩, ?_⟩
  rintro m σ H ⟨rfl, p⟩
  have z := hs σ H p
  exact z
theorem qb {Q : VK} {H : Hp} {a b : Bool} (k : Q (.bl a) H) (e : a = b) : Q (.bl b) H := e ▸ k
theorem Same.upd {H : Hp} {p : Addr} {o : HO} (h : H p = none) : Same H (upd H p o) := fun b u e => by rw [upd_ne (ne_of_none e h)]; exact e
theorem Same.upd2 {H H' : Hp} {p : Addr} {o : HO} (s : Same H H') (h : H p = none) : Same H (L2.upd H' p o) := fun b u e => by rw [upd_ne (ne_of_none e h)]; exact s b u e
theorem Same.tup {K : PySem.W.Frag} {H H' : Hp} {a : Addr} {xs : List V} (e : Same H H') (h : SqT K H a xs) : SqT K H' a xs := by
  rcases h with (h | ⟨o, h⟩) | h
  · exact .inl (.inl (e _ _ h))
  · exact .inl (.inr ⟨o, e _ _ h⟩)
  · exact .inr h
theorem atI_ints {ns : List Int} {k : Int} (h0 : 0 ≤ k) (h1 : k < ns.length) : ∃ z ∈ ns, atI (ns.map V.int) k = some (.int z) := by
  have hk : k.toNat < ns.length := by omega
  refine ⟨ns[k.toNat], List.getElem_mem hk, ?_⟩
  have e : ((k.toNat : Nat) : Int) = k := by omega
  have := atI_nat (xs := ns.map V.int) (j := k.toNat) (v := .int ns[k.toNat]) (by rw [List.getElem?_map, List.getElem?_eq_getElem hk]; rfl)
  rw [e] at this
  exact this
end L2

set_option Elab.async false
set_option linter.all false
set_option maxRecDepth 100000
set_option maxHeartbeats 4000000
namespace L2
open PySem PySem.Spec PyProof.Rows
inductive D where
  | int (i : Int) | str (x : Str) | non | tup (ds : List D)
mutual
def Rp (K : PySem.W.Frag) (H : Hp) : D → V → Prop
  | .int i, v => v = .int i
  | .str x, v => v = .str x
  | .non, v => v = .non
  | .tup ds, v => ∃ p xs, v = .ref p ∧ SqT K H p xs ∧ RpL K H ds xs
def RpL (K : PySem.W.Frag) (H : Hp) : List D → List V → Prop
  | [], xs => xs = []
  | d :: ds, xs => ∃ v r, xs = v :: r ∧ Rp K H d v ∧ RpL K H ds r
end
mutual
def deq : D → D → Bool
  | .int i, .int j => i == j
  | .str x, .str y => x == y
  | .non, .non => true
  | .tup ds, .tup es => deqL ds es
  | _, _ => false
def deqL : List D → List D → Bool
  | [], [] => true
  | d :: ds, e :: es => deq d e && deqL ds es
  | _, _ => false
end
mutual
def dep : D → Nat
  | .tup ds => depL ds + 1
  | _ => 0
def depL : List D → Nat
  | [] => 0
  | d :: ds => max (dep d) (depL ds)
end
mutual
theorem deq_self : ∀ d : D, deq d d = true
  | .int i => by simp [deq]
  | .str x => by simp [deq]
  | .non => by simp [deq]
  | .tup ds => by rw [deq]; exact deqL_self ds
theorem deqL_self : ∀ ds : List D, deqL ds ds = true
  | [] => by simp [deqL]
  | d :: ds => by rw [deqL, deq_self d, deqL_self ds]; rfl
end
theorem RpL.length {K : PySem.W.Frag} {H : Hp} : ∀ {ds : List D} {xs : List V}, RpL K H ds xs → xs.length = ds.length
  | [], xs, h => by rw [RpL] at h; subst h; rfl
  | d :: ds, xs, h => by
    rw [RpL] at h
    obtain ⟨v, r, rfl, _, h⟩ := h
    rw [List.length_cons, List.length_cons, RpL.length h]
mutual
theorem Rp.same {K : PySem.W.Frag} {H H' : Hp} (s : Same H H') : ∀ {d : D} {v : V}, Rp K H d v → Rp K H' d v
  | .int i, v, h => by rw [Rp] at h ⊢; exact h
  | .str x, v, h => by rw [Rp] at h ⊢; exact h
  | .non, v, h => by rw [Rp] at h ⊢; exact h
  | .tup ds, v, h => by
    rw [Rp] at h ⊢
    obtain ⟨p, xs, e, hs, hl⟩ := h
    exact ⟨p, xs, e, s.tup hs, RpL.same s hl⟩
theorem RpL.same {K : PySem.W.Frag} {H H' : Hp} (s : Same H H') : ∀ {ds : List D} {xs : List V}, RpL K H ds xs → RpL K H' ds xs
  | [], xs, h => by rw [RpL] at h ⊢; exact h
  | d :: ds, xs, h => by
    rw [RpL] at h ⊢
    obtain ⟨v, r, e, h1, h2⟩ := h
    exact ⟨v, r, e, Rp.same s h1, RpL.same s h2⟩
end
section
variable {X : Cx} {pins : List (Addr × Obj)} {σ : L2.St} {H : Hp} {s : Shared}
mutual
theorem Rp.inj (I : Inv X pins σ H s) : ∀ {d e : D} {v : V}, Rp X.K H d v → Rp X.K H e v → deq d e = true
  | .int i, e, v, h1, h2 => by
    rw [Rp] at h1
    subst h1
    cases e with
    | int j => rw [Rp] at h2; cases h2; simp [deq]
    | str _ => rw [Rp] at h2; cases h2
    | non => rw [Rp] at h2; cases h2
    | tup _ => rw [Rp] at h2; obtain ⟨_, _, h, _⟩ := h2; cases h
  | .str x, e, v, h1, h2 => by
    rw [Rp] at h1
    subst h1
    cases e with
    | int j => rw [Rp] at h2; cases h2
    | str _ => rw [Rp] at h2; cases h2; simp [deq]
    | non => rw [Rp] at h2; cases h2
    | tup _ => rw [Rp] at h2; obtain ⟨_, _, h, _⟩ := h2; cases h
  | .non, e, v, h1, h2 => by
    rw [Rp] at h1
    subst h1
    cases e with
    | int j => rw [Rp] at h2; cases h2
    | str _ => rw [Rp] at h2; cases h2
    | non => simp [deq]
    | tup _ => rw [Rp] at h2; obtain ⟨_, _, h, _⟩ := h2; cases h
  | .tup ds, e, v, h1, h2 => by
    rw [Rp] at h1
    obtain ⟨p, xs, rfl, hs, hl⟩ := h1
    cases e with
    | int j => rw [Rp] at h2; cases h2
    | str _ => rw [Rp] at h2; cases h2
    | non => rw [Rp] at h2; cases h2
    | tup es =>
      rw [Rp] at h2
      obtain ⟨p', xs', e', hs', hl'⟩ := h2
      cases e'
      rw [I.tuple_inj hs' hs] at hl'
      rw [deq]
      exact RpL.inj I hl hl'
theorem RpL.inj (I : Inv X pins σ H s) : ∀ {ds es : List D} {xs : List V}, RpL X.K H ds xs → RpL X.K H es xs → deqL ds es = true
  | [], es, xs, h1, h2 => by
    rw [RpL] at h1
    subst h1
    cases es with
    | nil => simp [deqL]
    | cons e es => rw [RpL] at h2; obtain ⟨_, _, h, _⟩ := h2; cases h
  | d :: ds, es, xs, h1, h2 => by
    rw [RpL] at h1
    obtain ⟨v, r, rfl, h1, h1'⟩ := h1
    cases es with
    | nil => rw [RpL] at h2; cases h2
    | cons e es =>
      rw [RpL] at h2
      obtain ⟨v', r', e', h2, h2'⟩ := h2
      cases e'
      rw [deqL, Rp.inj I h1 h2, RpL.inj I h1' h2']
      rfl
end
theorem deqL_range : ∀ (ds es : List D), ((List.range (min ds.length es.length)).all (fun j => deq (ds.getD j .non) (es.getD j .non)) && ds.length == es.length) = deqL ds es
  | [], [] => by simp [deqL]
  | [], e :: es => by simp [deqL]
  | d :: ds, [] => by simp [deqL]
  | d :: ds, e :: es => by
    have ih := deqL_range ds es
    rw [deqL, ← ih]
    have e1 : min (d :: ds).length (e :: es).length = min ds.length es.length + 1 := by simp only [List.length_cons]; omega
    rw [e1, List.range_succ_eq_map, List.all_cons, List.all_map]
    have e2 : ((d :: ds).length == (e :: es).length) = (ds.length == es.length) := by
      simp only [List.length_cons]
      by_cases h : ds.length = es.length
      · rw [h]; simp
      · have h1 : (ds.length == es.length) = false := by simpa using h
        rw [h1]
        have : ¬ ds.length + 1 = es.length + 1 := by omega
        simpa using this
    rw [e2, Bool.and_assoc]
    rfl
mutual
theorem eqAt_D (I : Inv X pins σ H s) : ∀ {d e : D} {A : Around} {v u : V} {x y : Value}, Rp X.K H d v → Rp X.K H e u → RelV v x → RelV u y → A.units + dep d < cLine → SeqAt.EqAt A s x y (deq d e)
  | .int i, e, A, v, u, x, y, h1, h2, r1, r2, hu => by
    rw [Rp] at h1
    subst h1
    obtain ⟨t, rfl⟩ := r1
    cases e with
    | int j => rw [Rp] at h2; subst h2; obtain ⟨t', rfl⟩ := r2; exact SeqAt.EqAt.int_int i t j t'
    | str z => rw [Rp] at h2; subst h2; obtain ⟨t', rfl⟩ := r2; exact SeqAt.EqAt.int_str i t z t'
    | non => rw [Rp] at h2; subst h2; cases r2; exact SeqAt.EqAt.int_none i t
    | tup es =>
      rw [Rp] at h2
      obtain ⟨p, xs, rfl, hs, _⟩ := h2
      cases r2
      obtain ⟨its, _, ht, _⟩ := I.tuple hs
      exact SeqAt.EqAt.int_tuple i t ht (by omega)
  | .str z, e, A, v, u, x, y, h1, h2, r1, r2, hu => by
    rw [Rp] at h1
    subst h1
    obtain ⟨t, rfl⟩ := r1
    cases e with
    | int j => rw [Rp] at h2; subst h2; obtain ⟨t', rfl⟩ := r2; exact SeqAt.EqAt.str_int z t j t'
    | str z' => rw [Rp] at h2; subst h2; obtain ⟨t', rfl⟩ := r2; exact SeqAt.EqAt.str_str z t z' t'
    | non => rw [Rp] at h2; subst h2; cases r2; exact SeqAt.EqAt.str_none z t
    | tup es =>
      rw [Rp] at h2
      obtain ⟨p, xs, rfl, hs, _⟩ := h2
      cases r2
      obtain ⟨its, _, ht, _⟩ := I.tuple hs
      exact SeqAt.EqAt.str_tuple z t ht (by omega)
  | .non, e, A, v, u, x, y, h1, h2, r1, r2, hu => by
    rw [Rp] at h1
    subst h1
    cases r1
    cases e with
    | int j => rw [Rp] at h2; subst h2; obtain ⟨t', rfl⟩ := r2; exact SeqAt.EqAt.none_int j t'
    | str z' => rw [Rp] at h2; subst h2; obtain ⟨t', rfl⟩ := r2; exact SeqAt.EqAt.none_str z' t'
    | non => rw [Rp] at h2; subst h2; cases r2; exact SeqAt.EqAt.same _
    | tup es =>
      rw [Rp] at h2
      obtain ⟨p, xs, rfl, hs, _⟩ := h2
      cases r2
      obtain ⟨its, _, ht, _⟩ := I.tuple hs
      exact SeqAt.EqAt.none_tuple ht (by omega)
  | .tup ds, e, A, v, u, x, y, h1, h2, r1, r2, hu => by
    have h1' := h1
    rw [Rp] at h1
    obtain ⟨p, xs, rfl, hs, hl⟩ := h1
    cases r1
    obtain ⟨its, rv, ht, _⟩ := I.tuple hs
    cases e with
    | int j => rw [Rp] at h2; subst h2; obtain ⟨t', rfl⟩ := r2; exact SeqAt.EqAt.tuple_int j t' ht (by omega)
    | str z' => rw [Rp] at h2; subst h2; obtain ⟨t', rfl⟩ := r2; exact SeqAt.EqAt.tuple_str z' t' ht (by omega)
    | non => rw [Rp] at h2; subst h2; cases r2; exact SeqAt.EqAt.tuple_none ht (by omega)
    | tup es =>
      have h2' := h2
      rw [Rp] at h2
      obtain ⟨p', xs', rfl, hs', hl'⟩ := h2
      cases r2
      obtain ⟨its', rv', ht', _⟩ := I.tuple hs'
      by_cases hp : p = p'
      · subst hp
        rw [Rp.inj I h1' h2']
        exact SeqAt.EqAt.same _
      · refine SeqAt.EqAt.of_refs hp ?_
        have l1 : its.length = ds.length := by rw [← rv.length, hl.length]
        have l2 : its'.length = es.length := by rw [← rv'.length, hl'.length]
        have key := SeqAt.RcAt.tuples (e := fun j => deq (ds.getD j .non) (es.getD j .non)) ht ht' (show A.units < cLine by omega) (fun j h1 h2 => by
          rw [dep] at hu
          exact eqAtL_D I hl hl' rv rv' (show A.in1.units + depL ds < cLine by show A.units + 1 + depL ds < cLine; omega) j (by simpa using h1) (by simpa using h2))
        have e0 : ((List.range (min its.toArray.size its'.toArray.size)).all (fun j => deq (ds.getD j .non) (es.getD j .non)) && its.toArray.size == its'.toArray.size) = deqL ds es := by
          rw [← deqL_range]
          simp only [List.size_toArray, l1, l2]
        rw [deq, ← e0]
        exact key
theorem eqAtL_D (I : Inv X pins σ H s) : ∀ {ds es : List D} {A : Around} {vs us : List V} {xs ys : List Value}, RpL X.K H ds vs → RpL X.K H es us → Vals vs xs → Vals us ys → A.units + depL ds < cLine →
    ∀ (j : Nat) (h1 : j < xs.length) (h2 : j < ys.length), SeqAt.EqAt A s xs[j] ys[j] (deq (ds.getD j .non) (es.getD j .non))
  | [], es, A, vs, us, xs, ys, h1, h2, r1, r2, hu, j, j1, j2 => by
    rw [RpL] at h1
    subst h1
    cases r1
    exact absurd j1 (Nat.not_lt_zero _)
  | d :: ds, es, A, vs, us, xs, ys, h1, h2, r1, r2, hu, j, j1, j2 => by
    rw [RpL] at h1
    obtain ⟨v, r, rfl, h1, h1'⟩ := h1
    cases r1 with
    | cons q1 q1' =>
    cases es with
    | nil =>
      rw [RpL] at h2
      subst h2
      cases r2
      exact absurd j2 (Nat.not_lt_zero _)
    | cons e es =>
      rw [RpL] at h2
      obtain ⟨v', r', rfl, h2, h2'⟩ := h2
      cases r2 with
      | cons q2 q2' =>
      rw [depL] at hu
      cases j with
      | zero => exact eqAt_D (d := d) (e := e) I h1 h2 q1 q2 (by omega)
      | succ j => exact eqAtL_D I h1' h2' q1' q2' (by omega) j (by simpa using j1) (by simpa using j2)
end
def rEqD (K : PySem.W.Frag) (ne : Bool) : R2 := fun x y H Q => ∃ ds es, Rp K H (.tup ds) x ∧ Rp K H (.tup es) y ∧ depL ds ≤ 60 ∧ Q (.bl (if ne then !deqL ds es else deqL ds es)) H
theorem op_eqS (hu : X.A.units + 64 < cLine) : OpR X (compareOp .Eq) (rEqD X.K false) := by
  intro pins s σ H x y v u Q I rx ry h
  obtain ⟨ds, es, h1, h2, hd, q⟩ := h
  rw [Rp] at h1 h2
  obtain ⟨p, xs, rfl, hs, hl⟩ := h1
  obtain ⟨p', xs', rfl, hs', hl'⟩ := h2
  cases rx
  cases ry
  obtain ⟨its, rv, ht, _⟩ := I.tuple hs
  obtain ⟨its', rv', ht', _⟩ := I.tuple hs'
  have l1 : its.length = ds.length := by rw [← rv.length, hl.length]
  have l2 : its'.length = es.length := by rw [← rv'.length, hl'.length]
  refine SeqAt.eq_tupleAt (e := fun j => deq (ds.getD j .non) (es.getD j .non)) ht ht' (by omega) (fun j h1 h2 => eqAtL_D I hl hl' rv rv' (show X.A.in1.units + depL ds < cLine by show X.A.units + 1 + depL ds < cLine; omega) j (by simpa using h1) (by simpa using h2)) ?_
  exact fin_bl I q (by
    simp only [if_false, Bool.false_eq_true]
    rw [← deqL_range]
    simp only [List.size_toArray, l1, l2])
theorem op_neS (hu : X.A.units + 64 < cLine) : OpR X (compareOp .NotEq) (rEqD X.K true) := by
  intro pins s σ H x y v u Q I rx ry h
  obtain ⟨ds, es, h1, h2, hd, q⟩ := h
  rw [Rp] at h1 h2
  obtain ⟨p, xs, rfl, hs, hl⟩ := h1
  obtain ⟨p', xs', rfl, hs', hl'⟩ := h2
  cases rx
  cases ry
  obtain ⟨its, rv, ht, _⟩ := I.tuple hs
  obtain ⟨its', rv', ht', _⟩ := I.tuple hs'
  have l1 : its.length = ds.length := by rw [← rv.length, hl.length]
  have l2 : its'.length = es.length := by rw [← rv'.length, hl'.length]
  refine SeqAt.RcNeAt.tuples (e := fun j => deq (ds.getD j .non) (es.getD j .non)) ht ht' (by omega) (fun j h1 h2 => eqAtL_D I hl hl' rv rv' (show X.A.in1.units + depL ds < cLine by show X.A.units + 1 + depL ds < cLine; omega) j (by simpa using h1) (by simpa using h2)) X.prog X.w X.xe _ ?_
  exact fin_bl I q (by
    simp only [if_true]
    rw [← deqL_range]
    simp only [List.size_toArray, l1, l2])
end
end L2

set_option Elab.async false
set_option linter.all false
set_option maxRecDepth 100000
set_option maxHeartbeats 4000000
namespace L2
open PySem PySem.Spec PyProof.Rows
mutual
def kdIn (K : PySem.W.Frag) : D → Value → Bool
  | .int i, .int j _ => i == j
  | .str x, .str y _ => x == y
  | .non, .none => true
  | .tup ds, .ref p => (match K.lookup p with
    | some o => (match o.cls, o.data with
      | .type n, .seq its _ => n == "tuple" && decide (its.size ≤ 1000) && kdInL K ds its.toList
      | _, _ => false)
    | none => false)
  | _, _ => false
def kdInL (K : PySem.W.Frag) : List D → List Value → Bool
  | [], [] => true
  | d :: ds, u :: us => kdIn K d u && kdInL K ds us
  | _, _ => false
end
mutual
theorem kd_rp {K : PySem.W.Frag} : ∀ {d : D} {u : Value}, kdIn K d u = true → ∃ v, RelV v u ∧ ∀ H, Rp K H d v
  | .int i, u, h => by
    cases u with
    | int j t =>
      rw [kdIn] at h
      have e : i = j := by simpa using h
      subst e
      exact ⟨.int i, ⟨t, rfl⟩, fun H => by rw [Rp]⟩
    | _ => simp [kdIn] at h
  | .str x, u, h => by
    cases u with
    | str y t =>
      rw [kdIn] at h
      have e : x = y := by simpa using h
      subst e
      exact ⟨.str x, ⟨t, rfl⟩, fun H => by rw [Rp]⟩
    | _ => simp [kdIn] at h
  | .non, u, h => by
    cases u with
    | none => exact ⟨.non, rfl, fun H => by rw [Rp]⟩
    | _ => simp [kdIn] at h
  | .tup ds, u, h => by
    cases u with
    | ref p =>
      rw [kdIn] at h
      cases e : K.lookup p with
      | none => rw [e] at h; cases h
      | some o =>
        rw [e] at h
        dsimp only at h
        split at h
        · rename_i n its k ec ed
          simp only [Bool.and_eq_true, beq_iff_eq, decide_eq_true_eq] at h
          obtain ⟨⟨rfl, hz⟩, hl⟩ := h
          obtain ⟨vs, rv, hv⟩ := kd_rpL hl
          exact ⟨.ref p, rfl, fun H => by
            rw [Rp]
            exact ⟨p, vs, rfl, .inr ⟨o, its, k, e, ec, ed, Nat.le_trans hz (by decide), rv⟩, hv H⟩⟩
        · cases h
    | _ => simp [kdIn] at h
theorem kd_rpL {K : PySem.W.Frag} : ∀ {ds : List D} {us : List Value}, kdInL K ds us = true → ∃ vs, Vals vs us ∧ ∀ H, RpL K H ds vs
  | [], us, h => by
    cases us with
    | nil => exact ⟨[], .nil, fun H => by rw [RpL]⟩
    | cons _ _ => simp [kdInL] at h
  | d :: ds, us, h => by
    cases us with
    | nil => simp [kdInL] at h
    | cons u us =>
      rw [kdInL, Bool.and_eq_true] at h
      obtain ⟨v, r, hv⟩ := kd_rp h.1
      obtain ⟨vs, rs, hvs⟩ := kd_rpL h.2
      exact ⟨v :: vs, .cons r rs, fun H => by rw [RpL]; exact ⟨v, vs, rfl, hv H, hvs H⟩⟩
end
theorem RpL.at {K : PySem.W.Frag} {H : Hp} : ∀ {ds : List D} {xs : List V} {j : Nat}, RpL K H ds xs → j < ds.length → ∃ v, xs[j]? = some v ∧ Rp K H (ds.getD j .non) v
  | [], xs, j, h, hj => absurd hj (Nat.not_lt_zero _)
  | d :: ds, xs, j, h, hj => by
    rw [RpL] at h
    obtain ⟨v, r, rfl, h1, h2⟩ := h
    cases j with
    | zero => exact ⟨v, rfl, h1⟩
    | succ j =>
      obtain ⟨u, e, q⟩ := RpL.at (ds := ds) (xs := r) (j := j) h2 (by simpa using hj)
      exact ⟨u, e, q⟩
theorem RpL.atI {K : PySem.W.Frag} {H : Hp} {ds : List D} {xs : List V} {i : Int} (h : RpL K H ds xs) (h0 : 0 ≤ i) (h1 : i < ds.length) : ∃ v, L2.atI xs i = some v ∧ Rp K H (ds.getD i.toNat .non) v := by
  obtain ⟨v, e, r⟩ := h.at (j := i.toNat) (by omega)
  have := atI_nat e
  rw [show ((i.toNat : Nat) : Int) = i by omega] at this
  exact ⟨v, this, r⟩
abbrev num (a b : Int) : D := .tup [.int a, .int b]
abbrev plc (a b c d : Int) : D := .tup [num a b, num c d]
theorem pair_iff {K : PySem.W.Frag} {H : Hp} {d e : D} {v : V} : Rp K H (.tup [d, e]) v ↔ ∃ p x y, v = .ref p ∧ SqT K H p [x, y] ∧ Rp K H d x ∧ Rp K H e y := by
  constructor
  · intro h
    rw [Rp] at h
    obtain ⟨p, xs, rfl, hs, hl⟩ := h
    rw [RpL] at hl
    obtain ⟨v, r, rfl, h1, hl⟩ := hl
    rw [RpL] at hl
    obtain ⟨v', r', rfl, h2, hl⟩ := hl
    rw [RpL] at hl
    subst hl
    exact ⟨p, v, v', rfl, hs, h1, h2⟩
  · rintro ⟨p, x, y, rfl, hs, h1, h2⟩
    rw [Rp]
    refine ⟨p, _, rfl, hs, ?_⟩
    rw [RpL]
    refine ⟨_, _, rfl, h1, ?_⟩
    rw [RpL]
    refine ⟨_, _, rfl, h2, ?_⟩
    rw [RpL]
section
variable {X : Cx}
theorem call_isiX {c : Value} : CallR X (.builtin "isinstance") (fun xs H Q => ∃ x y, xs = [x, y] ∧ RelV y c ∧ (∃ n, c = .type n) ∧ ∃ ty, (TyOf X.K H x ty ∨ ∃ p ys, x = .ref p ∧ SqT X.K H p ys ∧ ty = .type "tuple") ∧ ∃ b, PySem.W.kitOne X.K ty c = some b ∧ Q (.bl b) H) := by
  intro pins s σ H xs us Q I rv h
  obtain ⟨x, y, rfl, ry, ⟨n, rfl⟩, ty, hty, b, hk, q⟩ := h
  rcases hty with hty | ⟨p, ys, rfl, hs, rfl⟩
  · exact call_isi (c := .type n) pins s σ H [x, y] us Q I rv ⟨x, y, ty, b, rfl, ry, ⟨n, rfl⟩, hty, hk, q⟩
  · obtain ⟨u, u', rfl, ru, ru'⟩ := rv.two
    have e : u' = .type n := by
      cases y with
      | ty m => have := (show Value.type n = Value.type m from ry); cases this; exact ru'
      | non => cases ry
      | bl _ => cases ry
      | int _ => obtain ⟨_, z⟩ := ry; cases z
      | str _ => obtain ⟨_, z⟩ := ry; cases z
      | byt _ => obtain ⟨_, z⟩ := ry; cases z
      | flt _ => obtain ⟨_, z⟩ := ry; cases z
      | ref _ => cases ry
    subst e
    cases ru
    obtain ⟨its, _, ⟨o, h1, h2, _⟩, _⟩ := I.tuple hs
    exact PySem.W.kia_one PySem.W.kitx_tuple I.kIn ⟨o, h1, h2⟩ hk (fun z => nomatch z) fun tk => ⟨.bl b, H, I.tok _, rfl, q⟩
end
end L2

set_option Elab.async false
set_option linter.all false
set_option maxRecDepth 100000
set_option maxHeartbeats 4000000
namespace L2
open PySem PySem.Spec PyProof.Rows
def tLit (K : PySem.W.Frag) (d : D) : TE := fun _ H Q => ∀ v H', Same H H' → Rp K H' d v → Q v H'
def tLits (K : PySem.W.Frag) (ds : List D) : TA := fun _ H Q => ∀ vs H', Same H H' → RpL K H' ds vs → Q vs H'
section
variable {X : Cx} {e : Expr} {es : List Expr} {pos : Pos} {d : D} {ds : List D}
theorem PE.imp {t t' : TE} (h : PE X e t) (i : ∀ σ H Q, t' σ H Q → t σ H Q) : PE X e t' := fun pins s σ H Q I q => h pins s σ H Q I (i _ _ _ q)
theorem PA.imp {t t' : TA} (h : PA X es t) (i : ∀ σ H Q, t' σ H Q → t σ H Q) : PA X es t' := fun p pins s σ H Q I q => h p pins s σ H Q I (i _ _ _ q)
theorem pl_int {i : Int} {j pos} : PE X (.Constant (.int i) j pos) (tLit X.K (.int i)) := pe_int.imp fun _ H Q q => q _ _ (Same.refl H) (by rw [Rp])
theorem pl_str {x : Str} {j pos} : PE X (.Constant (.str x) j pos) (tLit X.K (.str x)) := pe_str.imp fun _ H Q q => q _ _ (Same.refl H) (by rw [Rp])
theorem pls_nil : PA X [] (tLits X.K []) := pa_nil.imp fun _ H Q q => q _ _ (Same.refl H) (by rw [RpL])
theorem pls_cons (h : PE X e (tLit X.K d)) (hs : PA X es (tLits X.K ds)) (he : starEach (e :: es) X.env = (false, eval e X.env) :: starEach es X.env := by rfl) : PA X (e :: es) (tLits X.K (d :: ds)) :=
  (pa_cons h hs he).imp fun _ H Q q => fun v H1 s1 r1 vs H2 s2 r2 => q _ _ (s1.trans s2) (by rw [RpL]; exact ⟨v, vs, rfl, r1.same s2, r2⟩)
theorem pl_tup {x1} (h : PA X es (tLits X.K ds)) (hz : ds.length ≤ 1000 := by decide) : PE X (.Tuple es x1 pos) (tLit X.K (.tup ds)) :=
  (pe_tup h).imp fun _ H Q q => fun vs H1 s1 r1 => ⟨by rw [r1.length]; exact Nat.le_trans hz (by decide), fun p hp => q _ _ (s1.upd2 (s1.free hp)) (by
    rw [Rp]; exact ⟨p, vs, rfl, SqT.of upd_same, r1.same (Same.upd hp)⟩)⟩
end
end L2
namespace L2
open PySem PySem.Spec PyProof.Rows L2
section
variable {X : Cx} {es es' : List Expr} {pos pos' p : Pos} {d : D} {ds : List D}
theorem pa_consT {x1} {te : TE} {t : TA} (ha : PE X (.Tuple es' x1 p) te) (hr : PA X es t) : PA X (.Tuple es' x1 p :: es) (tCons te t) := pa_cons ha hr (by rfl)
theorem pls_consT {x1} (ha : PE X (.Tuple es' x1 p) (tLit X.K d)) (hr : PA X es (tLits X.K ds)) : PA X (.Tuple es' x1 p :: es) (tLits X.K (d :: ds)) := pls_cons ha hr (by rfl)
theorem pls_consI {i : Int} {j} (hr : PA X es (tLits X.K ds)) : PA X (.Constant (.int i) j p :: es) (tLits X.K (.int i :: ds)) := pls_cons pl_int hr (by rfl)
theorem pls_consS {i : Str} {j} (hr : PA X es (tLits X.K ds)) : PA X (.Constant (.str i) j p :: es) (tLits X.K (.str i :: ds)) := pls_cons pl_str hr (by rfl)
end
theorem cxOf_K {CX P w K mg base N nm sc fa cdv A outer s H E} : (cxOf CX P w K mg base N nm sc fa cdv A outer s H E).K = K := rfl
end L2

set_option Elab.async false
set_option linter.all false
set_option maxRecDepth 100000
set_option maxHeartbeats 4000000
namespace L2
open PySem PySem.Spec PyProof.Rows
section
variable {κ : Type} [DecidableEq κ]
def valV (kvs : List (κ × V)) (k : κ) : Option V := (kvs.find? fun kv => decide (kv.1 = k)).map (·.2)
def putK (kvs : List (κ × V)) (k : κ) (v : V) : List (κ × V) :=
  if (kvs.any fun kv => decide (kv.1 = k)) = true then kvs.map (fun kv => if kv.1 = k then (kv.1, v) else kv) else kvs ++ [(k, v)]
def dropK (kvs : List (κ × V)) (k : κ) : List (κ × V) := kvs.filter fun kv => decide (kv.1 ≠ k)

theorem valV_pos {p : κ × V} {r : List (κ × V)} {k : κ} (e : p.1 = k) : valV (p :: r) k = some p.2 := by simp [valV, List.find?_cons, e]
theorem valV_neg {p : κ × V} {r : List (κ × V)} {k : κ} (e : ¬ p.1 = k) : valV (p :: r) k = valV r k := by simp [valV, List.find?_cons, e]
theorem RelO.getD {o : Option V} {u : Option Value} {d : V} {d' : Value} (r : RelO o u) (rd : RelV d d') : RelV (o.getD d) (u.getD d') := by
  cases o with
  | none => cases u with
    | none => exact rd
    | some _ => exact (show False from r).elim
  | some _ => cases u with
    | none => exact (show False from r).elim
    | some _ => exact r

theorem KV.val {kvs : List (κ × V)} {vs : List (κ × Value)} (r : KV kvs vs) (k : κ) : RelO (valV kvs k) (valueAt vs k) := by
  unfold KV at r
  induction r with
  | nil => exact True.intro
  | @cons p q ps qs h t ih =>
    obtain ⟨h1, h2⟩ := h
    by_cases e : p.1 = k
    · have e' : q.1 = k := h1.symm.trans e
      have b : valueAt (q :: qs) k = some q.2 := by simp [valueAt, List.find?_cons, e']
      rw [valV_pos e, b]; exact h2
    · have e' : ¬ q.1 = k := fun z => e (h1.trans z)
      have b : valueAt (q :: qs) k = valueAt qs k := by simp [valueAt, List.find?_cons, e']
      rw [valV_neg e, b]; exact ih
theorem KV.any {kvs : List (κ × V)} {vs : List (κ × Value)} (r : KV kvs vs) (k : κ) : (kvs.any fun kv => decide (kv.1 = k)) = vs.any fun kv => decide (kv.1 = k) := by
  unfold KV at r
  induction r with
  | nil => rfl
  | cons h t ih => rw [List.any_cons, List.any_cons, ih, h.1]
theorem KV.drop {kvs : List (κ × V)} {vs : List (κ × Value)} (r : KV kvs vs) (k : κ) : KV (dropK kvs k) (without vs k) := by
  unfold KV at r ⊢
  unfold dropK without
  induction r with
  | nil => exact .nil
  | @cons p q ps qs h t ih =>
    obtain ⟨h1, h2⟩ := h
    rw [List.filter_cons, List.filter_cons]
    by_cases e : p.1 = k
    · have a : ¬ decide (p.1 ≠ k) = true := by simp [e]
      have b : ¬ decide (q.1 ≠ k) = true := by simp [h1.symm.trans e]
      rw [if_neg a, if_neg b]; exact ih
    · have e' : ¬ q.1 = k := fun z => e (h1.trans z)
      have a : decide (p.1 ≠ k) = true := by simp [e]
      have b : decide (q.1 ≠ k) = true := by simp [e']
      rw [if_pos a, if_pos b]; exact .cons ⟨h1, h2⟩ ih
theorem KV.keys {kvs : List (κ × V)} {vs : List (κ × Value)} (r : KV kvs vs) : kvs.map (·.1) = vs.map (·.1) := by
  unfold KV at r
  induction r with
  | nil => rfl
  | cons h t ih => rw [List.map_cons, List.map_cons, ih, h.1]
theorem KV.length {kvs : List (κ × V)} {vs : List (κ × Value)} (r : KV kvs vs) : kvs.length = vs.length := Paired.length r
end


theorem kV_is {P : Program} {w : World} {k : Key} {u : Value} (r : RelV (kV k) u) : (mixKind P w).is k u = true := by
  cases k with
  | inl i => obtain ⟨t, e⟩ := (show ∃ t, u = Value.int i t from r); subst e; exact mixKind_int P w i t
  | inr x => obtain ⟨t, e⟩ := (show ∃ t, u = Value.str x t from r); subst e; exact mixKind_str P w x t
theorem items_are {P : Program} {w : World} : ∀ {ks : List Key} {us : List Value}, Vals (ks.map kV) us → ItemsAre (mixKind P w) ks us
  | [], _, r => by rw [List.map_nil] at r; cases r; exact .nil
  | k :: ks, _, r => by
    rw [List.map_cons] at r
    cases r with
    | cons h t => exact .cons (kV_is h) (items_are t)

abbrev KT (H : Hp) : List (List Key × V) → List (List Key × Addr × Value) → Prop := Paired fun p q => p.1 = q.1 ∧ H q.2.1 = some (.tup (p.1.map kV)) ∧ RelV p.2 q.2.2
theorem KT.val {H : Hp} {kvs : List (List Key × V)} {xs : List (List Key × Addr × Value)} (r : KT H kvs xs) (k : List Key) : RelO (valV kvs k) ((atKey xs k).map (·.2)) := by
  induction r with
  | nil => exact True.intro
  | @cons p q ps qs h t ih =>
    obtain ⟨h1, _, h2⟩ := h
    by_cases e : p.1 = k
    · have e' : q.1 = k := h1.symm.trans e
      have b : atKey (q :: qs) k = some q.2 := by simp [atKey, List.find?_cons, e']
      rw [valV_pos e, b]; exact h2
    · have e' : ¬ q.1 = k := fun z => e (h1.trans z)
      have b : atKey (q :: qs) k = atKey qs k := by simp [atKey, List.find?_cons, e']
      rw [valV_neg e, b]; exact ih
theorem KT.keeps {H H' : Hp} {kvs : List (List Key × V)} {xs : List (List Key × Addr × Value)} (r : KT H kvs xs) (ht : ∀ b ys, H b = some (.tup ys) → H' b = some (.tup ys)) : KT H' kvs xs :=
  Paired.mapP r fun _ _ z => ⟨z.1, ht _ _ z.2.1, z.2.2⟩

section
variable {P : Program} {w : World} {H : Hp} {h : Heap} {a : Addr}
end

def DGet (H : Hp) (a : Addr) (y : V) (r : Option V) : Prop :=
  (∃ kvs k, Rd H a (.dK kvs) ∧ y = kV k ∧ r = valV kvs k) ∨ ∃ kvs k b, Rd H a (.dT kvs) ∧ y = .ref b ∧ H b = some (.tup (k.map kV)) ∧ r = valV kvs k
def DPut (H : Hp) (a : Addr) (y v : V) (H' : Hp) : Prop :=
  (∃ kvs k, H a = some (.dK kvs) ∧ y = kV k ∧ kvs.length < sizeLine ∧ H' = upd H a (.dK (putK kvs k v))) ∨
  ∃ kvs k b, H a = some (.dT kvs) ∧ y = .ref b ∧ H b = some (.tup (k.map kV)) ∧ kvs.length < sizeLine ∧ H' = upd H a (.dT (putK kvs k v))
theorem DGet.k {H : Hp} {a : Addr} {kvs : List (Key × V)} {k : Key} (e : H a = some (.dK kvs)) : DGet H a (kV k) (valV kvs k) := .inl ⟨kvs, k, .inl e, rfl, rfl⟩
theorem DGet.t {H : Hp} {a b : Addr} {kvs : List (List Key × V)} {k : List Key} (e : H a = some (.dT kvs)) (eb : H b = some (.tup (k.map kV))) : DGet H a (.ref b) (valV kvs k) := .inr ⟨kvs, k, b, .inl e, rfl, eb, rfl⟩
theorem DPut.k {H : Hp} {a : Addr} {kvs : List (Key × V)} {k : Key} {v : V} (e : H a = some (.dK kvs)) (hl : kvs.length < sizeLine) : DPut H a (kV k) v (upd H a (.dK (putK kvs k v))) := .inl ⟨kvs, k, e, rfl, hl, rfl⟩
theorem DPut.t {H : Hp} {a b : Addr} {kvs : List (List Key × V)} {k : List Key} {v : V} (e : H a = some (.dT kvs)) (eb : H b = some (.tup (k.map kV))) (hl : kvs.length < sizeLine) :
    DPut H a (.ref b) v (upd H a (.dT (putK kvs k v))) := .inr ⟨kvs, k, b, e, rfl, eb, hl, rfl⟩


section
variable {X : Cx} {pins : List (Addr × Obj)} {σ : St} {H : Hp} {s : Shared} {a : Addr} {y v : V} {u r : Value} {o : Option V} {A : Around} {E : Value → Shared → Prop}

theorem Inv.big (I : Inv X pins σ H s) : sysModules < s.heap.objs.size := by
  have h : mainGlobals < s.heap.objs.size := (I.mod.glob.keeps I.bk).lt
  exact Nat.lt_trans (by decide) h

theorem d_write {h' : Heap} {t' : Nat} {ob : HO} (I : Inv X pins σ H s) (mu : Mut (H a)) (hs : Heap.SameBut a s.heap h') (he : ∃ q, h'.get? a = some q) (new : ObjOk X.prog X.w (upd H a ob) h' a ob) :
    Inv X pins σ (upd H a ob) { s with heap := h', toks := t' } :=
  I.write (x := a) (e := a) mu (.inl rfl) (fun b q hb z => (hs.2 b hb).trans z) he new
end

section
variable {X : Cx} {pins : List (Addr × Obj)} {σ : St} {H : Hp} {s : Shared} {a : Addr} {kvs : List (Key × V)} {k : Key} {u : Value} {A : Around} {E : Value → Shared → Prop}
end


def NoSl (i : Expr) : Prop := ∀ ov iv, subscripted i false ov iv = operate [ov, iv] (getItem ov iv)
theorem subD_of {prog : Program} {w : World} {A : Around} {E : Value → Shared → Prop} {s : Shared} {env : Env} {value slice : Expr} {pos : Pos} {T id : String} {Q : Value → Shared → Prop}
    (hl : typeLookup (.type T) "__getitem__" = pure (some (.builtin id))) (hs : NoSl slice)
    (h : wpAny (model prog w) A (eval value env) (fun o s₁ => wpAny (model prog w) A (eval slice env) (fun i s₂ => s₂.TypeIs o T ∧ wpAny (model prog w) A (getItem o i) Q E s₂) E s₁) E s) :
    wpAny (model prog w) A (eval (.Subscript value slice pos) env) Q E s := by
  refine Subscript_ (wpAny_mono h (fun o s₁ h₁ => wpAny_mono h₁ (fun i s₂ h₂ => ?_) fun _ _ x => x) fun _ _ x => x)
  obtain ⟨hT, h₂⟩ := h₂
  unfold subscriptTail
  refine wpAny_bind ?_
  rw [getitemInPython_of_ne hT.not_modules]
  refine wpAny_bind (wpAny_specialOf hT hl ?_)
  have fin : wpAny (model prog w) A (subscripted slice false o i) (fun r s₃ => wpAny (model prog w) A (letTemporaryGo value o r >>= fun _ => pure r) Q E s₃) E s₂ := by
    rw [hs o i]
    exact wpAny_operating (wpAny_mono h₂ (fun r s₃ h₃ => wpAny_bind (wpAny_letTemporaryGo (wpAny_pure h₃))) fun _ _ x => x)
  first
    | exact wpAny_pure (wpAny_bind fin)
    | exact wpAny_bind (wpAny_pure (wpAny_bind fin))
    | exact wpAny_bind fin

def tDGet (td ty : TE) : TE := fun σ H Q => td σ H fun x H1 => ty σ H1 fun y H2 => ∃ a v, x = .ref a ∧ DGet H2 a y (some v) ∧ Q v H2
def tDIn (ty td : TE) : TE := fun σ H Q => ty σ H fun y H1 => td σ H1 fun x H2 => ∃ a o, x = .ref a ∧ DGet H2 a y o ∧ Q (.bl o.isSome) H2
def tDNotIn (ty td : TE) : TE := fun σ H Q => ty σ H fun y H1 => td σ H1 fun x H2 => ∃ a o, x = .ref a ∧ DGet H2 a y o ∧ Q (.bl (!o.isSome)) H2
def sDPut (td ty tv : TE) : TS := fun D σ H => tv σ H fun v H1 => td σ H1 fun x H2 => ty σ H2 fun y H3 => ∃ a H4, x = .ref a ∧ DPut H3 a y v H4 ∧ D.nx σ H4
def sDAug (td ty tv : TE) (rd : V → V → Hp → VK → Prop) : TS := fun D σ H => td σ H fun x H1 => ty σ H1 fun y H2 => ∃ a v, x = .ref a ∧ DGet H2 a y (some v) ∧
  tv σ H2 fun y2 H3 => rd v y2 H3 fun z H4 => ∃ H5, DPut H4 a y z H5 ∧ D.nx σ H5
def sDDel (td ty : TE) : TS := fun D σ H => td σ H fun x H1 => ty σ H1 fun y H2 => ∃ a kvs k, x = .ref a ∧ H2 a = some (.dK kvs) ∧ y = kV k ∧ (valV kvs k).isSome = true ∧ D.nx σ (upd H2 a (.dK (dropK kvs k)))

section
variable {X : Cx} {o i e value : Expr} {pos pos' tpos : Pos} {td ty tv : TE}
end


def tDNewK : TE := fun _ H Q => ∀ p, H p = none → Q (.ref p) (upd H p (.dK []))
def tDNewT : TE := fun _ H Q => ∀ p, H p = none → Q (.ref p) (upd H p (.dT []))
section
variable {X : Cx} {pos : Pos}
end

def tPairs : List (TE × TE) → St → Hp → (List (V × V) → Hp → Prop) → Prop
  | [], _, H, Q => Q [] H
  | (tk, tv) :: r, σ, H, Q => tk σ H fun x H1 => tv σ H1 fun y H2 => tPairs r σ H2 fun ps H3 => Q ((x, y) :: ps) H3
abbrev VV : List (V × V) → List (Value × Value) → Prop := Paired fun p q => RelV p.1 q.1 ∧ RelV p.2 q.2
def PPs (X : Cx) (pos : Pos) (keys : List (Option Expr)) (values : List Expr) (trs : List (TE × TE)) : Prop :=
  ∀ (pins : List (Addr × Obj)) (s : Shared) (σ : St) (H : Hp) (Q : List (V × V) → Hp → Prop), Inv X pins σ H s → tPairs trs σ H Q →
    wpAny (model X.prog X.w) X.A (evalPairs (pairTrees keys values X.env pos)) (fun vs s' => ∃ ps H', Inv X pins σ H' s' ∧ VV ps vs ∧ Q ps H') X.xe s
def mergeK (kvs more : List (Key × V)) : List (Key × V) := more.foldl (fun acc kv => putK acc kv.1 kv.2) kvs
def tDisp (trs : List (TE × TE)) : TE := fun σ H Q => ∀ p, H p = none → tPairs trs σ (upd H p (.dK [])) fun ps H2 => H2 p = some (.dK []) ∧ ∃ kvs : List (Key × V), ps = kvs.map (fun kv => (kV kv.1, kv.2)) ∧ kvs.length ≤ 15 ∧ Q (.ref p) (upd H2 p (.dK (mergeK [] kvs)))
structure M1 (X : Cx) (o : Expr) (m : Str) (apos : Pos) (e : Expr) (cpos : Pos) : Prop where
  base : attributeBase o m X.env (eval o X.env) = eval o X.env
  few : ((backTo cpos (starEach [e] X.env)).all (fun x => !x.1) && (backToKw cpos (keywordEach [] X.env)).all (fun x => x.1.isSome)
    && decide (([e] : List Expr).length + ([] : List Keyword).length + (if ([] : List Keyword).isEmpty then 0 else 1) < 30)) = true
  line : (apos.endLine == cpos.line) = true
  trees : backTo cpos (starEach [e] X.env) = [(false, eval e X.env)]
structure M2 (X : Cx) (o : Expr) (m : Str) (apos : Pos) (e f : Expr) (cpos : Pos) : Prop where
  base : attributeBase o m X.env (eval o X.env) = eval o X.env
  few : ((backTo cpos (starEach [e, f] X.env)).all (fun x => !x.1) && (backToKw cpos (keywordEach [] X.env)).all (fun x => x.1.isSome)
    && decide (([e, f] : List Expr).length + ([] : List Keyword).length + (if ([] : List Keyword).isEmpty then 0 else 1) < 30)) = true
  line : (apos.endLine == cpos.line) = true
  trees : backTo cpos (starEach [e, f] X.env) = [(false, eval e X.env), (false, eval f X.env)]

def IsD (H : Hp) (a : Addr) : Prop := (∃ kvs, Rd H a (.dK kvs)) ∨ ∃ kvs, Rd H a (.dT kvs)
section
variable {X : Cx} {pins : List (Addr × Obj)} {σ : St} {H : Hp} {s : Shared} {a : Addr} {y d : V} {u r : Value} {o : Option V} {A : Around} {E : Value → Shared → Prop}
end

def tDGet1 (td ty : TE) : TE := fun σ H Q => td σ H fun x H1 => ∃ a, x = .ref a ∧ IsD H1 a ∧ ty σ H1 fun y H2 => ∃ o, DGet H2 a y o ∧ Q (o.getD .non) H2
def tDGet2 (td ty tx : TE) : TE := fun σ H Q => td σ H fun x H1 => ∃ a, x = .ref a ∧ IsD H1 a ∧ ty σ H1 fun y H2 => tx σ H2 fun z H3 => ∃ o, DGet H3 a y o ∧ Q (o.getD z) H3
def tDPop1 (td ty : TE) : TE := fun σ H Q => td σ H fun x H1 => ∃ a, x = .ref a ∧ IsD H1 a ∧ ty σ H1 fun y H2 => ∃ kvs k v, H2 a = some (.dK kvs) ∧ y = kV k ∧ valV kvs k = some v ∧ Q v (upd H2 a (.dK (dropK kvs k)))
def tDPop2 (td ty tx : TE) : TE := fun σ H Q => td σ H fun x H1 => ∃ a, x = .ref a ∧ IsD H1 a ∧ ty σ H1 fun y H2 => tx σ H2 fun z H3 => ∃ kvs k, H3 a = some (.dK kvs) ∧ y = kV k ∧
  (∀ v, valV kvs k = some v → Q v (upd H3 a (.dK (dropK kvs k)))) ∧ (valV kvs k = none → Q z H3)
section
variable {X : Cx} {o e f : Expr} {apos cpos : Pos} {td ty tx : TE}
end

section
variable {X : Cx} {pins : List (Addr × Obj)} {σ : St} {H : Hp} {s : Shared} {a : Addr} {kvs : List (Key × V)} {A : Around} {E : Value → Shared → Prop}
end


section
variable {X : Cx} {pins : List (Addr × Obj)} {σ : St} {H : Hp} {s : Shared} {a : Addr} {y : V} {u : Value} {A : Around} {E : Value → Shared → Prop}
end
end L2

namespace L2
open PySem PySem.Spec PyProof.Rows
section
variable {κ : Type} [DecidableEq κ]
end
end L2


set_option Elab.async false
set_option linter.all false
set_option maxRecDepth 100000
set_option maxHeartbeats 4000000
namespace L2
open PySem PySem.Spec PyProof.Rows
theorem getItem_whole {prog : Program} {w : World} {A : Around} {E : Value → Shared → Prop} {s : Shared} {t sl : Addr} {items : Array Value} {vl vu : Value} {lo hi : Option Int} {Q : Value → Shared → Prop}
    (ht : IsTup s.heap t items) (hs : s.heap.IsSliceOf sl vl vu .none) (pl : IsPart vl lo) (pu : IsPart vu hi) (hw : HT.sIx items.size 0 lo = 0 ∧ HT.sIx items.size items.size hi = items.size) (q : Q (.ref t) s) :
    wpAny (model prog w) A (getItem (.ref t) (.ref sl)) Q E s := by
  obtain ⟨os, hos, hcs, hds⟩ := id hs
  have hTs : s.TypeIs (.ref sl) "slice" := ⟨os, hos, hcs⟩
  unfold getItem
  try with_reducible refine wpAny_holding ?_
  refine wpAny_bind (wpAny_sequenceKey ht.typeIs (by decide) ?_)
  refine wpAny_bind (wpAny_callSpecial?_slot (name := Str.ofString "__getitem__") ht.typeIs slot_tuple_getitem
    (wpAny_call_entry slot_tuple_getitem ht.typeIs entry_tuple_getitem ?_ (args_tuple_getitem _ _)))
  show wpAny _ _ (Builtin.Tuple.tupleItemsOf (.ref t) >>= _) _ _ s
  refine wpAny_bind (tupleItemsOf_ ht ?_)
  refine wpAny_bind (wpAny_typeOf hTs ?_)
  rw [if_pos (by decide)]
  refine wpAny_bind (HT.sliceApplied_gen hs pl pu ?_)
  rw [hw.1, hw.2]
  dsimp only
  rw [if_pos (by simp)]
  unfold Builtin.Tuple.tupleIsExact
  refine wpAny_bind (wpAny_bind (wpAny_typeOf ht.typeIs (wpAny_pure ?_)))
  rw [if_pos (by decide)]
  refine wpAny_bind (wpAny_rule ?_)
  exact wpAny_pure ⟨_, rfl, wpAny_pure q⟩
def rSlW (K : PySem.W.Frag) : V → Option Int → Option Int → Hp → VK → Prop := fun x lo hi H Q => ∃ a xs, x = .ref a ∧ SqT K H a xs ∧
  ∀ p H', Same H H' → SqT K H' p (cutV xs lo hi) → Q (.ref p) H'
theorem cutV_whole {xs : List V} {lo hi : Option Int} (hw : HT.sIx xs.length 0 lo = 0 ∧ HT.sIx xs.length xs.length hi = xs.length) : cutV xs lo hi = xs := by
  unfold cutV
  rw [hw.1, hw.2, List.drop_zero, Nat.sub_zero, List.take_length]
section
variable {X : Cx}
theorem sl_tupW : SlR X (rSlW X.K) := by
  intro pins s σ H x v vl vu lo hi sl Q I rx hs pl pu h
  obtain ⟨a, xs, rfl, hx, q⟩ := h
  by_cases hw : HT.sIx xs.length 0 lo = 0 ∧ HT.sIx xs.length xs.length hi = xs.length
  · cases rx
    obtain ⟨its, r, ht, hz⟩ := I.tuple hx
    have hlen : its.toArray.size = xs.length := by rw [List.size_toArray]; exact r.length.symm
    refine ⟨"tuple", _, PyProof.Rows.slot_tuple_getitem.lookup, ht.typeIs, ?_⟩
    refine getItem_whole ht hs pl pu (by rw [hlen]; exact hw) ?_
    exact ⟨.ref a, H, I, rfl, q _ _ (Same.refl H) (by rw [cutV_whole hw]; exact hx)⟩
  · exact sl_tup pins s σ H _ v vl vu lo hi sl Q I rx hs pl pu ⟨a, xs, rfl, hx, hw, fun p hp => q _ _ (Same.upd hp) (SqT.of upd_same)⟩
end
def SameT (H H' : Hp) : Prop := ∀ b o, H b = some o → ((∃ xs, o = .tup xs) ∨ ∃ o1 o2, o = .frz o1 o2) → H' b = some o
theorem Same.t {H H' : Hp} (s : Same H H') : SameT H H' := fun b o e _ => s b o e
theorem SameT.refl (H : Hp) : SameT H H := fun b o e _ => e
theorem SameT.trans {H H' H'' : Hp} (a : SameT H H') (b : SameT H' H'') : SameT H H'' := fun x o e h => b x o (a x o e h) h
theorem SameT.upd {H H' : Hp} {p : Addr} {o : HO} (s : SameT H H') (h : ∀ u, H p = some u → ¬ ((∃ xs, u = .tup xs) ∨ ∃ o1 o2, u = .frz o1 o2)) : SameT H (L2.upd H' p o) := fun b u e k => by
  by_cases hb : b = p
  · subst hb; exact absurd k (h u e)
  · rw [upd_ne hb]; exact s b u e k
theorem SameT.tup {K : PySem.W.Frag} {H H' : Hp} {a : Addr} {xs : List V} (e : SameT H H') (h : SqT K H a xs) : SqT K H' a xs := by
  rcases h with (h | ⟨o, h⟩) | h
  · exact .inl (.inl (e _ _ h (.inl ⟨_, rfl⟩)))
  · exact .inl (.inr ⟨o, e _ _ h (.inr ⟨_, _, rfl⟩)⟩)
  · exact .inr h
mutual
theorem Rp.t {K : PySem.W.Frag} {H H' : Hp} (s : SameT H H') : ∀ {d : D} {v : V}, Rp K H d v → Rp K H' d v
  | .int i, v, h => by rw [Rp] at h ⊢; exact h
  | .str x, v, h => by rw [Rp] at h ⊢; exact h
  | .non, v, h => by rw [Rp] at h ⊢; exact h
  | .tup ds, v, h => by
    rw [Rp] at h ⊢
    obtain ⟨p, xs, e, hs, hl⟩ := h
    exact ⟨p, xs, e, s.tup hs, RpL.t s hl⟩
theorem RpL.t {K : PySem.W.Frag} {H H' : Hp} (s : SameT H H') : ∀ {ds : List D} {xs : List V}, RpL K H ds xs → RpL K H' ds xs
  | [], xs, h => by rw [RpL] at h ⊢; exact h
  | d :: ds, xs, h => by
    rw [RpL] at h ⊢
    obtain ⟨v, r, e, h1, h2⟩ := h
    exact ⟨v, r, e, Rp.t s h1, RpL.t s h2⟩
end
theorem RpL.app {K : PySem.W.Frag} {H : Hp} : ∀ {ds es : List D} {xs ys : List V}, RpL K H ds xs → RpL K H es ys → RpL K H (ds ++ es) (xs ++ ys)
  | [], es, xs, ys, h, g => by rw [RpL] at h; subst h; exact g
  | d :: ds, es, xs, ys, h, g => by
    rw [RpL] at h
    obtain ⟨v, r, rfl, h1, h2⟩ := h
    rw [List.cons_append, List.cons_append, RpL]
    exact ⟨v, r ++ ys, rfl, h1, RpL.app h2 g⟩
theorem RpL.one {K : PySem.W.Frag} {H : Hp} {d : D} {v : V} (h : Rp K H d v) : RpL K H [d] [v] := by
  rw [RpL]; exact ⟨v, [], rfl, h, by rw [RpL]⟩
theorem RpL.nil {K : PySem.W.Frag} {H : Hp} : RpL K H [] [] := by rw [RpL]
def But (l : List Addr) (H H' : Hp) : Prop := ∀ b o, H b = some o → b ∉ l → H' b = some o
theorem Same.but {H H' : Hp} {l : List Addr} (s : Same H H') : But l H H' := fun b o e _ => s b o e
theorem But.trans {l : List Addr} {H H' H'' : Hp} (a : But l H H') (b : But l H' H'') : But l H H'' := fun x o e h => b x o (a x o e h) h
theorem But.upd {l : List Addr} {H H' : Hp} {p : Addr} {o : HO} (s : But l H H') (h : H p = none ∨ p ∈ l) : But l H (L2.upd H' p o) := fun b u e k => by
  have hb : b ≠ p := by
    rintro rfl
    rcases h with h | h
    · rw [h] at e; cases e
    · exact k h
  rw [upd_ne hb]; exact s b u e k
theorem But.mono {l l' : List Addr} {H H' : Hp} (s : But l H H') (h : ∀ b ∈ l, b ∈ l') : But l' H H' := fun b o e k => s b o e fun z => k (h b z)
def tNotT (K : PySem.W.Frag) (ta : TE) : TE := fun σ H Q => ta σ H fun x H1 => ∃ k, TruV K x H1 k ∧ Q (.bl (!k)) H1
section
variable {X : Cx} {a : Expr} {ta : TE} {pos : Pos}
end
theorem un {H : Hp} {p b : Addr} {o : HO} (h : upd H p o b = none) : b ≠ p ∧ H b = none := by
  have hb : b ≠ p := by rintro rfl; rw [upd_same] at h; cases h
  rw [upd_ne hb] at h
  exact ⟨hb, h⟩
theorem But.free {l : List Addr} {H G : Hp} {b : Addr} (bt : But l H G) (hl : ∀ c ∈ l, ∃ o, G c = some o) (h : G b = none) : H b = none := by
  cases e : H b with
  | none => rfl
  | some o =>
    by_cases m : b ∈ l
    · obtain ⟨o, z⟩ := hl b m; rw [h] at z; cases z
    · have := bt b o e m; rw [h] at this; cases this
theorem But.refl (l : List Addr) (H : Hp) : But l H H := fun _ _ e _ => e
end L2

set_option Elab.async false
set_option linter.all false
set_option maxRecDepth 100000
set_option maxHeartbeats 4000000
namespace L2
open PySem PySem.Spec PyProof.Rows
def tDComp0 (wi : TI) : TE := fun σ H Q => wi σ H fun J H1 => ∀ p, H1 p = none → J.stop 0 (upd H1 p (.dK [])) ∧ Q (.ref p) (upd H1 p (.dK []))
section
variable {X : Cx}
end
end L2

set_option Elab.async false
set_option linter.all false
set_option maxRecDepth 100000
set_option maxHeartbeats 4000000
namespace L2
open PySem PySem.Spec PyProof.Rows
section
variable {X : Cx} {st : Stmt} {rest : List Stmt} {t u : TS}
def hold {α : Sort u} (a : α) : α := a
def tSeqH (a b : TS) : TS := fun D σ H => a { D with nx := hold (b D) } σ H
theorem pss_consH (h1 : PS X st t) (h2 : PSs X rest u) : PSs X (st :: rest) (tSeqH t u) := pss_cons h1 h2
theorem hold_at {R : St → Hp → Prop} {σ : St} {H : Hp} (h : R σ H) : hold R σ H := h
end
end L2

set_option Elab.async false
set_option linter.all false
set_option maxRecDepth 100000
set_option maxHeartbeats 4000000
namespace L2
open PySem PySem.Spec PyProof.Rows
def oRef (x : V) (P : Addr → Prop) : Prop := match x with | .ref a => P a | _ => False
def oInt (x : V) (P : Int → Prop) : Prop := match x with | .int a => P a | _ => False
def oBl (x : V) (P : Bool → Prop) : Prop := match x with | .bl a => P a | _ => False
def oGet (σ : St) (i : Nat) (P : V → Prop) : Prop := match σ[i]? with | some (some v) => P v | _ => False
def o1 (vs : List V) (P : V → Prop) : Prop := match vs with | [x] => P x | _ => False
def o2 (vs : List V) (P : V → V → Prop) : Prop := match vs with | [x, y] => P x y | _ => False
def o0 (vs : List V) (P : Prop) : Prop := match vs with | [] => P | _ => False
def oC (vs : List V) (P : V → List V → Prop) : Prop := match vs with | x :: r => P x r | _ => False
theorem oRef.ex {x : V} {P : Addr → Prop} (h : oRef x P) : ∃ a, x = .ref a ∧ P a := by cases x <;> first | exact ⟨_, rfl, h⟩ | exact h.elim
theorem oInt.ex {x : V} {P : Int → Prop} (h : oInt x P) : ∃ a, x = .int a ∧ P a := by cases x <;> first | exact ⟨_, rfl, h⟩ | exact h.elim
theorem oBl.ex {x : V} {P : Bool → Prop} (h : oBl x P) : ∃ a, x = .bl a ∧ P a := by cases x <;> first | exact ⟨_, rfl, h⟩ | exact h.elim
theorem oGet.ex {σ : St} {i : Nat} {P : V → Prop} (h : oGet σ i P) : ∃ v, σ[i]? = some (some v) ∧ P v := by
  unfold oGet at h
  split at h
  · exact ⟨_, ‹_›, h⟩
  · exact h.elim
theorem o1.ex {vs : List V} {P : V → Prop} (h : o1 vs P) : ∃ x, vs = [x] ∧ P x := match vs, h with | [x], h => ⟨x, rfl, h⟩
theorem o2.ex {vs : List V} {P : V → V → Prop} (h : o2 vs P) : ∃ x y, vs = [x, y] ∧ P x y := match vs, h with | [x, y], h => ⟨x, y, rfl, h⟩
theorem o0.ex {vs : List V} {P : Prop} (h : o0 vs P) : vs = [] ∧ P := match vs, h with | [], h => ⟨rfl, h⟩
theorem oC.ex {vs : List V} {P : V → List V → Prop} (h : oC vs P) : ∃ x r, vs = x :: r ∧ P x r := match vs, h with | x :: r, h => ⟨x, r, rfl, h⟩
def tMono (t : TE) : TE := fun σ H Q => ∃ Q', t σ H Q' ∧ ∀ v H', Q' v H' → Q v H'
def aMono (t : TA) : TA := fun σ H Q => ∃ Q', t σ H Q' ∧ ∀ v H', Q' v H' → Q v H'
def rMono (r : R2) : R2 := fun x y H Q => ∃ Q', r x y H Q' ∧ ∀ v H', Q' v H' → Q v H'
section
variable {X : Cx} {a b c o e value tg : Expr} {es : List Expr} {ta tb tc tv te : TE} {pos pos' apos tpos p : Pos} {f x : Str}
theorem PE.mono {t : TE} (h : PE X e t) : PE X e (tMono t) := fun pins s σ H Q I ⟨Q', q, m⟩ => thn (h pins s σ H Q' I q) fun _ _ ⟨v, H', I', r, z⟩ => ⟨v, H', I', r, m _ _ z⟩
theorem PA.mono {t : TA} (h : PA X es t) : PA X es (aMono t) := fun p pins s σ H Q I ⟨Q', q, m⟩ => thn (h p pins s σ H Q' I q) fun _ _ ⟨v, H', I', r, z⟩ => ⟨v, H', I', r, m _ _ z⟩
theorem OpR.mono {f : Value → Value → Sem Value} {r : R2} (h : OpR X f r) : OpR X f (rMono r) := fun pins s σ H x y v u Q I r1 r2 ⟨Q', q, m⟩ => thn (h pins s σ H x y v u Q' I r1 r2 q) fun _ _ ⟨v, H', I', r, z⟩ => ⟨v, H', I', r, m _ _ z⟩
theorem OpR.imp {f : Value → Value → Sem Value} {r r' : R2} (h : OpR X f r) (i : ∀ x y H Q, r' x y H Q → r x y H Q) : OpR X f r' := fun pins s σ H x y v u Q I r1 r2 q => h pins s σ H x y v u Q I r1 r2 (i _ _ _ _ q)
theorem UnR.imp {f : Value → Sem Value} {r r' : V → Hp → VK → Prop} (h : UnR X f r) (i : ∀ x H Q, r' x H Q → r x H Q) : UnR X f r' := fun pins s σ H x v Q I r1 q => h pins s σ H x v Q I r1 (i _ _ _ q)
theorem IxR.imp {r r' : R2} (h : IxR X r) (i : ∀ x y H Q, r' x y H Q → r x y H Q) : IxR X r' := fun value slice pins s σ H x y v u Q I r1 r2 q => h value slice pins s σ H x y v u Q I r1 r2 (i _ _ _ _ q)
theorem PT.imp {t t' : TT} (h : PT X e t) (i : ∀ σ H Q, t' σ H Q → t σ H Q) : PT X e t' := fun pins s σ H Q I q => h pins s σ H Q I (i _ _ _ q)
theorem PG.imp {t t' : TG} (h : PG X e t) (i : ∀ v σ H Q, t' v σ H Q → t v σ H Q) : PG X e t' := fun pins s σ H v u Q I r q => h pins s σ H v u Q I r (i _ _ _ _ q)
theorem PGs.imp {t t' : TGs} (h : PGs X es t) (i : ∀ v σ H Q, t' v σ H Q → t v σ H Q) : PGs X es t' := fun pins s σ H v u Q I r q => h pins s σ H v u Q I r (i _ _ _ _ q)
theorem PS.imp {st : Stmt} {t t' : TS} (h : PS X st t) (i : ∀ D σ H, t' D σ H → t D σ H) : PS X st t' := fun pins s σ H D I q => h pins s σ H D I (i _ _ _ q)
theorem CallR.imp {g : Value} {r r' : List V → Hp → VK → Prop} (h : CallR X g r) (i : ∀ xs H Q, r' xs H Q → r xs H Q) : CallR X g r' := fun pins s σ H xs us Q I r1 q => h pins s σ H xs us Q I r1 (i _ _ _ q)
theorem MtM.imp {id : String} {r r' : V → List V → Hp → VK → Prop} (h : MtM X id r) (i : ∀ x xs H Q, r' x xs H Q → r x xs H Q) : MtM X id r' := fun pins s σ H x xs v us Q I r1 r2 q => h pins s σ H x xs v us Q I r1 r2 (i _ _ _ _ q)
theorem PI.imp {iter : Expr} {t t' : TI} (h : PI X tg iter t) (i : ∀ σ H R, t' σ H R → t σ H R) : PI X tg iter t' := fun pins s σ H R I q => h pins s σ H R I (i _ _ _ q)
theorem PSet.imp {t t' : TSet} (h : PSet X t) (i : ∀ o i v H Q, t' o i v H Q → t o i v H Q) : PSet X t' := fun pins s σ H o i' v ov iv u Q I r1 r2 r3 q => h pins s σ H o i' v ov iv u Q I r1 r2 r3 (i _ _ _ _ _ q)
theorem SlR.imp {r r' : V → Option Int → Option Int → Hp → VK → Prop} (h : SlR X r) (i : ∀ x l u H Q, r' x l u H Q → r x l u H Q) : SlR X r' := fun pins s σ H x v vl vu lo hi sl Q I r1 r2 r3 r4 q => h pins s σ H x v vl vu lo hi sl Q I r1 r2 r3 r4 (i _ _ _ _ _ q)
def tVarD (i : Nat) : TE := fun σ H Q => oGet σ i fun v => Q v H
theorem pvD (i : Nat) {x : Str} {pos : Pos} (hN : X.N[i]? = some x := by rfl) (hv : Vis X.env.scope x := by first | exact Or.inl rfl | exact Or.inr (Or.inl rfl) | exact Or.inr (Or.inr rfl)) (hd : (x == ("__debug__" : Str)) = false := by decide)
    (hcd : (x == ("__classdict__" : Str)) = false := by decide) : PE X (.Name x pos) (tVarD i) := (pv i hN hv hd hcd).imp fun _ _ _ h => oGet.ex h
def tBD (t : TE) : TT := fun σ H Q => t σ H fun x H1 => oBl x fun c => Q c H1
theorem pt_valD {e : Expr} {t : TE} (h : PE X e t) (he : ∀ whole, isTrue e X.env whole = (do let v ← whole; standAt e.pos; holding [v] (truthy v)) := by intro _; rfl) : PT X e (tBD t) :=
  (pt_val h.mono he).imp fun _ _ _ q => ⟨_, q, fun _ _ z => z.ex⟩
theorem pt_cmpRD {op : CmpOp} {r : R2} (ho : OpR X (compareOp op) r) (ha : PE X a ta) (hb : PE X b tb) (hm : behindInMarks op b = false) : PT X (.Compare a [op] [b] pos) (tBD (tOp r ta tb)) :=
  (pt_cmpR ho.mono ha.mono hb.mono hm).imp fun _ _ _ q => ⟨_, q, fun _ _ q => ⟨_, q, fun _ _ q => ⟨_, q, fun _ _ z => z.ex⟩⟩⟩
def tAndVD (ta tb : TE) : TE := fun σ H Q => ta σ H fun x H1 => oBl x fun c => if c = true then tb σ H1 Q else Q (.bl false) H1
theorem pe_andD {rest : List Expr} (ha : PE X a ta) (hb : PE X (.BoolOp .And (b :: rest) pos) tb) : PE X (.BoolOp .And (a :: b :: rest) pos) (tAndVD ta tb) :=
  (pe_and ha.mono hb).imp fun _ _ _ q => ⟨_, q, fun _ _ z => z.ex⟩
def tFldD (K : PySem.W.Frag) (ta : TE) (f : Str) : TE := fun σ H Q => ta σ H fun x H1 => oRef x fun a => ∃ C dx fs, H1 a = some (.ins C dx fs) ∧ Cls K C ∧ NoAttr K C f ∧ ∃ v, fs.lookup f = some v ∧ Q v H1
def sFldD (K : PySem.W.Frag) (ta tv : TE) (f : Str) : TS := fun D σ H => tv σ H fun y H1 => ta σ H1 fun x H2 => oRef x fun a => ∃ C dx fs, H2 a = some (.ins C dx fs) ∧ Cls K C ∧ NoAttr K C f ∧ fs.length < 1000 ∧
  D.nx σ (upd H2 a (.ins C dx (putF f y fs)))
def sFldAugD (K : PySem.W.Frag) (ta tv : TE) (rd : V → V → Hp → VK → Prop) (f : Str) : TS := fun D σ H => ta σ H fun x H1 => oRef x fun a => ∃ C dx fs, H1 a = some (.ins C dx fs) ∧ Cls K C ∧ NoAttr K C f ∧ ∃ v, fs.lookup f = some v ∧
  tv σ H1 fun y H2 => rd v y H2 fun z H3 => ∃ dx' fs', H3 a = some (.ins C dx' fs') ∧ fs'.length < 1000 ∧ D.nx σ (upd H3 a (.ins C dx' (putF f z fs')))
def rID (C : Int → Int → Prop) (g : Int → Int → V) : R2 := fun x y H Q => oInt x fun i => oInt y fun j => C i j ∧ Q (g i j) H
def rI0D (g : Int → Int → V) : R2 := fun x y H Q => oInt x fun i => oInt y fun j => Q (g i j) H
def rUD (g : Int → V) : V → Hp → VK → Prop := fun x H Q => oInt x fun i => Q (g i) H
theorem OpR.iD {f : Value → Value → Sem Value} {C g} (h : OpR X f (rI C g)) : OpR X f (rID C g) := h.imp fun _ _ _ _ z => by
  obtain ⟨i, rfl, z1⟩ := z.ex; obtain ⟨j, rfl, z2⟩ := z1.ex; exact ⟨i, j, rfl, rfl, z2⟩
theorem OpR.i0D {f : Value → Value → Sem Value} {g} (h : OpR X f (rI0 g)) : OpR X f (rI0D g) := h.imp fun _ _ _ _ z => by
  obtain ⟨i, rfl, z1⟩ := z.ex; obtain ⟨j, rfl, z2⟩ := z1.ex; exact ⟨i, j, rfl, rfl, z2⟩
theorem op_addD : OpR X (binaryOp .Add) (rI0D fun i j => .int (i + j)) := op_add.i0D
theorem op_subD : OpR X (binaryOp .Sub) (rI0D fun i j => .int (i - j)) := op_sub.i0D
theorem op_mulWD : OpR X (binaryOp .Mult) (rID (fun i j => IntMulOk i j) fun i j => .int (i * j)) := op_mulW.iD
theorem op_fdivWD : OpR X (binaryOp .FloorDiv) (rID (fun _ j => 0 < j ∧ j < 2 ^ 100) fun i j => .int (i / j)) := op_fdivW.iD
theorem op_modD : OpR X (binaryOp .Mod) (rID (fun _ j => 0 < j) fun i j => .int (i % j)) := op_mod.iD
theorem op_powD : OpR X (binaryOp .Pow) (rID CPow fun i j => .int (i ^ j.toNat)) := op_pow.iD
theorem op_ltD : OpR X (compareOp .Lt) (rI0D fun i j => .bl (decide (i < j))) := op_lt.i0D
theorem op_leD : OpR X (compareOp .LtE) (rI0D fun i j => .bl (decide (i ≤ j))) := op_le.i0D
theorem op_gtD : OpR X (compareOp .Gt) (rI0D fun i j => .bl (decide (j < i))) := op_gt.i0D
theorem op_geD : OpR X (compareOp .GtE) (rI0D fun i j => .bl (decide (j ≤ i))) := op_ge.i0D
theorem un_negD : UnR X (unaryOp .USub) (rUD fun i => .int (-i)) := un_neg.imp fun _ _ _ z => z.ex
def rEqD1 (x y : V) (P : Bool → Prop) : Prop := match x with
  | .int i => (match y with | .int j => P (decide (i = j)) | .str _ => P false | .non => P false | _ => False)
  | .str i => (match y with | .str j => P (decide (i = j)) | .int _ => P false | .non => P false | _ => False)
  | .bl i => (match y with | .bl j => P (decide (i = j)) | .str _ => P false | .non => P false | _ => False)
  | .non => (match y with | .non => P true | .int _ => P false | .bl _ => P false | .str _ => P false | _ => False)
  | _ => False
theorem rEqD1.ex {x y : V} {P : Bool → Prop} (h : rEqD1 x y P) : scal x y = true ∧ P (decide (x = y)) := by
  cases x <;> cases y <;> first | exact h.elim | exact ⟨rfl, by simpa [rEqD1] using h⟩
def rEqX : R2 := fun x y H Q => rEqD1 x y fun k => Q (.bl k) H
def rNeX : R2 := fun x y H Q => rEqD1 x y fun k => Q (.bl (!k)) H
theorem op_eqD : OpR X (compareOp .Eq) rEqX := op_eq.imp fun _ _ _ _ z => z.ex
theorem op_neD : OpR X (compareOp .NotEq) rNeX := op_ne.imp fun _ _ _ _ z => z.ex
def rIxLD (K : PySem.W.Frag) : R2 := fun x y H Q => oRef x fun p => oInt y fun i => ∃ xs, SqL K H p xs ∧ ∃ v, atI xs i = some v ∧ Q v H
def rIxTD (K : PySem.W.Frag) : R2 := fun x y H Q => oRef x fun p => oInt y fun i => ∃ xs, SqT K H p xs ∧ ∃ v, atI xs i = some v ∧ Q v H
theorem ix_listD : IxR X (rIxLD X.K) := ix_list.imp fun _ _ _ _ z => by
  obtain ⟨p, rfl, z1⟩ := z.ex; obtain ⟨j, rfl, xs, h1, v, h2, h3⟩ := z1.ex; exact ⟨p, xs, j, v, rfl, rfl, h1, h2, h3⟩
theorem ix_tupD : IxR X (rIxTD X.K) := ix_tup.imp fun _ _ _ _ z => by
  obtain ⟨p, rfl, z1⟩ := z.ex; obtain ⟨j, rfl, xs, h1, v, h2, h3⟩ := z1.ex; exact ⟨p, xs, j, v, rfl, rfl, h1, h2, h3⟩
def gNilD : TGs := fun vs σ H Q => o0 vs (Q σ H)
def gConsD (t : TG) (u : TGs) : TGs := fun vs σ H Q => oC vs fun v r => t v σ H fun σ' H' => u r σ' H' Q
def gTupD (K : PySem.W.Frag) (n : Nat) (t : TGs) : TG := fun v σ H Q => oRef v fun a => ∃ xs, SqT K H a xs ∧ xs.length = n ∧ t xs σ H Q
def gLstD (K : PySem.W.Frag) (n : Nat) (t : TGs) : TG := fun v σ H Q => oRef v fun a => ∃ xs, SqL K H a xs ∧ xs.length = n ∧ t xs σ H Q
theorem pgs_nilD : PGs X [] gNilD := pgs_nil.imp fun _ _ _ _ z => z.ex
theorem pgs_consD {e : Expr} {es : List Expr} {t : TG} {u : TGs} (h1 : PG X e t) (h2 : PGs X es u)
    (hs : (assignEach (e :: es) X.env).map (·.2) = assign e X.env :: (assignEach es X.env).map (·.2) := by rfl) : PGs X (e :: es) (gConsD t u) := (pgs_cons h1 h2 hs).imp fun _ _ _ _ z => z.ex
theorem pg_tupD {es : List Expr} {k : Nat} {t : TGs} {n : Nat} (hc : X.calm = true) (h : PGs X es t)
    (hn : (assignEach es X.env).length = n := by rfl) (hst : (assignEach es X.env).findIdx? (·.1) = none := by rfl) : PG X (.Tuple es k pos) (gTupD X.K n t) :=
  (pg_tup hc h hn hst).imp fun _ _ _ _ z => by obtain ⟨a, rfl, xs, z⟩ := z.ex; exact ⟨a, xs, rfl, z⟩
def iListD (K : PySem.W.Frag) (tl : TE) : TI := fun σ H R => tl σ H fun x H1 => oRef x fun a => (∃ xs, SqL K H1 a xs) ∧ R (Itl K a) H1
def iTupD (K : PySem.W.Frag) (tl : TE) : TI := fun σ H R => tl σ H fun x H1 => oRef x fun a => (∃ xs, SqT K H1 a xs) ∧ R (Itt K a) H1
theorem pi_listD {l : Expr} {tl : TE} (hl : PE X l tl) : PI X tg l (iListD X.K tl) := (pi_list hl.mono).imp fun _ _ _ q => ⟨_, q, fun _ _ z => z.ex⟩
theorem pi_tupD {l : Expr} {tl : TE} (hl : PE X l tl) : PI X tg l (iTupD X.K tl) := (pi_tup hl.mono).imp fun _ _ _ q => ⟨_, q, fun _ _ z => z.ex⟩
def rMax : List V → Hp → VK → Prop := fun xs H Q => o2 xs fun x y => oInt x fun i => oInt y fun j => Q (.int (if j > i then j else i)) H
def rMin : List V → Hp → VK → Prop := fun xs H Q => o2 xs fun x y => oInt x fun i => oInt y fun j => Q (.int (if j < i then j else i)) H
def rLen (K : PySem.W.Frag) : List V → Hp → VK → Prop := fun xs H Q => o1 xs fun x => oRef x fun p => ∃ ys, (SqL K H p ys ∨ SqT K H p ys) ∧ Q (.int ys.length) H
def rTupL (K : PySem.W.Frag) : List V → Hp → VK → Prop := fun xs H Q => o1 xs fun x => oRef x fun p => ∃ ys, SqL K H p ys ∧ ∀ l, H l = none → Q (.ref l) (upd H l (.tup ys))
theorem call_max2D (hc : X.calm = true) : CallR X (.builtin "max") rMax := (call_max2 hc).imp fun _ _ _ z => by
  obtain ⟨x, y, rfl, z1⟩ := z.ex; obtain ⟨i, rfl, z2⟩ := z1.ex; obtain ⟨j, rfl, z3⟩ := z2.ex; exact ⟨i, j, rfl, z3⟩
theorem call_min2D (hc : X.calm = true) : CallR X (.builtin "min") rMin := (call_min2 hc).imp fun _ _ _ z => by
  obtain ⟨x, y, rfl, z1⟩ := z.ex; obtain ⟨i, rfl, z2⟩ := z1.ex; obtain ⟨j, rfl, z3⟩ := z2.ex; exact ⟨i, j, rfl, z3⟩
theorem call_len_seqD : CallR X (.builtin "len") (rLen X.K) := call_len_seq.imp fun _ _ _ z => by
  obtain ⟨x, rfl, z1⟩ := z.ex; obtain ⟨p, rfl, ys, z2⟩ := z1.ex; exact ⟨p, ys, rfl, z2⟩
def rIsi (K : PySem.W.Frag) (c : Value) : List V → Hp → VK → Prop := fun xs H Q => o2 xs fun x y => RelV y c ∧ (∃ n, c = .type n) ∧ ∃ ty, (TyOf K H x ty ∨ ∃ p, x = .ref p ∧ (∃ ys, SqT K H p ys) ∧ ty = .type "tuple") ∧ ∃ b, PySem.W.kitOne K ty c = some b ∧ Q (.bl b) H
theorem call_isiXD {c : Value} : CallR X (.builtin "isinstance") (rIsi X.K c) := call_isiX.imp fun _ _ _ z => by
  obtain ⟨x, y, rfl, h1, h2, ty, h3, h4⟩ := z.ex
  exact ⟨x, y, rfl, h1, h2, ty, h3.imp id fun ⟨p, e, ⟨ys, h⟩, h'⟩ => ⟨p, ys, e, h, h'⟩, h4⟩
def rAppendD : V → List V → Hp → VK → Prop := fun x vs H Q => oRef x fun l => o1 vs fun y => ∃ xs, H l = some (.lst xs) ∧ xs.length < sizeLine ∧ Q .non (upd H l (.lst (xs ++ [y])))
theorem mt_appendD : MtM X "list.append" rAppendD := mt_append.imp fun _ _ _ _ z => by
  obtain ⟨l, rfl, z1⟩ := z.ex; obtain ⟨y, rfl, xs, z2⟩ := z1.ex; exact ⟨l, xs, y, rfl, rfl, z2⟩
def rSetLD : V → V → V → Hp → (Hp → Prop) → Prop := fun o i v H Q => oRef o fun p => oInt i fun k => ∃ xs, H p = some (.lst xs) ∧ ∃ j, ixN xs.length k = some j ∧ Q (upd H p (.lst (xs.set j v)))
end
end L2

set_option Elab.async false
set_option linter.all false
set_option maxRecDepth 100000
set_option maxHeartbeats 4000000
namespace L2
open PySem PySem.Spec PyProof.Rows
section
variable {X : Cx} {pins : List (Addr × Obj)} {σ : St} {H : Hp} {s : Shared}
def rEqL (K : PySem.W.Frag) (ne : Bool) : R2 := fun x y H Q => oRef x fun p => oRef y fun q => ∃ xs ys ds es, SqL K H p xs ∧ SqL K H q ys ∧ RpL K H ds xs ∧ RpL K H es ys ∧ depL ds ≤ 60 ∧ Q (.bl (if ne then !deqL ds es else deqL ds es)) H
end
end L2

set_option Elab.async false
set_option linter.all false
set_option maxRecDepth 100000
set_option maxHeartbeats 4000000
namespace L2
open PySem PySem.Spec PyProof.Rows
theorem lri_no_len : typeLookup (.type "list_reverseiterator") "__len__" = pure none := by rw [typeLookup_type, builtinLookup_eq_fast]; kernel_rfl
theorem lri_hint : typeLookup (.type "list_reverseiterator") "__length_hint__" = pure (some (.builtin "list_reverseiterator.__length_hint__")) := by rw [typeLookup_type, builtinLookup_eq_fast]; kernel_rfl
section
variable {prog : Program} {w : World} {A : Around} {s : Shared} {E : Value → Shared → Prop} {R : Result → Shared → Prop} {I l : Addr} {items : Array Value}
theorem hint_rev {Q : Bool → Shared → Prop} (hT : s.TypeIs (.ref I) "list_reverseiterator") (h : Q false s) : wpAny (model prog w) A (Builtin.List.listLengthHint (.ref I)) Q E s := by
  unfold Builtin.List.listLengthHint
  refine wpAny_bind (wpAny_specialOf hT lri_no_len ?_)
  show wpAny _ _ (specialOf (Value.ref I) (Str.ofString "__length_hint__") >>= _) _ _ _
  refine wpAny_bind (wpAny_specialOf hT lri_hint ?_)
  generalize hid : ("list_reverseiterator.__length_hint__" : String) = id0
  wp_delta
  rw [show splitId id0 = some ("list_reverseiterator", "__length_hint__") from by subst hid; decide +kernel]
  subst hid
  refine wpAny_bind (wpAny_isInstance (T := "list_reverseiterator") (b := true) hT (by rw [isSubtype_type]; kernel_rfl) ?_)
  refine wpAny_ite_split (fun hab => absurd hab (by decide)) (fun _ => ?_)
  refine wpAny_ite_split (fun _ => ?_) (fun hab => absurd (by decide +kernel) hab)
  refine wpAny_ite_split (fun hab => absurd hab (by decide)) (fun _ => ?_)
  exact wpAny_pure h
theorem ext_rev (hh : A.handled = none) (hne : l ≠ I) (S : Addr) (hSI : S ≠ I) (hSl : S ≠ l) (res : Value) (c₀ : Nat) (hit : s.heap.IsRevIter I l ((items.size : Int) - 1)) (hl : s.heap.IsList l items)
    (hS : s.heap.get? S = some { cls := .type "list", data := .seq #[] c₀ }) (hn : items.size ≤ sizeLine)
    (hR : ∀ h' tk acc' c', (∀ b o, b ≠ S → b ≠ I → s.heap.get? b = some o → h'.get? b = some o) → h'.get? S = some { cls := .type "list", dict := none, data := .seq acc' c', slots := #[] } →
      ItemsOf (fun i v => items[items.size - 1 - i]? = some v) acc' items.size → R (.ok (.ret res)) { s with heap := h', toks := tk }) :
    wpAny (model prog w) A.in1 (Builtin.List.listExtendWith (.ref S) (.ref I) res)
      (fun fin s' => match fin with | .done f => R (.ok f) s' | .again c' => c'.quiet = true ∧ codeAny (model prog w) A c' R s') (fun e s' => R (.error e) s') s := by
  have hSf : S ∉ [I, l] := by simp only [List.mem_cons, List.not_mem_nil, or_false, not_or]; exact ⟨hSI, hSl⟩
  have W := Walks.listRev (prog := prog) (w := w) (A := A.in1) hh I l hne items
  have st : ∀ h : Heap, h.IsRevIter I l ((items.size : Int) - 1) → h.IsList l items → 0 ≤ items.size ∧ h.IsRevIter I l ((items.size : Int) - 1 - ((0 : Nat) : Int)) ∧ h.IsList l items := fun h h1 h2 => ⟨Nat.zero_le _, by rw [show (items.size : Int) - 1 - ((0 : Nat) : Int) = (items.size : Int) - 1 by omega]; exact h1, h2⟩
  have key : ∀ (h : Heap) (c₁ tk : Nat), h.IsRevIter I l ((items.size : Int) - 1) → h.IsList l items → (∀ b o, b ≠ S → s.heap.get? b = some o → h.get? b = some o) →
      h.get? S = some { cls := .type "list", data := .seq #[] c₁ } → codeAny (model prog w) A (.builtin "list.extend.loop" ⟨[.ref S, .ref I, res], []⟩) R { s with heap := h, toks := tk } := by
    intro h c₁ tk h1 h2 hk hS₁
    refine codeAny_extend_loopS W.toS hn S hSf res items.size 0 _ #[] c₁ rfl (Nat.zero_le _) (st h h1 h2) hS₁ (ItemsOf.nil _) fun s' acc' c' hm hS' hacc => ?_
    rw [Moved.eq_with hm]
    refine hR s'.heap s'.toks acc' c' (fun b o hb hI e => hm.heap b o (fun hmem => ?_) (hk b o hb e)) hS' hacc
    rcases List.mem_cons.mp hmem with e' | hmem
    · exact hb e'
    · exact hI (List.mem_singleton.mp hmem)
  unfold Builtin.List.listExtendWith
  refine wpAny_bind (wpAny_typeOf (T := "list_reverseiterator") hit.typeIs ?_)
  have h1 : Builtin.List.listSameRef (.ref S) (.ref I) = false := by simp [Builtin.List.listSameRef, hSI]
  have h2 : (Value.type "list_reverseiterator" == Value.type "list") = false := by decide
  have h3 : (Value.type "list_reverseiterator" == Value.type "tuple") = false := by decide
  simp only [h1, h2, h3, Bool.or_false, Bool.false_eq_true, if_false]
  refine wpAny_bind (wpAny_pyIter_revIter hit ?_)
  refine wpAny_bind (wpAny_holding (hint_rev hit.typeIs ?_))
  refine wpAny_ite_split (fun _ => ?_) (fun _ => wpAny_pure ⟨plainId_quiet F.plain_extend_loop _, key _ c₀ _ hit hl (fun b o _ e => e) hS⟩)
  refine wpAny_bind (wpAny_rule ?_)
  refine wpAny_bind ?_
  show wpAny _ _ (updateSeq S (·.push .none) >>= fun _ => updateSeq S (·.pop)) _ _ _
  refine wpAny_bind (wpAny_updateSeq hS rfl ?_)
  have hS₂ := Heap.get?_update_self (Obj.mapSeq (·.push Value.none)) hS rfl
  refine wpAny_updateSeq (hz := by seq_fits) hS₂ rfl ?_
  have hS₃ := Heap.get?_update_self (Obj.mapSeq (·.pop)) hS₂ rfl
  have oth : ∀ b o, b ≠ S → s.heap.get? b = some o → ((s.heap.update S (Obj.mapSeq (·.push Value.none))).update S (Obj.mapSeq (·.pop))).get? b = some o :=
    fun b o hb e => (Heap.get?_update_other _ _ (Ne.symm hb)).trans ((Heap.get?_update_other _ _ (Ne.symm hb)).trans e)
  obtain ⟨oi, e1, e2, e3⟩ := id hit
  exact wpAny_pure ⟨plainId_quiet F.plain_extend_loop _, key _ _ _ ⟨oi, oth I oi (Ne.symm hSI) e1, e2, e3⟩ (hl.at fun o e => oth l o (Ne.symm hSl) e) (fun b o hb e => oth b o hb e) hS₃⟩
theorem init_rev (hh : A.handled = none) (hne : l ≠ I) (S : Addr) (hSI : S ≠ I) (hSl : S ≠ l) (hit : s.heap.IsRevIter I l ((items.size : Int) - 1)) (hl : s.heap.IsList l items)
    (hS : s.heap.get? S = some { cls := .type "list", data := .seq #[] }) (hn : items.size ≤ sizeLine)
    (hR : ∀ h' tk acc' c', (∀ b o, b ≠ S → b ≠ I → s.heap.get? b = some o → h'.get? b = some o) → h'.get? S = some { cls := .type "list", dict := none, data := .seq acc' c', slots := #[] } →
      ItemsOf (fun i v => items[items.size - 1 - i]? = some v) acc' items.size → R (.ok (.ret .none)) { s with heap := h', toks := tk }) :
    wpAny (model prog w) A.in1 (Builtin.«list.__init__» ⟨[.ref S, .ref I], []⟩)
      (fun fin s' => match fin with | .done f => R (.ok f) s' | .again c' => c'.quiet = true ∧ codeAny (model prog w) A c' R s') (fun e s' => R (.error e) s') s := by
  show wpAny _ A.in1 (do let old ← Builtin.List.listItems (.ref S); Builtin.List.listUpdate (.ref S) (fun _ => #[]); letGo old.toList.reverse; Builtin.List.listExtendWith (.ref S) (.ref I) .none) _ _ s
  refine wpAny_bind ?_
  unfold Builtin.List.listItems
  refine wpAny_bind (wpAny_seqItems hS rfl (wpAny_pure ?_))
  show wpAny _ A.in1 (updateSeq S (fun _ => #[]) >>= fun _ => letGo (#[] : Array Value).toList.reverse >>= fun _ => Builtin.List.listExtendWith (.ref S) (.ref I) .none) _ _ s
  refine wpAny_bind (wpAny_updateSeq hS rfl ?_)
  have hS₂ := Heap.get?_update_self (Obj.mapSeq (fun _ => (#[] : Array Value))) hS rfl
  have oth : ∀ b o, b ≠ S → s.heap.get? b = some o → (s.heap.update S (Obj.mapSeq (fun _ => (#[] : Array Value)))).get? b = some o :=
    fun b o hb e => (Heap.get?_update_other _ _ (Ne.symm hb)).trans e
  refine wpAny_bind (wpAny_letGo ?_)
  obtain ⟨oi, e1, e2, e3⟩ := id hit
  refine ext_rev hh hne S hSI hSl .none _ ⟨oi, oth I oi (Ne.symm hSI) e1, e2, e3⟩ (hl.at fun o e => oth l o (Ne.symm hSl) e) hS₂ hn fun h' tk acc' c' hk hS' hacc => ?_
  exact hR h' tk acc' c' (fun b o hb hI e => hk b o hb hI (oth b o hb e)) hS' hacc
theorem call_list_rev {Q : Value → Shared → Prop} (hh : A.handled = none) (hne : l ≠ I) (hit : s.heap.IsRevIter I l ((items.size : Int) - 1)) (hl : s.heap.IsList l items) (hn : items.size ≤ sizeLine)
    (hQ : ∀ h' tk c', (∀ b o, b ≠ I → s.heap.get? b = some o → h'.get? b = some o) → h'.get? s.heap.objs.size = some { cls := .type "list", dict := none, data := .seq items.reverse c', slots := #[] } → Q (.ref s.heap.objs.size) { s with heap := h', toks := tk }) :
    wpAny (model prog w) A (call (.type "list") [.ref I]) Q E s := by
  obtain ⟨oi, e1, e2, e3⟩ := id hit
  obtain ⟨ol, f1, f2, nn, f3⟩ := id hl
  have hSI : s.heap.objs.size ≠ I := Nat.ne_of_gt (Heap.lt_size e1)
  have hSl : s.heap.objs.size ≠ l := Nat.ne_of_gt (Heap.lt_size f1)
  refine callType_codes (Q₁ := fun obj s₁ => obj = .ref s.heap.objs.size ∧ s₁ = { s with heap := s.heap.push { cls := .type "list", data := .seq #[] } }) F.called_list (F.typeCall_list_1 _) F.entry_list_init
    (code_list_new _ ⟨rfl, rfl⟩) fun obj s₁ h₁ => ?_
  obtain ⟨rfl, rfl⟩ := h₁
  have hS : (s.heap.push { cls := .type "list", data := .seq #[] }).get? s.heap.objs.size = some { cls := .type "list", data := .seq #[] } := Heap.get?_push_size _ rfl
  refine ⟨⟨_, hS, rfl⟩, F.args_list_init_2 _ _, init_rev (A := A.in1) (show A.in1.handled = none from hh) hne _ hSI hSl ⟨oi, Heap.get?_push_of_some _ e1, e2, e3⟩ (hl.at fun o e => Heap.get?_push_of_some _ e) hS hn fun h' tk acc' c' hk hS' hacc => ?_⟩
  refine ⟨rfl, hQ h' tk c' (fun b o hb e => hk b o (Nat.ne_of_lt (Heap.lt_size e)) hb (Heap.get?_push_of_some _ e)) ?_⟩
  have ea : acc' = items.reverse := by
    obtain ⟨z1, z2⟩ := hacc
    refine Array.ext (by rw [z1, Array.size_reverse]) fun i h1 h2 => ?_
    have z : items[items.size - 1 - i]? = some acc'[i] := z2 i acc'[i] (Array.getElem?_eq_getElem h1)
    rw [Array.getElem_reverse]
    have hi : items.size - 1 - i < items.size := by rw [z1] at h1; omega
    rw [Array.getElem?_eq_getElem hi] at z
    exact (Option.some.inj z).symm
  rw [← ea]; exact hS'
end
section
variable {X : Cx} {e : Expr} {te : TE} {p p' pos pos' : Pos}
def tRev (K : PySem.W.Frag) (te : TE) : TE := fun σ H Q => te σ H fun x H1 => oRef x fun a => ∃ xs, SqL K H1 a xs ∧ ∀ l, H1 l = none → Q (.ref l) (upd H1 l (.lst xs.reverse))
theorem pe_listrev (hc : X.calm = true) (hgl : Gl X "list") (hml : X.mg "list" = none) (hgr : Gl X "reversed") (hmr : X.mg "reversed" = none) (ha : PE X e te)
    (he : starEach [.Call (.Name "reversed" p') [e] [] pos'] X.env = [(false, eval (.Call (.Name "reversed" p') [e] [] pos') X.env)] := by rfl)
    (he' : starEach [e] X.env = [(false, eval e X.env)] := by rfl) :
    PE X (.Call (.Name "list" p) [.Call (.Name "reversed" p') [e] [] pos'] [] pos) (tRev X.K te) := by
  intro pins s σ H Q I h
  refine wpAny_Call_Name_kw (ld_blt I hgl hml rfl ?_ (by decide) (by decide))
  refine PyProof.Rows.callWith_type1 ?_ he rfl
  rw [he]
  refine Calls.spliced_cons ?_
  refine wpAny_Call_Name_kw (ld_blt I hgr hmr rfl ?_ (by decide) (by decide))
  refine PyProof.Rows.callWith_type1 ?_ he' rfl
  rw [he']
  refine Calls.spliced_cons (thn (ha pins s σ H _ I h) fun u s1 ⟨x, H1, I1, r1, q1⟩ => Calls.spliced_nil ?_)
  obtain ⟨a, rfl, xs, hq, q⟩ := oRef.ex q1
  cases r1
  obtain ⟨its, rv, pl, hz⟩ := I1.list hq
  have hl := pl.isList
  obtain ⟨ol, f1, f2, nn, f3⟩ := id hl
  refine call_reversed_list hl ?_
  refine Calls.spliced_nil ?_
  have hne : a ≠ s1.heap.objs.size := Nat.ne_of_lt (Heap.lt_size f1)
  refine call_list_rev (l := a) (I := s1.heap.objs.size) (items := its.toArray) ?_ hne ⟨_, Heap.get?_push_size _ rfl, rfl, rfl⟩ (hl.at fun o e => Heap.get?_push_of_some _ e) (by rw [List.size_toArray, ← rv.length]; exact hz) fun h' tk c' hk hS' => ?_
  · exact I1.ok.hd hc
  · have hp : s1.heap.objs.size ≤ (s1.heap.push (revObj a ((its.toArray.size : Int) - 1))).objs.size := by rw [Heap.size_push]; exact Nat.le_succ _
    refine ⟨.ref _, _, I1.laid (t' := tk) (o := .lst xs.reverse) (fun b o e => hk b o (Nat.ne_of_lt (Heap.lt_size e)) (Heap.get?_push_of_some _ e)) hp ?_, rfl, q _ (I1.hok.fresh hp)⟩
    refine ⟨by rw [List.length_reverse]; exact hz, its.reverse, c', rv.reverse, ?_⟩
    rw [hS', List.reverse_toArray]
end
end L2
namespace L2
open PySem PySem.Spec PyProof.Rows
section
variable {X : Cx} {K : PySem.W.Frag} {pos : Pos}
def rListL (K : PySem.W.Frag) : List V → Hp → VK → Prop := fun xs H Q => o1 xs fun x => oRef x fun p => ∃ ys, SqL K H p ys ∧ ∀ l, H l = none → Q (.ref l) (upd H l (.lst ys))
theorem ix_tupKD (hK : X.K = K) : IxR X (rIxTD K) := hK ▸ ix_tupD
end
def rSlLD (K : PySem.W.Frag) : V → Option Int → Option Int → Hp → VK → Prop := fun x lo hi H Q => oRef x fun a => ∃ xs, SqL K H a xs ∧ ∀ p, H p = none → Q (.ref p) (upd H p (.lst (cutV xs lo hi)))
def tPartD (t : TE) : TO := fun σ H Q => t σ H fun x H1 => oInt x fun i => Q (some i) H1
theorem PO.imp {X : Cx} {e : Option Expr} {t t' : TO} (h : PO X e t) (i : ∀ σ H Q, t' σ H Q → t σ H Q) : PO X e t' := fun pins s σ H Q I q => h pins s σ H Q I (i _ _ _ q)
theorem po_someD {X : Cx} {e : Expr} {te : TE} (h : PE X e te) : PO X (some e) (tPartD te) := (po_some h.mono).imp fun _ _ _ q => ⟨_, q, fun _ _ z => z.ex⟩
def rCatD : R2 := fun x y H Q => oRef x fun l => oRef y fun b => ∃ xs, H l = some (.lst xs) ∧ ∃ zs, H b = some (.lst zs) ∧ xs.length + zs.length ≤ sizeLine ∧ ∀ p, H p = none → Q (.ref p) (upd H p (.lst (xs ++ zs)))
theorem op_catD {X : Cx} : OpR X (binaryOp .Add) rCatD := op_cat.imp fun _ _ _ _ z => by
  obtain ⟨l, rfl, z1⟩ := z.ex; obtain ⟨b, rfl, xs, h1, zs, h2, h3⟩ := z1.ex; exact ⟨l, b, xs, zs, rfl, rfl, h1, h2, h3⟩
def rEqSD (K : PySem.W.Frag) (ne : Bool) : R2 := fun x y H Q => ∃ ds es, Rp K H (.tup ds) x ∧ Rp K H (.tup es) y ∧ depL ds ≤ 60 ∧ Q (.bl (if ne then !deqL ds es else deqL ds es)) H
end L2

set_option Elab.async false
set_option linter.all false
set_option maxRecDepth 100000
set_option maxHeartbeats 4000000
namespace L2
open PySem PySem.Spec PyProof.Rows
section
variable {X : Cx}
theorem ps_setC {elt iter tg : Expr} {ifs : List Expr} {scope sc : Scope} {pos spos py : Pos} {y : Str} {i : Nat} {wi : TI} {g : TG} {tt : TT} {te : TE} {N0 N os : List Str} {js : List Nat}
    (hNd : X.N.Nodup) (hiN : X.N[i]? = some y) (hx : Loc X.env.scope y) (hc : X.calm = true) (hsc : X.env.scope = sc) (hN : X.N = N0) (ok : CompOk scope sc N0 js os N) (hi : PI X tg iter wi)
    (hg : ∀ s₃ H₃ fp cl, PG (cxC X scope cl N s₃ H₃ fp) tg g) (ht : ∀ s₃ H₃ fp cl, PIfs (cxC X scope cl N s₃ H₃ fp) ifs tt) (he : ∀ s₃ H₃ fp cl, PE (cxC X scope cl N s₃ H₃ fp) elt te)
    (hs : ∀ x, foldedSetIterable iter X.env x = pure x := by intro _; rfl) (hsw : swapsWith (.ListComp elt [⟨tg, iter, ifs, 0⟩] scope pos) (some (.Name y py)) spos.line X.env = pure true := by rfl)
    (hf : X.fn y = true ∨ X.env.scope.names.lookup y = some .local := by first | exact .inl rfl | exact .inr rfl | assumption) :
    PS X (.Assign [.Name y py] (.ListComp elt [⟨tg, iter, ifs, 0⟩] scope pos) spos) (tAsg (tComp js os wi g tt te) (gName i)) := by
  intro pins s σ H D I h
  rw [exec_Assign_Name_used _ _ _ _ hsw]
  refine wpAny_bind (wpAny_standAt (wpAny_bind ?_))
  show wpAny _ X.A (do let _ ← comprehension (.ListComp elt [⟨tg, iter, ifs, 0⟩] scope pos) scope X.env _ (newList []) false (eval iter X.env) (some (assign (.Name y py) X.env))) _ _ s
  have hfree : ∀ y ∈ scope.names, y.2 = .free → ∃ c, X.env.cells.lookup y.1 = some c := fun y hy e => I.ok.has _ (by
    have := ok.free y hy e
    rw [← hsc] at this
    exact this)
  refine wpAny_bind (wpAny_mono (wpAny_comprehension_free (use := some (assign (.Name y py) X.env)) (Q := fun _ s' => SP X pins D .next s') rfl hs (clos_eq hfree) ok.kind ok.names (thn (hi pins s σ H _ I h) fun v s1 h1 => thn h1 fun itv s2 h2 => ?_)) (fun _ s' hq => wpAny_pure (wpAny_pure hq)) fun _ _ e => e)
  obtain ⟨it, fp, tn, J, H1, e, I2, T, st2, f2, hW⟩ := h2
  subst e
  refine wpAny_newObj_type (wpAny_newFunctionEnv ok.cell (by intro y hy; simp at hy) (fun h₁ hns₁ hsb₁ => ?_) ok.kind)
  dsimp only at hns₁ hsb₁ ⊢
  have hfr : H1 s2.heap.objs.size = none := I2.fresh
  have I3 := I2.lnew (ys := []) (its := []) (t' := s2.toks) .nil (Nat.zero_le _)
  generalize hs3 : ({ s2 with heap := s2.heap.push { cls := .type "list", data := .seq ([] : List Value).toArray }, toks := s2.toks } : Shared) = s₃ at I3
  have eh : s2.heap.push { cls := .type "list", dict := none, data := .seq ([] : List Value).toArray } = s₃.heap := by rw [← hs3]
  rw [eh] at hns₁ hsb₁ ⊢
  have k23 : ∀ b o, s2.heap.get? b = some o → s₃.heap.get? b = some o := fun b o q => by rw [← eh]; exact Heap.get?_push_of_some _ q
  have lt2 : ∀ b ∈ fp, b < s2.heap.objs.size := fun b hb => by
    obtain ⟨o, q, _⟩ := T.obj _ _ st2 b hb
    exact Heap.lt_size q
  have sz3 : s2.heap.objs.size ≤ s₃.heap.objs.size := by rw [← eh, Heap.size_push]; exact Nat.le_succ _
  have f3 : ∀ b ∈ fp, FpOk X pins (upd H1 s2.heap.objs.size (.lst [])) b := fun b hb => ⟨by rw [upd_ne (Nat.ne_of_lt (lt2 b hb))]; exact (f2 b hb).1, (f2 b hb).2⟩
  have k34 : ∀ b o, s₃.heap.get? b = some o → h₁.get? b = some o := fun b o q => hsb₁.extBut b o (Nat.ne_of_lt (Heap.lt_size q)) (Heap.get?_push_of_some _ q)
  have I4 := inv_comp (t' := s₃.toks) hc hsc hN ok I3 f3 (fun b hb => Nat.lt_of_lt_of_le (lt2 b hb) sz3) hns₁ k34
  generalize hX' : cxC X scope (clGo X.env.cells scope.names []) N s₃ (upd H1 s2.heap.objs.size (.lst [])) fp = X' at I4
  obtain ⟨W, ⟨m0, w0⟩, turn⟩ := hW _ hfr
  have st4 : tn 0 h₁ := T.keep _ _ _ st2 fun b hb o q => k34 b o (k23 b o q)
  have stat : ∀ {H' : Hp}, (∀ b ∈ fp, H' b = none) → ∀ b ∈ fp, FpOk X' [] H' b := fun {H'} hn b hb => by
    subst hX'
    refine ⟨hn b hb, Nat.ne_of_lt (Nat.lt_of_lt_of_le (lt2 b hb) sz3), fun z => ?_, .inl hb, fun x c e => ?_, fun p hp => by cases hp⟩
    · rcases List.mem_cons.mp (I2.stkSub b z) with q | q
      · exact (f2 b hb).2.1 q
      · exact (f2 b hb).2.2.1 q
    · exact (f2 b hb).2.2.2.2.1 x c (clGo_sub (cells := X.env.cells) scope.names [] hfree (fun _ _ e => by cases e) _ _ e)
  have ePr : X'.prog = X.prog := by subst hX'; rfl
  have eW : X'.w = X.w := by subst hX'; rfl
  have eK : X'.K = X.K := by subst hX'; rfl
  have eA : X'.A = X.A := by subst hX'; rfl
  have eE : X'.env = compEnvC scope (clGo X.env.cells scope.names []) s₃.heap.objs.size X.env := by subst hX'; rfl
  have eC : X'.calm = true := by subst hX'; rfl
  have eX : X'.xe = fun _ _ => False := by subst hX'; rfl
  have hg' : PG X' tg g := by subst hX'; exact hg _ _ _ _
  have ht' : PIfs X' ifs tt := by subst hX'; exact ht _ _ _ _
  have he' : PE X' elt te := by subst hX'; exact he _ _ _ _
  have fin : ∀ {σ' : St} {H' : Hp} {s' : Shared}, Inv X' [] σ' H' s' → (∀ b ∈ fp, H' b = none) → D.nx (σ.set i (some (.ref s2.heap.objs.size))) H' → compPost (model X.prog X.w) X.A X.xe (some (assign (.Name y py) X.env)) (fun _ s' => SP X pins D .next s') (.ref s2.heap.objs.size) s₃.heap.objs.size (.ok .next) s' := by
    intro σ' H' s' I' hn q
    obtain ⟨m, hm, _⟩ := id I'.loc
    subst hX'
    have fC : H' s₃.heap.objs.size = none := I'.free
    have u1 : Un (frs X.stack) fp (upd H1 s2.heap.objs.size (.lst [])) H' s₃.heap s'.heap := by
      have b0 := I'.base
      exact ⟨fun b o e n hb hx => b0.keep b o e n hb hx, fun b o e n hb hx => b0.slot b o e n hb hx, b0.free, fun b o e hx => b0.there b o e hx, b0.tups, b0.frzs, b0.tbls⟩
    have Ip := I3.call' (s' := s') (ch := fp) I'.os u1 I'.hok I'.bare fun b hb => ⟨(f2 b hb).2.2.2.1, (f2 b hb).2.1, (f2 b hb).2.2.2.2.1, (f2 b hb).2.2.2.2.2⟩
    have cl : X.env.locals ≠ s₃.heap.objs.size := Nat.ne_of_lt I3.lt
    have cc : ∀ x c, X.env.cells.lookup x = some c → c ≠ s₃.heap.objs.size := fun x c e => by
      obtain ⟨v, o, ho, _⟩ := I3.cell x c e
      exact Nat.ne_of_lt (Heap.lt_size ho)
    show wpAny (model X.prog X.w) X.A (assign (.Name y py) X.env (.ref s2.heap.objs.size)) _ _ s'
    refine wpAny_assign_Name (store_ok2 Ip hNd hiN hx (v := .ref s2.heap.objs.size) rfl (fun s'' I'' ⟨a, sa, ha⟩ => ?_) hf)
    have na : s₃.heap.objs.size ≠ a := by
      rcases ha with ha | ha
      · rw [ha]; exact Ne.symm cl
      · exact Ne.symm (cc _ _ ha)
    refine ⟨m, hm.sameBut sa na, fun h3 sb => ⟨_, H', ?_, q⟩⟩
    have hok' : HOk X.prog X.w H' h3 := fun b ob e => by
      refine (I''.hok b ob e).stay (fun c w' hc' q' => (sb.2 c ?_).trans q') (fun _ q' => q') fun _ _ q' => q'
      rintro rfl
      rcases hc' with z | z
      · have e' := e; rw [← z] at e'; rw [fC] at e'; cases e'
      · rw [fC] at z; cases z
    have u2 : Un (frs X.stack) [s₃.heap.objs.size] H' H' s''.heap h3 :=
      have ne : ∀ b, b ∉ [s₃.heap.objs.size] → b ≠ s₃.heap.objs.size := fun b hb e => hb (by rw [e]; exact List.mem_singleton_self _)
      ⟨fun b o e n hb hx => (sb.2 b (ne b hx)).trans e, fun b o e n hb hx => ⟨o.slots, (sb.2 b (ne b hx)).trans e⟩, fun b o e n hx => n, fun b o e hx => ⟨o, (sb.2 b (ne b hx)).trans e⟩, fun b xs e => e, fun b o u e => e, fun b ps e => ⟨#[], by rw [e]; simp⟩⟩
    exact I''.call' (s' := { s'' with heap := h3 }) (ch := [s₃.heap.objs.size]) rfl u2 hok' I''.bare fun b hb => by
      rw [List.mem_singleton.mp hb]
      exact ⟨.inr I3.sz, Ne.symm cl, cc, fun p hp e => absurd (Heap.lt_size (I3.pin p hp).1) (by rw [e]; exact Nat.lt_irrefl _)⟩
  have loop : codeAny (model X.prog X.w) X.A (.compLoop (.ListComp elt [⟨tg, iter, ifs, 0⟩] scope pos) 0 (.ref it) (.ref s2.heap.objs.size) (compEnvC scope (clGo X.env.cells scope.names []) s₃.heap.objs.size X.env))
      (compPost (model X.prog X.w) X.A X.xe (some (assign (.Name y py) X.env)) (fun _ s' => SP X pins D .next s') (.ref s2.heap.objs.size) s₃.heap.objs.size) { s₃ with heap := h₁, toks := s₃.toks } := by
    refine comp_loop (fun n s' => ∃ i σ' H', Inv X' [] σ' H' s' ∧ tn i s'.heap ∧ (∀ b ∈ fp, H' b = none) ∧ W i n σ' H') ?_ m0 ⟨0, _, _, I4, st4, fun b hb => (f3 b hb).1, w0⟩
    rintro n s5 ⟨i, σ5, H5, I5, st5, fr5, w5⟩
    rw [← ePr, ← eW, ← eA, ← eE]
    rcases turn i n σ5 H5 w5 with ⟨stop, qn⟩ | ⟨go, step⟩
    · have := T.done X' ePr eW eK eC i [] s5 σ5 H5 X'.xe I5 (stat fr5) st5 stop
      rw [eX] at this
      rw [← ePr, ← eW] at this
      refine thn this fun r s6 ⟨hr, I6⟩ => ?_
      subst hr
      dsimp only
      rw [ePr, eW, eA]
      exact fin I6 fr5 qn
    · have := T.item X' ePr eW eK eC i [] s5 σ5 H5 X'.xe I5 (stat fr5) st5 go
      rw [eX] at this
      rw [← ePr, ← eW] at this
      refine thn this fun r s6 ⟨u, hr, h6⟩ => ?_
      subst hr
      dsimp only
      refine thn h6 fun _ s7 ⟨x, H7, I7, r7, y7, st7, fr7⟩ => ?_
      have I7' := I7.pinned (stat fr7) (T.obj _ _ st7)
      have g7 := hg' _ s7 σ5 H7 x u _ I7' r7 (step x H7 y7)
      rw [eX] at g7
      refine thn g7 fun _ s8 ⟨σ8, H8, I8, q8⟩ => ?_
      have t8 := ht' _ s8 σ8 H8 _ I8 q8
      rw [eX] at t8
      have again : ∀ {σ9 : St} {H9 : Hp} {s9 : Shared}, Inv X' ([] ++ pinsAt fp s7.heap) σ9 H9 s9 → tn (i + 1) s9.heap ∧ ∀ b ∈ fp, H9 b = none := fun {σ9 H9 s9} I9 => by
        refine ⟨T.keep _ _ _ st7 fun b hb o e => (I9.pin (b, o) (List.mem_append_right _ (List.mem_append_right _ (mem_pinsAt hb e)))).1, fun b hb => ?_⟩
        obtain ⟨o, e, d⟩ := T.obj _ _ st7 b hb
        exact (I9.pin (b, o) (List.mem_append_right _ (List.mem_append_right _ (mem_pinsAt hb e)))).2.1
      refine thn t8 fun b s9 ⟨H9, I9, q9⟩ => ?_
      cases b with
      | false =>
        rw [if_neg Bool.false_ne_true] at q9 ⊢
        obtain ⟨m', hm, w9⟩ := q9
        exact ⟨m', hm, i + 1, σ8, H9, I9.unpinned, (again I9).1, (again I9).2, w9⟩
      | true =>
        rw [if_pos rfl] at q9 ⊢
        have e9 := he' _ s9 σ8 H9 _ I9 q9
        rw [eX] at e9
        refine thn e9 fun y s10 ⟨z, H10, I10, r10, ys, hy, hlen, m', hm, w10⟩ => ?_
        have a10 := mt_append (X := X') _ s10 σ8 H10 (.ref s2.heap.objs.size) [z] _ _ (fun _ H11 => H11 = upd H10 s2.heap.objs.size (.lst (ys ++ [z]))) I10 rfl (.cons r10 .nil) ⟨_, ys, z, rfl, rfl, hy, hlen, rfl⟩
        rw [eX] at a10
        refine thn a10 fun _ s11 ⟨_, H11, I11, _, e11⟩ => ?_
        subst e11
        exact ⟨m', hm, i + 1, σ8, _, I11.unpinned, (again I11).1, (again I11).2, w10⟩
  have es : ({ s2 with heap := h₁, toks := s2.toks + ([] : List (Str × Value)).length } : Shared) = { s₃ with heap := h₁, toks := s₃.toks } := by rw [← hs3]; rfl
  rw [show ({ s2 with heap := h₁, toks := s2.toks + ([] : List (Str × Value)).length } : Shared) = { s₃ with heap := h₁, toks := s₃.toks } from es]
  exact codeAny_compStart_list loop (T.self _ 0 _ _ _ st4 loop)
end
end L2

set_option Elab.async false
set_option linter.all false
set_option maxRecDepth 100000
set_option maxHeartbeats 4000000
namespace L2
open PySem PySem.Spec PyProof.Rows
section
variable {X : Cx} {pins : List (Addr × Obj)} {σ : St} {H : Hp} {s : Shared} {h' : Heap} {fp : List Addr} {t' : Nat}
end
def Itz (K : PySem.W.Frag) (a b : Addr) : It :=
  ⟨fun i H => ∃ xs ys x y, SqL K H a xs ∧ SqL K H b ys ∧ xs[i]? = some x ∧ ys[i]? = some y,
   fun i H v H' => ∃ p x y, v = .ref p ∧ H p = none ∧ H' = upd H p (.tup [x, y]) ∧ ∀ xs ys, SqL K H a xs → SqL K H b ys → xs[i]? = some x ∧ ys[i]? = some y,
   fun i H => ∃ xs ys, SqL K H a xs ∧ SqL K H b ys ∧ (xs.length ≤ i ∨ ys.length ≤ i)⟩
section
variable {X : Cx} {elts : List Expr} {tx : Nat} {tp p pos : Pos}
def iZip (K : PySem.W.Frag) (ta : TA) : TI := fun σ H R => ta σ H fun vs H1 => ∃ a b : Addr, vs = [.ref a, .ref b] ∧ (∃ xs, SqL K H1 a xs) ∧ (∃ ys, SqL K H1 b ys) ∧ R (Itz K a b) H1
def iZipD (K : PySem.W.Frag) (ta : TA) : TI := fun σ H R => ta σ H fun vs H1 => o2 vs fun x y => oRef x fun a => oRef y fun b => (∃ xs, SqL K H1 a xs) ∧ (∃ ys, SqL K H1 b ys) ∧ R (Itz K a b) H1
end
end L2

set_option Elab.async false
set_option linter.all false
set_option maxRecDepth 100000
set_option maxHeartbeats 4000000
namespace L2
open PySem PySem.Spec PyProof.Rows
section
variable {X : Cx} {pins : List (Addr × Obj)} {σ : St} {H : Hp} {s : Shared}
noncomputable def ansT (its : List Value) (ds : List (List D)) (d : List D) (u : Value) : Bool :=
  @decide (∃ j : Nat, its[j]? = some u ∧ ∃ e : List D, ds[j]? = some e ∧ deqL e d = true) (Classical.propDecidable _)
theorem Vals.get' : ∀ {vs : List V} {its : List Value} {j : Nat} {u : Value}, Vals vs its → its[j]? = some u → ∃ v, vs[j]? = some v ∧ RelV v u
  | _, _, j, u, .nil, h => by simp at h
  | _, _, 0, u, .cons r t, h => ⟨_, rfl, by simp at h; exact h ▸ r⟩
  | _, _, j + 1, u, .cons r t, h => by simpa using Vals.get' t (by simpa using h)
mutual
theorem deq_eq : ∀ {d e : D}, deq d e = true → d = e
  | .int i, .int j, h => by rw [deq] at h; rw [eq_of_beq h]
  | .str i, .str j, h => by rw [deq] at h; rw [eq_of_beq h]
  | .non, .non, h => rfl
  | .tup ds, .tup es, h => by rw [deq] at h; rw [deqL_eq h]
  | .int _, .str _, h | .int _, .non, h | .int _, .tup _, h | .str _, .int _, h | .str _, .non, h | .str _, .tup _, h | .non, .int _, h | .non, .str _, h | .non, .tup _, h | .tup _, .int _, h | .tup _, .str _, h | .tup _, .non, h => by simp [deq] at h
theorem deqL_eq : ∀ {ds es : List D}, deqL ds es = true → ds = es
  | [], [], _ => rfl
  | [], e :: es, h => by simp [deqL] at h
  | d :: ds, [], h => by simp [deqL] at h
  | d :: ds, e :: es, h => by
    rw [deqL, Bool.and_eq_true] at h
    rw [deq_eq h.1, deqL_eq h.2]
end
def rInT (K : PySem.W.Frag) : R2 := fun x y H Q => oRef y fun p => ∃ (xs : List V) (ds : List (List D)) (d : List D), SqL K H p xs ∧ RpL K H (ds.map D.tup) xs ∧ Rp K H (.tup d) x ∧ depL (ds.map D.tup) ≤ 60 ∧ Q (.bl (ds.any fun e => deqL e d)) H
def isNon (x : V) : Bool := match x with | .non => true | _ => false
def oNon (x : V) (P : Prop) : Prop := match x with | .non => P | _ => False
theorem oNon.ex {x : V} {P : Prop} (h : oNon x P) : x = .non ∧ P := by cases x <;> first | exact ⟨rfl, h⟩ | exact h.elim
theorem isNon_eq (x : V) : isNon x = decide (x = .non) := by cases x <;> simp [isNon]
def rIsND : R2 := fun x y H Q => oNon y (Q (.bl (isNon x)) H)
def rNotND : R2 := fun x y H Q => oNon y (Q (.bl (!isNon x)) H)
theorem op_isND : OpR X (compareOp .Is) rIsND := op_isN.imp fun _ _ _ _ z => by obtain ⟨e, z⟩ := oNon.ex z; exact ⟨e, by rw [← isNon_eq]; exact z⟩
def rInFD (K : PySem.W.Frag) (neg : Bool) : R2 := fun x y H Q => oRef y fun p => ∃ xs, (SqL K H p xs ∨ SqT K H p xs) ∧ flatV x = true ∧ xs.all flatV = true ∧ Q (.bl (if neg then !inV x xs else inV x xs)) H
theorem op_inFD : OpR X (compareOp .In) (rInFD X.K false) := op_in_seq.imp fun _ _ _ _ z => by obtain ⟨p, e, xs, z⟩ := oRef.ex z; exact ⟨p, xs, e, z⟩
theorem op_notInFD : OpR X (compareOp .NotIn) (rInFD X.K true) := op_notIn_seq.imp fun _ _ _ _ z => by obtain ⟨p, e, xs, z⟩ := oRef.ex z; exact ⟨p, xs, e, z⟩
end
end L2

set_option Elab.async false
set_option linter.all false
set_option maxRecDepth 100000
set_option maxHeartbeats 4000000
namespace L2
open PySem PySem.Spec PyProof.Rows
theorem vals_of : ∀ {xs : List V} {us : List Value}, xs.length = us.length → (∀ (i : Nat) x u, xs[i]? = some x → us[i]? = some u → RelV x u) → Vals xs us
  | [], [], _, _ => .nil
  | x :: xs, u :: us, hl, h => .cons (h 0 x u rfl rfl) (vals_of (by simpa using hl) fun i y v a b => h (i + 1) y v (by simpa using a) (by simpa using b))
  | [], _ :: _, hl, _ => by simp at hl
  | _ :: _, [], hl, _ => by simp at hl
section
variable {X : Cx} {a b : Expr} {ta : TA} {p p' pos pos' : Pos}
def tLRng (ta : TA) : TE := fun σ H Q => ta σ H fun vs H1 => o2 vs fun x y => oInt x fun i => oInt y fun j => (-(2 ^ 62) ≤ i ∧ i < 2 ^ 62 ∧ -(2 ^ 62) ≤ j ∧ j < 2 ^ 62) ∧ (j - i).toNat < 1000 ∧ ∀ l, H1 l = none → Q (.ref l) (upd H1 l (.lst ((List.range (j - i).toNat).map fun (k : Nat) => V.int (i + k))))
theorem pe_listrng (hc : X.calm = true) (hgl : Gl X "list") (hml : X.mg "list" = none) (hgr : Gl X "range") (hmr : X.mg "range" = none) (ha : PA X [a, b] ta)
    (he : starEach [.Call (.Name "range" p') [a, b] [] pos'] X.env = [(false, eval (.Call (.Name "range" p') [a, b] [] pos') X.env)] := by rfl)
    (hs : starEach [a, b] X.env = [(false, eval a X.env), (false, eval b X.env)] := by rfl) (hs2 : starEach [b] X.env = [(false, eval b X.env)] := by rfl) :
    PE X (.Call (.Name "list" p) [.Call (.Name "range" p') [a, b] [] pos'] [] pos) (tLRng ta) := by
  intro pins s σ H Q I h
  refine wpAny_Call_Name_kw (ld_blt I hgl hml rfl ?_ (by decide) (by decide))
  refine PyProof.Rows.callWith_type1 ?_ he rfl
  rw [he]
  refine Calls.spliced_cons ?_
  refine Call_ (ld_blt I hgr hmr boot_range (PyProof.Rows.callWith_type1 (thn (ha pos' pins s σ H _ I h) fun us s1 ⟨vs, H1, I1, r1, q1⟩ => ?_) (by rw [hs, hs2]) (by rw [hs2]; rfl)))
  obtain ⟨x, y, rfl, q2⟩ := o2.ex q1
  obtain ⟨i, rfl, q3⟩ := oInt.ex q2
  obtain ⟨j, rfl, ⟨h1, h2, h3, h4⟩, hn, q⟩ := oInt.ex q3
  cases r1 with
  | cons r rr =>
    cases rr with
    | cons r' rr =>
      cases rr
      obtain ⟨t, rfl⟩ := r
      obtain ⟨t', rfl⟩ := r'
      refine call_range_2 ?_
      refine Calls.spliced_nil ?_
      have e2 : Builtin.Range.rangeSize i j 1 = (((j - i).toNat : Nat) : Int) := by rw [rangeSize_one]; split <;> omega
      refine call_list_range (I1.ok.hd hc) (IsRange.new ..) (small_one h1 h2 h3 h4) e2 (by omega) fun h' tk acc' c' hk hS hacc => ?_
      have hp : ∀ o, s1.heap.objs.size ≤ (s1.heap.push o).objs.size := fun o => by rw [Heap.size_push]; exact Nat.le_succ _
      refine ⟨.ref _, _, I1.laid (t' := tk) (o := .lst ((List.range (j - i).toNat).map fun (k : Nat) => V.int (i + k))) (fun b o e => hk b o (Heap.get?_push_of_some _ e)) (hp _) ?_, rfl, q _ (I1.hok.fresh (hp _))⟩
      obtain ⟨z1, z2⟩ := hacc
      refine ⟨by rw [List.length_map, List.length_range]; exact Nat.le_of_lt (small1000 (Nat.le_of_lt hn)), acc'.toList, c', vals_of (by rw [List.length_map, List.length_range, Array.length_toList, z1]) fun k x u ex eu => ?_, by rw [hS]⟩
      rw [Array.getElem?_toList] at eu
      obtain ⟨t, rfl⟩ := z2 k u eu
      rw [List.getElem?_map] at ex
      have hk : k < (j - i).toNat := by
        rw [← z1]; exact (Array.getElem?_eq_some_iff.mp eu).1
      rw [List.getElem?_range hk] at ex
      cases Option.some.inj ex
      exact ⟨t, by rw [Int.mul_one]⟩
end
section
variable {X : Cx}
def rMinL (K : PySem.W.Frag) : List V → Hp → VK → Prop := fun xs H Q => o1 xs fun x => oRef x fun l => ∃ ns : List Int, SqL K H l (ns.map V.int) ∧ ns ≠ [] ∧ ∀ m, m ∈ ns → (∀ a ∈ ns, m ≤ a) → Q (.int m) H
theorem call_minL (hc : X.calm = true) : CallR X (.builtin "min") (rMinL X.K) := by
  intro pins s σ H xs us Q I r h
  obtain ⟨x, rfl, h⟩ := o1.ex h
  obtain ⟨l, rfl, ns, hq, hne, q⟩ := oRef.ex h
  obtain ⟨u, rfl, ru⟩ := vals1 r
  cases ru
  obtain ⟨its, rv, p, hz⟩ := I.list hq
  have hl : its.length = ns.length := by rw [← rv.length, List.length_map]
  have hpos : 0 < ns.length := List.length_pos_iff.mpr hne
  have hlt : l < s.heap.objs.size := by obtain ⟨o, e, _⟩ := p.isList; exact Heap.lt_size e
  have val : ∀ i v, its.toArray[i]? = some v → ∃ t, v = Value.int (ns.getD i 0) t ∧ ns[i]? = some (ns.getD i 0) := fun i v e => by
    have e' : its[i]? = some v := by simpa using e
    obtain ⟨w, hw, rw'⟩ := Vals.get' rv e'
    rw [List.getElem?_map] at hw
    cases hn : ns[i]? with
    | none => rw [hn] at hw; cases hw
    | some z =>
      rw [hn] at hw
      cases Option.some.inj hw
      obtain ⟨t, rfl⟩ := rw'
      refine ⟨t, ?_, ?_⟩
      · rw [List.getD_eq_getElem?_getD, hn]; rfl
      · rw [List.getD_eq_getElem?_getD, hn]; rfl
  refine call_min_walk (wpAny_pyIter_list p.isList ?_)
  refine ⟨s.heap.objs.size, _, _, _, _, _, fun i j => decide (ns.getD i 0 < ns.getD j 0), rfl, Walks.list (A := X.A.in1) (I.ok.hd hc) s.heap.objs.size l (Nat.ne_of_lt hlt) its.toArray,
    ⟨⟨_, Heap.get?_push_size _ rfl, rfl, rfl⟩, p.isList.at fun o e => Heap.get?_push_of_some _ e⟩, fun b hb => ?_, by rw [List.size_toArray, hl]; exact hpos,
    CmpOf.ints_lt (fun i => ns.getD i 0) (fun i v e => let ⟨t, e, _⟩ := val i v e; ⟨t, e⟩), fun v h' tk hv hk => ?_⟩
  · rw [Heap.size_push]
    simp only [List.mem_cons, List.not_mem_nil, or_false] at hb
    rcases hb with rfl | rfl
    · exact Nat.lt_succ_self _
    · exact Nat.lt_succ_of_lt hlt
  · obtain ⟨t, rfl, e⟩ := val _ v hv
    have best := argBest_lt (fun i => ns.getD i 0) (its.toArray.size - 1)
    refine ⟨.int _, H, I.kept (t' := tk) (fun b o e => hk b o ?_ (Heap.get?_push_of_some _ e)), ⟨t, rfl⟩, q _ (List.mem_of_getElem? e) fun a ha => ?_⟩
    · intro hb
      rw [List.mem_singleton.mp hb] at e
      exact absurd (Heap.lt_size e) (Nat.lt_irrefl _)
    · obtain ⟨j, hj⟩ := List.mem_iff_getElem?.mp ha
      have hjl : j < ns.length := (List.getElem?_eq_some_iff.mp hj).1
      have := best.2 j (by rw [List.size_toArray, hl]; omega)
      rw [show ns.getD j 0 = a by rw [List.getD_eq_getElem?_getD, hj]; rfl] at this
      exact this
def rIndex (K : PySem.W.Frag) : V → List V → Hp → VK → Prop := fun x vs H Q => oRef x fun l => o1 vs fun y => oInt y fun k => ∃ ns : List Int, SqL K H l (ns.map V.int) ∧ k ∈ ns ∧ ∀ j : Nat, ns[j]? = some k → (∀ m, m < j → ns[m]? ≠ some k) → Q (.int j) H
theorem mt_index : MtM X "list.index" (rIndex X.K) := by
  intro pins s σ H x vs v us Q I rx rv h
  obtain ⟨l, rfl, h⟩ := oRef.ex h
  obtain ⟨y, rfl, h⟩ := o1.ex h
  obtain ⟨k, rfl, ns, hq, hk, q⟩ := oInt.ex h
  cases rx
  obtain ⟨u, rfl, ⟨t, rfl⟩⟩ := vals1 rv
  obtain ⟨its, rv', p, hz⟩ := I.list hq
  have hl : its.length = ns.length := by rw [← rv'.length, List.length_map]
  -- the first place
  obtain ⟨j, hj, hmin⟩ : ∃ j : Nat, ns[j]? = some k ∧ ∀ m, m < j → ns[m]? ≠ some k := by
    obtain ⟨j0, hj0⟩ := List.mem_iff_getElem?.mp hk
    clear q hq rv' hl
    induction j0 using Nat.strongRecOn with
    | ind n ih =>
      by_cases h : ∃ m, m < n ∧ ns[m]? = some k
      · obtain ⟨m, hm, e⟩ := h
        exact ih m hm e
      · exact ⟨n, hj0, fun m hm e => h ⟨m, hm, e⟩⟩
  have hjl : j < ns.length := (List.getElem?_eq_some_iff.mp hj).1
  have fl : (ns.map V.int).all flatV = true := by rw [List.all_eq_true]; intro x hx; obtain ⟨n, _, rfl⟩ := List.mem_map.mp hx; rfl
  have val : ∀ i (hi : i < its.toArray.size), ∃ t, its.toArray[i] = Value.int (ns.getD i 0) t := fun i hi => by
    have e' : its[i]? = some its.toArray[i] := by simp [List.getElem?_eq_getElem (show i < its.length by simpa using hi)]
    obtain ⟨w, hw, rw'⟩ := Vals.get' rv' e'
    rw [List.getElem?_map] at hw
    cases hn : ns[i]? with
    | none => rw [hn] at hw; cases hw
    | some z =>
      rw [hn] at hw
      cases Option.some.inj hw
      obtain ⟨t, e⟩ := rw'
      exact ⟨t, by rw [e, List.getD_eq_getElem?_getD, hn]; rfl⟩
  obtain ⟨⟨cls, dd, data, sl⟩, n, e, hc, hdd, hda⟩ := id p
  simp only at hc hdd hda
  subst hc hdd hda
  refine call_meets PySem.F.slot_list_index ⟨_, e, rfl⟩ PySem.F.entry_list_index (PySem.F.args_list_index_2 _ _) (SeqAt.list_indexAt l its.toArray n none sl (.int k t) (eqU (.int k)) j (by rw [List.size_toArray, hl]; exact hjl) ?_ ?_ fun m hm hmj => ?_) ⟨e, fun y hy => mem_eqAt (x := .int k) (show RelV (.int k) (.int k t) from ⟨t, rfl⟩) rfl rv' fl y (by simpa using hy), ⟨.int j, H, I.tok _, ⟨_, rfl⟩, q j hj hmin⟩⟩
  · have h1 : ns.length ≤ sizeLine := by rw [← List.length_map (f := V.int)]; exact hz
    rw [sizeLine_eq] at h1
    omega
  · obtain ⟨t', e⟩ := val j (by rw [List.size_toArray, hl]; exact hjl)
    rw [e, List.getD_eq_getElem?_getD, hj]
    simp [eqU, eqV]
  · obtain ⟨t', e⟩ := val m hm
    rw [e]
    have := hmin m hmj
    have hml : m < ns.length := by rw [← hl]; simpa using hm
    rw [List.getD_eq_getElem?_getD, List.getElem?_eq_getElem hml]
    rw [List.getElem?_eq_getElem hml] at this
    simp [eqU, eqV]
    intro h
    exact this (by rw [h])
end
end L2

set_option Elab.async false
set_option linter.all false
set_option maxRecDepth 100000
set_option maxHeartbeats 4000000
namespace L2
open PySem PySem.Spec PyProof.Rows
theorem Rp_tup {K : PySem.W.Frag} {H : Hp} {ds : List D} {x : V} : Rp K H (.tup ds) x ↔ ∃ p xs, x = .ref p ∧ SqT K H p xs ∧ RpL K H ds xs := by rw [Rp]
section
variable {X : Cx}
theorem cat_tup0 {prog : Program} {w : World} {A : Around} {E : Value → Shared → Prop} {s : Shared} {t b : Addr} {ws : List Value} {Q : Value → Shared → Prop} (ht : IsTup s.heap t #[]) (hb : IsTup s.heap b ws.toArray) (h : Q (.ref b) s) :
    wpAny (model prog w) A (binaryOp .Add (.ref t) (.ref b)) Q E s := by
  obtain ⟨⟨cls, dd, data, sl⟩, ho, hc, n, hd⟩ := id ht
  obtain ⟨⟨cls2, dd2, data2, sl2⟩, ho2, hc2, n2, hd2⟩ := id hb
  simp only at hc hd hc2 hd2
  subst hc hd hc2 hd2
  exact concat_meets ⟨_, ho, rfl⟩ ⟨_, ho2, rfl⟩ noFill_tuple_add seq_tuple_add PySem.F.slot_tuple_add PySem.F.entry_tuple_add (PySem.F.args_tuple_add_2 _ _)
    (tuple_addW0 t b #[] ws.toArray n n2 dd dd2 sl sl2 (by simp)) ⟨ho, ho2, h⟩
def rCatDD (K : PySem.W.Frag) : R2 := fun x y H Q => ∃ ds es, Rp K H (.tup ds) x ∧ Rp K H (.tup es) y ∧ ds.length + es.length ≤ sizeLine ∧ ∀ v H', Same H H' → Rp K H' (.tup (ds ++ es)) v → Q v H'
theorem op_catDD : OpR X (binaryOp .Add) (rCatDD X.K) := by
  intro pins s σ H x y v u Q I rx ry h
  obtain ⟨ds, es, hx, hy, hz, q⟩ := h
  obtain ⟨a, xs, rfl, ha, la⟩ := Rp_tup.mp hx
  obtain ⟨b, ys, rfl, hb, lb⟩ := Rp_tup.mp hy
  by_cases h0 : xs = []
  · subst h0
    have e : ds = [] := by have := la.length; simp at this; exact List.length_eq_zero_iff.mp this.symm
    subst e
    cases rx
    cases ry
    obtain ⟨its, r1, p1, _⟩ := I.tuple ha
    obtain ⟨its2, r2, p2, _⟩ := I.tuple hb
    cases r1
    exact cat_tup0 p1 p2 ⟨.ref b, H, I, rfl, q _ _ (Same.refl _) hy⟩
  · refine op_catT pins s σ H _ _ v u Q I rx ry ⟨a, b, xs, ys, rfl, rfl, ha, hb, h0, by rw [la.length, lb.length]; exact hz, fun e => ?_, fun _ p hp => ?_⟩
    · subst e
      have e : es = [] := by have := lb.length; simp at this; exact List.length_eq_zero_iff.mp this.symm
      subst e
      exact q _ _ (Same.refl _) (by rw [List.append_nil]; exact hx)
    · exact q _ _ (Same.upd hp) (Rp_tup.mpr ⟨p, _, rfl, SqT.of upd_same, (la.app lb).same (Same.upd hp)⟩)
theorem int_rmul_tup (a : Int) (t : Tok) (l : Addr) (items : Array Value) (n : Nat) (dd : Option Addr) (sl : Array (Option Value)) :
    Meets (Builtin.«int.__rmul__» { pos := [.int a t, .ref l] }) fun x R s => s.heap.get? l = some { cls := .type "tuple", dict := dd, data := .seq items n, slots := sl } ∧ R (.ok (.ret .notImplemented)) s := by
  intro prog w A R s ⟨e, h⟩
  unfold Builtin.«int.__rmul__» Builtin.Int.intBinary
  refine wpAny_bind ?_
  rw [show slotArgs "__rmul__" 1 { pos := [.int a t, .ref l] } = pure (.int a t, [.ref l]) from rfl]
  refine wpAny_pure ?_
  dsimp only
  refine wpAny_bind ?_
  rw [show Builtin.Int.intOfSelf (.int a t) = pure a from rfl]
  refine wpAny_pure ?_
  refine wpAny_bind ?_
  show wpAny _ _ (load l >>= _) _ _ _
  refine wpAny_bind (wpAny_load e ?_)
  dsimp only
  refine wpAny_pure ?_
  refine wpAny_bind (wpAny_rule ?_)
  exact wpAny_pure h
theorem noFill_tuple_mul : fillsNumberSlot (.type "tuple") "mul" = pure false := by first | rfl | decide | (unfold fillsNumberSlot; kernel_rfl)
theorem repeat_tuple : seqRepeat? (.type "tuple") = pure (some (.builtin "tuple.__mul__")) := by first | rfl | (unfold seqRepeat?; kernel_rfl)
theorem tup_mul {l : Addr} {items : Array Value} {n : Nat} {dd : Option Addr} {sl : Array (Option Value)} {k : Int} {t : Tok} (h0 : 2 ≤ k) (h1 : k < 2 ^ 62) (hz : items.size * k.toNat ≤ sizeLine) (hne : items.isEmpty = false) :
    Meets (Builtin.«tuple.__mul__» { pos := [.ref l, .int k t] }) fun x R s => s.heap.get? l = some { cls := .type "tuple", dict := dd, data := .seq items n, slots := sl } ∧
      R (.ok (.ret (.ref s.heap.objs.size))) { s with heap := s.heap.push { cls := .type "tuple", data := .seq (List.foldl (fun x1 x2 => x1 ++ x2) #[] (List.replicate k.toNat items)) } } := by
  intro prog w A R s ⟨e, h⟩
  show wpAny _ _ (asIndex (.int k t) >>= _) _ _ s
  refine wpAny_bind ?_
  rw [show asIndex (.int k t) = pure k from rfl]
  refine wpAny_pure ?_
  dsimp only
  rw [if_neg (by simp; omega)]
  refine wpAny_bind (wpAny_tupleItemsOf e rfl ?_)
  try dsimp only
  rw [if_neg (by simp [hne]; omega), if_neg (by simp [hne]; omega)]
  have hk : k = (k.toNat : Int) := by omega
  have hm : (items.size : Int) * k ≤ sizeLine := by rw [hk, ← Int.natCast_mul]; exact Int.ofNat_le.mpr hz
  rw [sizeLine_eq] at hm
  rw [if_neg (by omega), if_neg (by unfold Builtin.Tuple.tupleTooMany; rw [sizeLine_eq]; simp; omega)]
  have hsz : (List.foldl (fun x1 x2 => x1 ++ x2) #[] (List.replicate k.toNat items)).size ≤ sizeLine := by
    have f0 := foldl_rep items.toList k.toNat []
    rw [List.nil_append] at f0
    rw [show items = items.toList.toArray by simp, f0, List.size_toArray, len_rep, Nat.mul_comm]
    simpa using hz
  exact wpAny_bind (m := Builtin.Tuple.tupleExact _) (wpAny_newObj_type (wpAny_pure h) hsz)
theorem tup_mul0 {l : Addr} {items : Array Value} {n : Nat} {dd : Option Addr} {sl : Array (Option Value)} {k : Int} {t : Tok} (h0 : -(2 ^ 62) ≤ k) (h1 : k < 2 ^ 62) (hne : items.isEmpty = true) :
    Meets (Builtin.«tuple.__mul__» { pos := [.ref l, .int k t] }) fun x R s => s.heap.get? l = some { cls := .type "tuple", dict := dd, data := .seq items n, slots := sl } ∧ R (.ok (.ret (.ref l))) s := by
  intro prog w A R s ⟨e, h⟩
  show wpAny _ _ (asIndex (.int k t) >>= _) _ _ s
  refine wpAny_bind ?_
  rw [show asIndex (.int k t) = pure k from rfl]
  refine wpAny_pure ?_
  dsimp only
  rw [if_neg (by simp; omega)]
  refine wpAny_bind (wpAny_tupleItemsOf e rfl ?_)
  try dsimp only
  rw [if_pos (by simp [hne])]
  unfold Builtin.Tuple.tupleIsExact
  refine wpAny_bind (wpAny_bind (wpAny_typeOf (show s.TypeIs (.ref l) "tuple" from ⟨_, e, rfl⟩) (wpAny_pure ?_)))
  rw [if_pos (by decide)]
  refine wpAny_bind (wpAny_rule ?_)
  exact wpAny_pure h
def rRepDD (K : PySem.W.Frag) : R2 := fun x y H Q => oInt y fun k => ∃ ds, Rp K H (.tup ds) x ∧ 2 ≤ k ∧ k < 2 ^ 62 ∧ ds.length * k.toNat ≤ sizeLine ∧ ∀ v H', Same H H' → Rp K H' (.tup (List.replicate k.toNat ds).flatten) v → Q v H'
theorem RpL_rep {K : PySem.W.Frag} {H : Hp} {ds : List D} {xs : List V} (h : RpL K H ds xs) : ∀ n : Nat, RpL K H (List.replicate n ds).flatten (List.replicate n xs).flatten
  | 0 => RpL.nil
  | n + 1 => by rw [List.replicate_succ, List.replicate_succ, List.flatten_cons, List.flatten_cons]; exact h.app (RpL_rep h n)
theorem op_repDD : OpR X (binaryOp .Mult) (rRepDD X.K) := by
  intro pins s σ H x y v u Q I rx ry h
  obtain ⟨k, rfl, ds, hx, h0, h1, hz, q⟩ := oInt.ex h
  obtain ⟨a, xs, rfl, ha, la⟩ := Rp_tup.mp hx
  cases rx
  obtain ⟨t, rfl⟩ := ry
  obtain ⟨its, r1, p1, _⟩ := I.tuple ha
  obtain ⟨⟨cls, dd, data, sl⟩, e, hc, n, hd⟩ := id p1
  simp only at hc hd
  subst hc hd
  have l1 : its.length = ds.length := by rw [← r1.length, la.length]
  by_cases hne : ds = []
  · subst hne
    have e0 : its = [] := List.length_eq_zero_iff.mp l1
    subst e0
    have ef : (List.replicate k.toNat ([] : List D)).flatten = [] := by simp
    rw [ef] at q
    exact wpAny_binaryOp_repeat_ref (T := "tuple") (U := "int") (by decide) ⟨_, e, rfl⟩ (fun s' => typeIs_int s' k t) noFill_tuple_mul F.fills_int_mul F.slot_int_rmul repeat_tuple F.slot_int_index.lookup
      (call_meets F.slot_int_rmul (typeIs_int s k t) F.entry_int_rmul (F.args_int_rmul_2 _ _) (int_rmul_tup k t a _ n dd sl)
        ⟨e, rfl, ⟨_, e, rfl⟩, call_meets F.slot_tuple_mul ⟨_, e, rfl⟩ F.entry_tuple_mul (F.args_tuple_mul_2 _ _) (tup_mul0 (by omega) h1 rfl) ⟨e, ⟨.ref a, H, I, rfl, q _ _ (Same.refl _) hx⟩⟩⟩)
  refine wpAny_binaryOp_repeat_ref (T := "tuple") (U := "int") (by decide) ⟨_, e, rfl⟩ (fun s' => typeIs_int s' k t) noFill_tuple_mul F.fills_int_mul F.slot_int_rmul repeat_tuple F.slot_int_index.lookup
    (call_meets F.slot_int_rmul (typeIs_int s k t) F.entry_int_rmul (F.args_int_rmul_2 _ _) (int_rmul_tup k t a its.toArray n dd sl)
      ⟨e, rfl, ⟨_, e, rfl⟩, call_meets F.slot_tuple_mul ⟨_, e, rfl⟩ F.entry_tuple_mul (F.args_tuple_mul_2 _ _) (tup_mul h0 h1 (by rw [List.size_toArray, l1]; exact hz) (by
        cases its with
        | nil => simp at l1; exact absurd (List.length_eq_zero_iff.mp l1.symm) hne
        | cons _ _ => rfl)) ⟨e, ?_⟩⟩)
  have f0 := foldl_rep its k.toNat []
  rw [List.nil_append] at f0
  rw [f0]
  have hz' : ((List.replicate k.toNat xs).flatten).length ≤ sizeLine := by rw [len_rep, Nat.mul_comm, la.length]; exact hz
  refine ⟨.ref _, _, I.laid (t' := s.toks) (o := .tup (List.replicate k.toNat xs).flatten) (fun b ob q => Heap.get?_push_of_some _ q) (Nat.le_refl _) ⟨hz', _, r1.rep k.toNat, IsTup.new _ _⟩, rfl, q _ _ (Same.upd I.fresh) (Rp_tup.mpr ⟨_, _, rfl, SqT.of upd_same, (RpL_rep la k.toNat).same (Same.upd I.fresh)⟩)⟩
abbrev EnT := List (List Key × Addr × V)
def EV : EnT → List (List Key × Addr × Value) → Prop := Paired fun p q => p.1 = q.1 ∧ p.2.1 = q.2.1 ∧ RelV p.2.2 q.2.2
def DX (P : Program) (w : World) (a : Addr) (es : EnT) : HO := .ext fun h => (a == sysModules) = false ∧ ∃ xs, EV es xs ∧ ∃ o en ep, h.get? a = some o ∧ o.ExactDict ∧ o.data = .dict en ep ∧ en.toList = xs.map (entryOfKey (tupleKind (mixKind P w))) ∧ (xs.map (·.1)).Nodup
def KeysIn (K : PySem.W.Frag) (H : Hp) (es : EnT) : Prop := ∀ x ∈ es, SqT K H x.2.1 (x.1.map kV)
theorem KeysIn.same {K : PySem.W.Frag} {H H' : Hp} {es : EnT} (h : KeysIn K H es) (s : Same H H') : KeysIn K H' es := fun x hx => s.tup (h x hx)
theorem EV.mem : ∀ {es : EnT} {xs : List (List Key × Addr × Value)}, EV es xs → ∀ x ∈ xs, ∃ y ∈ es, y.1 = x.1 ∧ y.2.1 = x.2.1
  | _, _, .nil, x, hx => by cases hx
  | _, _, .cons h t, x, hx => by
    rcases List.mem_cons.mp hx with rfl | hx
    · exact ⟨_, List.mem_cons_self, h.1, h.2.1⟩
    · obtain ⟨y, hy, e⟩ := EV.mem t x hx
      exact ⟨y, List.mem_cons_of_mem _ hy, e⟩
theorem EV.app {es es' : EnT} {xs xs' : List (List Key × Addr × Value)} (h : EV es xs) (h' : EV es' xs') : EV (es ++ es') (xs ++ xs') := by
  unfold EV at *
  induction h with
  | nil => exact h'
  | cons a _ ih => exact .cons a ih
def lkX (es : EnT) (k : List Key) : Option V := (es.find? fun x => decide (x.1 = k)).map (·.2.2)
theorem EV.look : ∀ {es : EnT} {xs : List (List Key × Addr × Value)} {k : List Key} {v : V}, EV es xs → lkX es k = some v → ∃ p, atKey xs k = some p ∧ RelV v p.2
  | _, _, k, v, .nil, h => by cases h
  | (k1, a1, v1) :: es, (k2, a2, v2) :: xs, k, v, .cons h t, e => by
    obtain ⟨rfl, rfl, r⟩ := h
    unfold lkX at e
    unfold atKey
    rw [List.find?_cons] at e ⊢
    by_cases hk : k1 = k
    · simp only [hk, decide_true] at e ⊢
      cases e
      exact ⟨_, rfl, r⟩
    · simp only [hk, decide_false] at e ⊢
      exact EV.look t e
theorem EV.none : ∀ {es : EnT} {xs : List (List Key × Addr × Value)} {k : List Key}, EV es xs → (∀ x ∈ es, x.1 ≠ k) → atKey xs k = none
  | _, _, k, .nil, _ => rfl
  | (k1, a1, v1) :: es, (k2, a2, v2) :: xs, k, .cons h t, e => by
    obtain ⟨rfl, rfl, r⟩ := h
    unfold atKey
    rw [List.find?_cons]
    have hk : k1 ≠ k := e _ List.mem_cons_self
    simp only [hk, decide_false]
    exact EV.none t fun x hx => e x (List.mem_cons_of_mem _ hx)
section
variable {pins : List (Addr × Obj)} {σ : St} {H : Hp} {s : Shared} {a b : Addr} {es : EnT} {k : List Key}
theorem is_key (I : Inv X pins σ H s) (h : SqT X.K H b (k.map kV)) : (tupleKind (mixKind X.prog X.w)).is s.heap k b := by
  obtain ⟨its, r, ⟨o, h1, h2, n, h3⟩, _⟩ := I.tuple h
  exact ⟨o, its.toArray, n, h1, h2, h3, by simpa using items_are r⟩
theorem dx_of (I : Inv X pins σ H s) (e : H a = some (DX X.prog X.w a es)) (ks : KeysIn X.K H es) : (a == sysModules) = false ∧ ∃ xs, EV es xs ∧ s.heap.DictOfH (tupleKind (mixKind X.prog X.w)) a xs := by
  obtain ⟨⟨hs, xs, ev, o, en, ep, h1, h2, h3, h4, h5⟩, _⟩ := I.hok a _ e
  refine ⟨hs, xs, ev, o, en, ep, h1, h2, h3, h4, fun x hx => ?_, h5⟩
  obtain ⟨y, hy, e1, e2⟩ := ev.mem x hx
  rw [← e1, ← e2]
  exact is_key I (ks y hy)
theorem dx_new {h' : Heap} {H' : Hp} {xs : List (List Key × Addr × Value)} {P : Program} {w : World} (hs : (a == sysModules) = false) (ev : EV es xs) (d : h'.DictOfH (tupleKind (mixKind P w)) a xs) : ObjOk P w H' h' a (DX P w a es) := by
  obtain ⟨o, en, ep, h1, h2, h3, h4, _, h5⟩ := d
  refine ⟨⟨hs, xs, ev, o, en, ep, h1, h2, h3, h4, h5⟩, ⟨o, h1⟩, fun g1 g2 φ kk => ?_⟩
  obtain ⟨hs, xs, ev, o, en, ep, h1, r⟩ := φ
  exact ⟨hs, xs, ev, o, en, ep, kk o h1, r⟩
end
section
variable {o i value : Expr} {pos pos' : Pos} {td ty tv : TE}
def tXGet (P : Program) (w : World) (K : PySem.W.Frag) (td ty : TE) : TE := fun σ H Q => td σ H fun x H1 => ty σ H1 fun y H2 => oRef x fun a => oRef y fun b => ∃ (es : EnT) (k : List Key) (v : V), H2 a = some (DX P w a es) ∧ KeysIn K H2 es ∧ SqT K H2 b (k.map kV) ∧ lkX es k = some v ∧ Q v H2
theorem pe_xget (hu : X.A.units + 1 < cLine) (ho : PE X o td) (hi : PE X i ty) (hs : NoSl i) : PE X (.Subscript o i pos) (tXGet X.prog X.w X.K td ty) := by
  intro pins s σ H Q I h
  refine subD_of PySem.F.slot_dict_getitem.lookup hs (thn (ho pins s σ H _ I h) fun u s1 ⟨x, H1, I1, rx, q1⟩ => thn (hi pins s1 σ H1 _ I1 q1) fun iv s2 ⟨y, H2, I2, ry, q2⟩ => ?_)
  obtain ⟨a, rfl, q3⟩ := oRef.ex q2
  obtain ⟨b, rfl, es, k, v, e, ks, hb, lk, q⟩ := oRef.ex q3
  obtain rfl : u = Value.ref a := rx
  obtain rfl : iv = Value.ref b := ry
  obtain ⟨hsm, xs, ev, dd⟩ := dx_of I2 e ks
  obtain ⟨p, hp, rp⟩ := ev.look lk
  exact ⟨dd.typeIs, wpAny_getItem_heap (tupleKind_room_in1 hu) (is_key I2 hb) dd hp ⟨v, H2, I2.tok _, rp, q⟩⟩
def sXPut (P : Program) (w : World) (K : PySem.W.Frag) (td ty tv : TE) : TS := fun D σ H => tv σ H fun v H1 => td σ H1 fun x H2 => ty σ H2 fun y H3 => oRef x fun a => oRef y fun b => ∃ (es : EnT) (k : List Key), H3 a = some (DX P w a es) ∧ KeysIn K H3 es ∧ SqT K H3 b (k.map kV) ∧ (∀ x ∈ es, x.1 ≠ k) ∧ es.length ≤ sizeLine ∧ D.nx σ (upd H3 a (DX P w a (es ++ [(k, b, v)])))
theorem ps_xput (hu : X.A.units + 1 < cLine) (ho : PE X o td) (hi : PE X i ty) (hv : PE X value tv) (hs : swapsWith value (some (.Subscript o i pos')) pos.line X.env = pure false) :
    PS X (.Assign [.Subscript o i pos'] value pos) (sXPut X.prog X.w X.K td ty tv) := by
  intro pins s σ H D I h
  refine wpAny_Assign_Subscript (thn (hv pins s σ H _ I h) fun r s1 ⟨v, H1, I1, rv, q1⟩ => thn (ho pins s1 σ H1 _ I1 q1) fun u s2 ⟨x, H2, I2, rx, q2⟩ => thn (hi pins s2 σ H2 _ I2 q2) fun iv s3 ⟨y, H3, I3, ry, q3⟩ => ?_) hs
  obtain ⟨a, rfl, q4⟩ := oRef.ex q3
  obtain ⟨b, rfl, es, k, e, ks, hb, hn, hz, q⟩ := oRef.ex q4
  obtain rfl : u = Value.ref a := rx
  obtain rfl : iv = Value.ref b := ry
  obtain ⟨hsm, xs, ev, dd⟩ := dx_of I3 e ks
  have hlen : xs.length ≤ sizeLine := by rw [← Paired.length ev]; exact hz
  refine wpAny_setItem_heap (hsz := hlen) (tupleKind_room_in1 hu) (is_key I3 hb) dd fun h' dd' hss => ⟨σ, _, ?_, q⟩
  rw [storedH_new (ev.none hn)] at dd'
  have he : ∃ q, h'.get? a = some q := let ⟨q, _, _, hq, _⟩ := dd'; ⟨q, hq⟩
  exact d_write I3 (by rw [e]; exact True.intro) hss he (dx_new hsm (ev.app (.cons ⟨rfl, rfl, rv⟩ .nil)) dd')
def tXDisp (P : Program) (w : World) (K : PySem.W.Frag) (tk tv : TE) : TE := fun σ H Q => ∀ p, H p = none → tk σ (upd H p (DX P w p [])) fun x H1 => tv σ H1 fun y H2 => H2 p = some (DX P w p []) ∧ oRef x fun b => ∃ k : List Key, SqT K H2 b (k.map kV) ∧ Q (.ref p) (upd H2 p (DX P w p [(k, b, y)]))
theorem pe_xdisp {k v : Expr} {tk tv : TE} (hu : X.A.units + 1 < cLine) (hk : PE X k tk) (hv : PE X v tv) : PE X (.Dict [some k] [v] pos) (tXDisp X.prog X.w X.K tk tv) := by
  intro pins s σ H Q I q
  have hn := I.hok.fresh (Nat.le_refl s.heap.objs.size)
  have hsm : (s.heap.objs.size == sysModules) = false := beq_eq_false_iff_ne.mpr (Ne.symm (Nat.ne_of_lt I.big))
  have I1 := I.laid (a := s.heap.objs.size) (o := DX X.prog X.w s.heap.objs.size []) (h' := s.heap.push { cls := .type "dict", data := .dict #[] }) (t' := s.toks) (fun _ _ q => Heap.get?_push_of_some _ q) (Nat.le_refl _) (dx_new hsm .nil (Heap.DictOfH.new s.heap))
  refine wpAny_Dict_any rfl rfl (by simp) (by simp) ?_
  refine pairTrees_cons_walk (thn (hk pins _ σ _ _ I1 (q _ hn)) fun u s1 ⟨x, H1, I2, rx, q1⟩ => thn (hv pins s1 σ H1 _ I2 q1) fun w2 s2 ⟨y, H2, I3, ry, q2⟩ => pairTrees_nil_walk ?_)
  obtain ⟨e, q3⟩ := q2
  obtain ⟨b, rfl, kk, hb, q⟩ := oRef.ex q3
  obtain rfl : u = Value.ref b := rx
  obtain ⟨hsm', xs, ev, dd⟩ := dx_of I3 e (fun x hx => by cases hx)
  cases ev
  unfold storeAll
  rw [List.forIn_cons]
  refine wpAny_bind (wpAny_bind (wpAny_dictSet_heap (hsz := Nat.zero_le _) (show X.A.units < cLine by omega) (is_key I3 hb) dd fun h' dd' hss => wpAny_pure ?_))
  dsimp only
  rw [List.forIn_nil]
  refine wpAny_pure ⟨.ref _, _, ?_, rfl, q⟩
  rw [storedH_new rfl] at dd'
  have he : ∃ q, h'.get? s.heap.objs.size = some q := let ⟨q, _, _, hq, _⟩ := dd'; ⟨q, hq⟩
  exact d_write I3 (by rw [e]; exact True.intro) hss he (dx_new hsm (.cons ⟨rfl, rfl, ry⟩ .nil) dd')
theorem pe_xgetK {P : Program} {w : World} {K : PySem.W.Frag} (hP : X.prog = P) (hw : X.w = w) (hK : X.K = K) (hu : X.A.units + 1 < cLine) (ho : PE X o td) (hi : PE X i ty) (hs : NoSl i) : PE X (.Subscript o i pos) (tXGet P w K td ty) := by
  subst hP hw hK; exact pe_xget hu ho hi hs
theorem ps_xputK {P : Program} {w : World} {K : PySem.W.Frag} (hP : X.prog = P) (hw : X.w = w) (hK : X.K = K) (hu : X.A.units + 1 < cLine) (ho : PE X o td) (hi : PE X i ty) (hv : PE X value tv) (hs : swapsWith value (some (.Subscript o i pos')) pos.line X.env = pure false) :
    PS X (.Assign [.Subscript o i pos'] value pos) (sXPut P w K td ty tv) := by
  subst hP hw hK; exact ps_xput hu ho hi hv hs
theorem pe_xdispK {P : Program} {w : World} {K : PySem.W.Frag} {k v : Expr} {tk tv : TE} (hP : X.prog = P) (hw : X.w = w) (hK : X.K = K) (hu : X.A.units + 1 < cLine) (hk : PE X k tk) (hv : PE X v tv) : PE X (.Dict [some k] [v] pos) (tXDisp P w K tk tv) := by
  subst hP hw hK; exact pe_xdisp hu hk hv
end
end
end L2

set_option Elab.async false
set_option linter.all false
set_option maxRecDepth 100000
set_option maxHeartbeats 4000000
namespace My
open PySem PySem.Spec PyProof.Rows L2
def top (i : Nat) : Stmt := PySem.Challenge.pw_turtlehouse_k55_whole_shorter.main.body.getD i (.Pass ⟨0, 0, 0, 0⟩)
abbrev s_parted : Stmt := top 5
theorem sc_parted : FnScope ["start", "end", "found", "middles", "sizes", "least", "middle"] ["start", "end", "found"] (defScope s_parted) := ⟨rfl, rfl, rfl, by decide +kernel, rfl, by decide +kernel, by decide +kernel⟩
abbrev s_isagain : Stmt := top 6
theorem sc_isagain : FnScope ["statements", "start", "end", "step"] ["statements", "start", "end", "step"] (defScope s_isagain) := ⟨rfl, rfl, rfl, by decide +kernel, rfl, by decide +kernel, by decide +kernel⟩
abbrev s_shortest : Stmt := top 7
theorem sc_shortest : FnScope ["statements", "start", "end", "found", "length", "best", "step", "size", "body"] ["statements", "start", "end", "found"] (defScope s_shortest) := ⟨rfl, rfl, rfl, by decide +kernel, rfl, by decide +kernel, by decide +kernel⟩
abbrev s_shorter : Stmt := top 8
theorem sc_shorter : FnScope ["program", "statements", "many", "found", "length", "start"] ["program"] (defScope s_shorter) := ⟨rfl, rfl, rfl, by decide +kernel, rfl, by decide +kernel, by decide +kernel⟩
abbrev s_Lint : Stmt := top 10
theorem sc_Lint : FnScope ["_law_found"] ["_law_found"] (defScope s_Lint) := ⟨rfl, rfl, rfl, by decide +kernel, rfl, by decide +kernel, by decide +kernel⟩
abbrev s_Lissingle : Stmt := top 11
theorem sc_Lissingle : FnScope ["_law_statement"] ["_law_statement"] (defScope s_Lissingle) := ⟨rfl, rfl, rfl, by decide +kernel, rfl, by decide +kernel, by decide +kernel⟩
abbrev s_Lmixed : Stmt := top 12
theorem sc_Lmixed : FnScope ["_law_cell_here", "_law_k", "_law_number"] ["_law_cell_here", "_law_k"] (defScope s_Lmixed) := ⟨rfl, rfl, rfl, by decide +kernel, rfl, by decide +kernel, by decide +kernel⟩
abbrev s_Lrow : Stmt := top 13
theorem sc_Lrow : FnScope ["_law_cell_here", "_law_most", "_law_many", "_law_found", "_law_rest", "_law_k"] ["_law_cell_here", "_law_most", "_law_many"] (defScope s_Lrow) := ⟨rfl, rfl, rfl, by decide +kernel, rfl, by decide +kernel, by decide +kernel⟩
abbrev s_Lcell : Stmt := top 14
theorem sc_Lcell : FnScope ["_law_script", "_law_k", "_law_number"] ["_law_script", "_law_k"] (defScope s_Lcell) := ⟨rfl, rfl, rfl, by decide +kernel, rfl, by decide +kernel, by decide +kernel⟩
abbrev s_Ldeck : Stmt := top 15
theorem sc_Ldeck : FnScope ["_law_script", "_law_start", "_law_deck_here", "_law_k"] ["_law_script", "_law_start"] (defScope s_Ldeck) := ⟨rfl, rfl, rfl, by decide +kernel, rfl, by decide +kernel, by decide +kernel⟩
abbrev s_Lnext : Stmt := top 16
theorem sc_Lnext : FnScope ["_law_deck_here"] ["_law_deck_here"] (defScope s_Lnext) := ⟨rfl, rfl, rfl, by decide +kernel, rfl, by decide +kernel, by decide +kernel⟩
abbrev s_Lsize : Stmt := top 17
theorem sc_Lsize : FnScope ["_law_body", "_law_size_here", "_law_statement"] ["_law_body"] (defScope s_Lsize) := ⟨rfl, rfl, rfl, by decide +kernel, rfl, by decide +kernel, by decide +kernel⟩
abbrev s_Lput : Stmt := top 18
theorem sc_Lput : FnScope ["_law_body", "_law_most", "_law_found", "_law_statement", "_law_inner"] ["_law_body", "_law_most"] (defScope s_Lput) := ⟨rfl, rfl, rfl, by decide +kernel, rfl, by decide +kernel, by decide +kernel⟩
abbrev s_Lsingle : Stmt := top 19
theorem sc_Lsingle : FnScope ["_law_deck_here", "_law_way"] ["_law_deck_here"] (defScope s_Lsingle) := ⟨rfl, rfl, rfl, by decide +kernel, rfl, by decide +kernel, by decide +kernel⟩
abbrev s_Lagainbody : Stmt := top 21
theorem sc_Lagainbody : FnScope ["_law_deck_here", "_law_room", "_law_deep", "_law_body", "_law_k", "_law_left_over", "_law_turn", "_law_times", "_law_inner"] ["_law_deck_here", "_law_room", "_law_deep"] (defScope s_Lagainbody) := ⟨rfl, rfl, rfl, by decide +kernel, rfl, by decide +kernel, by decide +kernel⟩
abbrev s_Lisbody : Stmt := top 22
theorem sc_Lisbody : FnScope ["_law_body", "_law_deep", "_law_statement"] ["_law_body", "_law_deep"] (defScope s_Lisbody) := ⟨rfl, rfl, rfl, by decide +kernel, rfl, by decide +kernel, by decide +kernel⟩
abbrev s_law : Stmt := top 23
theorem sc_law : FnScope ["_law_script", "_law_deck_here", "_law_body", "_law_plain_here", "_law_found"] ["_law_script"] (defScope s_law) := ⟨rfl, rfl, rfl, by decide +kernel, rfl, by decide +kernel, by decide +kernel⟩
structure Own (K : PySem.W.Frag) (mg : Str → Option Value) (x : Str) (st : Stmt) (ps : List Str) (f : Addr) (fd : FuncData) : Prop where
  F : Fun K x x st f fd
  b : Binds K fd ps []
  m : mg x = some (.ref f)
structure OwnM (K : PySem.W.Frag) (C : Addr) (x qx : Str) (st : Stmt) (ps : List Str) (f : Addr) (fd : FuncData) : Prop where
  F : Fun K x qx st f fd
  b : Binds K fd ps []
  mt : Meth K C x f
structure OwnI (K : PySem.W.Frag) (C : Addr) (x qx : Str) (st : Stmt) (ps : List Str) (f : Addr) (fd : FuncData) : Prop where
  F : Fun K x qx st f fd
  b : Binds K fd ps []
  mki : Mk K C f
def D_MOST_STATEMENTS : D := .int (60)
set_option genInjectivity false in
set_option genSizeOf false in
structure Adr where
  a_parted : Addr
  d_parted : FuncData
  a_isagain : Addr
  d_isagain : FuncData
  a_shortest : Addr
  d_shortest : FuncData
  a_shorter : Addr
  d_shorter : FuncData
  a_Lint : Addr
  d_Lint : FuncData
  a_Lissingle : Addr
  d_Lissingle : FuncData
  a_Lmixed : Addr
  d_Lmixed : FuncData
  a_Lrow : Addr
  d_Lrow : FuncData
  a_Lcell : Addr
  d_Lcell : FuncData
  a_Ldeck : Addr
  d_Ldeck : FuncData
  a_Lnext : Addr
  d_Lnext : FuncData
  a_Lsize : Addr
  d_Lsize : FuncData
  a_Lput : Addr
  d_Lput : FuncData
  a_Lsingle : Addr
  d_Lsingle : FuncData
  a_Lagainbody : Addr
  d_Lagainbody : FuncData
  a_Lisbody : Addr
  d_Lisbody : FuncData
  a_law : Addr
  d_law : FuncData
  u_MOST_STATEMENTS : Value
  v_MOST_STATEMENTS : V
local macro_rules | `(tactic| walk_at "rd") => `(tactic| ((try simp only [L2.start, L2.stC, List.map_cons, List.map_nil, List.length_cons, List.length_nil, List.replicate_succ, List.replicate_zero, List.nil_append, List.cons_append, Nat.reduceAdd, Nat.reduceSub, Nat.zero_add, Nat.sub_self, Nat.add_one_sub_one]); (try dsimp only [cxOf_K, tFld, sFld, sFldAug, tMeth, tMake, tNever, tBM0, rPop, rClear, tAug, ipI, tChain, tNotT, tDComp0, tDNewK, rSetL, gSub, rIn, rCat, rAdd, rSlW, tSl, tNoPart, tPart, rSlL, rSlT, tSeq, tNext, tAsg, gName, tOp, tUn, rI, rI0, rU, tVar, tC, tIfS, tTest, tRet, tRetN, tDrop, tCall, tCons, tNil, tTup, tLst, tCB, tNot, tAnd, tOr, tNotV, tAndV, tOrV, tB, tIf, tYes, tLit, gTup, gLst, gCons, gNil, L2.start, rIxL, rIxT, tFor_eq, iRng1, iRng2, iList, iTup, tComp_eq, L2.stC, tBM, rAppend, List.getElem?_cons_zero, List.getElem?_cons_succ, List.set_cons_zero, List.set_cons_succ, List.map_cons, List.map_nil, List.length_cons, List.length_nil, List.replicate_succ, List.replicate_zero, List.nil_append, List.cons_append, Nat.reduceAdd, Nat.reduceSub, Nat.zero_add, tVarD, tRev, rListL, rSlLD, tPartD, rCatD, rEqL, tBD, tAndVD, tFldD, sFldD, sFldAugD, rID, rI0D, rUD, rEqX, rNeX, rEqD1, rIxLD, rIxTD, gNilD, gConsD, gTupD, gLstD, iListD, iZipD, tXGet, sXPut, tXDisp, rCatDD, rRepDD, tLRng, rMinL, rIndex, rInT, rInFD, rIsND, rNotND, isNon, oNon, iTupD, rMax, rMin, rLen, rTupL, rIsi, rAppendD, rSetLD, oRef, oInt, oBl, oGet, o0, o1, o2, oC]); try simp only [tVarD, tRev, rListL, rSlLD, tPartD, rCatD, rEqL, tBD, tAndVD, tFldD, sFldD, sFldAugD, rID, rI0D, rUD, rEqX, rNeX, rEqD1, rIxLD, rIxTD, gNilD, gConsD, gTupD, gLstD, iListD, iZipD, tXGet, sXPut, tXDisp, rCatDD, rRepDD, tLRng, rMinL, rIndex, rInT, rInFD, rIsND, rNotND, isNon, oNon, iTupD, rMax, rMin, rLen, rTupL, rIsi, rAppendD, rSetLD, oRef, oInt, oBl, oGet, o0, o1, o2, oC, cxOf_K, tFld, sFld, sFldAug, tMeth, tMake, tNever, tBM0, rPop, rClear, tAug, ipI, tChain, tNotT, tDComp0, tDNewK, rSetL, gSub, rIn, rCat, rAdd, rSlW, tSl, tNoPart, tPart, rSlL, rSlT, tSeq, tNext, tAsg, gName, tOp, tUn, rI, rI0, rU, tVar, tC, tIfS, tTest, tRet, tRetN, tDrop, tCall, tCons, tNil, tTup, tLst, tCB, tNot, tAnd, tOr, tNotV, tAndV, tOrV, tB, tIf, tYes, tLit, gTup, gLst, gCons, gNil, L2.start, rIxL, rIxT, tFor_eq, iRng1, iRng2, iList, iTup, tComp_eq, L2.stC, tBM, rAppend, tyV, List.getElem?_cons_zero, List.getElem?_cons_succ, List.set_cons_zero, List.set_cons_succ, List.map_cons, List.map_nil, List.length_cons, List.length_nil, List.length_map, List.replicate_succ, List.replicate_zero, List.append_nil, List.nil_append, List.cons_append, Option.some.injEq, Option.join_some, V.int.injEq, V.bl.injEq, V.ref.injEq, V.str.injEq, List.cons.injEq, exists_and_left, exists_and_right, exists_eq_left, exists_eq_left', exists_eq, exists_eq', and_true, true_and, and_self, and_assoc, decide_eq_true_eq, Nat.reduceAdd, Nat.reduceSub, Nat.add_one_sub_one, Nat.sub_self, Nat.zero_add, reduceCtorEq, eq_self, not_true_eq_false, not_false_eq_true, false_and, and_false, exists_false, false_or, or_false, if_true, if_false, ite_true, ite_false, Bool.false_eq_true, Bool.not_true, Bool.not_false, Bool.not_eq_true', decide_eq_false_iff_not]))
local macro_rules | `(tactic| walk_at "ro") => `(tactic| ((try simp only [L2.start, L2.stC, List.map_cons, List.map_nil, List.length_cons, List.length_nil, List.replicate_succ, List.replicate_zero, List.nil_append, List.cons_append, Nat.reduceAdd, Nat.reduceSub, Nat.zero_add, Nat.sub_self, Nat.add_one_sub_one]); (try dsimp only [cxOf_K, tFld, sFld, sFldAug, tMeth, tMake, tNever, tBM0, rPop, rClear, tAug, ipI, tChain, tNotT, tDComp0, tDNewK, rSetL, gSub, rIn, rCat, rAdd, rSlW, tSl, tNoPart, tPart, rSlL, rSlT, tSeq, tNext, tAsg, gName, tOp, tUn, rI, rI0, rU, tVar, tC, tIfS, tTest, tRet, tRetN, tDrop, tCall, tCons, tNil, tTup, tLst, tCB, tNot, tAnd, tOr, tNotV, tAndV, tOrV, tB, tIf, tYes, tLit, gTup, gLst, gCons, gNil, L2.start, rIxL, rIxT, tFor_eq, iRng1, iRng2, iList, iTup, tComp_eq, L2.stC, tBM, rAppend, List.getElem?_cons_zero, List.getElem?_cons_succ, List.set_cons_zero, List.set_cons_succ, List.map_cons, List.map_nil, List.length_cons, List.length_nil, List.replicate_succ, List.replicate_zero, List.nil_append, List.cons_append, Nat.reduceAdd, Nat.reduceSub, Nat.zero_add, tVarD, tRev, rListL, rSlLD, tPartD, rCatD, rEqL, tBD, tAndVD, tFldD, sFldD, sFldAugD, rID, rI0D, rUD, rEqX, rNeX, rEqD1, rIxLD, rIxTD, gNilD, gConsD, gTupD, gLstD, iListD, iZipD, tXGet, sXPut, tXDisp, rCatDD, rRepDD, tLRng, rMinL, rIndex, rInT, rInFD, rIsND, rNotND, isNon, oNon, iTupD, rMax, rMin, rLen, rTupL, rIsi, rAppendD, rSetLD, oRef, oInt, oBl, oGet, o0, o1, o2, oC]); try simp only [upd_same, upd_upd, HO.ins.injEq, tVarD, tRev, rListL, rSlLD, tPartD, rCatD, rEqL, tBD, tAndVD, tFldD, sFldD, sFldAugD, rID, rI0D, rUD, rEqX, rNeX, rEqD1, rIxLD, rIxTD, gNilD, gConsD, gTupD, gLstD, iListD, iZipD, tXGet, sXPut, tXDisp, rCatDD, rRepDD, tLRng, rMinL, rIndex, rInT, rInFD, rIsND, rNotND, isNon, oNon, iTupD, rMax, rMin, rLen, rTupL, rIsi, rAppendD, rSetLD, oRef, oInt, oBl, oGet, o0, o1, o2, oC, cxOf_K, tFld, sFld, sFldAug, tMeth, tMake, tNever, tBM0, rPop, rClear, tAug, ipI, tChain, tNotT, tDComp0, tDNewK, rSetL, gSub, rIn, rCat, rAdd, rSlW, tSl, tNoPart, tPart, rSlL, rSlT, tSeq, tNext, tAsg, gName, tOp, tUn, rI, rI0, rU, tVar, tC, tIfS, tTest, tRet, tRetN, tDrop, tCall, tCons, tNil, tTup, tLst, tCB, tNot, tAnd, tOr, tNotV, tAndV, tOrV, tB, tIf, tYes, tLit, gTup, gLst, gCons, gNil, L2.start, rIxL, rIxT, tFor_eq, iRng1, iRng2, iList, iTup, tComp_eq, L2.stC, tBM, rAppend, tyV, List.getElem?_cons_zero, List.getElem?_cons_succ, List.set_cons_zero, List.set_cons_succ, List.map_cons, List.map_nil, List.length_cons, List.length_nil, List.length_map, List.replicate_succ, List.replicate_zero, List.append_nil, List.nil_append, List.cons_append, Option.some.injEq, Option.join_some, V.int.injEq, V.bl.injEq, V.ref.injEq, V.str.injEq, List.cons.injEq, exists_and_left, exists_and_right, exists_eq_left, exists_eq_left', exists_eq, exists_eq', and_true, true_and, and_self, and_assoc, decide_eq_true_eq, Nat.reduceAdd, Nat.reduceSub, Nat.add_one_sub_one, Nat.sub_self, Nat.zero_add, reduceCtorEq, eq_self, not_true_eq_false, not_false_eq_true, false_and, and_false, exists_false, false_or, or_false, if_true, if_false, ite_true, ite_false, Bool.false_eq_true, Bool.not_true, Bool.not_false, Bool.not_eq_true', decide_eq_false_iff_not]))
local macro_rules | `(tactic| walk_at "rh") => `(tactic| ((try refine hold_at ?_); (try simp only [L2.start, L2.stC, List.map_cons, List.map_nil, List.length_cons, List.length_nil, List.replicate_succ, List.replicate_zero, List.nil_append, List.cons_append, Nat.reduceAdd, Nat.reduceSub, Nat.zero_add, Nat.sub_self, Nat.add_one_sub_one]); (try dsimp only [tSeqH, cxOf_K, tFld, sFld, sFldAug, tMeth, tMake, tNever, tBM0, rPop, rClear, tAug, ipI, tChain, tNotT, tDComp0, tDNewK, rSetL, gSub, rIn, rCat, rAdd, rSlW, tSl, tNoPart, tPart, rSlL, rSlT, tSeq, tNext, tAsg, gName, tOp, tUn, rI, rI0, rU, tVar, tC, tIfS, tTest, tRet, tRetN, tDrop, tCall, tCons, tNil, tTup, tLst, tCB, tNot, tAnd, tOr, tNotV, tAndV, tOrV, tB, tIf, tYes, tLit, gTup, gLst, gCons, gNil, L2.start, rIxL, rIxT, tFor_eq, iRng1, iRng2, iList, iTup, tComp_eq, L2.stC, tBM, rAppend, List.getElem?_cons_zero, List.getElem?_cons_succ, List.set_cons_zero, List.set_cons_succ, List.map_cons, List.map_nil, List.length_cons, List.length_nil, List.replicate_succ, List.replicate_zero, List.nil_append, List.cons_append, Nat.reduceAdd, Nat.reduceSub, Nat.zero_add, tVarD, tRev, rListL, rSlLD, tPartD, rCatD, rEqL, tBD, tAndVD, tFldD, sFldD, sFldAugD, rID, rI0D, rUD, rEqX, rNeX, rEqD1, rIxLD, rIxTD, gNilD, gConsD, gTupD, gLstD, iListD, iZipD, tXGet, sXPut, tXDisp, rCatDD, rRepDD, tLRng, rMinL, rIndex, rInT, rInFD, rIsND, rNotND, isNon, oNon, iTupD, rMax, rMin, rLen, rTupL, rIsi, rAppendD, rSetLD, oRef, oInt, oBl, oGet, o0, o1, o2, oC]); try simp only [tSeqH, tVarD, tRev, rListL, rSlLD, tPartD, rCatD, rEqL, tBD, tAndVD, tFldD, sFldD, sFldAugD, rID, rI0D, rUD, rEqX, rNeX, rEqD1, rIxLD, rIxTD, gNilD, gConsD, gTupD, gLstD, iListD, iZipD, tXGet, sXPut, tXDisp, rCatDD, rRepDD, tLRng, rMinL, rIndex, rInT, rInFD, rIsND, rNotND, isNon, oNon, iTupD, rMax, rMin, rLen, rTupL, rIsi, rAppendD, rSetLD, oRef, oInt, oBl, oGet, o0, o1, o2, oC, cxOf_K, tFld, sFld, sFldAug, tMeth, tMake, tNever, tBM0, rPop, rClear, tAug, ipI, tChain, tNotT, tDComp0, tDNewK, rSetL, gSub, rIn, rCat, rAdd, rSlW, tSl, tNoPart, tPart, rSlL, rSlT, tSeq, tNext, tAsg, gName, tOp, tUn, rI, rI0, rU, tVar, tC, tIfS, tTest, tRet, tRetN, tDrop, tCall, tCons, tNil, tTup, tLst, tCB, tNot, tAnd, tOr, tNotV, tAndV, tOrV, tB, tIf, tYes, tLit, gTup, gLst, gCons, gNil, L2.start, rIxL, rIxT, tFor_eq, iRng1, iRng2, iList, iTup, tComp_eq, L2.stC, tBM, rAppend, tyV, List.getElem?_cons_zero, List.getElem?_cons_succ, List.set_cons_zero, List.set_cons_succ, List.map_cons, List.map_nil, List.length_cons, List.length_nil, List.length_map, List.replicate_succ, List.replicate_zero, List.append_nil, List.nil_append, List.cons_append, Option.some.injEq, Option.join_some, V.int.injEq, V.bl.injEq, V.ref.injEq, V.str.injEq, List.cons.injEq, exists_and_left, exists_and_right, exists_eq_left, exists_eq_left', exists_eq, exists_eq', and_true, true_and, and_self, and_assoc, decide_eq_true_eq, Nat.reduceAdd, Nat.reduceSub, Nat.add_one_sub_one, Nat.sub_self, Nat.zero_add, reduceCtorEq, eq_self, not_true_eq_false, not_false_eq_true, false_and, and_false, exists_false, false_or, or_false, if_true, if_false, ite_true, ite_false, Bool.false_eq_true, Bool.not_true, Bool.not_false, Bool.not_eq_true', decide_eq_false_iff_not]))
theorem kk {k : Int} (h0 : 0 ≤ k) (h1 : k ≤ 100) : 0 ≤ k * k ∧ k * k ≤ 10000 := by
  have a : k * k ≤ 100 * 100 := Int.mul_le_mul h1 h1 h0 (by decide)
  have a0 : 0 ≤ k * k := Int.mul_nonneg h0 h0
  exact ⟨a0, a⟩
theorem zk {k z : Int} (h0 : 0 ≤ k) (h1 : k ≤ 100) (z0 : 0 ≤ z) (z1 : z < 10 ^ 40) : 0 ≤ z * (48271 + k) ∧ z * (48271 + k) ≤ 10 ^ 40 * 48371 := by
  have b : z * (48271 + k) ≤ 10 ^ 40 * 48371 := Int.mul_le_mul (by omega) (by omega) (by omega) (by decide)
  exact ⟨Int.mul_nonneg z0 (by omega), b⟩

theorem kit_str_str {K : PySem.W.Frag} : PySem.W.kitOne K (.type "str") (.type "str") = some true := rfl
theorem kit_int_int {K : PySem.W.Frag} : PySem.W.kitOne K (.type "int") (.type "int") = some true := rfl
theorem kit_int_bool {K : PySem.W.Frag} : PySem.W.kitOne K (.type "int") (.type "bool") = some false := rfl
theorem kit_tuple_tuple {K : PySem.W.Frag} : PySem.W.kitOne K (.type "tuple") (.type "tuple") = some true := rfl
inductive Tr where
  | one (d : List L2.D)
  | rep (n : Nat) (b : List Tr)
mutual
def exS : Tr → List (List L2.D)
  | .one d => [d]
  | .rep n b => (List.replicate n (exL b)).flatten
def exL : List Tr → List (List L2.D)
  | [] => []
  | t :: ts => exS t ++ exL ts
end
mutual
def szS : Tr → Nat
  | .one _ => 1
  | .rep _ b => 1 + szL b
def szL : List Tr → Nat
  | [] => 0
  | t :: ts => szS t + szL ts
end
mutual
def dpS : Tr → Nat
  | .one _ => 0
  | .rep _ b => 1 + dpL b
def dpL : List Tr → Nat
  | [] => 0
  | t :: ts => max (dpS t) (dpL ts)
end
def okOne (d : List L2.D) : Prop := d = [.str "up"] ∨ d = [.str "down"] ∨ ∃ i : Int, (-1000000 ≤ i ∧ i ≤ 1000000) ∧ (d = [.str "go", .int i] ∨ d = [.str "turn", .int i] ∨ d = [.str "ink", .int i])
mutual
def gdS : Tr → Prop
  | .one d => okOne d
  | .rep n b => 2 ≤ n ∧ n ≤ 60 ∧ gdL b
def gdL : List Tr → Prop
  | [] => True
  | t :: ts => gdS t ∧ gdL ts
end
mutual
def fuS : Tr → Prop
  | .one _ => True
  | .rep n b => 2 ≤ n ∧ exL b ≠ [] ∧ fuL b
def fuL : List Tr → Prop
  | [] => True
  | t :: ts => fuS t ∧ fuL ts
end
mutual
def enS : Tr → L2.D
  | .one d => .tup d
  | .rep n b => .tup [.str "again", .int n, .tup (enL b)]
def enL : List Tr → List L2.D
  | [] => []
  | t :: ts => enS t :: enL ts
end
theorem exL_app : ∀ (a b : List Tr), exL (a ++ b) = exL a ++ exL b
  | [], b => by simp [exL]
  | t :: ts, b => by rw [List.cons_append, exL, exL, exL_app ts b, List.append_assoc]
theorem szL_app : ∀ (a b : List Tr), szL (a ++ b) = szL a + szL b
  | [], b => by simp [szL]
  | t :: ts, b => by rw [List.cons_append, szL, szL, szL_app ts b, Nat.add_assoc]
theorem enL_app : ∀ (a b : List Tr), enL (a ++ b) = enL a ++ enL b
  | [], b => by simp [enL]
  | t :: ts, b => by rw [List.cons_append, enL, enL, enL_app ts b, List.cons_append]
theorem gdL_app : ∀ (a b : List Tr), gdL a → gdL b → gdL (a ++ b)
  | [], b, _, h => h
  | t :: ts, b, ha, h => by rw [List.cons_append, gdL]; rw [gdL] at ha; exact ⟨ha.1, gdL_app ts b ha.2 h⟩
theorem fuL_app : ∀ (a b : List Tr), fuL a → fuL b → fuL (a ++ b)
  | [], b, _, h => h
  | t :: ts, b, ha, h => by rw [List.cons_append, fuL]; rw [fuL] at ha; exact ⟨ha.1, fuL_app ts b ha.2 h⟩
theorem dpL_app : ∀ (a b : List Tr), dpL (a ++ b) = max (dpL a) (dpL b)
  | [], b => by simp [dpL]
  | t :: ts, b => by rw [List.cons_append, dpL, dpL, dpL_app ts b, Nat.max_assoc]
theorem enL_length : ∀ (a : List Tr), (enL a).length = a.length
  | [] => by simp [enL]
  | t :: ts => by rw [enL, List.length_cons, List.length_cons, enL_length ts]
theorem szS_pos (t : Tr) : 1 ≤ szS t := by cases t <;> simp [szS]
theorem szL_one (t : Tr) : szL [t] = szS t := by simp [szL]
theorem exL_one (t : Tr) : exL [t] = exS t := by simp [exL]
theorem flat_len {α : Type} (u : List α) : ∀ n : Nat, (List.replicate n u).flatten.length = n * u.length
  | 0 => by simp
  | n + 1 => by rw [List.replicate_succ, List.flatten_cons, List.length_append, flat_len u n, Nat.add_mul, Nat.one_mul, Nat.add_comm]
theorem dp_le : (∀ t : Tr, fuS t → 2 ^ dpS t ≤ (exS t).length) ∧ ∀ b : List Tr, fuL b → b ≠ [] → 2 ^ dpL b ≤ (exL b).length := by
  have key : ∀ n : Nat, (∀ t : Tr, szS t ≤ n → fuS t → 2 ^ dpS t ≤ (exS t).length) ∧ ∀ b : List Tr, szL b ≤ n → fuL b → b ≠ [] → 2 ^ dpL b ≤ (exL b).length := by
    intro n
    induction n with
    | zero =>
      refine ⟨fun t h => by have := szS_pos t; omega, fun b h _ hne => ?_⟩
      cases b with
      | nil => exact absurd rfl hne
      | cons t ts => rw [szL] at h; have := szS_pos t; omega
    | succ n ih =>
      have hS : ∀ t : Tr, szS t ≤ n + 1 → fuS t → 2 ^ dpS t ≤ (exS t).length := by
        intro t h f
        cases t with
        | one d => simp [dpS, exS]
        | rep k b =>
          rw [szS] at h
          rw [fuS] at f
          obtain ⟨f1, f2, f3⟩ := f
          have hb : b ≠ [] := by rintro rfl; exact f2 (by rw [exL])
          have := ih.2 b (by omega) f3 hb
          rw [dpS, exS, flat_len, Nat.pow_add, Nat.pow_one]
          exact Nat.mul_le_mul f1 this
      refine ⟨hS, fun b => ?_⟩
      induction b with
      | nil => intro _ _ h; exact absurd rfl h
      | cons t ts iht =>
        intro h f _
        rw [szL] at h
        rw [fuL] at f
        have h1 := hS t (by omega) f.1
        rw [dpL, exL, List.length_append]
        cases ts with
        | nil => rw [dpL, exL, Nat.max_eq_left (Nat.zero_le _)]; simpa using h1
        | cons u us =>
          have h2 := iht (by have := szS_pos t; omega) f.2 (by simp)
          rcases Nat.le_total (dpS t) (dpL (u :: us)) with c | c
          · rw [Nat.max_eq_right c]; omega
          · rw [Nat.max_eq_left c]; omega
  exact ⟨fun t f => (key (szS t)).1 t (Nat.le_refl _) f, fun b f h => (key (szL b)).2 b (Nat.le_refl _) f h⟩
def sl (S : List (List L2.D)) (i j : Nat) : List (List L2.D) := (S.drop i).take (j - i)
theorem sl_len {S : List (List L2.D)} {i j : Nat} (hj : j ≤ S.length) : (sl S i j).length = j - i := by
  unfold sl; rw [List.length_take, List.length_drop]; omega
theorem sl_parts {S : List (List L2.D)} {i m j : Nat} (h1 : i ≤ m) (h2 : m ≤ j) : sl S i j = sl S i m ++ sl S m j := by
  unfold sl
  have e : j - i = (m - i) + (j - m) := by omega
  rw [e, List.take_add, List.drop_drop]
  congr 3
  omega
theorem sl_split {S u v : List (List L2.D)} {i j : Nat} (hij : i ≤ j) (hj : j ≤ S.length) (h : u ++ v = sl S i j) : u = sl S i (i + u.length) ∧ v = sl S (i + u.length) j ∧ i + u.length ≤ j := by
  have hl : u.length + v.length = j - i := by rw [← sl_len hj, ← h, List.length_append]
  have hle : i + u.length ≤ j := by omega
  have := sl_parts (S := S) (i := i) (m := i + u.length) (j := j) (by omega) hle
  rw [this] at h
  have := List.append_inj h (by rw [sl_len (by omega)]; omega)
  exact ⟨this.1, this.2, hle⟩
theorem periodic {α : Type} {q : Nat} (hq : 0 < q) : ∀ (k : Nat) (W : List α), W.length = k * q → W.take (W.length - q) = W.drop q → W = (List.replicate k (W.take q)).flatten
  | 0, W, hl, _ => by
    have : W = [] := List.length_eq_zero_iff.mp (by omega)
    subst this; simp
  | 1, W, hl, _ => by
    rw [List.replicate_succ, List.replicate_zero, List.flatten_cons, List.flatten_nil, List.append_nil, List.take_of_length_le (by omega)]
  | k + 2, W, hl, h => by
    have hl' : W.length = q + (k + 1) * q := by rw [hl, show k + 2 = (k + 1) + 1 from rfl, Nat.add_mul, Nat.one_mul, Nat.add_comm]
    have hd : (W.drop q).length = (k + 1) * q := by rw [List.length_drop]; omega
    have hk : q ≤ (k + 1) * q := Nat.le_mul_of_pos_left q (by omega)
    have ht : (W.drop q).take q = W.take q := by
      rw [← h, List.take_take, Nat.min_eq_left (by omega)]
    have ih := periodic hq (k + 1) (W.drop q) hd (by
      rw [hd]
      have e1 : (W.drop q).take ((k + 1) * q - q) = (W.take (W.length - q)).take ((k + 1) * q - q) := by rw [h]
      have e2 : (W.drop q).drop q = (W.take (W.length - q)).drop q := by rw [h]
      rw [e2, List.drop_take]
      congr 1
      omega)
    rw [ht] at ih
    rw [List.replicate_succ, List.flatten_cons, ← ih, List.take_append_drop]
theorem rep_period {α : Type} (u : List α) : ∀ n : Nat, 1 ≤ n → ((List.replicate n u).flatten).take ((List.replicate n u).flatten.length - u.length) = ((List.replicate n u).flatten).drop u.length
  | 0, h => by omega
  | n + 1, _ => by
    have e1 : (List.replicate (n + 1) u).flatten.length - u.length = n * u.length := by rw [flat_len, Nat.add_mul, Nat.one_mul]; omega
    have e2 : (List.replicate (n + 1) u).flatten = u ++ (List.replicate n u).flatten := by rw [List.replicate_succ, List.flatten_cons]
    have e3 : (List.replicate (n + 1) u).flatten = (List.replicate n u).flatten ++ u := by rw [List.replicate_succ', List.flatten_append, List.flatten_cons, List.flatten_nil, List.append_nil]
    rw [e1]
    conv => rhs; rw [e2, List.drop_left]
    rw [e3, List.take_left' (flat_len u n)]
structure Best (S : List (List L2.D)) (i j : Nat) (z : Nat) (b : List Tr) : Prop where
  ex : exL b = sl S i j
  sz : szL b = z
  gd : gdL b
  fu : fuL b
  least : ∀ c : List Tr, exL c = sl S i j → z ≤ szL c
theorem best_of {S : List (List L2.D)} {i j z : Nat} (hij : i + 2 ≤ j) (hj : j ≤ S.length)
    (h1 : ∀ m z1 b1 z2 b2, i < m → m < j → Best S i m z1 b1 → Best S m j z2 b2 → z ≤ z1 + z2)
    (h2 : ∀ q z1 b1, 1 ≤ q → q ≤ (j - i) / 2 → (j - i) % q = 0 → sl S i (j - q) = sl S (i + q) j → Best S i (i + q) z1 b1 → z ≤ z1 + 1)
    (h3 : ∀ i' j', i ≤ i' → i' < j' → j' ≤ j → j' - i' < j - i → ∃ z' b', Best S i' j' z' b') : ∀ c : List Tr, exL c = sl S i j → z ≤ szL c := by
  have key : ∀ n (c : List Tr), szL c ≤ n → exL c = sl S i j → z ≤ szL c := by
    intro n
    induction n with
    | zero =>
      intro c hc e
      cases c with
      | nil =>
        have := sl_len (S := S) (i := i) hj
        rw [← e, exL, List.length_nil] at this
        omega
      | cons t ts => rw [szL] at hc; have := szS_pos t; omega
    | succ n ih =>
      intro c hc e
      cases c with
      | nil =>
        have := sl_len (S := S) (i := i) hj
        rw [← e, exL, List.length_nil] at this
        omega
      | cons t ts =>
        rw [szL] at hc ⊢
        rw [exL] at e
        have hp := szS_pos t
        obtain ⟨e1, e2, e3⟩ := sl_split (by omega) hj e
        by_cases k0 : (exS t).length = 0
        · have : exS t = [] := List.length_eq_zero_iff.mp k0
          rw [this, List.nil_append] at e
          have := ih ts (by omega) e
          omega
        by_cases k1 : i + (exS t).length < j
        · obtain ⟨z1, b1, B1⟩ := h3 i (i + (exS t).length) (Nat.le_refl _) (by omega) (by omega) (by omega)
          obtain ⟨z2, b2, B2⟩ := h3 (i + (exS t).length) j (by omega) k1 (Nat.le_refl _) (by omega)
          have a1 := B1.least [t] (by rw [exL_one]; exact e1)
          have a2 := B2.least ts e2
          rw [szL_one] at a1
          have := h1 _ z1 b1 z2 b2 (by omega) k1 B1 B2
          omega
        · have ej : i + (exS t).length = j := by omega
          have ew : exS t = sl S i j := by rw [ej] at e1; exact e1
          cases t with
          | one d => rw [exS, List.length_singleton] at ej; omega
          | rep m b =>
            rw [szS] at hc ⊢
            rw [exS] at ew ej
            have hl : m * (exL b).length = j - i := by rw [flat_len] at ej; omega
            have hm0 : m ≠ 0 := by rintro rfl; simp at hl; omega
            have hb0 : (exL b).length ≠ 0 := by intro h; rw [h] at hl; simp at hl; omega
            by_cases hm1 : m = 1
            · subst hm1
              have e4 : exL b = sl S i j := by rw [← ew]; simp
              have := ih b (by omega) e4
              omega
            · have e5 : (List.replicate m (exL b)).flatten = exL b ++ (List.replicate (m - 1) (exL b)).flatten := by
                obtain ⟨m', rfl⟩ : ∃ m', m = m' + 1 := ⟨m - 1, by omega⟩
                rw [List.replicate_succ, List.flatten_cons]; rfl
              rw [e5] at ew
              obtain ⟨f1, f2, f3⟩ := sl_split (by omega) hj ew
              have hq2 : 2 * (exL b).length ≤ j - i := by rw [← hl]; exact Nat.mul_le_mul_right _ (by omega)
              obtain ⟨z1, b1, B1⟩ := h3 i (i + (exL b).length) (Nat.le_refl _) (by omega) f3 (by omega)
              have a1 := B1.least b f1
              have per := rep_period (exL b) m (by omega)
              rw [e5, ew, sl_len hj] at per
              have p1 : (sl S i j).take (j - i - (exL b).length) = sl S i (j - (exL b).length) := by
                unfold sl; rw [List.take_take]; congr 1; omega
              have p2 : (sl S i j).drop (exL b).length = sl S (i + (exL b).length) j := by
                rw [← ew, List.drop_left]; exact f2
              rw [p1, p2] at per
              have := h2 (exL b).length z1 b1 (by omega) (by omega) (by rw [← hl]; exact Nat.mul_mod_left _ _) per B1
              omega
  exact fun c e => key (szL c) c (Nat.le_refl _) e
theorem best_one {S : List (List L2.D)} {i : Nat} {d : List L2.D} (hd : S[i]? = some d) (ok : okOne d) : Best S i (i + 1) 1 [.one d] := by
  have hi := (List.getElem?_eq_some_iff.mp hd).1
  have es : sl S i (i + 1) = [d] := by
    unfold sl
    rw [show i + 1 - i = 1 by omega, List.drop_eq_getElem_cons hi, List.take_succ_cons, List.take_zero]
    rw [List.getElem?_eq_getElem hi] at hd
    rw [Option.some.inj hd]
  refine ⟨by rw [es]; simp [exL, exS], by simp [szL, szS], by simp [gdL, gdS, ok], by simp [fuL, fuS], fun c e => ?_⟩
  cases c with
  | nil => rw [es, exL] at e; cases e
  | cons t ts => rw [szL]; have := szS_pos t; omega
theorem best_nil (S : List (List L2.D)) : Best S 0 0 0 [] := ⟨by simp [exL, sl], rfl, by simp [gdL], by simp [fuL], fun _ _ => Nat.zero_le _⟩
theorem again_ex {S : List (List L2.D)} {i j q : Nat} {b : List Tr} (hq : 1 ≤ q) (hij : i + q ≤ j) (hj : j ≤ S.length) (hm : (j - i) % q = 0) (per : sl S i (j - q) = sl S (i + q) j) (hb : exL b = sl S i (i + q)) : exL [.rep ((j - i) / q) b] = sl S i j := by
  rw [exL_one, exS, hb]
  have hl := sl_len (S := S) (i := i) hj
  have p1 : (sl S i j).take (j - i - q) = sl S i (j - q) := by
    unfold sl; rw [List.take_take]; congr 1; omega
  have p2 : (sl S i j).drop q = sl S (i + q) j := by
    rw [sl_parts (S := S) (m := i + q) (by omega) hij, List.drop_left' (by rw [sl_len (by omega)]; omega)]
  have p3 : (sl S i j).take q = sl S i (i + q) := by
    rw [sl_parts (S := S) (m := i + q) (by omega) hij, List.take_left' (by rw [sl_len (by omega)]; omega)]
  have := periodic (q := q) (by omega) ((j - i) / q) (sl S i j) (by rw [hl]; exact (Nat.div_mul_cancel (Nat.dvd_of_mod_eq_zero hm)).symm) (by rw [hl, p1, p2, per])
  rw [p3] at this
  exact this.symm

def IsPart (f : Nat → Nat → Nat × List Tr) (i j : Nat) (r : Nat × List Tr) : Prop := ∃ m, i < m ∧ m < j ∧ r = ((f i m).1 + (f m j).1, (f i m).2 ++ (f m j).2) ∧ (∀ m', i < m' → m' < j → r.1 ≤ (f i m').1 + (f m' j).1) ∧ ∀ m', i < m' → m' < m → r.1 < (f i m').1 + (f m' j).1
theorem IsPart.uniq {f : Nat → Nat → Nat × List Tr} {i j : Nat} {r r' : Nat × List Tr} (h : IsPart f i j r) (h' : IsPart f i j r') : r = r' := by
  obtain ⟨m, a1, a2, a3, a4, a5⟩ := h
  obtain ⟨m', b1, b2, b3, b4, b5⟩ := h'
  have e : m = m' := by
    rcases Nat.lt_trichotomy m m' with c | c | c
    · have x := b5 m a1 c
      have y := a4 m' b1 b2
      rw [a3, b3] at *
      simp only at x y
      omega
    · exact c
    · have x := a5 m' b1 c
      have y := b4 m a1 a2
      rw [a3, b3] at *
      simp only at x y
      omega
  subst e
  rw [a3, b3]
noncomputable def partC (f : Nat → Nat → Nat × List Tr) (i j : Nat) : Nat × List Tr := @dite _ (∃ r, IsPart f i j r) (Classical.propDecidable _) (fun h => h.choose) fun _ => (0, [])
theorem partC_of {f : Nat → Nat → Nat × List Tr} {i j : Nat} {r : Nat × List Tr} (h : IsPart f i j r) : partC f i j = r := by
  have hx : ∃ r, IsPart f i j r := ⟨r, h⟩
  unfold partC
  rw [dif_pos hx]
  exact hx.choose_spec.uniq h
noncomputable def stepF (f : Nat → Nat → Nat × List Tr) (S : List (List L2.D)) (i j : Nat) (r : Nat × List Tr) : Nat → Nat × List Tr
  | 0 => r
  | n + 1 => @ite _ ((f i (i + (n + 1))).1 + 1 < (stepF f S i j r n).1 ∧ (j - i) % (n + 1) = 0 ∧ sl S i (j - (n + 1)) = sl S (i + (n + 1)) j) (Classical.propDecidable _) ((f i (i + (n + 1))).1 + 1, [.rep ((j - i) / (n + 1)) (f i (i + (n + 1))).2]) (stepF f S i j r n)
theorem stepF_yes {f : Nat → Nat → Nat × List Tr} {S : List (List L2.D)} {i j n : Nat} {r : Nat × List Tr} (h : (f i (i + (n + 1))).1 + 1 < (stepF f S i j r n).1 ∧ (j - i) % (n + 1) = 0 ∧ sl S i (j - (n + 1)) = sl S (i + (n + 1)) j) : stepF f S i j r (n + 1) = ((f i (i + (n + 1))).1 + 1, [.rep ((j - i) / (n + 1)) (f i (i + (n + 1))).2]) := by
  rw [stepF, if_pos h]
theorem stepF_no {f : Nat → Nat → Nat × List Tr} {S : List (List L2.D)} {i j n : Nat} {r : Nat × List Tr} (h : ¬ ((f i (i + (n + 1))).1 + 1 < (stepF f S i j r n).1 ∧ (j - i) % (n + 1) = 0 ∧ sl S i (j - (n + 1)) = sl S (i + (n + 1)) j)) : stepF f S i j r (n + 1) = stepF f S i j r n := by
  rw [stepF, if_neg h]
noncomputable def FF (S : List (List L2.D)) (i j : Nat) : Nat × List Tr :=
  if j - i = 1 then (1, [.one (S.getD i [])])
  else stepF (fun i' j' => if h : j' - i' < j - i then FF S i' j' else (0, [])) S i j (partC (fun i' j' => if h : j' - i' < j - i then FF S i' j' else (0, [])) i j) ((j - i) / 2)
termination_by j - i
noncomputable def fW (S : List (List L2.D)) (i j : Nat) : Nat → Nat → Nat × List Tr := fun i' j' => if h : j' - i' < j - i then FF S i' j' else (0, [])
theorem fW_at {S : List (List L2.D)} {i j i' j' : Nat} (h : j' - i' < j - i) : fW S i j i' j' = FF S i' j' := by unfold fW; rw [dif_pos h]
theorem FF_one {S : List (List L2.D)} {i : Nat} : FF S i (i + 1) = (1, [.one (S.getD i [])]) := by rw [FF, if_pos (by omega)]
theorem FF_eq {S : List (List L2.D)} {i j : Nat} (h : j - i ≠ 1) : FF S i j = stepF (fW S i j) S i j (partC (fW S i j) i j) ((j - i) / 2) := by rw [FF, if_neg h]; rfl
theorem FF_nil {S : List (List L2.D)} : FF S 0 0 = (0, []) := by
  rw [FF_eq (by decide)]
  show partC (fW S 0 0) 0 0 = (0, [])
  unfold partC
  rw [dif_neg]
  rintro ⟨r, m, a, b, _⟩
  omega
structure Txt (K : PySem.W.Frag) (mg : Str → Option Value) (t : Adr) : Prop where
  parted : Own K mg "parted" s_parted ["start", "end", "found"] t.a_parted t.d_parted
  isagain : Own K mg "is_again" s_isagain ["statements", "start", "end", "step"] t.a_isagain t.d_isagain
  shortest : Own K mg "shortest" s_shortest ["statements", "start", "end", "found"] t.a_shortest t.d_shortest
  shorter : Own K mg "shorter" s_shorter ["program"] t.a_shorter t.d_shorter
  Lint : Own K mg "_law_int" s_Lint ["_law_found"] t.a_Lint t.d_Lint
  Lissingle : Own K mg "_law_is_single" s_Lissingle ["_law_statement"] t.a_Lissingle t.d_Lissingle
  Lmixed : Own K mg "_law_mixed" s_Lmixed ["_law_cell_here", "_law_k"] t.a_Lmixed t.d_Lmixed
  Lrow : Own K mg "_law_row" s_Lrow ["_law_cell_here", "_law_most", "_law_many"] t.a_Lrow t.d_Lrow
  Lcell : Own K mg "_law_cell" s_Lcell ["_law_script", "_law_k"] t.a_Lcell t.d_Lcell
  Ldeck : Own K mg "_law_deck" s_Ldeck ["_law_script", "_law_start"] t.a_Ldeck t.d_Ldeck
  Lnext : Own K mg "_law_next" s_Lnext ["_law_deck_here"] t.a_Lnext t.d_Lnext
  Lsize : Own K mg "_law_size" s_Lsize ["_law_body"] t.a_Lsize t.d_Lsize
  Lput : Own K mg "_law_put" s_Lput ["_law_body", "_law_most"] t.a_Lput t.d_Lput
  Lsingle : Own K mg "_law_single" s_Lsingle ["_law_deck_here"] t.a_Lsingle t.d_Lsingle
  Lagainbody : Own K mg "_law_again_body" s_Lagainbody ["_law_deck_here", "_law_room", "_law_deep"] t.a_Lagainbody t.d_Lagainbody
  Lisbody : Own K mg "_law_is_body" s_Lisbody ["_law_body", "_law_deep"] t.a_Lisbody t.d_Lisbody
  law : Own K mg "law" s_law ["_law_script"] t.a_law t.d_law
  z_bool : mg "bool" = none
  z_int : mg "int" = none
  z_isinstance : mg "isinstance" = none
  z_len : mg "len" = none
  z_list : mg "list" = none
  z_max : mg "max" = none
  z_min : mg "min" = none
  z_range : mg "range" = none
  z_reversed : mg "reversed" = none
  z_str : mg "str" = none
  z_tuple : mg "tuple" = none
  g_MOST_STATEMENTS : mg "MOST_STATEMENTS" = some t.u_MOST_STATEMENTS
  r_MOST_STATEMENTS : RelV t.v_MOST_STATEMENTS t.u_MOST_STATEMENTS
  k_MOST_STATEMENTS : ∀ H, Rp K H D_MOST_STATEMENTS t.v_MOST_STATEMENTS
section
variable {P : Program} {w : World} {K : PySem.W.Frag} {mg : Str → Option Value} {base : Heap} {t : Adr}
def sp_Lcell (K : PySem.W.Frag) : Sp := fun vs H Q _ => ∃ (a : Addr) (ns : List Int) (k : Int), vs = [.ref a, .int k] ∧ SqL K H a (ns.map V.int) ∧ ns.length ≤ 63 ∧ 0 ≤ k ∧ k ≤ 100 ∧ ∀ z, Q (.int z) H
theorem ok_Lcell (T : Txt K mg t) : FnOk P w K mg base CX0 1 t.a_Lcell t.d_Lcell ["_law_script", "_law_k"] (sp_Lcell K) := by
  refine T.Lcell.F.ok sc_Lcell (fun vs H Q E h => ?_) (fun cdv A outer s H vs Q E hr h => ?_)
  · obtain ⟨a, ns, k, rfl, _⟩ := h; rfl
  · obtain ⟨a, ns, k, rfl, hS, hl, k0, k1, q⟩ := h
    have hk := kk k0 k1
    refine ⟨_, (@pss_cons _ _ _ _ _ (@ps_if _ _ _ _ _ _ _ _ (@pt_cmpRD _ _ _ _ _ _ _ _ op_ltD (@pvD _ 1 _ _ (by rfl) (by first | exact Or.inl rfl | exact Or.inr (Or.inl rfl)) (by decide) (by decide)) (@pe_callB _ _ _ _ _ _ _ _ _ call_len_seqD (by rfl) T.z_len PySem.boot_len (@pa_cons _ _ _ _ _ (@pvD _ 0 _ _ (by rfl) (by first | exact Or.inl rfl | exact Or.inr (Or.inl rfl)) (by decide) (by decide)) (@pa_nil _) (by rfl)) (by decide) (by decide) (by rfl) (by rfl)) (nomark _)) (@pss_one _ _ _ (@ps_ret _ _ _ _ (@pe_ix _ _ _ _ _ _ _ ix_listD (@pvD _ 0 _ _ (by rfl) (by first | exact Or.inl rfl | exact Or.inr (Or.inl rfl)) (by decide) (by decide)) (@pvD _ 1 _ _ (by rfl) (by first | exact Or.inl rfl | exact Or.inr (Or.inl rfl)) (by decide) (by decide)) (fun _ _ => rfl)))) (@pss_nil _)) (@pss_cons _ _ _ _ _ (@ps_set _ _ (2) _ _ _ _ sc_Lcell.nd rfl (Or.inl rfl) (@pe_op _ _ _ _ _ _ _ _ op_addD (@pe_op _ _ _ _ _ _ _ _ op_mulWD (@pe_op _ _ _ _ _ _ _ _ op_mulWD (@pvD _ 1 _ _ (by rfl) (by first | exact Or.inl rfl | exact Or.inr (Or.inl rfl)) (by decide) (by decide)) (@pvD _ 1 _ _ (by rfl) (by first | exact Or.inl rfl | exact Or.inr (Or.inl rfl)) (by decide) (by decide))) (@pe_int _ _ _ _)) (@pe_int _ _ _ _)) (by rfl) (by first | exact .inl rfl | exact .inr rfl | assumption)) (@pss_cons _ _ _ _ _ (@ps_if _ _ _ _ _ _ _ _ (@pt_cmpRD _ _ _ _ _ _ _ _ op_gtD (@pe_callB _ _ _ _ _ _ _ _ _ call_len_seqD (by rfl) T.z_len PySem.boot_len (@pa_cons _ _ _ _ _ (@pvD _ 0 _ _ (by rfl) (by first | exact Or.inl rfl | exact Or.inr (Or.inl rfl)) (by decide) (by decide)) (@pa_nil _) (by rfl)) (by decide) (by decide) (by rfl) (by rfl)) (@pe_int _ _ _ _) (nomark _)) (@pss_one _ _ _ (@ps_set _ _ (2) _ _ _ _ sc_Lcell.nd rfl (Or.inl rfl) (@pe_op _ _ _ _ _ _ _ _ op_addD (@pvD _ 2 _ _ (by rfl) (by first | exact Or.inl rfl | exact Or.inr (Or.inl rfl)) (by decide) (by decide)) (@pe_op _ _ _ _ _ _ _ _ op_mulWD (@pe_op _ _ _ _ _ _ _ _ op_modD (@pe_ix _ _ _ _ _ _ _ ix_listD (@pvD _ 0 _ _ (by rfl) (by first | exact Or.inl rfl | exact Or.inr (Or.inl rfl)) (by decide) (by decide)) (@pe_op _ _ _ _ _ _ _ _ op_modD (@pe_op _ _ _ _ _ _ _ _ op_mulWD (@pvD _ 1 _ _ (by rfl) (by first | exact Or.inl rfl | exact Or.inr (Or.inl rfl)) (by decide) (by decide)) (@pe_int _ _ _ _)) (@pe_callB _ _ _ _ _ _ _ _ _ call_len_seqD (by rfl) T.z_len PySem.boot_len (@pa_cons _ _ _ _ _ (@pvD _ 0 _ _ (by rfl) (by first | exact Or.inl rfl | exact Or.inr (Or.inl rfl)) (by decide) (by decide)) (@pa_nil _) (by rfl)) (by decide) (by decide) (by rfl) (by rfl))) (fun _ _ => rfl)) (@pe_op _ _ _ _ _ _ _ _ op_powD (@pe_int _ _ _ _) (@pe_int _ _ _ _))) (@pe_op _ _ _ _ _ _ _ _ op_addD (@pe_int _ _ _ _) (@pvD _ 1 _ _ (by rfl) (by first | exact Or.inl rfl | exact Or.inr (Or.inl rfl)) (by decide) (by decide))))) (by rfl) (by first | exact .inl rfl | exact .inr rfl | assumption))) (@pss_nil _)) (@pss_one _ _ _ (@ps_ret _ _ _ _ (@pe_op _ _ _ _ _ _ _ _ op_modD (@pe_op _ _ _ _ _ _ _ _ op_mulWD (@pvD _ 2 _ _ (by rfl) (by first | exact Or.inl rfl | exact Or.inr (Or.inl rfl)) (by decide) (by decide)) (@pvD _ 2 _ _ (by rfl) (by first | exact Or.inl rfl | exact Or.inr (Or.inl rfl)) (by decide) (by decide))) (@pe_int _ _ _ _))))))), ?_⟩
    walk_at "rd"
    refine ⟨_, .inl hS, ?_⟩
    walk_at "rd"
    split
    · rename_i c
      obtain ⟨z, _, hz⟩ := atI_ints k0 c
      exact ⟨_, hS, _, hz, q z⟩
    · rename_i c
      refine ⟨mulOk_l (by omega) (by omega), mulOk_r (by decide) (by decide), _, .inl hS, ?_⟩
      walk_at "rd"
      split
      · rename_i d
        refine ⟨mulOk_r (by decide) (by decide), _, .inl hS, ?_⟩
        walk_at "rd"
        have hp : (0 : Int) < ns.length := by omega
        obtain ⟨z, _, hz⟩ := atI_ints (ns := ns) (Int.emod_nonneg (k * 7) (by omega)) (Int.emod_lt_of_pos (k * 7) hp)
        refine ⟨hp, _, hS, _, hz, ?_⟩
        walk_at "rd"
        refine ⟨⟨by decide, by decide, by decide⟩, by decide, mulOk_r (by omega) (by omega), ?_⟩
        have h1 := zk k0 k1 (Int.emod_nonneg z (by decide : (10 : Int) ^ 40 ≠ 0)) (Int.emod_lt_of_pos z (by decide : (0 : Int) < 10 ^ 40))
        have e40 : (10 : Int) ^ Int.toNat 40 = 10 ^ 40 := rfl
        rw [e40]
        generalize z % 10 ^ 40 * (48271 + k) = y at h1 ⊢
        refine ⟨mulOk_bits 200 200 (by omega) (by omega) (by decide), by decide, q _⟩
      · exact ⟨mulOk_l (by omega) (by omega), by decide, q _⟩
def sp_Lmixed : Sp := fun vs H Q _ => ∃ (c k : Int), vs = [.int c, .int k] ∧ 0 ≤ k ∧ k ≤ 100 ∧ ∀ z, Q (.int z) H
theorem ok_Lmixed (T : Txt K mg t) : FnOk P w K mg base CX0 1 t.a_Lmixed t.d_Lmixed ["_law_cell_here", "_law_k"] sp_Lmixed := by
  refine T.Lmixed.F.ok sc_Lmixed (fun vs H Q E h => ?_) (fun cdv A outer s H vs Q E hr h => ?_)
  · obtain ⟨c, k, rfl, _⟩ := h; rfl
  · obtain ⟨c, k, rfl, k0, k1, q⟩ := h
    have hk := kk k0 k1
    have md : ∀ x : Int, 0 ≤ x % 2305843009213693951 ∧ x % 2305843009213693951 < 2305843009213693951 := fun x => ⟨Int.emod_nonneg x (by decide), Int.emod_lt_of_pos x (by decide)⟩
    refine ⟨_, (@pss_cons _ _ _ _ _ (@ps_set _ _ (2) _ _ _ _ sc_Lmixed.nd rfl (Or.inl rfl) (@pe_op _ _ _ _ _ _ _ _ op_modD (@pe_op _ _ _ _ _ _ _ _ op_addD (@pe_op _ _ _ _ _ _ _ _ op_addD (@pvD _ 0 _ _ (by rfl) (by first | exact Or.inl rfl | exact Or.inr (Or.inl rfl)) (by decide) (by decide)) (@pe_op _ _ _ _ _ _ _ _ op_mulWD (@pe_op _ _ _ _ _ _ _ _ op_mulWD (@pvD _ 1 _ _ (by rfl) (by first | exact Or.inl rfl | exact Or.inr (Or.inl rfl)) (by decide) (by decide)) (@pvD _ 1 _ _ (by rfl) (by first | exact Or.inl rfl | exact Or.inr (Or.inl rfl)) (by decide) (by decide))) (@pe_int _ _ _ _))) (@pe_int _ _ _ _)) (@pe_int _ _ _ _)) (by rfl) (by first | exact .inl rfl | exact .inr rfl | assumption)) (@pss_cons _ _ _ _ _ (@ps_set _ _ (2) _ _ _ _ sc_Lmixed.nd rfl (Or.inl rfl) (@pe_op _ _ _ _ _ _ _ _ op_modD (@pe_op _ _ _ _ _ _ _ _ op_mulWD (@pvD _ 2 _ _ (by rfl) (by first | exact Or.inl rfl | exact Or.inr (Or.inl rfl)) (by decide) (by decide)) (@pvD _ 2 _ _ (by rfl) (by first | exact Or.inl rfl | exact Or.inr (Or.inl rfl)) (by decide) (by decide))) (@pe_int _ _ _ _)) (by rfl) (by first | exact .inl rfl | exact .inr rfl | assumption)) (@pss_cons _ _ _ _ _ (@ps_set _ _ (2) _ _ _ _ sc_Lmixed.nd rfl (Or.inl rfl) (@pe_op _ _ _ _ _ _ _ _ op_modD (@pe_op _ _ _ _ _ _ _ _ op_mulWD (@pe_op _ _ _ _ _ _ _ _ op_addD (@pe_op _ _ _ _ _ _ _ _ op_addD (@pvD _ 2 _ _ (by rfl) (by first | exact Or.inl rfl | exact Or.inr (Or.inl rfl)) (by decide) (by decide)) (@pe_op _ _ _ _ _ _ _ _ op_mulWD (@pvD _ 1 _ _ (by rfl) (by first | exact Or.inl rfl | exact Or.inr (Or.inl rfl)) (by decide) (by decide)) (@pe_int _ _ _ _))) (@pe_int _ _ _ _)) (@pe_int _ _ _ _)) (@pe_int _ _ _ _)) (by rfl) (by first | exact .inl rfl | exact .inr rfl | assumption)) (@pss_one _ _ _ (@ps_ret _ _ _ _ (@pe_op _ _ _ _ _ _ _ _ op_fdivWD (@pe_op _ _ _ _ _ _ _ _ op_modD (@pe_op _ _ _ _ _ _ _ _ op_mulWD (@pvD _ 2 _ _ (by rfl) (by first | exact Or.inl rfl | exact Or.inr (Or.inl rfl)) (by decide) (by decide)) (@pvD _ 2 _ _ (by rfl) (by first | exact Or.inl rfl | exact Or.inr (Or.inl rfl)) (by decide) (by decide))) (@pe_int _ _ _ _)) (@pe_int _ _ _ _))))))), ?_⟩
    walk_at "rd"
    refine ⟨mulOk_l (by omega) (by omega), mulOk_r (by decide) (by decide), by decide, ?_⟩
    have h1 := md (c + k * k * 40503 + 12345)
    generalize (c + k * k * 40503 + 12345) % 2305843009213693951 = x1 at h1 ⊢
    refine ⟨mulOk_l (by omega) (by omega), by decide, ?_⟩
    have h2 := md (x1 * x1)
    generalize x1 * x1 % 2305843009213693951 = x2 at h2 ⊢
    refine ⟨mulOk_l (by omega) (by omega), mulOk_r (by decide) (by decide), by decide, ?_⟩
    have h3 := md ((x2 + k * 7919 + 1) * 48271)
    generalize (x2 + k * 7919 + 1) * 48271 % 2305843009213693951 = x3 at h3 ⊢
    refine ⟨mulOk_l (by omega) (by omega), by decide, by decide, by decide, q _⟩
def sp_Lrow : Sp := fun vs H Q _ => ∃ (c most many : Int), vs = [.int c, .int most, .int many] ∧ 0 < most ∧ most < 2 ^ 100 ∧ 0 ≤ many ∧ many ≤ 60 ∧
  ∀ (l : Addr) (xs : List Int) (H' : Hp), Same H H' → H l = none → H' l = some (.lst (xs.map V.int)) → xs.length = many.toNat → (∀ x ∈ xs, 0 ≤ x ∧ x < most) → Q (.ref l) H'
def Iv_row (c m n : Int) (l : Addr) (H : Hp) (i : Nat) (σ : L2.St) (H2 : Hp) : Prop := ∃ (xs : List Int) (r : Int) (kv : Option V), σ = [some (.int c), some (.int m), some (.int n), some (.ref l), some (.int r), kv] ∧ H2 = upd H l (.lst (xs.map V.int)) ∧ xs.length = i ∧ ∀ x ∈ xs, 0 ≤ x ∧ x < m
def Iv_comp (c m : Int) (p : Addr) (H : Hp) (i : Nat) (σ : L2.St) (H2 : Hp) : Prop := ∃ (ys : List Int) (kv : Option V), σ = [some (.int m), some (.int c), kv] ∧ Same H H2 ∧ H2 p = some (.lst (ys.map V.int)) ∧ ys.length = i ∧ ∀ x ∈ ys, 0 ≤ x ∧ x < m
theorem ok_Lrow (T : Txt K mg t) : FnOk P w K mg base CX0 2 t.a_Lrow t.d_Lrow ["_law_cell_here", "_law_most", "_law_many"] sp_Lrow := by
  refine T.Lrow.F.ok sc_Lrow (fun vs H Q E h => ?_) (fun cdv A outer s H vs Q E hr h => ?_)
  · obtain ⟨c, m, n, rfl, _⟩ := h; rfl
  · obtain ⟨c, m, n, rfl, m0, m1, n0, n1, q⟩ := h
    have md : ∀ x : Int, 0 ≤ x % m ∧ x % m < m := fun x => ⟨Int.emod_nonneg x (by omega), Int.emod_lt_of_pos x m0⟩
    refine ⟨_, (@pss_cons _ _ _ _ _ (@ps_set _ _ (3) _ _ _ _ sc_Lrow.nd rfl (Or.inl rfl) (@pe_lst _ _ _ _ (@pa_nil _)) (by rfl) (by first | exact .inl rfl | exact .inr rfl | assumption)) (@pss_cons _ _ _ _ _ (@ps_set _ _ (4) _ _ _ _ sc_Lrow.nd rfl (Or.inl rfl) (@pvD _ 0 _ _ (by rfl) (by first | exact Or.inl rfl | exact Or.inr (Or.inl rfl)) (by decide) (by decide)) (by rfl) (by first | exact .inl rfl | exact .inr rfl | assumption)) (@pss_cons _ _ _ _ _ (@ps_for _ _ _ _ _ _ _ _ PassesOwn.never rfl (@pi_range1 _ _ _ _ _ _ (by rfl) T.z_range (@pa_cons _ _ _ _ _ (@pvD _ 2 _ _ (by rfl) (by first | exact Or.inl rfl | exact Or.inr (Or.inl rfl)) (by decide) (by decide)) (@pa_nil _) (by rfl)) (by rfl)) (@pg_name _ _ (5) _ sc_Lrow.nd rfl (Or.inl rfl) (by first | exact .inl rfl | exact .inr rfl | assumption)) (@pss_cons _ _ _ _ _ (@ps_expr _ _ _ _ (@pe_bm _ _ _ _ _ _ _ _ _ _ _ _ PySem.F.plainAttrs_list PySem.F.slot_list_append PySem.F.type_list_append mt_appendD (@pvD _ 3 _ _ (by rfl) (by first | exact Or.inl rfl | exact Or.inr (Or.inl rfl)) (by decide) (by decide)) (@pa_cons _ _ _ _ _ (@pe_op _ _ _ _ _ _ _ _ op_modD (@pvD _ 4 _ _ (by rfl) (by first | exact Or.inl rfl | exact Or.inr (Or.inl rfl)) (by decide) (by decide)) (@pvD _ 1 _ _ (by rfl) (by first | exact Or.inl rfl | exact Or.inr (Or.inl rfl)) (by decide) (by decide))) (@pa_nil _) (by rfl)) (by rfl) (by rfl) (by rfl) (by rfl) (by rfl)) (by rfl)) (@pss_one _ _ _ (@ps_set _ _ (4) _ _ _ _ sc_Lrow.nd rfl (Or.inl rfl) (@pe_op _ _ _ _ _ _ _ _ op_fdivWD (@pvD _ 4 _ _ (by rfl) (by first | exact Or.inl rfl | exact Or.inr (Or.inl rfl)) (by decide) (by decide)) (@pvD _ 1 _ _ (by rfl) (by first | exact Or.inl rfl | exact Or.inr (Or.inl rfl)) (by decide) (by decide))) (by rfl) (by first | exact .inl rfl | exact .inr rfl | assumption)))) (by intro _; rfl)) (@pss_cons _ _ _ _ _ (@ps_if _ _ _ _ _ _ _ _ (@pt_cmpRD _ _ _ _ _ _ _ _ op_gtD (@pvD _ 4 _ _ (by rfl) (by first | exact Or.inl rfl | exact Or.inr (Or.inl rfl)) (by decide) (by decide)) (@pe_int _ _ _ _) (nomark _)) (@pss_one _ _ _ (@ps_ret _ _ _ _ (@pvD _ 3 _ _ (by rfl) (by first | exact Or.inl rfl | exact Or.inr (Or.inl rfl)) (by decide) (by decide)))) (@pss_nil _)) (@pss_one _ _ _ (@ps_ret _ _ _ _ (@pe_comp _ _ _ _ _ _ (defScope s_Lrow) _ _ _ _ _ (["_law_cell_here", "_law_most", "_law_many", "_law_found", "_law_rest", "_law_k"]) (["_law_most", "_law_cell_here", "_law_k"]) (["_law_k"]) ([1, 0]) rfl rfl rfl ⟨by decide +kernel, by decide +kernel, by decide +kernel, by decide +kernel, by decide +kernel, by decide +kernel⟩ (@pi_range1 _ _ _ _ _ _ (by rfl) T.z_range (@pa_cons _ _ _ _ _ (@pvD _ 2 _ _ (by rfl) (by first | exact Or.inl rfl | exact Or.inr (Or.inl rfl)) (by decide) (by decide)) (@pa_nil _) (by rfl)) (by rfl)) (fun _ _ _ _ => (@pg_name _ _ (2) _ (show List.Nodup (["_law_most", "_law_cell_here", "_law_k"] : List Str) by decide +kernel) rfl (Or.inl rfl) (by first | exact .inl rfl | exact .inr rfl | assumption))) (fun _ _ _ _ => (@pifs_nil _)) (fun _ _ _ _ => (@pe_op _ _ _ _ _ _ _ _ op_modD (@pe_call _ _ _ _ _ _ _ _ _ _ _ _ _ _ _ _ (ok_Lmixed T) (hr.mono (by decide)) (by rfl) T.Lmixed.m T.Lmixed.F.kp T.Lmixed.b .nil pass0 (@pa_cons _ _ _ _ _ (@pvD _ 1 _ _ (by rfl) (by first | exact Or.inl rfl | exact Or.inr (Or.inl rfl)) (by decide) (by decide)) (@pa_cons _ _ _ _ _ (@pvD _ 2 _ _ (by rfl) (by first | exact Or.inl rfl | exact Or.inr (Or.inl rfl)) (by decide) (by decide)) (@pa_nil _) (by rfl)) (by rfl)) (by decide) (by rfl) (by rfl)) (@pvD _ 0 _ _ (by rfl) (by first | exact Or.inl rfl | exact Or.inr (Or.inl rfl)) (by decide) (by decide)))) (by intro _; rfl)))))))), ?_⟩
    walk_at "rd"
    refine ⟨Nat.zero_le _, fun l hl => ⟨by omega, by omega, ?_⟩⟩
    refine FW_range (Iv_row c m n l H) ⟨[], c, none, rfl, rfl, rfl, by intro x hx; cases hx⟩ ?_ ?_
    · rintro i σ H2 hi ⟨xs, r, kv, rfl, rfl, hx, hb⟩
      walk_at "rd"
      refine ⟨.inl ⟨_, SqL.of upd_same⟩, m0, ?_⟩
      refine ⟨_, upd_same, small1000 (by rw [List.length_map]; omega), m0, m1, xs ++ [r % m], _, _, rfl, ?_, ?_, ?_⟩
      · rw [upd_upd, List.map_append]; rfl
      · rw [List.length_append, hx]; rfl
      · intro x h
        rcases List.mem_append.mp h with h | h
        · exact hb x h
        · rw [List.mem_singleton.mp h]; exact md r
    · rintro σ H2 ⟨xs, r, kv, rfl, rfl, hx, hb⟩
      walk_at "rd"
      split
      · exact q l xs _ (Same.upd hl) hl upd_same hx hb
      · refine ⟨by omega, by omega, fun p hp => ?_⟩
        have hne : p ≠ l := fun e => by rw [e, upd_same] at hp; cases hp
        have hp0 : H p = none := by rw [upd_ne hne] at hp; exact hp
        refine CW_range (Iv_comp c m p H) ⟨[], none, rfl, (Same.upd hl).upd2 hp0, upd_same, rfl, by intro x hx; cases hx⟩ ?_ ?_
        · rintro i σ H2 hi ⟨ys, kv, rfl, sm, hy, hlen, hby⟩
          walk_at "rd"
          refine ⟨_, _, rfl, by omega, by omega, fun z => ?_⟩
          walk_at "rd"
          refine ⟨m0, _, hy, small1000 (by rw [List.length_map]; omega), nx hi ⟨ys ++ [z % m], _, rfl, sm.upd2 hp0, ?_, ?_, ?_⟩⟩
          · rw [upd_same, List.map_append]; rfl
          · rw [List.length_append, hlen]; rfl
          · intro x h
            rcases List.mem_append.mp h with h | h
            · exact hby x h
            · rw [List.mem_singleton.mp h]; exact md z
        · rintro σ H2 ⟨ys, kv, rfl, sm, hy, hlen, hby⟩
          exact q p ys _ sm hp0 hy hlen hby

def sp_Lint : Sp := fun vs H Q _ => ∃ v : Int, vs = [.int v] ∧ Q (.bl true) H
theorem ok_Lint (T : Txt K mg t) : FnOk P w K mg base CX0 1 t.a_Lint t.d_Lint ["_law_found"] sp_Lint := by
  refine T.Lint.F.ok sc_Lint (fun vs H Q E h => ?_) (fun cdv A outer s H vs Q E hr h => ?_)
  · obtain ⟨v, rfl, _⟩ := h; rfl
  · obtain ⟨v, rfl, k⟩ := h
    refine ⟨_, (@pss_one _ _ _ (@ps_ret _ _ _ _ (@pe_andD _ _ _ _ _ _ _ (@pe_callB _ _ _ _ _ _ _ _ _ (call_isiXD (c := .type "int")) (by rfl) T.z_isinstance boot_isinstance (@pa_cons _ _ _ _ _ (@pvD _ 0 _ _ (by rfl) (by first | exact Or.inl rfl | exact Or.inr (Or.inl rfl)) (by decide) (by decide)) (@pa_cons _ _ _ _ _ (@pe_bltn _ _ (.ty "int") _ _ (by rfl) T.z_int boot_int rfl (by decide) (by decide)) (@pa_nil _) (by rfl)) (by rfl)) (by decide) (by decide) (by rfl) (by rfl)) (@pe_one _ _ _ _ _ (@pe_not _ _ _ _ (@pe_callB _ _ _ _ _ _ _ _ _ (call_isiXD (c := .type "bool")) (by rfl) T.z_isinstance boot_isinstance (@pa_cons _ _ _ _ _ (@pvD _ 0 _ _ (by rfl) (by first | exact Or.inl rfl | exact Or.inr (Or.inl rfl)) (by decide) (by decide)) (@pa_cons _ _ _ _ _ (@pe_bltn _ _ (.ty "bool") _ _ (by rfl) T.z_bool boot_bool rfl (by decide) (by decide)) (@pa_nil _) (by rfl)) (by rfl)) (by decide) (by decide) (by rfl) (by rfl))))))), ?_⟩
    walk_at "rd"
    refine ⟨rfl, ⟨_, rfl⟩, _, .int v, _, kit_int_int, ?_⟩
    walk_at "rd"
    refine ⟨rfl, ⟨_, rfl⟩, _, .int v, _, kit_int_bool, ?_⟩
    walk_at "rd"
    exact k

theorem okOne.tup {d : List L2.D} (h : okOne d) : ∃ s r, d = .str s :: r ∧ s ≠ "again" := by
  rcases h with rfl | rfl | ⟨i, _, rfl | rfl | rfl⟩
  · exact ⟨"up", [], rfl, by decide⟩
  · exact ⟨"down", [], rfl, by decide⟩
  · exact ⟨"go", [.int i], rfl, by decide⟩
  · exact ⟨"turn", [.int i], rfl, by decide⟩
  · exact ⟨"ink", [.int i], rfl, by decide⟩
theorem str_iff {H : Hp} {s : Str} {v : V} : Rp K H (.str s) v ↔ v = .str s := by rw [Rp]
theorem int_iff {H : Hp} {i : Int} {v : V} : Rp K H (.int i) v ↔ v = .int i := by rw [Rp]
theorem one_iff {H : Hp} {d : L2.D} {v : V} : Rp K H (.tup [d]) v ↔ ∃ p x, v = .ref p ∧ SqT K H p [x] ∧ Rp K H d x := by
  rw [Rp_tup]
  constructor
  · rintro ⟨p, xs, rfl, h, hl⟩
    rw [RpL] at hl
    obtain ⟨x, r, rfl, hx, hr⟩ := hl
    rw [RpL] at hr
    subst hr
    exact ⟨p, x, rfl, h, hx⟩
  · rintro ⟨p, x, rfl, h, hx⟩
    exact ⟨p, [x], rfl, h, RpL.one hx⟩
def sp_Lissingle (K : PySem.W.Frag) : Sp := fun vs H Q _ => ∃ (x : V) (d : List L2.D), vs = [x] ∧ okOne d ∧ Rp K H (.tup d) x ∧ ∀ H', Same H H' → Q (.bl true) H'
theorem ok_Lissingle (T : Txt K mg t) : FnOk P w K mg base CX0 2 t.a_Lissingle t.d_Lissingle ["_law_statement"] (sp_Lissingle K) := by
  refine T.Lissingle.F.ok sc_Lissingle (fun vs H Q E h => ?_) (fun cdv A outer s H vs Q E hr h => ?_)
  · obtain ⟨x, d, rfl, _⟩ := h; rfl
  · obtain ⟨x, d, rfl, ok, rx, q⟩ := h
    have hu := hr.units
    refine ⟨_, (@pss_cons _ _ _ _ _ (@ps_if _ _ _ _ _ _ _ _ (@PW.pt _ _ _ (@pw_or _ _ _ _ _ _ _ (@pt_not _ _ _ _ (@pt_valD _ _ _ (@pe_callB _ _ _ _ _ _ _ _ _ (call_isiXD (c := .type "tuple")) (by rfl) T.z_isinstance boot_isinstance (@pa_cons _ _ _ _ _ (@pvD _ 0 _ _ (by rfl) (by first | exact Or.inl rfl | exact Or.inr (Or.inl rfl)) (by decide) (by decide)) (@pa_cons _ _ _ _ _ (@pe_bltn _ _ (.ty "tuple") _ _ (by rfl) T.z_tuple boot_tuple rfl (by decide) (by decide)) (@pa_nil _) (by rfl)) (by rfl)) (by decide) (by decide) (by rfl) (by rfl)) (by intro _; rfl))) (@pw_or _ _ _ _ _ _ _ (@pt_cmpRD _ _ _ _ _ _ _ _ op_eqD (@pe_callB _ _ _ _ _ _ _ _ _ call_len_seqD (by rfl) T.z_len PySem.boot_len (@pa_cons _ _ _ _ _ (@pvD _ 0 _ _ (by rfl) (by first | exact Or.inl rfl | exact Or.inr (Or.inl rfl)) (by decide) (by decide)) (@pa_nil _) (by rfl)) (by decide) (by decide) (by rfl) (by rfl)) (@pe_int _ _ _ _) (nomark _)) (@pw_or1 _ _ _ _ (@pt_not _ _ _ _ (@pt_valD _ _ _ (@pe_callB _ _ _ _ _ _ _ _ _ (call_isiXD (c := .type "str")) (by rfl) T.z_isinstance boot_isinstance (@pa_cons _ _ _ _ _ (@pe_ix _ _ _ _ _ _ _ ix_tupD (@pvD _ 0 _ _ (by rfl) (by first | exact Or.inl rfl | exact Or.inr (Or.inl rfl)) (by decide) (by decide)) (@pe_int _ _ _ _) (fun _ _ => rfl)) (@pa_cons _ _ _ _ _ (@pe_bltn _ _ (.ty "str") _ _ (by rfl) T.z_str boot_str rfl (by decide) (by decide)) (@pa_nil _) (by rfl)) (by rfl)) (by decide) (by decide) (by rfl) (by rfl)) (by intro _; rfl))))))) (@pss_one _ _ _ (@ps_ret _ _ _ _ (@pe_bl _ _ _ _))) (@pss_nil _)) (@pss_cons _ _ _ _ _ (@ps_if _ _ _ _ _ _ _ _ (@pt_cmpRD _ _ _ _ _ _ _ _ op_inFD (@pe_ix _ _ _ _ _ _ _ ix_tupD (@pvD _ 0 _ _ (by rfl) (by first | exact Or.inl rfl | exact Or.inr (Or.inl rfl)) (by decide) (by decide)) (@pe_int _ _ _ _) (fun _ _ => rfl)) (@pl_tup _ _ _ _ _ (@pls_consS _ _ _ _ _ _ (@pls_consS _ _ _ _ _ _ (@pls_nil _))) (by decide)) (by with_unfolding_all rfl)) (@pss_one _ _ _ (@ps_ret _ _ _ _ (@pe_cmpR _ _ _ _ _ _ _ _ op_eqD (@pe_callB _ _ _ _ _ _ _ _ _ call_len_seqD (by rfl) T.z_len PySem.boot_len (@pa_cons _ _ _ _ _ (@pvD _ 0 _ _ (by rfl) (by first | exact Or.inl rfl | exact Or.inr (Or.inl rfl)) (by decide) (by decide)) (@pa_nil _) (by rfl)) (by decide) (by decide) (by rfl) (by rfl)) (@pe_int _ _ _ _) (nomark _)))) (@pss_nil _)) (@pss_cons _ _ _ _ _ (@ps_if _ _ _ _ _ _ _ _ (@PW.pt _ _ _ (@pw_or _ _ _ _ _ _ _ (@pt_cmpRD _ _ _ _ _ _ _ _ op_notInFD (@pe_ix _ _ _ _ _ _ _ ix_tupD (@pvD _ 0 _ _ (by rfl) (by first | exact Or.inl rfl | exact Or.inr (Or.inl rfl)) (by decide) (by decide)) (@pe_int _ _ _ _) (fun _ _ => rfl)) (@pl_tup _ _ _ _ _ (@pls_consS _ _ _ _ _ _ (@pls_consS _ _ _ _ _ _ (@pls_consS _ _ _ _ _ _ (@pls_nil _)))) (by decide)) (by with_unfolding_all rfl)) (@pw_or _ _ _ _ _ _ _ (@pt_cmpRD _ _ _ _ _ _ _ _ op_neD (@pe_callB _ _ _ _ _ _ _ _ _ call_len_seqD (by rfl) T.z_len PySem.boot_len (@pa_cons _ _ _ _ _ (@pvD _ 0 _ _ (by rfl) (by first | exact Or.inl rfl | exact Or.inr (Or.inl rfl)) (by decide) (by decide)) (@pa_nil _) (by rfl)) (by decide) (by decide) (by rfl) (by rfl)) (@pe_int _ _ _ _) (nomark _)) (@pw_or1 _ _ _ _ (@pt_not _ _ _ _ (@pt_valD _ _ _ (@pe_call _ _ _ _ _ _ _ _ _ _ _ _ _ _ _ _ (ok_Lint T) (hr.mono (by decide)) (by rfl) T.Lint.m T.Lint.F.kp T.Lint.b .nil pass0 (@pa_cons _ _ _ _ _ (@pe_ix _ _ _ _ _ _ _ ix_tupD (@pvD _ 0 _ _ (by rfl) (by first | exact Or.inl rfl | exact Or.inr (Or.inl rfl)) (by decide) (by decide)) (@pe_int _ _ _ _) (fun _ _ => rfl)) (@pa_nil _) (by rfl)) (by decide) (by rfl) (by rfl)) (by intro _; rfl))))))) (@pss_one _ _ _ (@ps_ret _ _ _ _ (@pe_bl _ _ _ _))) (@pss_nil _)) (@pss_one _ _ _ (@ps_ret _ _ _ _ (@pe_chain _ _ _ _ _ _ _ _ _ _ _ _ op_leD op_leD (@pe_un _ _ _ _ _ _ un_negD (@pe_int _ _ _ _)) (@pe_ix _ _ _ _ _ _ _ ix_tupD (@pvD _ 0 _ _ (by rfl) (by first | exact Or.inl rfl | exact Or.inr (Or.inl rfl)) (by decide) (by decide)) (@pe_int _ _ _ _) (fun _ _ => rfl)) (@pe_int _ _ _ _) (by with_unfolding_all rfl))))))), ?_⟩
    rcases ok with rfl | rfl | ⟨i, hi, hd⟩
    · obtain ⟨p, y, rfl, hS, hy⟩ := one_iff.mp rx
      rw [str_iff] at hy
      subst hy
      walk_at "rd"
      refine ⟨rfl, ⟨_, rfl⟩, _, .inr ⟨⟨_, hS⟩, rfl⟩, _, kit_tuple_tuple, ?_⟩
      rw [if_neg (by decide)]
      refine ⟨_, .inr hS, ?_⟩
      rw [if_neg (by simp)]
      refine ⟨_, hS, _, rfl, rfl, ⟨_, rfl⟩, _, .inl (.str _), _, kit_str_str, ?_⟩
      rw [if_neg (by decide)]
      refine ⟨_, hS, _, rfl, fun v1 H1 s1 r1 => ?_⟩
      obtain ⟨p1, x1, x2, rfl, h1, e1, e2⟩ := pair_iff.mp r1
      rw [str_iff] at e1 e2
      subst e1 e2
      walk_at "rd"
      refine ⟨_, .inr h1, rfl, rfl, ?_⟩
      rw [if_pos (by decide)]
      refine ⟨_, .inr (s1.tup hS), ?_⟩
      exact q _ s1
    · obtain ⟨p, y, rfl, hS, hy⟩ := one_iff.mp rx
      rw [str_iff] at hy
      subst hy
      walk_at "rd"
      refine ⟨rfl, ⟨_, rfl⟩, _, .inr ⟨⟨_, hS⟩, rfl⟩, _, kit_tuple_tuple, ?_⟩
      rw [if_neg (by decide)]
      refine ⟨_, .inr hS, ?_⟩
      rw [if_neg (by simp)]
      refine ⟨_, hS, _, rfl, rfl, ⟨_, rfl⟩, _, .inl (.str _), _, kit_str_str, ?_⟩
      rw [if_neg (by decide)]
      refine ⟨_, hS, _, rfl, fun v1 H1 s1 r1 => ?_⟩
      obtain ⟨p1, x1, x2, rfl, h1, e1, e2⟩ := pair_iff.mp r1
      rw [str_iff] at e1 e2
      subst e1 e2
      walk_at "rd"
      refine ⟨_, .inr h1, rfl, rfl, ?_⟩
      rw [if_pos (by decide)]
      refine ⟨_, .inr (s1.tup hS), ?_⟩
      exact q _ s1
    · obtain ⟨nm, rfl, hnm⟩ : ∃ nm : Str, d = [.str nm, .int i] ∧ (nm = "go" ∨ nm = "turn" ∨ nm = "ink") := by
        rcases hd with rfl | rfl | rfl
        · exact ⟨_, rfl, .inl rfl⟩
        · exact ⟨_, rfl, .inr (.inl rfl)⟩
        · exact ⟨_, rfl, .inr (.inr rfl)⟩
      obtain ⟨p, y, z, rfl, hS, hy, hz⟩ := pair_iff.mp rx
      rw [str_iff] at hy
      rw [int_iff] at hz
      subst hy hz
      have n2 : inV (.str nm) [.str "up", .str "down"] = false := by rcases hnm with rfl | rfl | rfl <;> decide
      have n3 : inV (.str nm) [.str "go", .str "turn", .str "ink"] = true := by rcases hnm with rfl | rfl | rfl <;> decide
      clear hnm hd
      walk_at "rd"
      refine ⟨rfl, ⟨_, rfl⟩, _, .inr ⟨⟨_, hS⟩, rfl⟩, _, kit_tuple_tuple, ?_⟩
      rw [if_neg (by decide)]
      refine ⟨_, .inr hS, ?_⟩
      rw [if_neg (by simp)]
      refine ⟨_, hS, _, rfl, rfl, ⟨_, rfl⟩, _, .inl (.str _), _, kit_str_str, ?_⟩
      rw [if_neg (by decide)]
      refine ⟨_, hS, _, rfl, fun v1 H1 s1 r1 => ?_⟩
      obtain ⟨p1, x1, x2, rfl, h1, e1, e2⟩ := pair_iff.mp r1
      rw [str_iff] at e1 e2
      subst e1 e2
      walk_at "rd"
      refine ⟨_, .inr h1, rfl, rfl, ?_⟩
      rw [n2, if_neg (by decide)]
      refine ⟨_, s1.tup hS, _, rfl, fun v2 H2 s2 r2 => ?_⟩
      obtain ⟨p2, ys, rfl, h2, hl2⟩ := Rp_tup.mp r2
      have ey : ys = [.str "go", .str "turn", .str "ink"] := by
        simp only [RpL, str_iff] at hl2
        obtain ⟨_, _, rfl, rfl, _, _, rfl, rfl, _, _, rfl, rfl, rfl⟩ := hl2
        rfl
      subst ey
      have s12 := s1.trans s2
      walk_at "rd"
      refine ⟨_, .inr h2, rfl, rfl, ?_⟩
      rw [n3, if_neg (by decide)]
      refine ⟨_, .inr (s12.tup hS), ?_⟩
      rw [if_neg (by simp)]
      refine ⟨_, s12.tup hS, _, rfl, i, rfl, ?_⟩
      walk_at "rd"
      refine ⟨_, s12.tup hS, _, rfl, ?_⟩
      show (if -1000000 ≤ i then Q (V.bl (decide (i ≤ 1000000))) H2 else Q (V.bl false) H2)
      rw [if_pos hi.1, decide_eq_true hi.2]
      exact q _ s12
def dk (ns : List Int) : Prop := ∀ n ∈ ns, 0 ≤ n ∧ n < 1000
theorem dk.last {ns : List Int} (h : dk ns) : dk ns.dropLast := fun n hn => h n (List.dropLast_subset ns hn)
structure Dkf (l : Addr) (ns : List Int) (H : Hp) (ms : List Int) (H' : Hp) : Prop where
  h0 : H l = some (.lst (ns.map V.int))
  d : dk ms
  le : ms.length ≤ ns.length
  b : But [l] H H'
  h : H' l = some (.lst (ms.map V.int))
theorem Dkf.refl {l : Addr} {ns : List Int} {H : Hp} (h0 : H l = some (.lst (ns.map V.int))) (d : dk ns) : Dkf l ns H ns H := ⟨h0, d, Nat.le_refl _, But.refl _ _, h0⟩
theorem Dkf.st {l : Addr} {ns ms : List Int} {H H' : Hp} (f : Dkf l ns H ms H') : SameT H H' := fun b o e k => f.b b o e (by
  intro hb
  rw [List.mem_singleton.mp hb, f.h0] at e
  cases e
  rcases k with ⟨xs, k⟩ | ⟨o1, o2, k⟩ <;> cases k)
theorem Dkf.trans {l : Addr} {ns ms ks : List Int} {H H' H'' : Hp} (f : Dkf l ns H ms H') (g : Dkf l ms H' ks H'') : Dkf l ns H ks H'' := ⟨f.h0, g.d, Nat.le_trans g.le f.le, f.b.trans g.b, g.h⟩
theorem Dkf.same {l : Addr} {ns ms : List Int} {H H' H'' : Hp} (f : Dkf l ns H ms H') (s : Same H' H'') : Dkf l ns H ms H'' := ⟨f.h0, f.d, f.le, f.b.trans s.but, s _ _ f.h⟩
def sp_Lnext (K : PySem.W.Frag) : Sp := fun vs H Q _ => ∃ (l : Addr) (ns : List Int), vs = [.ref l] ∧ H l = some (.lst (ns.map V.int)) ∧ dk ns ∧ ∀ (z : Int) (ms : List Int) (H' : Hp), 0 ≤ z → z < 1000 → ms.length = ns.length - 1 → Dkf l ns H ms H' → Q (.int z) H'
theorem ok_Lnext (T : Txt K mg t) : FnOk P w K mg base CX0 1 t.a_Lnext t.d_Lnext ["_law_deck_here"] (sp_Lnext K) := by
  refine T.Lnext.F.ok sc_Lnext (fun vs H Q E h => ?_) (fun cdv A outer s H vs Q E hr h => ?_)
  · obtain ⟨l, ns, rfl, _⟩ := h; rfl
  · obtain ⟨l, ns, rfl, hl, hd, q⟩ := h
    refine ⟨_, (@pss_cons _ _ _ _ _ (@ps_if _ _ _ _ _ _ _ _ (@pt_cmpRD _ _ _ _ _ _ _ _ op_eqD (@pe_callB _ _ _ _ _ _ _ _ _ call_len_seqD (by rfl) T.z_len PySem.boot_len (@pa_cons _ _ _ _ _ (@pvD _ 0 _ _ (by rfl) (by first | exact Or.inl rfl | exact Or.inr (Or.inl rfl)) (by decide) (by decide)) (@pa_nil _) (by rfl)) (by decide) (by decide) (by rfl) (by rfl)) (@pe_int _ _ _ _) (nomark _)) (@pss_one _ _ _ (@ps_ret _ _ _ _ (@pe_int _ _ _ _))) (@pss_nil _)) (@pss_one _ _ _ (@ps_ret _ _ _ _ (@pe_bm0 _ _ _ _ _ _ _ _ _ PySem.F.plainAttrs_list PySem.F.slot_list_pop PySem.F.type_list_pop mt_pop (@pvD _ 0 _ _ (by rfl) (by first | exact Or.inl rfl | exact Or.inr (Or.inl rfl)) (by decide) (by decide)) (by rfl) (by rfl))))), ?_⟩
    walk_at "rd"
    refine ⟨_, .inl (SqL.of hl), ?_⟩
    by_cases h0 : ns = []
    · subst h0
      rw [if_pos (by simp)]
      exact q 0 [] H (by decide) (by decide) rfl (Dkf.refl hl hd)
    · have hpos : 0 < ns.length := List.length_pos_iff.mpr h0
      rw [if_neg (by simp [h0])]
      have hlt : ns.length - 1 < ns.length := by omega
      have hz := hd ns[ns.length - 1] (List.getElem_mem hlt)
      refine ⟨.inl ⟨_, SqL.of hl⟩, _, hl, .int ns[ns.length - 1], ?_, ?_⟩
      · rw [List.length_map, List.getElem?_map, List.getElem?_eq_getElem hlt]; rfl
      · rw [← List.map_dropLast]
        exact q _ ns.dropLast _ hz.1 hz.2 (by rw [List.length_dropLast]) ⟨hl, hd.last, by rw [List.length_dropLast]; omega, (But.refl _ _).upd (.inr (by simp)), upd_same⟩
def sp_Lsingle (K : PySem.W.Frag) : Sp := fun vs H Q _ => ∃ (l : Addr) (ns : List Int), vs = [.ref l] ∧ H l = some (.lst (ns.map V.int)) ∧ dk ns ∧ ∀ (v : V) (d : List L2.D) (ms : List Int) (H' : Hp), okOne d → Rp K H' (.tup d) v → Dkf l ns H ms H' → Q v H'
theorem ok_Lsingle (T : Txt K mg t) : FnOk P w K mg base CX0 2 t.a_Lsingle t.d_Lsingle ["_law_deck_here"] (sp_Lsingle K) := by
  refine T.Lsingle.F.ok sc_Lsingle (fun vs H Q E h => ?_) (fun cdv A outer s H vs Q E hr h => ?_)
  · obtain ⟨l, ns, rfl, _⟩ := h; rfl
  · obtain ⟨l, ns, rfl, hl, hd, q⟩ := h
    refine ⟨_, (@pss_cons _ _ _ _ _ (@ps_set _ _ (1) _ _ _ _ sc_Lsingle.nd rfl (Or.inl rfl) (@pe_op _ _ _ _ _ _ _ _ op_modD (@pe_call _ _ _ _ _ _ _ _ _ _ _ _ _ _ _ _ (ok_Lnext T) (hr.mono (by decide)) (by rfl) T.Lnext.m T.Lnext.F.kp T.Lnext.b .nil pass0 (@pa_cons _ _ _ _ _ (@pvD _ 0 _ _ (by rfl) (by first | exact Or.inl rfl | exact Or.inr (Or.inl rfl)) (by decide) (by decide)) (@pa_nil _) (by rfl)) (by decide) (by rfl) (by rfl)) (@pe_int _ _ _ _)) (by rfl) (by first | exact .inl rfl | exact .inr rfl | assumption)) (@pss_cons _ _ _ _ _ (@ps_if _ _ _ _ _ _ _ _ (@pt_cmpRD _ _ _ _ _ _ _ _ op_ltD (@pvD _ 1 _ _ (by rfl) (by first | exact Or.inl rfl | exact Or.inr (Or.inl rfl)) (by decide) (by decide)) (@pe_int _ _ _ _) (nomark _)) (@pss_one _ _ _ (@ps_ret _ _ _ _ (@pe_tup _ _ _ _ _ (@pa_cons _ _ _ _ _ (@pe_str _ _ _ _) (@pa_cons _ _ _ _ _ (@pe_ix _ _ _ _ _ _ _ ix_listD (@pe_lst _ _ _ _ (@pa_cons _ _ _ _ _ (@pe_op _ _ _ _ _ _ _ _ op_subD (@pe_op _ _ _ _ _ _ _ _ op_modD (@pe_call _ _ _ _ _ _ _ _ _ _ _ _ _ _ _ _ (ok_Lnext T) (hr.mono (by decide)) (by rfl) T.Lnext.m T.Lnext.F.kp T.Lnext.b .nil pass0 (@pa_cons _ _ _ _ _ (@pvD _ 0 _ _ (by rfl) (by first | exact Or.inl rfl | exact Or.inr (Or.inl rfl)) (by decide) (by decide)) (@pa_nil _) (by rfl)) (by decide) (by rfl) (by rfl)) (@pe_int _ _ _ _)) (@pe_int _ _ _ _)) (@pa_cons _ _ _ _ _ (@pe_op _ _ _ _ _ _ _ _ op_subD (@pe_call _ _ _ _ _ _ _ _ _ _ _ _ _ _ _ _ (ok_Lnext T) (hr.mono (by decide)) (by rfl) T.Lnext.m T.Lnext.F.kp T.Lnext.b .nil pass0 (@pa_cons _ _ _ _ _ (@pvD _ 0 _ _ (by rfl) (by first | exact Or.inl rfl | exact Or.inr (Or.inl rfl)) (by decide) (by decide)) (@pa_nil _) (by rfl)) (by decide) (by rfl) (by rfl)) (@pe_int _ _ _ _)) (@pa_nil _) (by rfl)) (by rfl))) (@pe_op _ _ _ _ _ _ _ _ op_fdivWD (@pvD _ 1 _ _ (by rfl) (by first | exact Or.inl rfl | exact Or.inr (Or.inl rfl)) (by decide) (by decide)) (@pe_int _ _ _ _)) (fun _ _ => rfl)) (@pa_nil _) (by rfl)) (by rfl))))) (@pss_nil _)) (@pss_cons _ _ _ _ _ (@ps_if _ _ _ _ _ _ _ _ (@pt_cmpRD _ _ _ _ _ _ _ _ op_ltD (@pvD _ 1 _ _ (by rfl) (by first | exact Or.inl rfl | exact Or.inr (Or.inl rfl)) (by decide) (by decide)) (@pe_int _ _ _ _) (nomark _)) (@pss_one _ _ _ (@ps_ret _ _ _ _ (@pe_tup _ _ _ _ _ (@pa_cons _ _ _ _ _ (@pe_str _ _ _ _) (@pa_cons _ _ _ _ _ (@pe_op _ _ _ _ _ _ _ _ op_subD (@pe_op _ _ _ _ _ _ _ _ op_modD (@pe_call _ _ _ _ _ _ _ _ _ _ _ _ _ _ _ _ (ok_Lnext T) (hr.mono (by decide)) (by rfl) T.Lnext.m T.Lnext.F.kp T.Lnext.b .nil pass0 (@pa_cons _ _ _ _ _ (@pvD _ 0 _ _ (by rfl) (by first | exact Or.inl rfl | exact Or.inr (Or.inl rfl)) (by decide) (by decide)) (@pa_nil _) (by rfl)) (by decide) (by rfl) (by rfl)) (@pe_int _ _ _ _)) (@pe_int _ _ _ _)) (@pa_nil _) (by rfl)) (by rfl))))) (@pss_nil _)) (@pss_cons _ _ _ _ _ (@ps_if _ _ _ _ _ _ _ _ (@pt_cmpRD _ _ _ _ _ _ _ _ op_eqD (@pvD _ 1 _ _ (by rfl) (by first | exact Or.inl rfl | exact Or.inr (Or.inl rfl)) (by decide) (by decide)) (@pe_int _ _ _ _) (nomark _)) (@pss_one _ _ _ (@ps_ret _ _ _ _ (@pe_tup _ _ _ _ _ (@pa_cons _ _ _ _ _ (@pe_str _ _ _ _) (@pa_cons _ _ _ _ _ (@pe_op _ _ _ _ _ _ _ _ op_subD (@pe_op _ _ _ _ _ _ _ _ op_modD (@pe_call _ _ _ _ _ _ _ _ _ _ _ _ _ _ _ _ (ok_Lnext T) (hr.mono (by decide)) (by rfl) T.Lnext.m T.Lnext.F.kp T.Lnext.b .nil pass0 (@pa_cons _ _ _ _ _ (@pvD _ 0 _ _ (by rfl) (by first | exact Or.inl rfl | exact Or.inr (Or.inl rfl)) (by decide) (by decide)) (@pa_nil _) (by rfl)) (by decide) (by rfl) (by rfl)) (@pe_int _ _ _ _)) (@pe_int _ _ _ _)) (@pa_nil _) (by rfl)) (by rfl))))) (@pss_nil _)) (@pss_one _ _ _ (@ps_ret _ _ _ _ (@pe_tup _ _ _ _ _ (@pa_cons _ _ _ _ _ (@pe_ix _ _ _ _ _ _ _ ix_listD (@pe_lst _ _ _ _ (@pa_cons _ _ _ _ _ (@pe_str _ _ _ _) (@pa_cons _ _ _ _ _ (@pe_str _ _ _ _) (@pa_nil _) (by rfl)) (by rfl))) (@pe_op _ _ _ _ _ _ _ _ op_modD (@pe_call _ _ _ _ _ _ _ _ _ _ _ _ _ _ _ _ (ok_Lnext T) (hr.mono (by decide)) (by rfl) T.Lnext.m T.Lnext.F.kp T.Lnext.b .nil pass0 (@pa_cons _ _ _ _ _ (@pvD _ 0 _ _ (by rfl) (by first | exact Or.inl rfl | exact Or.inr (Or.inl rfl)) (by decide) (by decide)) (@pa_nil _) (by rfl)) (by decide) (by rfl) (by rfl)) (@pe_int _ _ _ _)) (fun _ _ => rfl)) (@pa_nil _) (by rfl))))))))), ?_⟩
    have fin : ∀ (nm : Str) (i : Int) (ms : List Int) (H1 : Hp), (nm = "go" ∨ nm = "turn" ∨ nm = "ink") → -1000000 ≤ i ∧ i ≤ 1000000 → Dkf l ns H ms H1 → 2 ≤ sizeLine ∧ ∀ p, H1 p = none → Q (.ref p) (upd H1 p (.tup [.str nm, .int i])) := by
      intro nm i ms H1 hn hi f
      refine ⟨by decide, fun p hp => q _ [.str nm, .int i] ms _ ?_ (pair_iff.mpr ⟨p, _, _, rfl, SqT.of upd_same, str_iff.mpr rfl, int_iff.mpr rfl⟩) (f.same (Same.upd hp))⟩
      rcases hn with rfl | rfl | rfl
      · exact .inr (.inr ⟨i, hi, .inl rfl⟩)
      · exact .inr (.inr ⟨i, hi, .inr (.inl rfl)⟩)
      · exact .inr (.inr ⟨i, hi, .inr (.inr rfl)⟩)
    walk_at "rd"
    refine ⟨l, ns, rfl, hl, hd, fun z1 m1 H1 z10 z11 l1 f1 => ?_⟩
    walk_at "rd"
    refine ⟨by decide, ?_⟩
    split
    · rename_i hw
      refine ⟨l, m1, rfl, f1.h, f1.d, fun z2 m2 H2 z20 z21 l2 f2 => ?_⟩
      dsimp only
      refine ⟨by decide, l, m2, rfl, f2.h, f2.d, fun z3 m3 H3 z30 z31 l3 f3 => ?_⟩
      dsimp only
      refine ⟨by decide, fun p hp => ⟨by decide, by decide, _, SqL.of upd_same, ?_⟩⟩
      have e : z1 % 9 / 3 = 0 ∨ z1 % 9 / 3 = 1 := by omega
      have ff := ((f1.trans f2).trans f3).same (Same.upd (o := .lst [.int (z2 % 19 - 9), .int (z3 - 500)]) hp)
      rcases e with e | e <;> rw [e]
      · exact ⟨_, rfl, fin "go" _ _ _ (.inl rfl) ⟨by omega, by omega⟩ ff⟩
      · exact ⟨_, rfl, fin "go" _ _ _ (.inl rfl) ⟨by omega, by omega⟩ ff⟩
    · split
      · refine ⟨l, m1, rfl, f1.h, f1.d, fun z2 m2 H2 z20 z21 l2 f2 => ?_⟩
        dsimp only
        exact ⟨by decide, fin "turn" _ _ _ (.inr (.inl rfl)) ⟨by omega, by omega⟩ (f1.trans f2)⟩
      · split
        · refine ⟨l, m1, rfl, f1.h, f1.d, fun z2 m2 H2 z20 z21 l2 f2 => ?_⟩
          dsimp only
          exact ⟨by decide, fin "ink" _ _ _ (.inr (.inr rfl)) ⟨by omega, by omega⟩ (f1.trans f2)⟩
        · refine ⟨by decide, fun p hp => ?_⟩
          have u1 := Same.upd (o := .lst [.str "up", .str "down"]) hp
          have f1' := f1.same u1
          refine ⟨l, m1, rfl, f1'.h, f1'.d, fun z2 m2 H2 z20 z21 l2 f2 => ?_⟩
          dsimp only
          have np : p ≠ l := by rintro rfl; rw [f1.h] at hp; cases hp
          have hp2 := f2.b p _ upd_same (by simp [np])
          refine ⟨by decide, _, SqL.of hp2, ?_⟩
          have e : z2 % 2 = 0 ∨ z2 % 2 = 1 := by omega
          have ff := f1'.trans f2
          rcases e with e | e <;> rw [e]
          · exact ⟨_, rfl, by decide, fun p2 hp2 => q _ [.str "up"] _ _ (.inl rfl) (one_iff.mpr ⟨p2, _, rfl, SqT.of upd_same, str_iff.mpr rfl⟩) (ff.same (Same.upd hp2))⟩
          · exact ⟨_, rfl, by decide, fun p2 hp2 => q _ [.str "down"] _ _ (.inr (.inl rfl)) (one_iff.mpr ⟨p2, _, rfl, SqT.of upd_same, str_iff.mpr rfl⟩) (ff.same (Same.upd hp2))⟩
end
section
variable {P : Program} {w : World} {K : PySem.W.Frag} {mg : Str → Option Value} {base : Heap} {t : Adr}

theorem atI0 {x : V} {ys : List V} : atI (x :: ys) 0 = some x := atI_nat (j := 0) rfl
theorem tr_at {H : Hp} : ∀ {b : List Tr} {xs : List V} {i : Nat} {x : V}, RpL K H (enL b) xs → xs[i]? = some x → ∃ u, b[i]? = some u ∧ Rp K H (enS u) x
  | [], xs, i, x, h, e => by rw [enL, RpL] at h; subst h; simp at e
  | u :: b, xs, i, x, h, e => by
    rw [enL, RpL] at h
    obtain ⟨v, r, rfl, h1, h2⟩ := h
    cases i with
    | zero => simp at e; subst e; exact ⟨u, rfl, h1⟩
    | succ i => simpa using tr_at h2 (by simpa using e)
theorem gdL_at : ∀ {b : List Tr} {i : Nat} {u : Tr}, gdL b → b[i]? = some u → gdS u
  | [], i, u, h, e => by simp at e
  | v :: b, i, u, h, e => by
    rw [gdL] at h
    cases i with
    | zero => simp at e; subst e; exact h.1
    | succ i => exact gdL_at h.2 (by simpa using e)
theorem dpL_at : ∀ {b : List Tr} {i : Nat} {u : Tr}, b[i]? = some u → dpS u ≤ dpL b
  | [], i, u, e => by simp at e
  | v :: b, i, u, e => by
    rw [dpL]
    cases i with
    | zero => simp at e; subst e; omega
    | succ i => have := dpL_at (b := b) (i := i) (u := u) (by simpa using e); omega
theorem three_iff {H : Hp} {a b c : L2.D} {v : V} : Rp K H (.tup [a, b, c]) v ↔ ∃ p x y z, v = .ref p ∧ SqT K H p [x, y, z] ∧ Rp K H a x ∧ Rp K H b y ∧ Rp K H c z := by
  rw [Rp_tup]
  constructor
  · rintro ⟨p, xs, rfl, h, hl⟩
    simp only [RpL] at hl
    obtain ⟨x, _, rfl, hx, y, _, rfl, hy, z, _, rfl, hz, rfl⟩ := hl
    exact ⟨p, x, y, z, rfl, h, hx, hy, hz⟩
  · rintro ⟨p, x, y, z, rfl, h, hx, hy, hz⟩
    exact ⟨p, _, rfl, h, by simp only [RpL]; exact ⟨_, _, rfl, hx, _, _, rfl, hy, _, _, rfl, hz, rfl⟩⟩
theorem tr_cases {H : Hp} {u : Tr} {x : V} (h : Rp K H (enS u) x) (g : gdS u) : (∃ p s ys d, u = .one d ∧ okOne d ∧ x = .ref p ∧ SqT K H p (.str s :: ys) ∧ s ≠ "again" ∧ ys.length ≤ 1) ∨ ∃ p n b v, u = .rep n b ∧ x = .ref p ∧ SqT K H p [.str "again", .int (n : Int), v] ∧ Rp K H (.tup (enL b)) v ∧ 2 ≤ n ∧ n ≤ 60 ∧ gdL b := by
  cases u with
  | one d =>
    rw [gdS] at g
    rw [enS] at h
    obtain ⟨s, r, rfl, hs⟩ := g.tup
    obtain ⟨p, xs, rfl, hp, hl⟩ := Rp_tup.mp h
    rw [RpL] at hl
    obtain ⟨v, ys, rfl, hv, hr⟩ := hl
    rw [str_iff] at hv
    subst hv
    have : r.length ≤ 1 := by
      rcases g with e | e | ⟨i, _, e | e | e⟩ <;> (cases e; simp)
    exact .inl ⟨p, s, ys, _, rfl, g, rfl, hp, hs, by rw [hr.length]; exact this⟩
  | rep n b =>
    rw [gdS] at g
    rw [enS] at h
    obtain ⟨p, x, y, z, rfl, hp, hx, hy, hz⟩ := three_iff.mp h
    rw [str_iff] at hx
    rw [int_iff] at hy
    subst hx hy
    exact .inr ⟨p, n, b, z, rfl, rfl, hp, hz, g⟩
def inS : Tr → Nat
  | .one _ => 0
  | .rep _ b => szL b
def inL : List Tr → Nat
  | [] => 0
  | u :: us => inS u + inL us
theorem szS_in (u : Tr) : szS u = 1 + inS u := by cases u <;> simp [szS, inS]
theorem szL_in : ∀ b : List Tr, szL b = b.length + inL b
  | [] => by simp [szL, inL]
  | u :: us => by rw [szL, inL, szS_in, szL_in us, List.length_cons]; omega
theorem inL_app : ∀ a b : List Tr, inL (a ++ b) = inL a + inL b
  | [], b => by simp [inL]
  | u :: us, b => by rw [List.cons_append, inL, inL, inL_app us b]; omega
theorem take_snoc {b : List Tr} {i : Nat} {u : Tr} (h : b[i]? = some u) : b.take (i + 1) = b.take i ++ [u] := by rw [List.take_succ, h]; rfl
def sp_Lsz (K : PySem.W.Frag) (n : Nat) : Sp := fun vs H Q _ => ∃ (x : V) (b : List Tr), vs = [x] ∧ dpL b < n ∧ gdL b ∧ Rp K H (.tup (enL b)) x ∧ Q (.int (szL b)) H
def Iv_sz (x : V) (b : List Tr) (H : Hp) (i : Nat) (σ : L2.St) (H2 : Hp) : Prop := ∃ o : Option V, σ = [some x, some (.int ((b.length + inL (b.take i) : Nat) : Int)), o] ∧ H2 = H
theorem ok_szS (T : Txt K mg t) (n : Nat) (ih : FnOk P w K mg base CX0 n t.a_Lsize t.d_Lsize ["_law_body"] (sp_Lsz K n)) : FnOk P w K mg base CX0 (n + 1) t.a_Lsize t.d_Lsize ["_law_body"] (sp_Lsz K (n + 1)) := by
  refine T.Lsize.F.ok sc_Lsize (fun vs H Q E h => ?_) (fun cdv A outer s H vs Q E hr h => ?_)
  · obtain ⟨x, b, rfl, _⟩ := h; rfl
  · obtain ⟨x, b, rfl, hd, hg, rx, q⟩ := h
    obtain ⟨p, xs, rfl, hp, hl⟩ := Rp_tup.mp rx
    have xl : xs.length = b.length := by rw [hl.length, enL_length]
    refine ⟨_, (@pss_cons _ _ _ _ _ (@ps_set _ _ (1) _ _ _ _ sc_Lsize.nd rfl (Or.inl rfl) (@pe_callB _ _ _ _ _ _ _ _ _ call_len_seqD (by rfl) T.z_len PySem.boot_len (@pa_cons _ _ _ _ _ (@pvD _ 0 _ _ (by rfl) (by first | exact Or.inl rfl | exact Or.inr (Or.inl rfl)) (by decide) (by decide)) (@pa_nil _) (by rfl)) (by decide) (by decide) (by rfl) (by rfl)) (by rfl) (by first | exact .inl rfl | exact .inr rfl | assumption)) (@pss_cons _ _ _ _ _ (@ps_for _ _ _ _ _ _ _ _ PassesOwn.never rfl (@pi_tupD _ _ _ _ (@pvD _ 0 _ _ (by rfl) (by first | exact Or.inl rfl | exact Or.inr (Or.inl rfl)) (by decide) (by decide))) (@pg_name _ _ (2) _ sc_Lsize.nd rfl (Or.inl rfl) (by first | exact .inl rfl | exact .inr rfl | assumption)) (@pss_one _ _ _ (@ps_if _ _ _ _ _ _ _ _ (@pt_cmpRD _ _ _ _ _ _ _ _ op_eqD (@pe_ix _ _ _ _ _ _ _ ix_tupD (@pvD _ 2 _ _ (by rfl) (by first | exact Or.inl rfl | exact Or.inr (Or.inl rfl)) (by decide) (by decide)) (@pe_int _ _ _ _) (fun _ _ => rfl)) (@pe_str _ _ _ _) (nomark _)) (@pss_one _ _ _ (@ps_set _ _ (1) _ _ _ _ sc_Lsize.nd rfl (Or.inl rfl) (@pe_op _ _ _ _ _ _ _ _ op_addD (@pvD _ 1 _ _ (by rfl) (by first | exact Or.inl rfl | exact Or.inr (Or.inl rfl)) (by decide) (by decide)) (@pe_call _ _ _ _ _ _ _ _ _ _ _ _ _ _ _ _ ih hr (by rfl) T.Lsize.m T.Lsize.F.kp T.Lsize.b .nil pass0 (@pa_cons _ _ _ _ _ (@pe_ix _ _ _ _ _ _ _ ix_tupD (@pvD _ 2 _ _ (by rfl) (by first | exact Or.inl rfl | exact Or.inr (Or.inl rfl)) (by decide) (by decide)) (@pe_int _ _ _ _) (fun _ _ => rfl)) (@pa_nil _) (by rfl)) (by decide) (by rfl) (by rfl))) (by rfl) (by first | exact .inl rfl | exact .inr rfl | assumption))) (@pss_nil _))) (by intro _; rfl)) (@pss_one _ _ _ (@ps_ret _ _ _ _ (@pvD _ 1 _ _ (by rfl) (by first | exact Or.inl rfl | exact Or.inr (Or.inl rfl)) (by decide) (by decide)))))), ?_⟩
    walk_at "rd"
    refine ⟨_, .inr hp, ⟨_, hp⟩, ?_⟩
    refine FW_tup (xs := xs) (Iv_sz (.ref p) b H) ⟨none, by rw [xl]; simp [inL], rfl⟩ (fun i σ H2 _ h => by obtain ⟨_, _, rfl⟩ := h; exact hp) ?_ ?_
    · rintro i y σ H2 hi ⟨o, rfl, rfl⟩
      obtain ⟨u, gu, ru⟩ := tr_at hl hi
      have e := take_snoc gu
      rcases tr_cases ru (gdL_at hg gu) with ⟨p1, s1, ys, d, rfl, _, rfl, h1, ns, _⟩ | ⟨p1, m, bb, v, rfl, rfl, h1, rv, _, _, gb⟩
      · walk_at "rd"
        refine ⟨_, h1, _, atI0, ?_⟩
        walk_at "rd"
        rw [if_neg ns]
        exact ⟨some (.ref p1), by rw [e, inL_app]; simp [inL, inS], rfl⟩
      · have := dpL_at gu
        rw [dpS] at this
        walk_at "rd"
        refine ⟨_, h1, _, rfl, ?_⟩
        walk_at "rd"
        refine ⟨_, h1, _, rfl, _, bb, rfl, by omega, gb, rv, ?_⟩
        walk_at "rd"
        refine ⟨some (.ref p1), ?_, rfl⟩
        rw [e, inL_app]
        simp [inL, inS]
        omega
    · rintro σ H2 ⟨o, rfl, rfl⟩
      walk_at "rd"
      rw [xl, List.take_length, ← szL_in]
      exact q
theorem ok_szN (T : Txt K mg t) : ∀ n, FnOk P w K mg base CX0 n t.a_Lsize t.d_Lsize ["_law_body"] (sp_Lsz K n)
  | 0 => ⟨fun vs H Q E ⟨_, _, _, h, _⟩ => absurd h (Nat.not_lt_zero _), fun A outer s H args us vs Q E _ _ _ _ ⟨_, _, _, h, _⟩ => absurd h (Nat.not_lt_zero _)⟩
  | n + 1 => ok_szS T n (ok_szN T n)
theorem ok_Lsize (T : Txt K mg t) : FnOk P w K mg base CX0 7 t.a_Lsize t.d_Lsize ["_law_body"] (sp_Lsz K 7) := ok_szN T 7

def sp_Lpt (K : PySem.W.Frag) (n : Nat) : Sp := fun vs H Q _ => ∃ (x : V) (b : List Tr), vs = [x, .int 60] ∧ dpL b < n ∧ gdL b ∧ (exL b).length ≤ 60 ∧ Rp K H (.tup (enL b)) x ∧ ∀ v H', Same H H' → Rp K H' (.tup ((exL b).map D.tup)) v → Q v H'
def Iv_pt (K : PySem.W.Frag) (x : V) (b : List Tr) (H : Hp) (i : Nat) (σ : L2.St) (H2 : Hp) : Prop := ∃ (v : V) (o1 o2 : Option V), σ = [some x, some (.int 60), some v, o1, o2] ∧ Same H H2 ∧ Rp K H2 (.tup ((exL (b.take i)).map D.tup)) v
theorem ok_ptS (T : Txt K mg t) (n : Nat) (ih : FnOk P w K mg base CX0 n t.a_Lput t.d_Lput ["_law_body", "_law_most"] (sp_Lpt K n)) : FnOk P w K mg base CX0 (n + 1) t.a_Lput t.d_Lput ["_law_body", "_law_most"] (sp_Lpt K (n + 1)) := by
  refine T.Lput.F.ok sc_Lput (fun vs H Q E h => ?_) (fun cdv A outer s H vs Q E hr h => ?_)
  · obtain ⟨x, b, rfl, _⟩ := h; rfl
  · obtain ⟨x, b, rfl, hd, hg, hx60, rx, q⟩ := h
    obtain ⟨p, xs, rfl, hp, hl⟩ := Rp_tup.mp rx
    have xl : xs.length = b.length := by rw [hl.length, enL_length]
    refine ⟨_, (@pss_cons _ _ _ _ _ (@ps_set _ _ (2) _ _ _ _ sc_Lput.nd rfl (Or.inl rfl) (@pl_tup _ _ _ _ _ (@pls_nil _) (by decide)) (by rfl) (by first | exact .inl rfl | exact .inr rfl | assumption)) (@pss_cons _ _ _ _ _ (@ps_for _ _ _ _ _ _ _ _ PassesOwn.never rfl (@pi_tupD _ _ _ _ (@pvD _ 0 _ _ (by rfl) (by first | exact Or.inl rfl | exact Or.inr (Or.inl rfl)) (by decide) (by decide))) (@pg_name _ _ (3) _ sc_Lput.nd rfl (Or.inl rfl) (by first | exact .inl rfl | exact .inr rfl | assumption)) (@pss_cons _ _ _ _ _ (@ps_if _ _ _ _ _ _ _ _ (@pt_cmpRD _ _ _ _ _ _ _ _ op_eqD (@pe_ix _ _ _ _ _ _ _ ix_tupD (@pvD _ 3 _ _ (by rfl) (by first | exact Or.inl rfl | exact Or.inr (Or.inl rfl)) (by decide) (by decide)) (@pe_int _ _ _ _) (fun _ _ => rfl)) (@pe_str _ _ _ _) (nomark _)) (@pss_cons _ _ _ _ _ (@ps_set _ _ (4) _ _ _ _ sc_Lput.nd rfl (Or.inl rfl) (@pe_call _ _ _ _ _ _ _ _ _ _ _ _ _ _ _ _ ih hr (by rfl) T.Lput.m T.Lput.F.kp T.Lput.b .nil pass0 (@pa_cons _ _ _ _ _ (@pe_ix _ _ _ _ _ _ _ ix_tupD (@pvD _ 3 _ _ (by rfl) (by first | exact Or.inl rfl | exact Or.inr (Or.inl rfl)) (by decide) (by decide)) (@pe_int _ _ _ _) (fun _ _ => rfl)) (@pa_cons _ _ _ _ _ (@pvD _ 1 _ _ (by rfl) (by first | exact Or.inl rfl | exact Or.inr (Or.inl rfl)) (by decide) (by decide)) (@pa_nil _) (by rfl)) (by rfl)) (by decide) (by rfl) (by rfl)) (by rfl) (by first | exact .inl rfl | exact .inr rfl | assumption)) (@pss_cons _ _ _ _ _ (@ps_if _ _ _ _ _ _ _ _ (@PW.pt _ _ _ (@pw_or _ _ _ _ _ _ _ (@pt_cmpRD _ _ _ _ _ _ _ _ op_isND (@pvD _ 4 _ _ (by rfl) (by first | exact Or.inl rfl | exact Or.inr (Or.inl rfl)) (by decide) (by decide)) (@pe_non _ _ _) (nomark _)) (@pw_or1 _ _ _ _ (@pt_cmpRD _ _ _ _ _ _ _ _ op_gtD (@pe_op _ _ _ _ _ _ _ _ op_mulWD (@pe_ix _ _ _ _ _ _ _ ix_tupD (@pvD _ 3 _ _ (by rfl) (by first | exact Or.inl rfl | exact Or.inr (Or.inl rfl)) (by decide) (by decide)) (@pe_int _ _ _ _) (fun _ _ => rfl)) (@pe_callB _ _ _ _ _ _ _ _ _ call_len_seqD (by rfl) T.z_len PySem.boot_len (@pa_cons _ _ _ _ _ (@pvD _ 4 _ _ (by rfl) (by first | exact Or.inl rfl | exact Or.inr (Or.inl rfl)) (by decide) (by decide)) (@pa_nil _) (by rfl)) (by decide) (by decide) (by rfl) (by rfl))) (@pvD _ 1 _ _ (by rfl) (by first | exact Or.inl rfl | exact Or.inr (Or.inl rfl)) (by decide) (by decide)) (nomark _))))) (@pss_one _ _ _ (@ps_ret _ _ _ _ (@pe_non _ _ _))) (@pss_nil _)) (@pss_one _ _ _ (@ps_set _ _ (2) _ _ _ _ sc_Lput.nd rfl (Or.inl rfl) (@pe_op _ _ _ _ _ _ _ _ op_catDD (@pvD _ 2 _ _ (by rfl) (by first | exact Or.inl rfl | exact Or.inr (Or.inl rfl)) (by decide) (by decide)) (@pe_op _ _ _ _ _ _ _ _ op_repDD (@pvD _ 4 _ _ (by rfl) (by first | exact Or.inl rfl | exact Or.inr (Or.inl rfl)) (by decide) (by decide)) (@pe_ix _ _ _ _ _ _ _ ix_tupD (@pvD _ 3 _ _ (by rfl) (by first | exact Or.inl rfl | exact Or.inr (Or.inl rfl)) (by decide) (by decide)) (@pe_int _ _ _ _) (fun _ _ => rfl)))) (by rfl) (by first | exact .inl rfl | exact .inr rfl | assumption))))) (@pss_one _ _ _ (@ps_set _ _ (2) _ _ _ _ sc_Lput.nd rfl (Or.inl rfl) (@pe_op _ _ _ _ _ _ _ _ op_catDD (@pvD _ 2 _ _ (by rfl) (by first | exact Or.inl rfl | exact Or.inr (Or.inl rfl)) (by decide) (by decide)) (@pe_tup _ _ _ _ _ (@pa_cons _ _ _ _ _ (@pvD _ 3 _ _ (by rfl) (by first | exact Or.inl rfl | exact Or.inr (Or.inl rfl)) (by decide) (by decide)) (@pa_nil _) (by rfl)))) (by rfl) (by first | exact .inl rfl | exact .inr rfl | assumption)))) (@pss_one _ _ _ (@ps_if _ _ _ _ _ _ _ _ (@pt_cmpRD _ _ _ _ _ _ _ _ op_gtD (@pe_callB _ _ _ _ _ _ _ _ _ call_len_seqD (by rfl) T.z_len PySem.boot_len (@pa_cons _ _ _ _ _ (@pvD _ 2 _ _ (by rfl) (by first | exact Or.inl rfl | exact Or.inr (Or.inl rfl)) (by decide) (by decide)) (@pa_nil _) (by rfl)) (by decide) (by decide) (by rfl) (by rfl)) (@pvD _ 1 _ _ (by rfl) (by first | exact Or.inl rfl | exact Or.inr (Or.inl rfl)) (by decide) (by decide)) (nomark _)) (@pss_one _ _ _ (@ps_ret _ _ _ _ (@pe_non _ _ _))) (@pss_nil _)))) (by intro _; rfl)) (@pss_one _ _ _ (@ps_ret _ _ _ _ (@pvD _ 2 _ _ (by rfl) (by first | exact Or.inl rfl | exact Or.inr (Or.inl rfl)) (by decide) (by decide)))))), ?_⟩
    walk_at "rd"
    intro v0 H1 s1 r1
    walk_at "rd"
    refine ⟨⟨_, s1.tup hp⟩, ?_⟩
    refine FW_tup (xs := xs) (Iv_pt K (.ref p) b H) ⟨v0, none, none, rfl, s1, by simpa [exL] using r1⟩ (fun i σ H2 _ h => by obtain ⟨_, _, _, _, s2, _⟩ := h; exact s2.tup hp) ?_ ?_
    · rintro i y σ H2 hi ⟨v, o1, o2, rfl, s2, rv⟩
      obtain ⟨u, gu, ru⟩ := tr_at hl hi
      have e := take_snoc gu
      have ele : (exL (b.take (i + 1))).length ≤ 60 := by
        have a1 := List.take_append_drop (i + 1) b
        have a2 := exL_app (b.take (i + 1)) (b.drop (i + 1))
        rw [a1] at a2
        rw [a2, List.length_append] at hx60
        omega
      rw [e, exL_app, exL_one, List.length_append] at ele
      rcases tr_cases (ru.same s2) (gdL_at hg gu) with ⟨p1, s1', ys, d, rfl, _, rfl, h1, ns, _⟩ | ⟨p1, m, bb, vb, rfl, rfl, h1, rb, m2, m60, gb⟩
      · walk_at "rd"
        refine ⟨_, h1, _, atI0, ?_⟩
        walk_at "rd"
        rw [if_neg ns]
        refine ⟨by decide, fun pp hpp => ?_⟩
        have u1 := Same.upd (o := .tup [.ref p1]) hpp
        refine ⟨_, rv.same u1, [.tup d], one_iff.mpr ⟨pp, _, rfl, SqT.of upd_same, ((ru.same s2).same u1)⟩, ?_, fun v' H3 s3 r3 => ?_⟩
        · rw [List.length_map]; exact Nat.le_of_lt (small1000 (by simp [exS] at ele; simp; omega))
        have e2 : (exL (b.take i)).map D.tup ++ [.tup d] = (exL (b.take (i + 1))).map D.tup := by rw [e, exL_app, exL_one, exS, List.map_append]; rfl
        rw [e2] at r3
        obtain ⟨pa, zs, rfl, ha, la⟩ := Rp_tup.mp r3
        dsimp only
        refine ⟨_, .inr ha, ?_⟩
        rw [if_neg (by rw [la.length, List.length_map, e, exL_app, exL_one, List.length_append]; omega)]
        exact ⟨_, _, _, rfl, (s2.trans u1).trans s3, r3⟩
      · have dl := dpL_at gu
        rw [dpS] at dl
        rw [exS, flat_len] at ele
        have hm : (exL bb).length ≤ m * (exL bb).length := Nat.le_mul_of_pos_left _ (by omega)
        walk_at "rd"
        refine ⟨_, h1, _, rfl, ?_⟩
        walk_at "rd"
        refine ⟨_, h1, _, rfl, _, bb, rfl, by omega, gb, by omega, rb, fun v1 H3 s3 r3 => ?_⟩
        obtain ⟨pi, zi, rfl, hi3, li⟩ := Rp_tup.mp r3
        have zl : zi.length = (exL bb).length := by rw [li.length, List.length_map]
        walk_at "rd"
        refine ⟨_, s3.tup h1, _, rfl, _, .inr hi3, ?_⟩
        walk_at "rd"
        rw [zl]
        refine ⟨mulOk_l (by omega) (by omega), ?_⟩
        rw [if_neg (by rw [← Int.natCast_mul]; omega)]
        refine ⟨_, s3.tup h1, _, rfl, ?_⟩
        walk_at "rd"
        refine ⟨_, r3, by omega, by omega, ?_, fun v2 H4 s4 r4 => ?_⟩
        · rw [List.length_map, Int.toNat_natCast, Nat.mul_comm]; exact Nat.le_of_lt (small1000 (by omega))
        rw [Int.toNat_natCast] at r4
        have s34 := s3.trans s4
        refine ⟨_, rv.same s34, _, r4, ?_, fun v3 H5 s5 r5 => ?_⟩
        · rw [List.length_map, flat_len, List.length_map]; exact Nat.le_of_lt (small1000 (by omega))
        have e2 : (exL (b.take i)).map D.tup ++ (List.replicate m ((exL bb).map D.tup)).flatten = (exL (b.take (i + 1))).map D.tup := by
          rw [e, exL_app, exL_one, exS, List.map_append, List.map_flatten, List.map_replicate]
        rw [e2] at r5
        obtain ⟨pa, zs, rfl, ha, la⟩ := Rp_tup.mp r5
        dsimp only
        refine ⟨_, .inr ha, ?_⟩
        rw [if_neg (by rw [la.length, List.length_map, e, exL_app, exL_one, List.length_append, exS, flat_len]; omega)]
        exact ⟨_, _, _, rfl, (s2.trans s34).trans s5, r5⟩
    · rintro σ H2 ⟨v, o1, o2, rfl, s2, rv⟩
      walk_at "rd"
      rw [xl, List.take_length] at rv
      exact q _ _ s2 rv
theorem ok_ptN (T : Txt K mg t) : ∀ n, FnOk P w K mg base CX0 n t.a_Lput t.d_Lput ["_law_body", "_law_most"] (sp_Lpt K n)
  | 0 => ⟨fun vs H Q E ⟨_, _, _, h, _⟩ => absurd h (Nat.not_lt_zero _), fun A outer s H args us vs Q E _ _ _ _ ⟨_, _, _, h, _⟩ => absurd h (Nat.not_lt_zero _)⟩
  | n + 1 => ok_ptS T n (ok_ptN T n)
theorem ok_Lput (T : Txt K mg t) : FnOk P w K mg base CX0 7 t.a_Lput t.d_Lput ["_law_body", "_law_most"] (sp_Lpt K 7) := ok_ptN T 7
def sp_Lib (K : PySem.W.Frag) (n : Nat) : Sp := fun vs H Q _ => ∃ (x : V) (b : List Tr) (k : Int), vs = [x, .int k] ∧ dpL b < n ∧ 0 ≤ k ∧ k + dpL b ≤ 6 ∧ gdL b ∧ Rp K H (.tup (enL b)) x ∧ ∀ H', Same H H' → Q (.bl true) H'
def Iv_ib (x : V) (k : Int) (H : Hp) (i : Nat) (σ : L2.St) (H2 : Hp) : Prop := ∃ o : Option V, σ = [some x, some (.int k), o] ∧ Same H H2
theorem ok_ibS (T : Txt K mg t) (n : Nat) (ih : FnOk P w K mg base CX0 (n + 2) t.a_Lisbody t.d_Lisbody ["_law_body", "_law_deep"] (sp_Lib K n)) : FnOk P w K mg base CX0 (n + 3) t.a_Lisbody t.d_Lisbody ["_law_body", "_law_deep"] (sp_Lib K (n + 1)) := by
  refine T.Lisbody.F.ok sc_Lisbody (fun vs H Q E h => ?_) (fun cdv A outer s H vs Q E hr h => ?_)
  · obtain ⟨x, b, k, rfl, _⟩ := h; rfl
  · obtain ⟨x, b, k, rfl, hd, k0, k6, hg, rx, q⟩ := h
    obtain ⟨p, xs, rfl, hp, hl⟩ := Rp_tup.mp rx
    have xl : xs.length = b.length := by rw [hl.length, enL_length]
    refine ⟨_, (@pss_cons _ _ _ _ _ (@ps_if _ _ _ _ _ _ _ _ (@PW.pt _ _ _ (@pw_or _ _ _ _ _ _ _ (@pt_not _ _ _ _ (@pt_valD _ _ _ (@pe_callB _ _ _ _ _ _ _ _ _ (call_isiXD (c := .type "tuple")) (by rfl) T.z_isinstance boot_isinstance (@pa_cons _ _ _ _ _ (@pvD _ 0 _ _ (by rfl) (by first | exact Or.inl rfl | exact Or.inr (Or.inl rfl)) (by decide) (by decide)) (@pa_cons _ _ _ _ _ (@pe_bltn _ _ (.ty "tuple") _ _ (by rfl) T.z_tuple boot_tuple rfl (by decide) (by decide)) (@pa_nil _) (by rfl)) (by rfl)) (by decide) (by decide) (by rfl) (by rfl)) (by intro _; rfl))) (@pw_or1 _ _ _ _ (@pt_cmpRD _ _ _ _ _ _ _ _ op_gtD (@pvD _ 1 _ _ (by rfl) (by first | exact Or.inl rfl | exact Or.inr (Or.inl rfl)) (by decide) (by decide)) (@pe_int _ _ _ _) (nomark _))))) (@pss_one _ _ _ (@ps_ret _ _ _ _ (@pe_bl _ _ _ _))) (@pss_nil _)) (@pss_cons _ _ _ _ _ (@ps_for _ _ _ _ _ _ _ _ PassesOwn.never rfl (@pi_tupD _ _ _ _ (@pvD _ 0 _ _ (by rfl) (by first | exact Or.inl rfl | exact Or.inr (Or.inl rfl)) (by decide) (by decide))) (@pg_name _ _ (2) _ sc_Lisbody.nd rfl (Or.inl rfl) (by first | exact .inl rfl | exact .inr rfl | assumption)) (@pss_one _ _ _ (@ps_if _ _ _ _ _ _ _ _ (@PW.pt _ _ _ (@pw_and _ _ _ _ _ _ _ (@pt_valD _ _ _ (@pe_callB _ _ _ _ _ _ _ _ _ (call_isiXD (c := .type "tuple")) (by rfl) T.z_isinstance boot_isinstance (@pa_cons _ _ _ _ _ (@pvD _ 2 _ _ (by rfl) (by first | exact Or.inl rfl | exact Or.inr (Or.inl rfl)) (by decide) (by decide)) (@pa_cons _ _ _ _ _ (@pe_bltn _ _ (.ty "tuple") _ _ (by rfl) T.z_tuple boot_tuple rfl (by decide) (by decide)) (@pa_nil _) (by rfl)) (by rfl)) (by decide) (by decide) (by rfl) (by rfl)) (by intro _; rfl)) (@pw_and _ _ _ _ _ _ _ (@pt_cmpRD _ _ _ _ _ _ _ _ op_eqD (@pe_callB _ _ _ _ _ _ _ _ _ call_len_seqD (by rfl) T.z_len PySem.boot_len (@pa_cons _ _ _ _ _ (@pvD _ 2 _ _ (by rfl) (by first | exact Or.inl rfl | exact Or.inr (Or.inl rfl)) (by decide) (by decide)) (@pa_nil _) (by rfl)) (by decide) (by decide) (by rfl) (by rfl)) (@pe_int _ _ _ _) (nomark _)) (@pw_and1 _ _ _ _ (@pt_cmpRD _ _ _ _ _ _ _ _ op_eqD (@pe_ix _ _ _ _ _ _ _ ix_tupD (@pvD _ 2 _ _ (by rfl) (by first | exact Or.inl rfl | exact Or.inr (Or.inl rfl)) (by decide) (by decide)) (@pe_int _ _ _ _) (fun _ _ => rfl)) (@pe_str _ _ _ _) (nomark _)))))) (@pss_cons _ _ _ _ _ (@ps_if _ _ _ _ _ _ _ _ (@PW.pt _ _ _ (@pw_or _ _ _ _ _ _ _ (@pt_not _ _ _ _ (@pt_valD _ _ _ (@pe_call _ _ _ _ _ _ _ _ _ _ _ _ _ _ _ _ (ok_Lint T) (hr.mono (by omega)) (by rfl) T.Lint.m T.Lint.F.kp T.Lint.b .nil pass0 (@pa_cons _ _ _ _ _ (@pe_ix _ _ _ _ _ _ _ ix_tupD (@pvD _ 2 _ _ (by rfl) (by first | exact Or.inl rfl | exact Or.inr (Or.inl rfl)) (by decide) (by decide)) (@pe_int _ _ _ _) (fun _ _ => rfl)) (@pa_nil _) (by rfl)) (by decide) (by rfl) (by rfl)) (by intro _; rfl))) (@pw_or1 _ _ _ _ (@pt_not _ _ _ _ (@pt_chain _ _ _ _ _ _ _ _ _ _ _ _ op_leD op_leD (@pe_un _ _ _ _ _ _ un_negD (@pe_int _ _ _ _)) (@pe_ix _ _ _ _ _ _ _ ix_tupD (@pvD _ 2 _ _ (by rfl) (by first | exact Or.inl rfl | exact Or.inr (Or.inl rfl)) (by decide) (by decide)) (@pe_int _ _ _ _) (fun _ _ => rfl)) (@pe_int _ _ _ _) (by with_unfolding_all rfl)))))) (@pss_one _ _ _ (@ps_ret _ _ _ _ (@pe_bl _ _ _ _))) (@pss_nil _)) (@pss_one _ _ _ (@ps_if _ _ _ _ _ _ _ _ (@pt_not _ _ _ _ (@pt_valD _ _ _ (@pe_call _ _ _ _ _ _ _ _ _ _ _ _ _ _ _ _ ih hr (by rfl) T.Lisbody.m T.Lisbody.F.kp T.Lisbody.b .nil pass0 (@pa_cons _ _ _ _ _ (@pe_ix _ _ _ _ _ _ _ ix_tupD (@pvD _ 2 _ _ (by rfl) (by first | exact Or.inl rfl | exact Or.inr (Or.inl rfl)) (by decide) (by decide)) (@pe_int _ _ _ _) (fun _ _ => rfl)) (@pa_cons _ _ _ _ _ (@pe_op _ _ _ _ _ _ _ _ op_addD (@pvD _ 1 _ _ (by rfl) (by first | exact Or.inl rfl | exact Or.inr (Or.inl rfl)) (by decide) (by decide)) (@pe_int _ _ _ _)) (@pa_nil _) (by rfl)) (by rfl)) (by decide) (by rfl) (by rfl)) (by intro _; rfl))) (@pss_one _ _ _ (@ps_ret _ _ _ _ (@pe_bl _ _ _ _))) (@pss_nil _)))) (@pss_one _ _ _ (@ps_if _ _ _ _ _ _ _ _ (@pt_not _ _ _ _ (@pt_valD _ _ _ (@pe_call _ _ _ _ _ _ _ _ _ _ _ _ _ _ _ _ (ok_Lissingle T) (hr.mono (by omega)) (by rfl) T.Lissingle.m T.Lissingle.F.kp T.Lissingle.b .nil pass0 (@pa_cons _ _ _ _ _ (@pvD _ 2 _ _ (by rfl) (by first | exact Or.inl rfl | exact Or.inr (Or.inl rfl)) (by decide) (by decide)) (@pa_nil _) (by rfl)) (by decide) (by rfl) (by rfl)) (by intro _; rfl))) (@pss_one _ _ _ (@ps_ret _ _ _ _ (@pe_bl _ _ _ _))) (@pss_nil _))))) (by intro _; rfl)) (@pss_one _ _ _ (@ps_ret _ _ _ _ (@pe_bl _ _ _ _))))), ?_⟩
    walk_at "rd"
    refine ⟨rfl, ⟨_, rfl⟩, _, .inr ⟨⟨_, hp⟩, rfl⟩, _, kit_tuple_tuple, ?_⟩
    rw [if_neg (by decide), if_neg (by omega)]
    refine ⟨⟨_, hp⟩, ?_⟩
    refine FW_tup (xs := xs) (Iv_ib (.ref p) k H) ⟨none, rfl, Same.refl _⟩ (fun i σ H2 _ h => by obtain ⟨_, _, s2⟩ := h; exact s2.tup hp) ?_ ?_
    · rintro i y σ H2 hi ⟨o, rfl, s2⟩
      obtain ⟨u, gu, ru⟩ := tr_at hl hi
      rcases tr_cases (ru.same s2) (gdL_at hg gu) with ⟨p1, s1', ys, d, rfl, ok, rfl, h1, ns, yl⟩ | ⟨p1, m, bb, vb, rfl, rfl, h1, rb, m2, m60, gb⟩
      · walk_at "rd"
        refine ⟨rfl, ⟨_, rfl⟩, _, .inr ⟨⟨_, h1⟩, rfl⟩, _, kit_tuple_tuple, ?_⟩
        rw [if_pos rfl]
        refine ⟨_, .inr h1, ?_⟩
        rw [if_neg (by rw [List.length_cons]; omega)]
        refine ⟨_, d, rfl, ok, ru.same s2, fun H3 s3 => ?_⟩
        dsimp only
        rw [if_neg (by decide)]
        exact ⟨_, rfl, s2.trans s3⟩
      · have dl := dpL_at gu
        rw [dpS] at dl
        walk_at "rd"
        refine ⟨rfl, ⟨_, rfl⟩, _, .inr ⟨⟨_, h1⟩, rfl⟩, _, kit_tuple_tuple, ?_⟩
        rw [if_pos rfl]
        refine ⟨_, .inr h1, ?_⟩
        rw [if_pos (by simp)]
        refine ⟨_, h1, _, rfl, ?_⟩
        walk_at "rd"
        refine ⟨_, h1, _, rfl, _, rfl, ?_⟩
        walk_at "rd"
        refine ⟨_, h1, _, rfl, ?_⟩
        walk_at "rd"
        rw [if_pos (by omega), if_neg (by omega)]
        refine ⟨_, h1, _, rfl, _, bb, _, rfl, by omega, by omega, by omega, gb, rb, fun H3 s3 => ?_⟩
        dsimp only
        rw [if_neg (by decide)]
        exact ⟨_, rfl, s2.trans s3⟩
    · rintro σ H2 ⟨o, rfl, s2⟩
      walk_at "rd"
      exact q _ s2
theorem ok_ibN (T : Txt K mg t) : ∀ n, FnOk P w K mg base CX0 (n + 2) t.a_Lisbody t.d_Lisbody ["_law_body", "_law_deep"] (sp_Lib K n)
  | 0 => ⟨fun vs H Q E ⟨_, _, _, _, h, _⟩ => absurd h (Nat.not_lt_zero _), fun A outer s H args us vs Q E _ _ _ _ ⟨_, _, _, _, h, _⟩ => absurd h (Nat.not_lt_zero _)⟩
  | n + 1 => ok_ibS T n (ok_ibN T n)
theorem ok_Lisbody (T : Txt K mg t) : FnOk P w K mg base CX0 8 t.a_Lisbody t.d_Lisbody ["_law_body", "_law_deep"] (sp_Lib K 6) := ok_ibN T 6
def sp_Ldeck (K : PySem.W.Frag) : Sp := fun vs H Q _ => ∃ (a : Addr) (ns : List Int), vs = [.ref a, .int 0] ∧ SqL K H a (ns.map V.int) ∧ ns.length ≤ 63 ∧ ∀ (l : Addr) (ms : List Int) (H' : Hp), Same H H' → H l = none → H' l = some (.lst (ms.map V.int)) → dk ms → Q (.ref l) H'
def Iv_dk (a : Addr) (H : Hp) (i : Nat) (σ : L2.St) (H2 : Hp) : Prop := ∃ (l : Addr) (ms : List Int) (o : Option V), σ = [some (.ref a), some (.int 0), some (.ref l), o] ∧ Same H H2 ∧ H2 l = some (.lst (ms.map V.int)) ∧ dk ms ∧ ms.length = 8 * i
theorem ok_Ldeck (T : Txt K mg t) : FnOk P w K mg base CX0 3 t.a_Ldeck t.d_Ldeck ["_law_script", "_law_start"] (sp_Ldeck K) := by
  refine T.Ldeck.F.ok sc_Ldeck (fun vs H Q E h => ?_) (fun cdv A outer s H vs Q E hr h => ?_)
  · obtain ⟨a, ns, rfl, _⟩ := h; rfl
  · obtain ⟨a, ns, rfl, hS, hl, q⟩ := h
    refine ⟨_, (@pss_cons _ _ _ _ _ (@ps_set _ _ (2) _ _ _ _ sc_Ldeck.nd rfl (Or.inl rfl) (@pe_lst _ _ _ _ (@pa_nil _)) (by rfl) (by first | exact .inl rfl | exact .inr rfl | assumption)) (@pss_cons _ _ _ _ _ (@ps_for _ _ _ _ _ _ _ _ PassesOwn.never rfl (@pi_range2 _ _ _ _ _ _ _ (by rfl) T.z_range (@pa_cons _ _ _ _ _ (@pvD _ 1 _ _ (by rfl) (by first | exact Or.inl rfl | exact Or.inr (Or.inl rfl)) (by decide) (by decide)) (@pa_cons _ _ _ _ _ (@pe_callB _ _ _ _ _ _ _ _ _ (call_max2D rfl) (by rfl) T.z_max boot_max (@pa_cons _ _ _ _ _ (@pe_op _ _ _ _ _ _ _ _ op_addD (@pvD _ 1 _ _ (by rfl) (by first | exact Or.inl rfl | exact Or.inr (Or.inl rfl)) (by decide) (by decide)) (@pe_int _ _ _ _)) (@pa_cons _ _ _ _ _ (@pe_callB _ _ _ _ _ _ _ _ _ (call_min2D rfl) (by rfl) T.z_min boot_min (@pa_cons _ _ _ _ _ (@pe_int _ _ _ _) (@pa_cons _ _ _ _ _ (@pe_callB _ _ _ _ _ _ _ _ _ call_len_seqD (by rfl) T.z_len PySem.boot_len (@pa_cons _ _ _ _ _ (@pvD _ 0 _ _ (by rfl) (by first | exact Or.inl rfl | exact Or.inr (Or.inl rfl)) (by decide) (by decide)) (@pa_nil _) (by rfl)) (by decide) (by decide) (by rfl) (by rfl)) (@pa_nil _) (by rfl)) (by rfl)) (by decide) (by decide) (by rfl) (by rfl)) (@pa_nil _) (by rfl)) (by rfl)) (by decide) (by decide) (by rfl) (by rfl)) (@pa_nil _) (by rfl)) (by rfl)) (by rfl) (by rfl)) (@pg_name _ _ (3) _ sc_Ldeck.nd rfl (Or.inl rfl) (by first | exact .inl rfl | exact .inr rfl | assumption)) (@pss_one _ _ _ (@ps_set _ _ (2) _ _ _ _ sc_Ldeck.nd rfl (Or.inl rfl) (@pe_op _ _ _ _ _ _ _ _ op_catD (@pvD _ 2 _ _ (by rfl) (by first | exact Or.inl rfl | exact Or.inr (Or.inl rfl)) (by decide) (by decide)) (@pe_call _ _ _ _ _ _ _ _ _ _ _ _ _ _ _ _ (ok_Lrow T) (hr.mono (by decide)) (by rfl) T.Lrow.m T.Lrow.F.kp T.Lrow.b .nil pass0 (@pa_cons _ _ _ _ _ (@pe_call _ _ _ _ _ _ _ _ _ _ _ _ _ _ _ _ (ok_Lcell T) (hr.mono (by decide)) (by rfl) T.Lcell.m T.Lcell.F.kp T.Lcell.b .nil pass0 (@pa_cons _ _ _ _ _ (@pvD _ 0 _ _ (by rfl) (by first | exact Or.inl rfl | exact Or.inr (Or.inl rfl)) (by decide) (by decide)) (@pa_cons _ _ _ _ _ (@pvD _ 3 _ _ (by rfl) (by first | exact Or.inl rfl | exact Or.inr (Or.inl rfl)) (by decide) (by decide)) (@pa_nil _) (by rfl)) (by rfl)) (by decide) (by rfl) (by rfl)) (@pa_cons _ _ _ _ _ (@pe_int _ _ _ _) (@pa_cons _ _ _ _ _ (@pe_int _ _ _ _) (@pa_nil _) (by rfl)) (by rfl)) (by rfl)) (by decide) (by rfl) (by rfl))) (by rfl) (by first | exact .inl rfl | exact .inr rfl | assumption))) (by intro _; rfl)) (@pss_one _ _ _ (@ps_ret _ _ _ _ (@pe_listrev _ _ _ _ _ _ _ rfl (by rfl) T.z_list (by rfl) T.z_reversed (@pvD _ 2 _ _ (by rfl) (by first | exact Or.inl rfl | exact Or.inr (Or.inl rfl)) (by decide) (by decide)) (by rfl) (by rfl)))))), ?_⟩
    walk_at "rd"
    refine ⟨by decide, fun l0 hl0 => ?_⟩
    have u0 := Same.upd (o := .lst []) hl0
    walk_at "rd"
    refine ⟨_, .inl (u0.seq hS), ?_⟩
    rw [List.length_map]
    obtain ⟨m, em, m63⟩ : ∃ m : Nat, (if (if (ns.length : Int) < 63 then (ns.length : Int) else 63) > 0 + 4 then (if (ns.length : Int) < 63 then (ns.length : Int) else 63) else 0 + 4) = (m : Int) ∧ m ≤ 63 := by
      by_cases h : (ns.length : Int) < 63
      · rw [if_pos h]
        by_cases h2 : (ns.length : Int) > 0 + 4
        · rw [if_pos h2]; exact ⟨ns.length, rfl, hl⟩
        · rw [if_neg h2]; exact ⟨4, rfl, by decide⟩
      · rw [if_neg h]; exact ⟨63, rfl, by decide⟩
    rw [em]
    refine ⟨by decide, by decide, by omega, by omega, ?_⟩
    rw [show ((m : Int) - 0).toNat = m by omega]
    refine FW_range (Iv_dk a H) ⟨l0, [], none, rfl, u0, upd_same, (fun n hn => nomatch hn), rfl⟩ ?_ ?_
    · rintro i σ H2 hi ⟨l, ms, o, rfl, s2, h2, d2, ml⟩
      have ei : (0 : Int) + (i : Int) = (i : Int) := by omega
      walk_at "rd"
      rw [ei]
      refine ⟨a, ns, _, rfl, s2.seq hS, hl, by omega, by omega, fun z => ?_⟩
      walk_at "rd"
      refine ⟨_, _, _, rfl, by decide, by decide, by decide, by decide, fun lr ys H3 s3 hl3 hL hly hb => ?_⟩
      refine ⟨_, s3 _ _ h2, _, hL, ?_, fun p hp => ?_⟩
      · rw [List.length_map, List.length_map, ml, hly]; exact Nat.le_of_lt (small1000 (by show 8 * i + 8 ≤ 1000; omega))
      · refine ⟨p, ms ++ ys, _, rfl, (s2.trans s3).trans (Same.upd hp), by rw [List.map_append]; exact upd_same, fun n hn => ?_, by rw [List.length_append, ml, hly]; show 8 * i + 8 = _; omega⟩
        rcases List.mem_append.mp hn with hn | hn
        · exact d2 n hn
        · exact hb n hn
    · rintro σ H2 ⟨l, ms, o, rfl, s2, h2, d2, ml⟩
      walk_at "rd"
      refine ⟨_, SqL.of h2, fun p hp => ?_⟩
      refine q p ms.reverse _ (s2.trans (Same.upd hp)) (s2.free hp) (by rw [List.map_reverse]; exact upd_same) fun n hn => d2 n (List.mem_reverse.mp hn)
end
section
variable {P : Program} {w : World} {K : PySem.W.Frag} {mg : Str → Option Value} {base : Heap} {t : Adr}

def sp_Lab (K : PySem.W.Frag) (n : Nat) : Sp := fun vs H Q _ => ∃ (l : Addr) (ns : List Int) (room deep : Int), vs = [.ref l, .int room, .int deep] ∧ H l = some (.lst (ns.map V.int)) ∧ dk ns ∧ room ≤ 60 ∧ 0 ≤ deep ∧ 5 ≤ deep + n ∧ deep ≤ 4 ∧
  ∀ (v : V) (b : List Tr) (ms : List Int) (H' : Hp), Rp K H' (.tup (enL b)) v → gdL b → dpL b ≤ 4 - deep.toNat → ((exL b).length : Int) ≤ max room 0 → b.length ≤ 9 → (ns ≠ [] → ms.length < ns.length) → Dkf l ns H ms H' → Q v H'
def Iv_ab (K : PySem.W.Frag) (l : Addr) (room deep : Int) (m0 : List Int) (H : Hp) (i : Nat) (σ : L2.St) (H2 : Hp) : Prop := ∃ (v : V) (b : List Tr) (ms : List Int) (o1 o2 o3 o4 o5 : Option V), σ = [some (.ref l), some (.int room), some (.int deep), some v, o1, o2, o3, o4, o5] ∧
  Rp K H2 (.tup (enL b)) v ∧ gdL b ∧ dpL b ≤ 4 - deep.toNat ∧ ((exL b).length : Int) ≤ max room 0 ∧ b.length ≤ i ∧ Dkf l m0 H ms H2
theorem ok_abS (T : Txt K mg t) (n : Nat) (ih : FnOk P w K mg base CX0 (n + 7) t.a_Lagainbody t.d_Lagainbody ["_law_deck_here", "_law_room", "_law_deep"] (sp_Lab K n)) : FnOk P w K mg base CX0 (n + 8) t.a_Lagainbody t.d_Lagainbody ["_law_deck_here", "_law_room", "_law_deep"] (sp_Lab K (n + 1)) := by
  refine T.Lagainbody.F.ok sc_Lagainbody (fun vs H Q E h => ?_) (fun cdv A outer s H vs Q E hr h => ?_)
  · obtain ⟨l, ns, room, deep, rfl, _⟩ := h; rfl
  · obtain ⟨l, ns, room, deep, rfl, hl, hd, r60, d0, dn, d4, q⟩ := h
    refine ⟨_, (@pss_consH _ _ _ _ _ (@ps_set _ _ (3) _ _ _ _ sc_Lagainbody.nd rfl (Or.inl rfl) (@pl_tup _ _ _ _ _ (@pls_nil _) (by decide)) (by rfl) (by first | exact .inl rfl | exact .inr rfl | assumption)) (@pss_consH _ _ _ _ _ (@ps_for _ _ _ _ _ _ _ _ PassesOwn.never rfl (@pi_range1 _ _ _ _ _ _ (by rfl) T.z_range (@pa_cons _ _ _ _ _ (@pe_op _ _ _ _ _ _ _ _ op_addD (@pe_int _ _ _ _) (@pe_op _ _ _ _ _ _ _ _ op_modD (@pe_call _ _ _ _ _ _ _ _ _ _ _ _ _ _ _ _ (ok_Lnext T) (hr.mono (by omega)) (by rfl) T.Lnext.m T.Lnext.F.kp T.Lnext.b .nil pass0 (@pa_cons _ _ _ _ _ (@pvD _ 0 _ _ (by rfl) (by first | exact Or.inl rfl | exact Or.inr (Or.inl rfl)) (by decide) (by decide)) (@pa_nil _) (by rfl)) (by decide) (by rfl) (by rfl)) (@pe_int _ _ _ _))) (@pa_nil _) (by rfl)) (by rfl)) (@pg_name _ _ (4) _ sc_Lagainbody.nd rfl (Or.inl rfl) (by first | exact .inl rfl | exact .inr rfl | assumption)) (@pss_consH _ _ _ _ _ (@ps_set _ _ (5) _ _ _ _ sc_Lagainbody.nd rfl (Or.inl rfl) (@pe_op _ _ _ _ _ _ _ _ op_subD (@pvD _ 1 _ _ (by rfl) (by first | exact Or.inl rfl | exact Or.inr (Or.inl rfl)) (by decide) (by decide)) (@pe_callB _ _ _ _ _ _ _ _ _ call_len_seqD (by rfl) T.z_len PySem.boot_len (@pa_cons _ _ _ _ _ (@pe_call _ _ _ _ _ _ _ _ _ _ _ _ _ _ _ _ (ok_Lput T) (hr.mono (by omega)) (by rfl) T.Lput.m T.Lput.F.kp T.Lput.b .nil pass0 (@pa_cons _ _ _ _ _ (@pvD _ 3 _ _ (by rfl) (by first | exact Or.inl rfl | exact Or.inr (Or.inl rfl)) (by decide) (by decide)) (@pa_cons _ _ _ _ _ (@pe_int _ _ _ _) (@pa_nil _) (by rfl)) (by rfl)) (by decide) (by rfl) (by rfl)) (@pa_nil _) (by rfl)) (by decide) (by decide) (by rfl) (by rfl))) (by rfl) (by first | exact .inl rfl | exact .inr rfl | assumption)) (@pss_one _ _ _ (@ps_if _ _ _ _ _ _ _ _ (@PW.pt _ _ _ (@pw_and _ _ _ _ _ _ _ (@pt_cmpRD _ _ _ _ _ _ _ _ op_gtD (@pvD _ 5 _ _ (by rfl) (by first | exact Or.inl rfl | exact Or.inr (Or.inl rfl)) (by decide) (by decide)) (@pe_int _ _ _ _) (nomark _)) (@pw_and1 _ _ _ _ (@pt_cmpRD _ _ _ _ _ _ _ _ op_gtD (@pe_callB _ _ _ _ _ _ _ _ _ call_len_seqD (by rfl) T.z_len PySem.boot_len (@pa_cons _ _ _ _ _ (@pvD _ 0 _ _ (by rfl) (by first | exact Or.inl rfl | exact Or.inr (Or.inl rfl)) (by decide) (by decide)) (@pa_nil _) (by rfl)) (by decide) (by decide) (by rfl) (by rfl)) (@pe_int _ _ _ _) (nomark _))))) (@pss_consH _ _ _ _ _ (@ps_set _ _ (6) _ _ _ _ sc_Lagainbody.nd rfl (Or.inl rfl) (@pe_call _ _ _ _ _ _ _ _ _ _ _ _ _ _ _ _ (ok_Lnext T) (hr.mono (by omega)) (by rfl) T.Lnext.m T.Lnext.F.kp T.Lnext.b .nil pass0 (@pa_cons _ _ _ _ _ (@pvD _ 0 _ _ (by rfl) (by first | exact Or.inl rfl | exact Or.inr (Or.inl rfl)) (by decide) (by decide)) (@pa_nil _) (by rfl)) (by decide) (by rfl) (by rfl)) (by rfl) (by first | exact .inl rfl | exact .inr rfl | assumption)) (@pss_consH _ _ _ _ _ (@ps_set _ _ (7) _ _ _ _ sc_Lagainbody.nd rfl (Or.inl rfl) (@pe_op _ _ _ _ _ _ _ _ op_addD (@pe_int _ _ _ _) (@pe_op _ _ _ _ _ _ _ _ op_modD (@pvD _ 6 _ _ (by rfl) (by first | exact Or.inl rfl | exact Or.inr (Or.inl rfl)) (by decide) (by decide)) (@pe_ix _ _ _ _ _ _ _ ix_listD (@pe_lst _ _ _ _ (@pa_cons _ _ _ _ _ (@pe_int _ _ _ _) (@pa_cons _ _ _ _ _ (@pe_int _ _ _ _) (@pa_nil _) (by rfl)) (by rfl))) (@pe_op _ _ _ _ _ _ _ _ op_fdivWD (@pvD _ 6 _ _ (by rfl) (by first | exact Or.inl rfl | exact Or.inr (Or.inl rfl)) (by decide) (by decide)) (@pe_int _ _ _ _)) (fun _ _ => rfl)))) (by rfl) (by first | exact .inl rfl | exact .inr rfl | assumption)) (@pss_one _ _ _ (@ps_if _ _ _ _ _ _ _ _ (@PW.pt _ _ _ (@pw_and _ _ _ _ _ _ _ (@pt_cmpRD _ _ _ _ _ _ _ _ op_ltD (@pvD _ 2 _ _ (by rfl) (by first | exact Or.inl rfl | exact Or.inr (Or.inl rfl)) (by decide) (by decide)) (@pe_int _ _ _ _) (nomark _)) (@pw_and _ _ _ _ _ _ _ (@pt_cmpRD _ _ _ _ _ _ _ _ op_geD (@pvD _ 5 _ _ (by rfl) (by first | exact Or.inl rfl | exact Or.inr (Or.inl rfl)) (by decide) (by decide)) (@pe_op _ _ _ _ _ _ _ _ op_mulWD (@pe_int _ _ _ _) (@pvD _ 7 _ _ (by rfl) (by first | exact Or.inl rfl | exact Or.inr (Or.inl rfl)) (by decide) (by decide))) (nomark _)) (@pw_and1 _ _ _ _ (@pt_cmpRD _ _ _ _ _ _ _ _ op_eqD (@pe_op _ _ _ _ _ _ _ _ op_modD (@pe_call _ _ _ _ _ _ _ _ _ _ _ _ _ _ _ _ (ok_Lnext T) (hr.mono (by omega)) (by rfl) T.Lnext.m T.Lnext.F.kp T.Lnext.b .nil pass0 (@pa_cons _ _ _ _ _ (@pvD _ 0 _ _ (by rfl) (by first | exact Or.inl rfl | exact Or.inr (Or.inl rfl)) (by decide) (by decide)) (@pa_nil _) (by rfl)) (by decide) (by rfl) (by rfl)) (@pe_int _ _ _ _)) (@pe_int _ _ _ _) (nomark _)))))) (@pss_consH _ _ _ _ _ (@ps_set _ _ (8) _ _ _ _ sc_Lagainbody.nd rfl (Or.inl rfl) (@pe_call _ _ _ _ _ _ _ _ _ _ _ _ _ _ _ _ ih hr (by rfl) T.Lagainbody.m T.Lagainbody.F.kp T.Lagainbody.b .nil pass0 (@pa_cons _ _ _ _ _ (@pvD _ 0 _ _ (by rfl) (by first | exact Or.inl rfl | exact Or.inr (Or.inl rfl)) (by decide) (by decide)) (@pa_cons _ _ _ _ _ (@pe_op _ _ _ _ _ _ _ _ op_fdivWD (@pvD _ 5 _ _ (by rfl) (by first | exact Or.inl rfl | exact Or.inr (Or.inl rfl)) (by decide) (by decide)) (@pvD _ 7 _ _ (by rfl) (by first | exact Or.inl rfl | exact Or.inr (Or.inl rfl)) (by decide) (by decide))) (@pa_cons _ _ _ _ _ (@pe_op _ _ _ _ _ _ _ _ op_addD (@pvD _ 2 _ _ (by rfl) (by first | exact Or.inl rfl | exact Or.inr (Or.inl rfl)) (by decide) (by decide)) (@pe_int _ _ _ _)) (@pa_nil _) (by rfl)) (by rfl)) (by rfl)) (by decide) (by rfl) (by rfl)) (by rfl) (by first | exact .inl rfl | exact .inr rfl | assumption)) (@pss_one _ _ _ (@ps_set _ _ (3) _ _ _ _ sc_Lagainbody.nd rfl (Or.inl rfl) (@pe_op _ _ _ _ _ _ _ _ op_catDD (@pvD _ 3 _ _ (by rfl) (by first | exact Or.inl rfl | exact Or.inr (Or.inl rfl)) (by decide) (by decide)) (@pe_tup _ _ _ _ _ (@pa_consT _ _ _ _ _ _ _ (@pe_tup _ _ _ _ _ (@pa_cons _ _ _ _ _ (@pe_str _ _ _ _) (@pa_cons _ _ _ _ _ (@pvD _ 7 _ _ (by rfl) (by first | exact Or.inl rfl | exact Or.inr (Or.inl rfl)) (by decide) (by decide)) (@pa_cons _ _ _ _ _ (@pvD _ 8 _ _ (by rfl) (by first | exact Or.inl rfl | exact Or.inr (Or.inl rfl)) (by decide) (by decide)) (@pa_nil _) (by rfl)) (by rfl)) (by rfl))) (@pa_nil _)))) (by rfl) (by first | exact .inl rfl | exact .inr rfl | assumption)))) (@pss_one _ _ _ (@ps_set _ _ (3) _ _ _ _ sc_Lagainbody.nd rfl (Or.inl rfl) (@pe_op _ _ _ _ _ _ _ _ op_catDD (@pvD _ 3 _ _ (by rfl) (by first | exact Or.inl rfl | exact Or.inr (Or.inl rfl)) (by decide) (by decide)) (@pe_tup _ _ _ _ _ (@pa_cons _ _ _ _ _ (@pe_call _ _ _ _ _ _ _ _ _ _ _ _ _ _ _ _ (ok_Lsingle T) (hr.mono (by omega)) (by rfl) T.Lsingle.m T.Lsingle.F.kp T.Lsingle.b .nil pass0 (@pa_cons _ _ _ _ _ (@pvD _ 0 _ _ (by rfl) (by first | exact Or.inl rfl | exact Or.inr (Or.inl rfl)) (by decide) (by decide)) (@pa_nil _) (by rfl)) (by decide) (by rfl) (by rfl)) (@pa_nil _) (by rfl)))) (by rfl) (by first | exact .inl rfl | exact .inr rfl | assumption))))))) (@pss_nil _)))) (by intro _; rfl)) (@pss_one _ _ _ (@ps_ret _ _ _ _ (@pvD _ 3 _ _ (by rfl) (by first | exact Or.inl rfl | exact Or.inr (Or.inl rfl)) (by decide) (by decide)))))), ?_⟩
    walk_at "rh"
    intro v0 H0 s0 r0
    walk_at "rh"
    have f0 := (Dkf.refl hl hd).same s0
    refine ⟨l, ns, rfl, f0.h, hd, fun z1 m1 H1 z10 z11 l1 f1 => ?_⟩
    have f01 := f0.trans f1
    walk_at "rh"
    refine ⟨by decide, by omega, by omega, ?_⟩
    obtain ⟨m, em⟩ : ∃ m : Nat, 1 + z1 % 9 = (m : Int) := ⟨(1 + z1 % 9).toNat, by omega⟩
    rw [em]
    rw [Int.toNat_natCast]
    refine FW_range (Iv_ab K l room deep m1 H1) ⟨v0, [], m1, none, none, none, none, none, rfl, ?_, by simp [gdL], by simp [dpL], by simp [exL]; omega, by simp, Dkf.refl f1.h f1.d⟩ ?_ ?_
    · rw [enL]; exact Rp.t f1.st r0
    · rintro i σ H2 hi ⟨v, b, ms, o1, o2, o3, o4, o5, rfl, rv, gb, db, xb, bl, f2⟩
      have b60 : (exL b).length ≤ 60 := by omega
      walk_at "rh"
      refine ⟨_, b, rfl, by omega, gb, b60, rv, fun v3 H3 s3 r3 => ?_⟩
      obtain ⟨p3, ys, rfl, h3, l3⟩ := Rp_tup.mp r3
      have yl : ys.length = (exL b).length := by rw [l3.length, List.length_map]
      dsimp only
      refine ⟨_, .inr h3, ?_⟩
      rw [yl]
      have f3 := f2.same s3
      have rv3 := rv.same s3
      clear h3 l3 r3
      walk_at "rh"
      by_cases h0 : 0 < room - ((exL b).length : Int)
      · rw [if_pos h0]
        refine ⟨_, .inl (SqL.of f3.h), ?_⟩
        rw [List.length_map]
        by_cases h1 : (0 : Int) < ms.length
        · rw [if_pos h1]
          refine ⟨l, ms, rfl, f3.h, f3.d, fun z4 m4 H4 z40 z41 l4 f4 => ?_⟩
          have rv4 := Rp.t f4.st rv3
          have f24 := f3.trans f4
          walk_at "rh"
          refine ⟨by decide, fun pl hpl => ⟨by decide, by decide, _, SqL.of upd_same, ?_⟩⟩
          have u5 := Same.upd (o := .lst [.int 9, .int 29]) hpl
          have rv5 := rv4.same u5
          have f25 := f24.same u5
          generalize upd H4 pl (.lst [.int 9, .int 29]) = H5 at rv5 f25 ⊢
          clear u5 hpl rv4 f24 f4 f3 rv3
          obtain ⟨tm, et, t0⟩ : ∃ tm : Int, atI [V.int 9, V.int 29] (z4 / 500) = some (.int tm) ∧ (tm = 9 ∨ tm = 29) := by
            have e : z4 / 500 = 0 ∨ z4 / 500 = 1 := by omega
            rcases e with e | e <;> rw [e]
            · exact ⟨9, rfl, .inl rfl⟩
            · exact ⟨29, rfl, .inr rfl⟩
          refine ⟨_, et, ?_⟩
          walk_at "rh"
          refine ⟨by omega, ?_⟩
          obtain ⟨k, ek, k2, k60⟩ : ∃ k : Nat, 2 + z4 % tm = (k : Int) ∧ 2 ≤ k ∧ k ≤ 60 := by
            rcases t0 with rfl | rfl
            · exact ⟨(2 + z4 % 9).toNat, by omega, by omega, by omega⟩
            · exact ⟨(2 + z4 % 29).toNat, by omega, by omega, by omega⟩
          rw [ek]
          have sing : ∀ (m6 : List Int) (H6 : Hp), Dkf l m1 H1 m6 H6 → Rp K H6 (.tup (enL b)) v → sp_Lsingle K [.ref l] H6 (fun x H7 => 1 ≤ sizeLine ∧ ∀ p, H7 p = none → ∃ ds, Rp K (upd H7 p (.tup [x])) (.tup ds) v ∧ ∃ x_1, Rp K (upd H7 p (.tup [x])) (.tup x_1) (.ref p) ∧ ds.length + x_1.length ≤ sizeLine ∧ ∀ v' H', Same (upd H7 p (.tup [x])) H' → Rp K H' (.tup (ds ++ x_1)) v' →
              Iv_ab K l room deep m1 H1 (i + 1) [some (.ref l), some (.int room), some (.int deep), some v', some (.int (0 + (i : Int))), some (.int (room - ((exL b).length : Int))), some (.int z4), some (.int (k : Int)), o5] H') E0 := by
            intro m6 H6 f6 r6
            refine ⟨l, m6, rfl, f6.h, f6.d, fun x d m7 H7 ok rx f7 => ⟨by decide, fun p hp => ?_⟩⟩
            have u := Same.upd (o := .tup [x]) hp
            refine ⟨_, (Rp.t f7.st r6).same u, [.tup d], one_iff.mpr ⟨p, x, rfl, SqT.of upd_same, rx.same u⟩, ?_, fun v' H' s' r' => ?_⟩
            · rw [enL_length]; exact Nat.le_of_lt (small1000 (by simp; omega))
            · have e : enL b ++ [.tup d] = enL (b ++ [.one d]) := by rw [enL_app]; simp [enL, enS]
              rw [e] at r'
              refine ⟨v', b ++ [.one d], m7, _, _, _, _, _, rfl, r', gdL_app _ _ gb (by simp [gdL, gdS, ok]), ?_, ?_, by simp; omega, ((f6.trans f7).same u).same s'⟩
              · rw [dpL_app]; simp [dpL, dpS]; exact db
              · rw [exL_app, exL_one, exS, List.length_append, List.length_singleton]; omega
          walk_at "rh"
          by_cases c1 : deep < 4
          · rw [if_pos c1]
            refine ⟨mulOk_l (by decide) (by decide), ?_⟩
            by_cases c2 : 2 * (k : Int) ≤ room - ((exL b).length : Int)
            · rw [if_pos c2]
              refine ⟨l, _, rfl, f25.h, f25.d, fun z6 m6 H6 z60 z61 l6 f6 => ?_⟩
              have rv6 := Rp.t f6.st rv5
              have f26 := f25.trans f6
              dsimp only
              refine ⟨by decide, ?_⟩
              by_cases c3 : z6 % 2 = 0
              · rw [if_pos c3]
                refine ⟨by omega, by omega, l, m6, _, _, rfl, f26.h, f26.d, ?_, by omega, by omega, by omega, fun vi bi m7 H7 ri gi di xi _ _ f7 => ?_⟩
                · have := Int.ediv_le_self (k : Int) (show 0 ≤ room - ((exL b).length : Int) by omega)
                  omega
                have q0 : 0 ≤ (room - ((exL b).length : Int)) / (k : Int) := Int.ediv_nonneg (by omega) (by omega)
                have q1 : (k : Int) * ((room - ((exL b).length : Int)) / (k : Int)) ≤ room - ((exL b).length : Int) := Int.mul_ediv_self_le (by omega)
                have q2 : ((exL bi).length : Int) ≤ (room - ((exL b).length : Int)) / (k : Int) := by omega
                have q3 : (k : Int) * ((exL bi).length : Int) ≤ (k : Int) * ((room - ((exL b).length : Int)) / (k : Int)) := Int.mul_le_mul_of_nonneg_left q2 (by omega)
                walk_at "rh"
                refine ⟨by decide, fun pa hpa => ⟨by decide, fun pb hpb => ?_⟩⟩
                have ua := Same.upd (o := .tup [.str "again", .int (k : Int), vi]) hpa
                have ub := Same.upd (o := .tup [.ref pa]) hpb
                have sab := ua.trans ub
                have r3 : Rp K (upd H7 pa (.tup [.str "again", .int (k : Int), vi])) (enS (.rep k bi)) (.ref pa) := by
                  rw [enS]
                  exact three_iff.mpr ⟨pa, _, _, _, rfl, SqT.of upd_same, str_iff.mpr rfl, int_iff.mpr rfl, ri.same ua⟩
                refine ⟨_, (Rp.t f7.st rv6).same sab, [enS (.rep k bi)], one_iff.mpr ⟨pb, _, rfl, SqT.of upd_same, r3.same ub⟩, ?_, fun v' H' s' r' => ?_⟩
                · rw [enL_length]; exact Nat.le_of_lt (small1000 (by simp; omega))
                · have e : enL b ++ [enS (.rep k bi)] = enL (b ++ [.rep k bi]) := by rw [enL_app]; simp [enL]
                  rw [e] at r'
                  refine ⟨v', b ++ [.rep k bi], m7, _, _, _, _, _, rfl, r', gdL_app _ _ gb (by simp only [gdL, gdS]; exact ⟨⟨k2, k60, gi⟩, trivial⟩), ?_, ?_, by simp; omega, ((f26.trans f7).same sab).same s'⟩
                  · rw [dpL_app]; simp only [dpL, dpS]; omega
                  · rw [exL_app, exL_one, exS, List.length_append, flat_len, Int.natCast_add, Int.natCast_mul]; omega
              · rw [if_neg c3]
                exact sing _ _ f26 rv6
            · rw [if_neg c2]
              exact sing _ _ f25 rv5
          · rw [if_neg c1]
            exact sing _ _ f25 rv5
        · rw [if_neg h1]
          exact ⟨_, b, ms, _, _, _, _, _, rfl, rv3, gb, db, xb, by omega, f3⟩
      · rw [if_neg h0]
        exact ⟨_, b, ms, _, _, _, _, _, rfl, rv3, gb, db, xb, by omega, f3⟩
    · rintro σ H2 ⟨v, b, ms, o1, o2, o3, o4, o5, rfl, rv, gb, db, xb, bl, f2⟩
      walk_at "rh"
      refine q _ b ms _ rv gb db xb (by omega) (fun hne => ?_) (f01.trans f2)
      have := f2.le
      have : 0 < ns.length := List.length_pos_iff.mpr hne
      omega
theorem ok_abN (T : Txt K mg t) : ∀ n, FnOk P w K mg base CX0 (n + 7) t.a_Lagainbody t.d_Lagainbody ["_law_deck_here", "_law_room", "_law_deep"] (sp_Lab K n)
  | 0 => ⟨fun vs H Q E ⟨_, _, _, _, _, _, _, _, _, h, h', _⟩ => by omega, fun A outer s H args us vs Q E _ _ _ _ ⟨_, _, _, _, _, _, _, _, _, h, h', _⟩ => by omega⟩
  | n + 1 => ok_abS T n (ok_abN T n)
theorem ok_Lagainbody (T : Txt K mg t) : FnOk P w K mg base CX0 13 t.a_Lagainbody t.d_Lagainbody ["_law_deck_here", "_law_room", "_law_deep"] (sp_Lab K 5) := (ok_abN T 5).mono (by decide)
end
section
variable {P : Program} {w : World} {K : PySem.W.Frag} {mg : Str → Option Value} {base : Heap} {t : Adr}

theorem Best.uniq {S : List (List L2.D)} {i j z z' : Nat} {b b' : List Tr} (h : Best S i j z b) (h' : Best S i j z' b') : z = z' := by
  have a := h.least b' h'.ex
  have c := h'.least b h.ex
  rw [h'.sz] at a
  rw [h.sz] at c
  omega
theorem ex_ones : ∀ W : List (List L2.D), exL (W.map Tr.one) = W ∧ szL (W.map Tr.one) = W.length
  | [] => ⟨by simp [exL], by simp [szL]⟩
  | d :: W => by
    obtain ⟨h1, h2⟩ := ex_ones W
    constructor
    · rw [List.map_cons, exL, exS, h1]; rfl
    · rw [List.map_cons, szL, szS, h2, List.length_cons]; omega
theorem Best.le {S : List (List L2.D)} {i j z : Nat} {b : List Tr} (h : Best S i j z b) (hj : j ≤ S.length) : z ≤ j - i := by
  obtain ⟨h1, h2⟩ := ex_ones (sl S i j)
  have := h.least _ h1
  rw [h2, sl_len hj] at this
  exact this
theorem len_sz : ∀ b : List Tr, b.length ≤ szL b
  | [] => by simp [szL]
  | u :: us => by rw [szL, List.length_cons]; have := len_sz us; have := szS_pos u; omega
structure TBx (P : Program) (w : World) (K : PySem.W.Frag) (H : Hp) (d : Addr) (S : List (List L2.D)) (ok : Nat → Nat → Prop) (es : EnT) : Prop where
  h : H d = some (DX P w d es)
  ks : KeysIn K H es
  dom : ∀ x ∈ es, ∃ i j : Nat, x.1 = [.inl (i : Int), .inl (j : Int)] ∧ ok i j
  val : ∀ i j : Nat, ok i j → ∃ (v : V) (z : Nat) (b : List Tr), lkX es [.inl (i : Int), .inl (j : Int)] = some v ∧ Rp K H (.tup [.int (z : Int), .tup (enL b)]) v ∧ Best S i j z b ∧ FF S i j = (z, b)
theorem TBx.same {H H' : Hp} {d : Addr} {S : List (List L2.D)} {ok : Nat → Nat → Prop} {es : EnT} (B : TBx P w K H d S ok es) (s : Same H H') : TBx P w K H' d S ok es :=
  ⟨s _ _ B.h, B.ks.same s, B.dom, fun i j h => let ⟨v, z, b, e, r, q⟩ := B.val i j h; ⟨v, z, b, e, r.same s, q⟩⟩
def Iv_pz (d pz : Addr) (S : List (List L2.D)) (i j : Nat) (H : Hp) (n : Nat) (σ : L2.St) (H2 : Hp) : Prop := ∃ (zs : List Int) (o : Option V), σ = [some (.ref d), some (.int (i : Int)), some (.int (j : Int)), o] ∧ Same H H2 ∧ H2 pz = some (.lst (zs.map V.int)) ∧ zs.length = n ∧ ∀ k z, zs[k]? = some z → ∃ z1 b1 z2 b2, Best S i (i + 1 + k) z1 b1 ∧ Best S (i + 1 + k) j z2 b2 ∧ z = ((z1 + z2 : Nat) : Int) ∧ FF S i (i + 1 + k) = (z1, b1) ∧ FF S (i + 1 + k) j = (z2, b2)
def sp_parted (P : Program) (w : World) (K : PySem.W.Frag) : Sp := fun vs H Q _ => ∃ (i j : Nat) (d : Addr) (S : List (List L2.D)) (ok : Nat → Nat → Prop) (es : EnT), vs = [.int (i : Int), .int (j : Int), .ref d] ∧ i + 2 ≤ j ∧ j ≤ S.length ∧ S.length ≤ 60 ∧ TBx P w K H d S ok es ∧ (∀ m, i < m → m < j → ok i m ∧ ok m j) ∧
  ∀ v m z1 b1 z2 b2 H', Same H H' → i < m → m < j → Best S i m z1 b1 → Best S m j z2 b2 → (∀ m' y1 c1 y2 c2, i < m' → m' < j → Best S i m' y1 c1 → Best S m' j y2 c2 → z1 + z2 ≤ y1 + y2) → FF S i m = (z1, b1) → FF S m j = (z2, b2) → (∀ m', i < m' → m' < m → z1 + z2 < (FF S i m').1 + (FF S m' j).1) → Rp K H' (.tup [.int ((z1 + z2 : Nat) : Int), .tup (enL (b1 ++ b2))]) v → Q v H'
theorem ok_parted (T : Txt K mg t) : FnOk P w K mg base CX0 1 t.a_parted t.d_parted ["start", "end", "found"] (sp_parted P w K) := by
  refine T.parted.F.ok sc_parted (fun vs H Q E h => ?_) (fun cdv A outer s H vs Q E hr h => ?_)
  · obtain ⟨i, j, d, S, ok, es, rfl, _⟩ := h; rfl
  · obtain ⟨i, j, d, S, ok, es, rfl, hij, hjS, hS60, B, hok, q⟩ := h
    have hj : j ≤ 60 := by omega
    have hu := hr.units
    have hu1 : (A.deeper (envOfC (Str.ofString "parted") (defScope s_parted) s.heap.objs.size t.a_parted cdv)).units + 1 < cLine := by omega
    refine ⟨_, (@pss_consH _ _ _ _ _ (@ps_set _ _ (3) _ _ _ _ sc_parted.nd rfl (Or.inl rfl) (@pe_listrng _ _ _ _ _ _ _ _ rfl (by rfl) T.z_list (by rfl) T.z_range (@pa_cons _ _ _ _ _ (@pe_op _ _ _ _ _ _ _ _ op_addD (@pvD _ 0 _ _ (by rfl) (by first | exact Or.inl rfl | exact Or.inr (Or.inl rfl)) (by decide) (by decide)) (@pe_int _ _ _ _)) (@pa_cons _ _ _ _ _ (@pvD _ 1 _ _ (by rfl) (by first | exact Or.inl rfl | exact Or.inr (Or.inl rfl)) (by decide) (by decide)) (@pa_nil _) (by rfl)) (by rfl)) (by rfl) (by rfl) (by rfl)) (by rfl) (by first | exact .inl rfl | exact .inr rfl | assumption)) (@pss_consH _ _ _ _ _ (@ps_setC _ _ _ _ _ _ (defScope s_parted) _ _ _ _ (4) _ _ _ _ (["start", "end", "found", "middles", "sizes", "least", "middle"]) (["found", "start", "end", "middle"]) (["middle"]) ([2, 0, 1]) sc_parted.nd rfl (Or.inl rfl) rfl rfl rfl ⟨by decide +kernel, by decide +kernel, by decide +kernel, by decide +kernel, by decide +kernel, by decide +kernel⟩ (@pi_listD _ _ _ _ (@pvD _ 3 _ _ (by rfl) (by first | exact Or.inl rfl | exact Or.inr (Or.inl rfl)) (by decide) (by decide))) (fun _ _ _ _ => (@pg_name _ _ (3) _ (show List.Nodup (["found", "start", "end", "middle"] : List Str) by decide +kernel) rfl (Or.inl rfl) (by first | exact .inl rfl | exact .inr rfl | assumption))) (fun _ _ _ _ => (@pifs_nil _)) (fun _ _ _ _ => (@pe_op _ _ _ _ _ _ _ _ op_addD (@pe_ix _ _ _ _ _ _ _ (ix_tupKD (K := K) rfl) (@pe_xgetK _ _ _ _ _ _ (P) (w) (K) rfl rfl rfl hu1 (@pvD _ 0 _ _ (by rfl) (by first | exact Or.inl rfl | exact Or.inr (Or.inl rfl)) (by decide) (by decide)) (@pe_tup _ _ _ _ _ (@pa_cons _ _ _ _ _ (@pvD _ 1 _ _ (by rfl) (by first | exact Or.inl rfl | exact Or.inr (Or.inl rfl)) (by decide) (by decide)) (@pa_cons _ _ _ _ _ (@pvD _ 3 _ _ (by rfl) (by first | exact Or.inl rfl | exact Or.inr (Or.inl rfl)) (by decide) (by decide)) (@pa_nil _) (by rfl)) (by rfl))) (fun _ _ => rfl)) (@pe_int _ _ _ _) (fun _ _ => rfl)) (@pe_ix _ _ _ _ _ _ _ (ix_tupKD (K := K) rfl) (@pe_xgetK _ _ _ _ _ _ (P) (w) (K) rfl rfl rfl hu1 (@pvD _ 0 _ _ (by rfl) (by first | exact Or.inl rfl | exact Or.inr (Or.inl rfl)) (by decide) (by decide)) (@pe_tup _ _ _ _ _ (@pa_cons _ _ _ _ _ (@pvD _ 3 _ _ (by rfl) (by first | exact Or.inl rfl | exact Or.inr (Or.inl rfl)) (by decide) (by decide)) (@pa_cons _ _ _ _ _ (@pvD _ 2 _ _ (by rfl) (by first | exact Or.inl rfl | exact Or.inr (Or.inl rfl)) (by decide) (by decide)) (@pa_nil _) (by rfl)) (by rfl))) (fun _ _ => rfl)) (@pe_int _ _ _ _) (fun _ _ => rfl)))) (by intro _; rfl) (by rfl) (by first | exact .inl rfl | exact .inr rfl | assumption)) (@pss_consH _ _ _ _ _ (@ps_set _ _ (5) _ _ _ _ sc_parted.nd rfl (Or.inl rfl) (@pe_callB _ _ _ _ _ _ _ _ _ (call_minL rfl) (by rfl) T.z_min boot_min (@pa_cons _ _ _ _ _ (@pvD _ 4 _ _ (by rfl) (by first | exact Or.inl rfl | exact Or.inr (Or.inl rfl)) (by decide) (by decide)) (@pa_nil _) (by rfl)) (by decide) (by decide) (by rfl) (by rfl)) (by rfl) (by first | exact .inl rfl | exact .inr rfl | assumption)) (@pss_consH _ _ _ _ _ (@ps_set _ _ (6) _ _ _ _ sc_parted.nd rfl (Or.inl rfl) (@pe_ix _ _ _ _ _ _ _ ix_listD (@pvD _ 3 _ _ (by rfl) (by first | exact Or.inl rfl | exact Or.inr (Or.inl rfl)) (by decide) (by decide)) (@pe_bm _ _ _ _ _ _ _ _ _ _ _ _ PySem.F.plainAttrs_list PySem.F.slot_list_index PySem.F.type_list_index mt_index (@pvD _ 4 _ _ (by rfl) (by first | exact Or.inl rfl | exact Or.inr (Or.inl rfl)) (by decide) (by decide)) (@pa_cons _ _ _ _ _ (@pvD _ 5 _ _ (by rfl) (by first | exact Or.inl rfl | exact Or.inr (Or.inl rfl)) (by decide) (by decide)) (@pa_nil _) (by rfl)) (by rfl) (by rfl) (by rfl) (by rfl) (by rfl)) (fun _ _ => rfl)) (by rfl) (by first | exact .inl rfl | exact .inr rfl | assumption)) (@pss_one _ _ _ (@ps_ret _ _ _ _ (@pe_tup _ _ _ _ _ (@pa_cons _ _ _ _ _ (@pvD _ 5 _ _ (by rfl) (by first | exact Or.inl rfl | exact Or.inr (Or.inl rfl)) (by decide) (by decide)) (@pa_cons _ _ _ _ _ (@pe_op _ _ _ _ _ _ _ _ op_catDD (@pe_ix _ _ _ _ _ _ _ ix_tupD (@pe_xgetK _ _ _ _ _ _ (P) (w) (K) rfl rfl rfl hu1 (@pvD _ 2 _ _ (by rfl) (by first | exact Or.inl rfl | exact Or.inr (Or.inl rfl)) (by decide) (by decide)) (@pe_tup _ _ _ _ _ (@pa_cons _ _ _ _ _ (@pvD _ 0 _ _ (by rfl) (by first | exact Or.inl rfl | exact Or.inr (Or.inl rfl)) (by decide) (by decide)) (@pa_cons _ _ _ _ _ (@pvD _ 6 _ _ (by rfl) (by first | exact Or.inl rfl | exact Or.inr (Or.inl rfl)) (by decide) (by decide)) (@pa_nil _) (by rfl)) (by rfl))) (fun _ _ => rfl)) (@pe_int _ _ _ _) (fun _ _ => rfl)) (@pe_ix _ _ _ _ _ _ _ ix_tupD (@pe_xgetK _ _ _ _ _ _ (P) (w) (K) rfl rfl rfl hu1 (@pvD _ 2 _ _ (by rfl) (by first | exact Or.inl rfl | exact Or.inr (Or.inl rfl)) (by decide) (by decide)) (@pe_tup _ _ _ _ _ (@pa_cons _ _ _ _ _ (@pvD _ 6 _ _ (by rfl) (by first | exact Or.inl rfl | exact Or.inr (Or.inl rfl)) (by decide) (by decide)) (@pa_cons _ _ _ _ _ (@pvD _ 1 _ _ (by rfl) (by first | exact Or.inl rfl | exact Or.inr (Or.inl rfl)) (by decide) (by decide)) (@pa_nil _) (by rfl)) (by rfl))) (fun _ _ => rfl)) (@pe_int _ _ _ _) (fun _ _ => rfl))) (@pa_nil _) (by rfl)) (by rfl))))))))), ?_⟩
    walk_at "rh"
    refine ⟨by omega, by omega, by omega, by omega, by omega, fun lm hlm => ?_⟩
    rw [show ((j : Int) - ((i : Int) + 1)).toNat = j - i - 1 by omega]
    have u1 := Same.upd (o := .lst ((List.range (j - i - 1)).map fun (k : Nat) => V.int ((i : Int) + 1 + (k : Int)))) hlm
    have hm : upd H lm (.lst ((List.range (j - i - 1)).map fun (k : Nat) => V.int ((i : Int) + 1 + (k : Int)))) lm = some (.lst ((List.range (j - i - 1)).map fun (k : Nat) => V.int ((i : Int) + 1 + (k : Int)))) := upd_same
    have B1 := B.same u1
    generalize upd H lm (.lst ((List.range (j - i - 1)).map fun (k : Nat) => V.int ((i : Int) + 1 + (k : Int)))) = H1 at u1 hm B1 ⊢
    clear B hlm
    walk_at "rh"
    refine ⟨⟨_, SqL.of hm⟩, fun pz hpz => ?_⟩
    refine CW_list (xs := (List.range (j - i - 1)).map fun (k : Nat) => V.int ((i : Int) + 1 + (k : Int))) (Iv_pz d pz S i j H1) ⟨[], none, rfl, Same.upd hpz, upd_same, rfl, fun k z e => by simp at e⟩ (fun n σ H2 _ h => by obtain ⟨_, _, _, s2, _⟩ := h; exact SqL.of (s2 _ _ hm)) ?_ ?_
    · rintro n x σ H2 hn ⟨zs, o, rfl, s2, hz, zl, hzs⟩
      have hnl : n < j - i - 1 := by have := (List.getElem?_eq_some_iff.mp hn).1; simpa using this
      have ex : x = .int ((i : Int) + 1 + (n : Int)) := by
        rw [List.getElem?_map, List.getElem?_range hnl] at hn
        exact (Option.some.inj hn).symm
      subst ex
      obtain ⟨ok1, ok2⟩ := hok (i + 1 + n) (by omega) (by omega)
      have B2 := B1.same s2
      obtain ⟨v1, z1, b1, e1, r1, q1, g1⟩ := B2.val _ _ ok1
      obtain ⟨v2, z2, b2, e2, r2, q2, g2⟩ := B2.val _ _ ok2
      obtain ⟨p1, x1, y1, rfl, h1, rx1, ry1⟩ := pair_iff.mp r1
      obtain ⟨p2, x2, y2, rfl, h2, rx2, ry2⟩ := pair_iff.mp r2
      rw [int_iff] at rx1 rx2
      subst rx1 rx2
      have ei : (i : Int) + 1 + (n : Int) = ((i + 1 + n : Nat) : Int) := by omega
      walk_at "rd"
      refine ⟨by decide, fun pa hpa => ?_⟩
      have ua := Same.upd (o := .tup [.int (i : Int), .int ((i : Int) + 1 + (n : Int))]) hpa
      have B3 := B2.same ua
      refine ⟨es, B3.h, B3.ks, [.inl (i : Int), .inl ((i + 1 + n : Nat) : Int)], by rw [ei]; exact SqT.of upd_same, _, e1, _, ua.tup h1, _, rfl, ?_⟩
      refine ⟨by decide, fun pb hpb => ?_⟩
      have ub := Same.upd (o := .tup [.int ((i : Int) + 1 + (n : Int)), .int (j : Int)]) hpb
      have uab := ua.trans ub
      have B4 := B3.same ub
      refine ⟨es, B4.h, B4.ks, [.inl ((i + 1 + n : Nat) : Int), .inl (j : Int)], by rw [ei]; exact SqT.of upd_same, _, e2, ?_⟩
      dsimp only
      refine ⟨_, uab.tup h2, _, rfl, ?_⟩
      dsimp only
      have hz4 := uab _ _ hz
      refine ⟨_, hz4, small1000 (by rw [List.length_map]; omega), nx (by simpa using hnl) ⟨zs ++ [((z1 + z2 : Nat) : Int)], _, rfl, (s2.trans uab).upd2 hpz, ?_, by rw [List.length_append, zl]; rfl, fun k z e => ?_⟩⟩
      · rw [upd_same, List.map_append, Int.natCast_add]; rfl
      · by_cases hk : k < zs.length
        · rw [List.getElem?_append_left hk] at e
          exact hzs k z e
        · rw [List.getElem?_append_right (by omega)] at e
          have hk2 : k = n := by
            have := (List.getElem?_eq_some_iff.mp e).1
            simp at this
            omega
          subst hk2
          rw [zl, Nat.sub_self] at e
          exact ⟨z1, b1, z2, b2, q1, q2, (Option.some.inj e).symm, g1, g2⟩
    · rintro σ H2 ⟨zs, o, rfl, s2, hz, zl, hzs⟩
      have zl' : zs.length = j - i - 1 := by rw [zl]; simp
      clear zl
      have B2 := B1.same s2
      have hm2 := s2 _ _ hm
      have u2 := u1.trans s2
      clear B1 hm hpz s2 u1
      walk_at "rh"
      refine ⟨zs, SqL.of hz, by rintro rfl; simp at zl'; omega, fun m hmem hmin => ?_⟩
      walk_at "rh"
      refine ⟨.inl ⟨_, SqL.of hz⟩, zs, SqL.of hz, hmem, fun k hk hfirst => ?_⟩
      have hkl : k < j - i - 1 := by rw [← zl']; exact (List.getElem?_eq_some_iff.mp hk).1
      have eat : atI ((List.range (j - i - 1)).map fun (k : Nat) => V.int ((i : Int) + 1 + (k : Int))) (k : Int) = some (.int ((i : Int) + 1 + (k : Int))) := atI_nat (by rw [List.getElem?_map, List.getElem?_range hkl]; rfl)
      refine ⟨_, SqL.of hm2, _, eat, ?_⟩
      obtain ⟨z1, b1, z2, b2, q1, q2, em, g1, g2⟩ := hzs k m hk
      obtain ⟨ok1, ok2⟩ := hok (i + 1 + k) (by omega) (by omega)
      obtain ⟨v1, y1, c1, e1, r1, w1, g3⟩ := B2.val _ _ ok1
      obtain ⟨v2, y2, c2, e2, r2, w2, g4⟩ := B2.val _ _ ok2
      have ey1 := q1.uniq w1
      have ey2 := q2.uniq w2
      subst ey1 ey2
      obtain ⟨p1, x1, w1', rfl, h1, rx1, ry1⟩ := pair_iff.mp r1
      obtain ⟨p2, x2, w2', rfl, h2, rx2, ry2⟩ := pair_iff.mp r2
      have ei : (i : Int) + 1 + (k : Int) = ((i + 1 + k : Nat) : Int) := by omega
      have least : ∀ m' y1 c1 y2 c2, i < m' → m' < j → Best S i m' y1 c1 → Best S m' j y2 c2 → z1 + z2 ≤ y1 + y2 := by
        intro m' y1 c1 y2 c2 hm1 hm2' B1' B2'
        obtain ⟨k', rfl⟩ : ∃ k', m' = i + 1 + k' := ⟨m' - (i + 1), by omega⟩
        have hk' : k' < zs.length := by omega
        obtain ⟨a1, d1, a2, d2, f1, f2, ef, _, _⟩ := hzs k' zs[k'] (List.getElem?_eq_getElem hk')
        have := hmin zs[k'] (List.getElem_mem hk')
        rw [ef, em] at this
        rw [B1'.uniq f1, B2'.uniq f2]
        omega
      have strict : ∀ m', i < m' → m' < i + 1 + k → z1 + z2 < (FF S i m').1 + (FF S m' j).1 := by
        intro m' a1 a2
        obtain ⟨k', rfl⟩ : ∃ k', m' = i + 1 + k' := ⟨m' - (i + 1), by omega⟩
        have hk' : k' < zs.length := by omega
        have hget : zs[k']? = some zs[k'] := List.getElem?_eq_getElem hk'
        obtain ⟨a1, d1, a2', d2, f1, f2, ef, f3, f4⟩ := hzs k' zs[k'] hget
        have x1 := hmin zs[k'] (List.getElem_mem hk')
        have x2 := hfirst k' (by omega)
        have x3 : zs[k'] ≠ m := fun e => x2 (by rw [hget, e])
        rw [f3, f4]
        show z1 + z2 < a1 + a2'
        omega
      clear hmin hzs hmem hk hz zl' eat hm2 hfirst
      subst em
      walk_at "rh"
      refine ⟨by decide, fun pa hpa => ?_⟩
      have ua := Same.upd (o := .tup [.int (i : Int), .int ((i : Int) + 1 + (k : Int))]) hpa
      have B3 := B2.same ua
      refine ⟨es, B3.h, B3.ks, [.inl (i : Int), .inl ((i + 1 + k : Nat) : Int)], by rw [ei]; exact SqT.of upd_same, _, e1, ?_⟩
      dsimp only
      refine ⟨_, ua.tup h1, _, rfl, by decide, fun pb hpb => ?_⟩
      have ub := Same.upd (o := .tup [.int ((i : Int) + 1 + (k : Int)), .int (j : Int)]) hpb
      have uab := ua.trans ub
      have B4 := B3.same ub
      refine ⟨es, B4.h, B4.ks, [.inl ((i + 1 + k : Nat) : Int), .inl (j : Int)], by rw [ei]; exact SqT.of upd_same, _, e2, ?_⟩
      dsimp only
      refine ⟨_, uab.tup h2, _, rfl, _, ry1.same uab, _, ry2.same uab, ?_, fun v3 H3 s3 r3 => ⟨by decide, fun pc hpc => ?_⟩⟩
      · rw [enL_length, enL_length]
        have l1 := len_sz c1
        have l2 := len_sz c2
        have k1 := w1.le (by omega)
        have k2 := w2.le (by omega)
        rw [w1.sz] at l1
        rw [w2.sz] at l2
        exact Nat.le_of_lt (small1000 (by omega))
      · have uc := Same.upd (o := .tup [.int ((z1 + z2 : Nat) : Int), v3]) hpc
        refine q _ (i + 1 + k) z1 c1 z2 c2 _ (((u2.trans uab).trans s3).trans uc) (by omega) (by omega) w1 w2 least g3 g4 strict ?_
        rw [enL_app]
        exact pair_iff.mpr ⟨pc, _, _, rfl, SqT.of upd_same, int_iff.mpr rfl, r3.same uc⟩
end
theorem RpL_take {K : PySem.W.Frag} {H : Hp} : ∀ {ds : List L2.D} {xs : List V} (n : Nat), RpL K H ds xs → RpL K H (ds.take n) (xs.take n)
  | ds, xs, 0, h => by rw [List.take_zero, List.take_zero]; exact RpL.nil
  | [], xs, n + 1, h => by rw [RpL] at h; subst h; rw [List.take_nil, List.take_nil]; exact RpL.nil
  | d :: ds, xs, n + 1, h => by
    rw [RpL] at h
    obtain ⟨v, r, rfl, h1, h2⟩ := h
    rw [List.take_succ_cons, List.take_succ_cons, RpL]
    exact ⟨_, _, rfl, h1, RpL_take n h2⟩
theorem RpL_drop {K : PySem.W.Frag} {H : Hp} : ∀ {ds : List L2.D} {xs : List V} (n : Nat), RpL K H ds xs → RpL K H (ds.drop n) (xs.drop n)
  | ds, xs, 0, h => h
  | [], xs, n + 1, h => by rw [RpL] at h; subst h; rw [List.drop_nil, List.drop_nil]; exact RpL.nil
  | d :: ds, xs, n + 1, h => by
    rw [RpL] at h
    obtain ⟨v, r, rfl, h1, h2⟩ := h
    rw [List.drop_succ_cons, List.drop_succ_cons]
    exact RpL_drop n h2
section
variable {P : Program} {w : World} {K : PySem.W.Frag} {mg : Str → Option Value} {base : Heap} {t : Adr}
theorem map_tup_inj : ∀ {a b : List (List L2.D)}, a.map D.tup = b.map D.tup → a = b
  | [], [], _ => rfl
  | [], _ :: _, h => by simp at h
  | _ :: _, [], h => by simp at h
  | x :: a, y :: b, h => by
    rw [List.map_cons, List.map_cons] at h
    injection h with h1 h2
    injection h1 with h1
    rw [h1, map_tup_inj h2]
theorem dep_one {d : List L2.D} (h : okOne d) : dep (.tup d) ≤ 1 := by
  rcases h with rfl | rfl | ⟨i, _, rfl | rfl | rfl⟩ <;> simp [dep, depL]
theorem depL_ones : ∀ {W : List (List L2.D)}, (∀ d ∈ W, okOne d) → depL (W.map D.tup) ≤ 1
  | [], _ => by simp [depL]
  | d :: W, h => by
    rw [List.map_cons, depL]
    have := dep_one (h d (by simp))
    have := depL_ones (W := W) fun x hx => h x (List.mem_cons_of_mem _ hx)
    omega
theorem sl_mem {S : List (List L2.D)} {i j : Nat} {d : List L2.D} (h : d ∈ sl S i j) : d ∈ S := List.mem_of_mem_drop (List.mem_of_mem_take h)
def sp_isagain (K : PySem.W.Frag) : Sp := fun vs H Q _ => ∃ (x : V) (S : List (List L2.D)) (i j q : Nat), vs = [x, .int (i : Int), .int (j : Int), .int (q : Int)] ∧ Rp K H (.tup (S.map D.tup)) x ∧ (∀ d ∈ S, okOne d) ∧ 1 ≤ q ∧ i + q ≤ j ∧ j ≤ S.length ∧ ∀ (k : Bool) H', Same H H' → (k = true ↔ (j - i) % q = 0 ∧ sl S i (j - q) = sl S (i + q) j) → Q (.bl k) H'
theorem cut_sl {S : List (List L2.D)} {xs : List V} {H : Hp} {i j : Nat} (h : RpL K H (S.map D.tup) xs) (hi : i ≤ j) (hj : j ≤ S.length) : RpL K H ((sl S i j).map D.tup) (cutV xs (some (i : Int)) (some (j : Int))) := by
  have xl : xs.length = S.length := by rw [h.length, List.length_map]
  unfold cutV sl
  rw [HT.sIx_nat, HT.sIx_nat, Nat.min_eq_left (by omega), Nat.min_eq_left (by omega), List.map_take, List.map_drop]
  exact RpL_take _ (RpL_drop _ h)
theorem ok_isagain (T : Txt K mg t) : FnOk P w K mg base CX0 1 t.a_isagain t.d_isagain ["statements", "start", "end", "step"] (sp_isagain K) := by
  refine T.isagain.F.ok sc_isagain (fun vs H Q E h => ?_) (fun cdv A outer s H vs Q E hr h => ?_)
  · obtain ⟨x, S, i, j, q, rfl, _⟩ := h; rfl
  · obtain ⟨x, S, i, j, q, rfl, rx, hok, hq, hij, hj, k⟩ := h
    have hu := hr.units
    obtain ⟨p, xs, rfl, hp, hl⟩ := Rp_tup.mp rx
    refine ⟨_, (@pss_cons _ _ _ _ _ (@ps_if _ _ _ _ _ _ _ _ (@pt_cmpRD _ _ _ _ _ _ _ _ op_neD (@pe_op _ _ _ _ _ _ _ _ op_modD (@pe_op _ _ _ _ _ _ _ _ op_subD (@pvD _ 2 _ _ (by rfl) (by first | exact Or.inl rfl | exact Or.inr (Or.inl rfl)) (by decide) (by decide)) (@pvD _ 1 _ _ (by rfl) (by first | exact Or.inl rfl | exact Or.inr (Or.inl rfl)) (by decide) (by decide))) (@pvD _ 3 _ _ (by rfl) (by first | exact Or.inl rfl | exact Or.inr (Or.inl rfl)) (by decide) (by decide))) (@pe_int _ _ _ _) (nomark _)) (@pss_one _ _ _ (@ps_ret _ _ _ _ (@pe_bl _ _ _ _))) (@pss_nil _)) (@pss_one _ _ _ (@ps_ret _ _ _ _ (@pe_cmpR _ _ _ _ _ _ _ _ (op_eqS hu) (@pe_slice _ _ _ _ _ _ _ _ _ _ sl_tupW (@pvD _ 0 _ _ (by rfl) (by first | exact Or.inl rfl | exact Or.inr (Or.inl rfl)) (by decide) (by decide)) (@po_someD _ _ _ (@pvD _ 1 _ _ (by rfl) (by first | exact Or.inl rfl | exact Or.inr (Or.inl rfl)) (by decide) (by decide))) (@po_someD _ _ _ (@pe_op _ _ _ _ _ _ _ _ op_subD (@pvD _ 2 _ _ (by rfl) (by first | exact Or.inl rfl | exact Or.inr (Or.inl rfl)) (by decide) (by decide)) (@pvD _ 3 _ _ (by rfl) (by first | exact Or.inl rfl | exact Or.inr (Or.inl rfl)) (by decide) (by decide))))) (@pe_slice _ _ _ _ _ _ _ _ _ _ sl_tupW (@pvD _ 0 _ _ (by rfl) (by first | exact Or.inl rfl | exact Or.inr (Or.inl rfl)) (by decide) (by decide)) (@po_someD _ _ _ (@pe_op _ _ _ _ _ _ _ _ op_addD (@pvD _ 1 _ _ (by rfl) (by first | exact Or.inl rfl | exact Or.inr (Or.inl rfl)) (by decide) (by decide)) (@pvD _ 3 _ _ (by rfl) (by first | exact Or.inl rfl | exact Or.inr (Or.inl rfl)) (by decide) (by decide)))) (@po_someD _ _ _ (@pvD _ 2 _ _ (by rfl) (by first | exact Or.inl rfl | exact Or.inr (Or.inl rfl)) (by decide) (by decide)))) (nomark _))))), ?_⟩
    have em : ((j : Int) - (i : Int)) % (q : Int) = (((j - i) % q : Nat) : Int) := by
      rw [Int.natCast_emod, Int.ofNat_sub (by omega)]
    walk_at "rd"
    rw [em]
    refine ⟨by omega, ?_⟩
    by_cases h0 : (j - i) % q = 0
    · rw [if_neg (by omega)]
      refine ⟨_, hp, fun p1 H1 s1 h1 => ⟨_, s1.tup hp, fun p2 H2 s2 h2 => ?_⟩⟩
      rw [show (j : Int) - (q : Int) = ((j - q : Nat) : Int) by omega] at h1
      rw [show (i : Int) + (q : Int) = ((i + q : Nat) : Int) by omega] at h2
      have c1 := (cut_sl (i := i) (j := j - q) hl (by omega) (by omega)).same (s1.trans s2)
      have c2 := (cut_sl (i := i + q) (j := j) hl (by omega) hj).same (s1.trans s2)
      refine ⟨_, _, Rp_tup.mpr ⟨p1, _, rfl, s2.tup h1, c1⟩, Rp_tup.mpr ⟨p2, _, rfl, h2, c2⟩, ?_, ?_⟩
      · have := depL_ones (W := sl S i (j - q)) fun d hd => hok d (sl_mem hd)
        omega
      · rw [if_neg (by decide)]
        refine k _ _ (s1.trans s2) ⟨fun e => ⟨h0, map_tup_inj (deqL_eq e)⟩, fun e => ?_⟩
        rw [e.2, deqL_self]
    · rw [if_pos (by omega)]
      exact k _ _ (Same.refl _) ⟨fun e => (nomatch e), fun e => absurd e.1 h0⟩
def sp_shortest (P : Program) (w : World) (K : PySem.W.Frag) : Sp := fun vs H Q _ => ∃ (x : V) (S : List (List L2.D)) (i j : Nat) (d : Addr) (ok : Nat → Nat → Prop) (es : EnT), vs = [x, .int (i : Int), .int (j : Int), .ref d] ∧ Rp K H (.tup (S.map D.tup)) x ∧ (∀ d ∈ S, okOne d) ∧ i < j ∧ j ≤ S.length ∧ S.length ≤ 60 ∧ TBx P w K H d S ok es ∧ (∀ i' j', i ≤ i' → i' < j' → j' ≤ j → j' - i' < j - i → ok i' j') ∧
  ∀ v z b H', Same H H' → Best S i j z b → FF S i j = (z, b) → Rp K H' (.tup [.int (z : Int), .tup (enL b)]) v → Q v H'
def Iv_st (K : PySem.W.Frag) (x : V) (S : List (List L2.D)) (i j : Nat) (d : Addr) (H : Hp) (n : Nat) (σ : L2.St) (H2 : Hp) : Prop := ∃ (v : V) (z : Nat) (b : List Tr) (o1 o2 o3 : Option V), σ = [some x, some (.int (i : Int)), some (.int (j : Int)), some (.ref d), some (.int ((j : Int) - (i : Int))), some v, o1, o2, o3] ∧ Same H H2 ∧ Rp K H2 (.tup [.int (z : Int), .tup (enL b)]) v ∧
  exL b = sl S i j ∧ szL b = z ∧ gdL b ∧ fuL b ∧ (∀ m z1 b1 z2 b2, i < m → m < j → Best S i m z1 b1 → Best S m j z2 b2 → z ≤ z1 + z2) ∧ (∀ q z1 b1, 1 ≤ q → q ≤ n → (j - i) % q = 0 → sl S i (j - q) = sl S (i + q) j → Best S i (i + q) z1 b1 → z ≤ z1 + 1) ∧ stepF (fW S i j) S i j (partC (fW S i j) i j) n = (z, b)
theorem ok_shortest (T : Txt K mg t) : FnOk P w K mg base CX0 2 t.a_shortest t.d_shortest ["statements", "start", "end", "found"] (sp_shortest P w K) := by
  refine T.shortest.F.ok sc_shortest (fun vs H Q E h => ?_) (fun cdv A outer s H vs Q E hr h => ?_)
  · obtain ⟨x, S, i, j, d, ok, es, rfl, _⟩ := h; rfl
  · obtain ⟨x, S, i, j, d, ok, es, rfl, rx, hone, hij, hj, h60, B, hok, q⟩ := h
    have hu := hr.units
    have hu1 : (A.deeper (envOfC (Str.ofString "shortest") (defScope s_shortest) s.heap.objs.size t.a_shortest cdv)).units + 1 < cLine := by omega
    obtain ⟨p, xs, rfl, hp, hl⟩ := Rp_tup.mp rx
    refine ⟨_, (@pss_cons _ _ _ _ _ (@ps_set _ _ (4) _ _ _ _ sc_shortest.nd rfl (Or.inl rfl) (@pe_op _ _ _ _ _ _ _ _ op_subD (@pvD _ 2 _ _ (by rfl) (by first | exact Or.inl rfl | exact Or.inr (Or.inl rfl)) (by decide) (by decide)) (@pvD _ 1 _ _ (by rfl) (by first | exact Or.inl rfl | exact Or.inr (Or.inl rfl)) (by decide) (by decide))) (by rfl) (by first | exact .inl rfl | exact .inr rfl | assumption)) (@pss_cons _ _ _ _ _ (@ps_if _ _ _ _ _ _ _ _ (@pt_cmpRD _ _ _ _ _ _ _ _ op_eqD (@pvD _ 4 _ _ (by rfl) (by first | exact Or.inl rfl | exact Or.inr (Or.inl rfl)) (by decide) (by decide)) (@pe_int _ _ _ _) (nomark _)) (@pss_one _ _ _ (@ps_ret _ _ _ _ (@pe_tup _ _ _ _ _ (@pa_cons _ _ _ _ _ (@pe_int _ _ _ _) (@pa_cons _ _ _ _ _ (@pe_slice _ _ _ _ _ _ _ _ _ _ sl_tupW (@pvD _ 0 _ _ (by rfl) (by first | exact Or.inl rfl | exact Or.inr (Or.inl rfl)) (by decide) (by decide)) (@po_someD _ _ _ (@pvD _ 1 _ _ (by rfl) (by first | exact Or.inl rfl | exact Or.inr (Or.inl rfl)) (by decide) (by decide))) (@po_someD _ _ _ (@pvD _ 2 _ _ (by rfl) (by first | exact Or.inl rfl | exact Or.inr (Or.inl rfl)) (by decide) (by decide)))) (@pa_nil _) (by rfl)) (by rfl))))) (@pss_nil _)) (@pss_cons _ _ _ _ _ (@ps_set _ _ (5) _ _ _ _ sc_shortest.nd rfl (Or.inl rfl) (@pe_call _ _ _ _ _ _ _ _ _ _ _ _ _ _ _ _ (ok_parted T) (hr.mono (by decide)) (by rfl) T.parted.m T.parted.F.kp T.parted.b .nil pass0 (@pa_cons _ _ _ _ _ (@pvD _ 1 _ _ (by rfl) (by first | exact Or.inl rfl | exact Or.inr (Or.inl rfl)) (by decide) (by decide)) (@pa_cons _ _ _ _ _ (@pvD _ 2 _ _ (by rfl) (by first | exact Or.inl rfl | exact Or.inr (Or.inl rfl)) (by decide) (by decide)) (@pa_cons _ _ _ _ _ (@pvD _ 3 _ _ (by rfl) (by first | exact Or.inl rfl | exact Or.inr (Or.inl rfl)) (by decide) (by decide)) (@pa_nil _) (by rfl)) (by rfl)) (by rfl)) (by decide) (by rfl) (by rfl)) (by rfl) (by first | exact .inl rfl | exact .inr rfl | assumption)) (@pss_cons _ _ _ _ _ (@ps_for _ _ _ _ _ _ _ _ PassesOwn.never rfl (@pi_range2 _ _ _ _ _ _ _ (by rfl) T.z_range (@pa_cons _ _ _ _ _ (@pe_int _ _ _ _) (@pa_cons _ _ _ _ _ (@pe_op _ _ _ _ _ _ _ _ op_addD (@pe_op _ _ _ _ _ _ _ _ op_fdivWD (@pvD _ 4 _ _ (by rfl) (by first | exact Or.inl rfl | exact Or.inr (Or.inl rfl)) (by decide) (by decide)) (@pe_int _ _ _ _)) (@pe_int _ _ _ _)) (@pa_nil _) (by rfl)) (by rfl)) (by rfl) (by rfl)) (@pg_name _ _ (6) _ sc_shortest.nd rfl (Or.inl rfl) (by first | exact .inl rfl | exact .inr rfl | assumption)) (@pss_cons _ _ _ _ _ (@ps_asg _ _ _ _ _ _ (@pe_xgetK _ _ _ _ _ _ (P) (w) (K) rfl rfl rfl hu1 (@pvD _ 3 _ _ (by rfl) (by first | exact Or.inl rfl | exact Or.inr (Or.inl rfl)) (by decide) (by decide)) (@pe_tup _ _ _ _ _ (@pa_cons _ _ _ _ _ (@pvD _ 1 _ _ (by rfl) (by first | exact Or.inl rfl | exact Or.inr (Or.inl rfl)) (by decide) (by decide)) (@pa_cons _ _ _ _ _ (@pe_op _ _ _ _ _ _ _ _ op_addD (@pvD _ 1 _ _ (by rfl) (by first | exact Or.inl rfl | exact Or.inr (Or.inl rfl)) (by decide) (by decide)) (@pvD _ 6 _ _ (by rfl) (by first | exact Or.inl rfl | exact Or.inr (Or.inl rfl)) (by decide) (by decide))) (@pa_nil _) (by rfl)) (by rfl))) (fun _ _ => rfl)) (@pg_tupD _ _ _ _ _ _ rfl (@pgs_consD _ _ _ _ _ (@pg_name _ _ (7) _ sc_shortest.nd rfl (Or.inl rfl) (by first | exact .inl rfl | exact .inr rfl | assumption)) (@pgs_consD _ _ _ _ _ (@pg_name _ _ (8) _ sc_shortest.nd rfl (Or.inl rfl) (by first | exact .inl rfl | exact .inr rfl | assumption)) (@pgs_nilD _) (by rfl)) (by rfl)) (by rfl) (by rfl)) (by rfl) (by rfl) (by rfl)) (@pss_one _ _ _ (@ps_if _ _ _ _ _ _ _ _ (@PW.pt _ _ _ (@pw_and _ _ _ _ _ _ _ (@pt_cmpRD _ _ _ _ _ _ _ _ op_ltD (@pe_op _ _ _ _ _ _ _ _ op_addD (@pvD _ 7 _ _ (by rfl) (by first | exact Or.inl rfl | exact Or.inr (Or.inl rfl)) (by decide) (by decide)) (@pe_int _ _ _ _)) (@pe_ix _ _ _ _ _ _ _ ix_tupD (@pvD _ 5 _ _ (by rfl) (by first | exact Or.inl rfl | exact Or.inr (Or.inl rfl)) (by decide) (by decide)) (@pe_int _ _ _ _) (fun _ _ => rfl)) (nomark _)) (@pw_and1 _ _ _ _ (@pt_valD _ _ _ (@pe_call _ _ _ _ _ _ _ _ _ _ _ _ _ _ _ _ (ok_isagain T) (hr.mono (by decide)) (by rfl) T.isagain.m T.isagain.F.kp T.isagain.b .nil pass0 (@pa_cons _ _ _ _ _ (@pvD _ 0 _ _ (by rfl) (by first | exact Or.inl rfl | exact Or.inr (Or.inl rfl)) (by decide) (by decide)) (@pa_cons _ _ _ _ _ (@pvD _ 1 _ _ (by rfl) (by first | exact Or.inl rfl | exact Or.inr (Or.inl rfl)) (by decide) (by decide)) (@pa_cons _ _ _ _ _ (@pvD _ 2 _ _ (by rfl) (by first | exact Or.inl rfl | exact Or.inr (Or.inl rfl)) (by decide) (by decide)) (@pa_cons _ _ _ _ _ (@pvD _ 6 _ _ (by rfl) (by first | exact Or.inl rfl | exact Or.inr (Or.inl rfl)) (by decide) (by decide)) (@pa_nil _) (by rfl)) (by rfl)) (by rfl)) (by rfl)) (by decide) (by rfl) (by rfl)) (by intro _; rfl))))) (@pss_one _ _ _ (@ps_set _ _ (5) _ _ _ _ sc_shortest.nd rfl (Or.inl rfl) (@pe_tup _ _ _ _ _ (@pa_cons _ _ _ _ _ (@pe_op _ _ _ _ _ _ _ _ op_addD (@pvD _ 7 _ _ (by rfl) (by first | exact Or.inl rfl | exact Or.inr (Or.inl rfl)) (by decide) (by decide)) (@pe_int _ _ _ _)) (@pa_consT _ _ _ _ _ _ _ (@pe_tup _ _ _ _ _ (@pa_consT _ _ _ _ _ _ _ (@pe_tup _ _ _ _ _ (@pa_cons _ _ _ _ _ (@pe_str _ _ _ _) (@pa_cons _ _ _ _ _ (@pe_op _ _ _ _ _ _ _ _ op_fdivWD (@pvD _ 4 _ _ (by rfl) (by first | exact Or.inl rfl | exact Or.inr (Or.inl rfl)) (by decide) (by decide)) (@pvD _ 6 _ _ (by rfl) (by first | exact Or.inl rfl | exact Or.inr (Or.inl rfl)) (by decide) (by decide))) (@pa_cons _ _ _ _ _ (@pvD _ 8 _ _ (by rfl) (by first | exact Or.inl rfl | exact Or.inr (Or.inl rfl)) (by decide) (by decide)) (@pa_nil _) (by rfl)) (by rfl)) (by rfl))) (@pa_nil _))) (@pa_nil _)) (by rfl))) (by rfl) (by first | exact .inl rfl | exact .inr rfl | assumption))) (@pss_nil _)))) (by intro _; rfl)) (@pss_one _ _ _ (@ps_ret _ _ _ _ (@pvD _ 5 _ _ (by rfl) (by first | exact Or.inl rfl | exact Or.inr (Or.inl rfl)) (by decide) (by decide)))))))), ?_⟩
    walk_at "rd"
    by_cases h1 : (j : Int) - (i : Int) = 1
    · rw [if_pos h1]
      refine ⟨_, hp, fun p1 H1 s1 hp1 => ⟨by decide, fun p2 hp2 => ?_⟩⟩
      have ej : j = i + 1 := by omega
      subst ej
      have hi : i < S.length := by omega
      have c1 := (cut_sl (i := i) (j := i + 1) hl (by omega) hj).same s1
      have B1 := best_one (S := S) (i := i) (List.getElem?_eq_getElem hi) (hone _ (List.getElem_mem hi))
      rw [← B1.ex] at c1
      have u2 := Same.upd (o := .tup [.int 1, .ref p1]) hp2
      refine q _ 1 _ _ (s1.trans u2) B1 (by rw [FF_one, List.getD_eq_getElem?_getD, List.getElem?_eq_getElem hi]; rfl) (pair_iff.mpr ⟨p2, _, _, rfl, SqT.of upd_same, int_iff.mpr rfl, Rp_tup.mpr ⟨p1, _, rfl, u2.tup hp1, ?_⟩⟩)
      have e : (exL [Tr.one S[i]]).map D.tup = enL [.one S[i]] := by simp [exL, exS, enL, enS]
      rw [e] at c1
      exact c1.same u2
    rw [if_neg h1]
    refine ⟨i, j, d, S, ok, es, rfl, by omega, hj, h60, B, fun m hm1 hm2 => ⟨hok i m (Nat.le_refl _) hm1 (by omega) (by omega), hok m j (by omega) hm2 (Nat.le_refl _) (by omega)⟩, fun v0 m0 z1 b1 z2 b2 H1 s1 m1 m2 B1 B2 hmin g1 g2 hst r0 => ?_⟩
    refine ⟨by decide, by decide, by decide, by decide, by omega, by omega, ?_⟩
    rw [show (((j : Int) - (i : Int)) / 2 + 1 - 1).toNat = (j - i) / 2 by omega]
    have hall : ∀ i' j', i ≤ i' → i' < j' → j' ≤ j → j' - i' < j - i → ∃ z' b', Best S i' j' z' b' := fun i' j' a1 a2 a3 a4 => by
      obtain ⟨_, z', b', _, _, q', _⟩ := B.val i' j' (hok i' j' a1 a2 a3 a4)
      exact ⟨z', b', q'⟩
    have ffb : ∀ i' j', i ≤ i' → i' < j' → j' ≤ j → j' - i' < j - i → Best S i' j' (FF S i' j').1 (FF S i' j').2 := fun i' j' a1 a2 a3 a4 => by
      obtain ⟨_, z', b', _, _, q', g'⟩ := B.val i' j' (hok i' j' a1 a2 a3 a4)
      rw [g']; exact q'
    have hpart : partC (fW S i j) i j = (z1 + z2, b1 ++ b2) := by
      refine partC_of ⟨m0, m1, m2, ?_, fun m' c1 c2 => ?_, fun m' c1 c2 => ?_⟩
      · rw [fW_at (by omega), fW_at (by omega), g1, g2]
      · rw [fW_at (by omega), fW_at (by omega)]
        exact hmin m' _ _ _ _ c1 c2 (ffb _ _ (Nat.le_refl _) c1 (by omega) (by omega)) (ffb _ _ (by omega) c2 (Nat.le_refl _) (by omega))
      · rw [fW_at (by omega), fW_at (by omega)]
        exact hst m' c1 c2
    refine FW_range (Iv_st K (.ref p) S i j d H) ⟨v0, z1 + z2, b1 ++ b2, none, none, none, rfl, s1, r0, ?_, ?_, gdL_app _ _ B1.gd B2.gd, fuL_app _ _ B1.fu B2.fu, hmin, (fun q' z' b' a1 a2 => by omega), by rw [stepF]; exact hpart⟩ ?_ ?_
    · rw [exL_app, B1.ex, B2.ex, ← sl_parts (by omega) (by omega)]
    · rw [szL_app, B1.sz, B2.sz]
    · rintro n σ H2 hn ⟨v, z, b, o1, o2, o3, rfl, s2, rv, he, hz, hg, hf, hm, hq, hF⟩
      have Bt := B.same s2
      obtain ⟨vq, zq, bq, e1, r1, w1, gq⟩ := Bt.val i (i + (n + 1)) (hok _ _ (Nat.le_refl _) (by omega) (by omega) (by omega))
      obtain ⟨p1, x1, y1, rfl, h1', rx1, ry1⟩ := pair_iff.mp r1
      rw [int_iff] at rx1
      subst rx1
      obtain ⟨pv, x2, y2, rfl, h2', rx2, ry2⟩ := pair_iff.mp rv
      rw [int_iff] at rx2
      subst rx2
      have en : (1 : Int) + (n : Int) = ((n + 1 : Nat) : Int) := by omega
      have en2 : (i : Int) + ((n + 1 : Nat) : Int) = ((i + (n + 1) : Nat) : Int) := by omega
      walk_at "rd"
      rw [en, en2]
      refine ⟨by decide, fun pa hpa => ?_⟩
      have ua := Same.upd (o := .tup [.int (i : Int), .int ((i + (n + 1) : Nat) : Int)]) hpa
      have B3 := Bt.same ua
      refine ⟨es, B3.h, B3.ks, [.inl (i : Int), .inl ((i + (n + 1) : Nat) : Int)], SqT.of upd_same, _, e1, ?_⟩
      walk_at "rd"
      refine ⟨_, ua.tup h1', rfl, ?_⟩
      walk_at "rd"
      refine ⟨_, ua.tup h2', _, rfl, ?_⟩
      have s2a := s2.trans ua
      have stay : ∀ H3, Same H H3 → ((j - i) % (n + 1) = 0 → sl S i (j - (n + 1)) = sl S (i + (n + 1)) j → z ≤ zq + 1) → Rp K H3 (.tup [.int (z : Int), .tup (enL b)]) (.ref pv) → Iv_st K (.ref p) S i j d H (n + 1) [some (.ref p), some (.int (i : Int)), some (.int (j : Int)), some (.ref d), some (.int ((j : Int) - (i : Int))), some (.ref pv), some (.int ((n + 1 : Nat) : Int)), some (.int (zq : Int)), some y1] H3 := by
        intro H3 s3 hn' r3
        refine ⟨.ref pv, z, b, _, _, _, rfl, s3, r3, he, hz, hg, hf, hm, (fun q' z' b' a1 a2 a3 a4 B' => ?_), ?_⟩
        · by_cases hq' : q' ≤ n
          · exact hq q' z' b' a1 hq' a3 a4 B'
          · have eq : q' = n + 1 := by omega
            subst eq
            rw [B'.uniq w1]
            exact hn' a3 a4
        · rw [stepF_no, hF]
          rintro ⟨c1, c2, c3⟩
          rw [fW_at (by omega), gq, hF] at c1
          have := hn' c2 c3
          simp only at c1
          omega
      walk_at "rd"
      by_cases c1 : (zq : Int) + 1 < (z : Int)
      · rw [if_pos c1]
        refine ⟨_, S, i, j, n + 1, rfl, (rx.same s2).same ua, hone, by omega, by omega, hj, fun k H3 s3 hk => ?_⟩
        dsimp only
        have s23 := s2a.trans s3
        by_cases hk1 : k = true
        · rw [if_pos hk1]
          obtain ⟨g1, g2⟩ := hk.mp hk1
          refine ⟨by omega, by omega, by decide, fun qa hqa => ⟨by decide, fun qb hqb => ⟨by decide, fun qc hqc => ?_⟩⟩⟩
          have em : ((j : Int) - (i : Int)) / ((n + 1 : Nat) : Int) = (((j - i) / (n + 1) : Nat) : Int) := by rw [Int.natCast_ediv, Int.ofNat_sub (by omega)]
          rw [em] at hqb hqc ⊢
          have ka := Same.upd (o := .tup [.str "again", .int (((j - i) / (n + 1) : Nat) : Int), y1]) hqa
          have kb := Same.upd (o := .tup [.ref qa]) hqb
          have kc := Same.upd (o := .tup [.int ((zq : Int) + 1), .ref qb]) hqc
          have ry' := (ry1.same ua).same s3
          have r3 : Rp K (upd H3 qa (.tup [.str "again", .int (((j - i) / (n + 1) : Nat) : Int), y1])) (enS (.rep ((j - i) / (n + 1)) bq)) (.ref qa) := by
            rw [enS]
            exact three_iff.mpr ⟨qa, _, _, _, rfl, SqT.of upd_same, str_iff.mpr rfl, int_iff.mpr rfl, ry'.same ka⟩
          have r4 : Rp K (upd (upd H3 qa (.tup [.str "again", .int (((j - i) / (n + 1) : Nat) : Int), y1])) qb (.tup [.ref qa])) (.tup (enL [.rep ((j - i) / (n + 1)) bq])) (.ref qb) := by
            rw [enL, enL]
            exact one_iff.mpr ⟨qb, _, rfl, SqT.of upd_same, r3.same kb⟩
          have d2 : 2 ≤ (j - i) / (n + 1) := by
            rw [Nat.le_div_iff_mul_le (by omega)]
            omega
          have d60 : (j - i) / (n + 1) ≤ 60 := Nat.le_trans (Nat.div_le_self _ _) (by omega)
          refine ⟨.ref qc, zq + 1, [.rep ((j - i) / (n + 1)) bq], _, _, _, rfl, ((s23.trans ka).trans kb).trans kc, pair_iff.mpr ⟨qc, _, _, rfl, SqT.of upd_same, int_iff.mpr (by rw [Int.natCast_add]; rfl), r4.same kc⟩, again_ex (by omega) (by omega) hj g1 g2 w1.ex, ?_, ?_, ?_, ?_, ?_, ?_⟩
          · simp only [szL, szS, w1.sz]; omega
          · simp only [gdL, gdS]; exact ⟨⟨d2, d60, w1.gd⟩, trivial⟩
          · simp only [fuL, fuS]
            refine ⟨⟨d2, ?_, w1.fu⟩, trivial⟩
            intro h0
            have := w1.ex
            rw [h0] at this
            have := congrArg List.length this
            rw [sl_len (by omega), List.length_nil] at this
            omega
          · intro m z1' b1' z2' b2' a1 a2 B1' B2'
            have := hm m z1' b1' z2' b2' a1 a2 B1' B2'
            omega
          · intro q' z' b' a1 a2 a3 a4 B'
            by_cases hq' : q' ≤ n
            · have := hq q' z' b' a1 hq' a3 a4 B'
              omega
            · have eq : q' = n + 1 := by omega
              subst eq
              rw [B'.uniq w1]
              omega
          · rw [stepF_yes ⟨by rw [fW_at (by omega), gq, hF]; show zq + 1 < z; omega, g1, g2⟩, fW_at (by omega), gq]
        · rw [if_neg hk1]
          exact stay _ s23 (fun a3 a4 => absurd (hk.mpr ⟨a3, a4⟩) hk1) ((rv.same ua).same s3)
      · rw [if_neg c1]
        exact stay _ s2a (fun _ _ => by omega) (rv.same ua)
    · rintro σ H2 ⟨v, z, b, o1, o2, o3, rfl, s2, rv, he, hz, hg, hf, hm, hq, hF⟩
      walk_at "rd"
      exact q _ z b _ s2 ⟨he, hz, hg, hf, best_of (by omega) hj hm hq hall⟩ (by rw [FF_eq (by omega)]; exact hF) rv
end
section
variable {P : Program} {w : World} {K : PySem.W.Frag} {mg : Str → Option Value} {base : Heap} {t : Adr}

theorem nt_dx {H : Hp} {d : Addr} {es : EnT} (h : H d = some (DX P w d es)) : ∀ u, H d = some u → ¬ ((∃ xs, u = .tup xs) ∨ ∃ o1 o2, u = .frz o1 o2) := fun u e => by
  rw [h] at e
  unfold DX at e
  cases e
  rintro (⟨xs, e⟩ | ⟨o1, o2, e⟩) <;> cases e
theorem lkX_app {es fs : EnT} {k : List Key} {v : V} (h : lkX es k = some v) : lkX (es ++ fs) k = some v := by
  unfold lkX at h ⊢
  obtain ⟨x, hx, e⟩ := Option.map_eq_some_iff.mp h
  rw [List.find?_append, hx]
  exact congrArg some e
theorem lkX_new {es : EnT} {k : List Key} {b : Addr} {v : V} (h : ∀ x ∈ es, x.1 ≠ k) : lkX (es ++ [(k, b, v)]) k = some v := by
  unfold lkX
  have e : es.find? (fun x => decide (x.1 = k)) = none := List.find?_eq_none.mpr fun x hx => by simpa using h x hx
  rw [List.find?_append, e]
  simp
def sp_shorter (K : PySem.W.Frag) : Sp := fun vs H Q _ => ∃ (x : V) (S : List (List L2.D)), vs = [x] ∧ Rp K H (.tup [.tup [], .tup (S.map D.tup)]) x ∧ (∀ d ∈ S, okOne d) ∧ S.length ≤ 60 ∧ ∀ v z b H', Same H H' → Best S 0 S.length z b → FF S 0 S.length = (z, b) → Rp K H' (.tup [.tup [], .tup (enL b)]) v → Q v H'
def okT (n L s : Nat) (i j : Nat) : Prop := (i = 0 ∧ j = 0) ∨ (i < j ∧ j ≤ n ∧ (j - i < L ∨ (j - i = L ∧ i < s)))
def Iv_so (P : Program) (w : World) (K : PySem.W.Frag) (x y : V) (d : Addr) (S : List (List L2.D)) (H : Hp) (n : Nat) (σ : L2.St) (H2 : Hp) : Prop := ∃ (es : EnT) (o1 o2 : Option V), σ = [some x, some y, some (.int (S.length : Int)), some (.ref d), o1, o2] ∧ Same H H2 ∧ TBx P w K H2 d S (okT S.length (n + 1) 0) es ∧ es.length ≤ 1 + 61 * n
def Iv_si (P : Program) (w : World) (K : PySem.W.Frag) (x y : V) (d : Addr) (S : List (List L2.D)) (L : Nat) (H : Hp) (n : Nat) (σ : L2.St) (H2 : Hp) : Prop := ∃ (es : EnT) (o2 : Option V), σ = [some x, some y, some (.int (S.length : Int)), some (.ref d), some (.int (L : Int)), o2] ∧ Same H H2 ∧ TBx P w K H2 d S (okT S.length L n) es ∧ es.length ≤ 1 + 61 * (L - 1) + n
theorem ok_shorter (T : Txt K mg t) : FnOk P w K mg base CX0 3 t.a_shorter t.d_shorter ["program"] (sp_shorter K) := by
  refine T.shorter.F.ok sc_shorter (fun vs H Q E h => ?_) (fun cdv A outer s H vs Q E hr h => ?_)
  · obtain ⟨x, S, rfl, _⟩ := h; rfl
  · obtain ⟨x, S, rfl, rx, hone, h60, q⟩ := h
    have hu := hr.units
    have hu1 : (A.deeper (envOfC (Str.ofString "shorter") (defScope s_shorter) s.heap.objs.size t.a_shorter cdv)).units + 1 < cLine := by omega
    obtain ⟨p, x0, y0, rfl, hp, rx0, ry0⟩ := pair_iff.mp rx
    obtain ⟨py, ys, rfl, hpy, hly⟩ := Rp_tup.mp ry0
    have yl : ys.length = S.length := by rw [hly.length, List.length_map]
    refine ⟨_, (@pss_consH _ _ _ _ _ (@ps_set _ _ (1) _ _ _ _ sc_shorter.nd rfl (Or.inl rfl) (@pe_ix _ _ _ _ _ _ _ ix_tupD (@pvD _ 0 _ _ (by rfl) (by first | exact Or.inl rfl | exact Or.inr (Or.inl rfl)) (by decide) (by decide)) (@pe_int _ _ _ _) (fun _ _ => rfl)) (by rfl) (by first | exact .inl rfl | exact .inr rfl | assumption)) (@pss_consH _ _ _ _ _ (@ps_set _ _ (2) _ _ _ _ sc_shorter.nd rfl (Or.inl rfl) (@pe_callB _ _ _ _ _ _ _ _ _ call_len_seqD (by rfl) T.z_len PySem.boot_len (@pa_cons _ _ _ _ _ (@pvD _ 1 _ _ (by rfl) (by first | exact Or.inl rfl | exact Or.inr (Or.inl rfl)) (by decide) (by decide)) (@pa_nil _) (by rfl)) (by decide) (by decide) (by rfl) (by rfl)) (by rfl) (by first | exact .inl rfl | exact .inr rfl | assumption)) (@pss_consH _ _ _ _ _ (@ps_if _ _ _ _ _ _ _ _ (@pt_cmpRD _ _ _ _ _ _ _ _ op_gtD (@pvD _ 2 _ _ (by rfl) (by first | exact Or.inl rfl | exact Or.inr (Or.inl rfl)) (by decide) (by decide)) (@pe_glob _ _ _ _ _ (by rfl) T.g_MOST_STATEMENTS T.r_MOST_STATEMENTS (by decide)) (nomark _)) (@pss_one _ _ _ (@ps_never _ _)) (@pss_nil _)) (@pss_consH _ _ _ _ _ (@ps_set _ _ (3) _ _ _ _ sc_shorter.nd rfl (Or.inl rfl) (@pe_xdispK _ _ (P) (w) (K) _ _ _ _ rfl rfl rfl hu1 (@pl_tup _ _ _ _ _ (@pls_consI _ _ _ _ _ _ (@pls_consI _ _ _ _ _ _ (@pls_nil _))) (by decide)) (@pl_tup _ _ _ _ _ (@pls_consI _ _ _ _ _ _ (@pls_consT _ _ _ _ _ _ _ (@pl_tup _ _ _ _ _ (@pls_nil _) (by decide)) (@pls_nil _))) (by decide))) (by rfl) (by first | exact .inl rfl | exact .inr rfl | assumption)) (@pss_consH _ _ _ _ _ (@ps_for _ _ _ _ _ _ _ _ PassesOwn.never rfl (@pi_range2 _ _ _ _ _ _ _ (by rfl) T.z_range (@pa_cons _ _ _ _ _ (@pe_int _ _ _ _) (@pa_cons _ _ _ _ _ (@pe_op _ _ _ _ _ _ _ _ op_addD (@pvD _ 2 _ _ (by rfl) (by first | exact Or.inl rfl | exact Or.inr (Or.inl rfl)) (by decide) (by decide)) (@pe_int _ _ _ _)) (@pa_nil _) (by rfl)) (by rfl)) (by rfl) (by rfl)) (@pg_name _ _ (4) _ sc_shorter.nd rfl (Or.inl rfl) (by first | exact .inl rfl | exact .inr rfl | assumption)) (@pss_one _ _ _ (@ps_for _ _ _ _ _ _ _ _ PassesOwn.never rfl (@pi_range1 _ _ _ _ _ _ (by rfl) T.z_range (@pa_cons _ _ _ _ _ (@pe_op _ _ _ _ _ _ _ _ op_addD (@pe_op _ _ _ _ _ _ _ _ op_subD (@pvD _ 2 _ _ (by rfl) (by first | exact Or.inl rfl | exact Or.inr (Or.inl rfl)) (by decide) (by decide)) (@pvD _ 4 _ _ (by rfl) (by first | exact Or.inl rfl | exact Or.inr (Or.inl rfl)) (by decide) (by decide))) (@pe_int _ _ _ _)) (@pa_nil _) (by rfl)) (by rfl)) (@pg_name _ _ (5) _ sc_shorter.nd rfl (Or.inl rfl) (by first | exact .inl rfl | exact .inr rfl | assumption)) (@pss_one _ _ _ (@ps_xputK _ _ _ _ _ _ _ _ _ (P) (w) (K) rfl rfl rfl hu1 (@pvD _ 3 _ _ (by rfl) (by first | exact Or.inl rfl | exact Or.inr (Or.inl rfl)) (by decide) (by decide)) (@pe_tup _ _ _ _ _ (@pa_cons _ _ _ _ _ (@pvD _ 5 _ _ (by rfl) (by first | exact Or.inl rfl | exact Or.inr (Or.inl rfl)) (by decide) (by decide)) (@pa_cons _ _ _ _ _ (@pe_op _ _ _ _ _ _ _ _ op_addD (@pvD _ 5 _ _ (by rfl) (by first | exact Or.inl rfl | exact Or.inr (Or.inl rfl)) (by decide) (by decide)) (@pvD _ 4 _ _ (by rfl) (by first | exact Or.inl rfl | exact Or.inr (Or.inl rfl)) (by decide) (by decide))) (@pa_nil _) (by rfl)) (by rfl))) (@pe_call _ _ _ _ _ _ _ _ _ _ _ _ _ _ _ _ (ok_shortest T) (hr.mono (by decide)) (by rfl) T.shortest.m T.shortest.F.kp T.shortest.b .nil pass0 (@pa_cons _ _ _ _ _ (@pvD _ 1 _ _ (by rfl) (by first | exact Or.inl rfl | exact Or.inr (Or.inl rfl)) (by decide) (by decide)) (@pa_cons _ _ _ _ _ (@pvD _ 5 _ _ (by rfl) (by first | exact Or.inl rfl | exact Or.inr (Or.inl rfl)) (by decide) (by decide)) (@pa_cons _ _ _ _ _ (@pe_op _ _ _ _ _ _ _ _ op_addD (@pvD _ 5 _ _ (by rfl) (by first | exact Or.inl rfl | exact Or.inr (Or.inl rfl)) (by decide) (by decide)) (@pvD _ 4 _ _ (by rfl) (by first | exact Or.inl rfl | exact Or.inr (Or.inl rfl)) (by decide) (by decide))) (@pa_cons _ _ _ _ _ (@pvD _ 3 _ _ (by rfl) (by first | exact Or.inl rfl | exact Or.inr (Or.inl rfl)) (by decide) (by decide)) (@pa_nil _) (by rfl)) (by rfl)) (by rfl)) (by rfl)) (by decide) (by rfl) (by rfl)) (by rfl))) (by intro _; rfl))) (by intro _; rfl)) (@pss_one _ _ _ (@ps_ret _ _ _ _ (@pe_tup _ _ _ _ _ (@pa_consT _ _ _ _ _ _ _ (@pl_tup _ _ _ _ _ (@pls_nil _) (by decide)) (@pa_cons _ _ _ _ _ (@pe_ix _ _ _ _ _ _ _ ix_tupD (@pe_xgetK _ _ _ _ _ _ (P) (w) (K) rfl rfl rfl hu1 (@pvD _ 3 _ _ (by rfl) (by first | exact Or.inl rfl | exact Or.inr (Or.inl rfl)) (by decide) (by decide)) (@pe_tup _ _ _ _ _ (@pa_cons _ _ _ _ _ (@pe_int _ _ _ _) (@pa_cons _ _ _ _ _ (@pvD _ 2 _ _ (by rfl) (by first | exact Or.inl rfl | exact Or.inr (Or.inl rfl)) (by decide) (by decide)) (@pa_nil _) (by rfl)) (by rfl))) (fun _ _ => rfl)) (@pe_int _ _ _ _) (fun _ _ => rfl)) (@pa_nil _) (by rfl))))))))))), ?_⟩
    walk_at "rh"
    refine ⟨_, hp, _, rfl, ?_⟩
    walk_at "rh"
    refine ⟨_, .inr hpy, ?_⟩
    rw [yl]
    walk_at "rh"
    have eM : t.v_MOST_STATEMENTS = .int 60 := by have := T.k_MOST_STATEMENTS H; rw [D_MOST_STATEMENTS, Rp] at this; exact this
    rw [eM]
    walk_at "rh"
    rw [if_neg (by omega)]
    walk_at "rh"
    refine fun d hd v1 H1 s1 r1 v2 H2 s2 r2 => ?_
    have u0 := Same.upd (o := DX P w d []) hd
    have hd2 := s2 _ _ (s1 _ _ (upd_same (H := H) (a := d) (o := DX P w d [])))
    have s02 := (u0.trans s1).trans s2
    obtain ⟨pk, k1, k2, rfl, hpk, rk1, rk2⟩ := pair_iff.mp (r1.same s2)
    rw [int_iff] at rk1 rk2
    subst rk1 rk2
    refine ⟨hd2, [.inl 0, .inl 0], hpk, ?_⟩
    have tt : SameT H2 (upd H2 d (DX P w d [([.inl 0, .inl 0], pk, v2)])) := (SameT.refl _).upd (nt_dx hd2)
    have Bz : TBx P w K (upd H2 d (DX P w d [([.inl 0, .inl 0], pk, v2)])) d S (okT S.length 1 0) [([.inl 0, .inl 0], pk, v2)] := by
      refine ⟨upd_same, fun x hx => ?_, fun x hx => ?_, fun i j h => ?_⟩
      · rw [List.mem_singleton.mp hx]; exact tt.tup hpk
      · rw [List.mem_singleton.mp hx]; exact ⟨0, 0, rfl, .inl ⟨rfl, rfl⟩⟩
      · rcases h with ⟨rfl, rfl⟩ | ⟨h1, h2, h3⟩
        · exact ⟨v2, 0, [], rfl, by rw [enL]; exact Rp.t tt r2, best_nil S, FF_nil⟩
        · omega
    have sz : Same H (upd H2 d (DX P w d [([.inl 0, .inl 0], pk, v2)])) := s02.upd2 hd
    generalize upd H2 d (DX P w d [([.inl 0, .inl 0], pk, v2)]) = H3 at Bz sz ⊢
    clear tt s02 u0 s1 s2 hpk hd2 r1 r2
    walk_at "rh"
    refine ⟨by decide, by decide, by omega, by omega, ?_⟩
    rw [show ((S.length : Int) + 1 - 1).toNat = S.length by omega]
    refine FW_range (Iv_so P w K (.ref p) (.ref py) d S H) ⟨_, none, none, rfl, sz, Bz, by simp⟩ ?_ ?_
    · rintro n σ H4 hn ⟨es, o1, o2, rfl, s4, B4, l4⟩
      have en : (1 : Int) + (n : Int) = ((n + 1 : Nat) : Int) := by omega
      walk_at "rd"
      rw [en]
      refine ⟨by omega, by omega, ?_⟩
      rw [show ((S.length : Int) - ((n + 1 : Nat) : Int) + 1).toNat = S.length - n by omega]
      refine FW_range (Iv_si P w K (.ref p) (.ref py) d S (n + 1) H) ⟨es, _, rfl, s4, B4, by omega⟩ ?_ ?_
      · rintro m σ H5 hm ⟨es5, o2', rfl, s5, B5, l5⟩
        have em : (0 : Int) + (m : Int) = (m : Int) := by omega
        have em2 : (m : Int) + ((n + 1 : Nat) : Int) = ((m + (n + 1) : Nat) : Int) := by omega
        walk_at "rd"
        rw [em, em2]
        refine ⟨.ref py, S, m, m + (n + 1), d, _, es5, rfl, Rp_tup.mpr ⟨py, ys, rfl, s5.tup hpy, hly.same s5⟩, hone, by omega, by omega, h60, B5, fun i' j' a1 a2 a3 a4 => .inr ⟨a2, by omega, .inl (by omega)⟩, fun v z b H6 s6 Bm gm r6 => ?_⟩
        refine ⟨by decide, fun pk' hpk' => ?_⟩
        have uk := Same.upd (o := .tup [.int (m : Int), .int ((m + (n + 1) : Nat) : Int)]) hpk'
        have B7 := (B5.same s6).same uk
        have s7 := (s5.trans s6).trans uk
        have r7 := r6.same uk
        have hk7 : SqT K (upd H6 pk' (.tup [.int (m : Int), .int ((m + (n + 1) : Nat) : Int)])) pk' [.int (m : Int), .int ((m + (n + 1) : Nat) : Int)] := SqT.of upd_same
        generalize upd H6 pk' (.tup [.int (m : Int), .int ((m + (n + 1) : Nat) : Int)]) = H7 at B7 s7 r7 hk7 ⊢
        have new : ∀ x ∈ es5, x.1 ≠ [.inl (m : Int), .inl ((m + (n + 1) : Nat) : Int)] := by
          intro x hx e
          obtain ⟨i, j, e', h⟩ := B7.dom x hx
          rw [e'] at e
          injection e with a1 a2
          injection a2 with a2 _
          injection a1 with a1
          injection a2 with a2
          have b1 : i = m := by omega
          have b2 : j = m + (n + 1) := by omega
          subst b1 b2
          rcases h with h | h <;> omega
        refine ⟨es5, B7.h, B7.ks, [.inl (m : Int), .inl ((m + (n + 1) : Nat) : Int)], hk7, new, Nat.le_of_lt (Nat.lt_of_le_of_lt (show es5.length ≤ 10000 by omega) (by decide)), ?_⟩
        have tt : SameT H7 (upd H7 d (DX P w d (es5 ++ [([.inl (m : Int), .inl ((m + (n + 1) : Nat) : Int)], pk', v)]))) := (SameT.refl _).upd (nt_dx B7.h)
        refine ⟨_, _, rfl, s7.upd2 hd, ⟨upd_same, fun x hx => ?_, fun x hx => ?_, fun i j h => ?_⟩, by rw [List.length_append, List.length_singleton]; omega⟩
        · rcases List.mem_append.mp hx with hx | hx
          · exact tt.tup (B7.ks x hx)
          · rw [List.mem_singleton.mp hx]; exact tt.tup hk7
        · rcases List.mem_append.mp hx with hx | hx
          · obtain ⟨i, j, e', h⟩ := B7.dom x hx
            exact ⟨i, j, e', h.imp id fun h => ⟨h.1, h.2.1, h.2.2.imp id fun h => ⟨h.1, by omega⟩⟩⟩
          · rw [List.mem_singleton.mp hx]
            exact ⟨m, m + (n + 1), rfl, .inr ⟨by omega, by omega, .inr ⟨by omega, by omega⟩⟩⟩
        · by_cases hnew : i = m ∧ j = m + (n + 1)
          · obtain ⟨rfl, rfl⟩ := hnew
            exact ⟨v, z, b, lkX_new new, Rp.t tt r7, Bm, gm⟩
          · have h' : okT S.length (n + 1) m i j := by
              rcases h with h | ⟨h1, h2, h3⟩
              · exact .inl h
              · refine .inr ⟨h1, h2, ?_⟩
                rcases h3 with h3 | h3
                · exact .inl h3
                · exact .inr ⟨h3.1, by omega⟩
            obtain ⟨v', z', b', e', r', q'⟩ := B7.val i j h'
            exact ⟨v', z', b', lkX_app e', Rp.t tt r', q'⟩
      · rintro σ H5 ⟨es5, o2', rfl, s5, B5, l5⟩
        refine ⟨es5, _, _, rfl, s5, ⟨B5.h, B5.ks, fun x hx => ?_, fun i j h => B5.val i j ?_⟩, by omega⟩
        · obtain ⟨i, j, e', h⟩ := B5.dom x hx
          refine ⟨i, j, e', ?_⟩
          rcases h with h | ⟨h1, h2, h3⟩
          · exact .inl h
          · exact .inr ⟨h1, h2, .inl (by omega)⟩
        · rcases h with h | ⟨h1, h2, h3⟩
          · exact .inl h
          · refine .inr ⟨h1, h2, ?_⟩
            by_cases c : j - i < n + 1
            · exact .inl c
            · exact .inr ⟨by omega, by omega⟩
    · rintro σ H4 ⟨es, o1, o2, rfl, s4, B4, l4⟩
      have okn : okT S.length (S.length + 1) 0 0 S.length := by
        by_cases h : S.length = 0
        · exact .inl ⟨rfl, h⟩
        · exact .inr ⟨by omega, Nat.le_refl _, .inl (by omega)⟩
      walk_at "rh"
      walk_at "rh"
      intro v5 H5 s5 r5
      walk_at "rd"
      refine ⟨by decide, fun pk' hpk' => ?_⟩
      have uk := Same.upd (o := .tup [.int 0, .int (S.length : Int)]) hpk'
      have B7 := (B4.same s5).same uk
      obtain ⟨v, z, b, e, r, Bm, gm⟩ := B7.val _ _ okn
      obtain ⟨pv, x2, y2, rfl, h2', rx2, ry2⟩ := pair_iff.mp r
      refine ⟨es, B7.h, B7.ks, [.inl 0, .inl (S.length : Int)], SqT.of upd_same, _, e, ?_⟩
      walk_at "rd"
      refine ⟨_, h2', _, rfl, by decide, fun pr hpr => ?_⟩
      have ur := Same.upd (o := .tup [v5, y2]) hpr
      exact q _ z b _ (((s4.trans s5).trans uk).trans ur) Bm gm (pair_iff.mpr ⟨pr, _, _, rfl, SqT.of upd_same, (r5.same uk).same ur, ry2.same ur⟩)
end
section
variable {P : Program} {w : World} {K : PySem.W.Frag} {mg : Str → Option Value} {base : Heap} {t : Adr}

theorem ok_ones : (∀ t : Tr, gdS t → ∀ d ∈ exS t, okOne d) ∧ ∀ b : List Tr, gdL b → ∀ d ∈ exL b, okOne d := by
  have key : ∀ n : Nat, (∀ t : Tr, szS t ≤ n → gdS t → ∀ d ∈ exS t, okOne d) ∧ ∀ b : List Tr, szL b ≤ n → gdL b → ∀ d ∈ exL b, okOne d := by
    intro n
    induction n with
    | zero =>
      refine ⟨fun t h => by have := szS_pos t; omega, fun b h _ d hd => ?_⟩
      cases b with
      | nil => rw [exL] at hd; cases hd
      | cons t ts => rw [szL] at h; have := szS_pos t; omega
    | succ n ih =>
      have hS : ∀ t : Tr, szS t ≤ n + 1 → gdS t → ∀ d ∈ exS t, okOne d := by
        intro t h g d hd
        cases t with
        | one e => rw [exS, List.mem_singleton] at hd; rw [hd]; rw [gdS] at g; exact g
        | rep k b =>
          rw [szS] at h
          rw [gdS] at g
          rw [exS, List.mem_flatten] at hd
          obtain ⟨l, hl, hd⟩ := hd
          rw [List.eq_of_mem_replicate hl] at hd
          exact ih.2 b (by omega) g.2.2 d hd
      refine ⟨hS, fun b => ?_⟩
      induction b with
      | nil => intro _ _ d hd; rw [exL] at hd; cases hd
      | cons t ts iht =>
        intro h g d hd
        rw [szL] at h
        rw [gdL] at g
        rw [exL] at hd
        rcases List.mem_append.mp hd with hd | hd
        · exact hS t (by omega) g.1 d hd
        · exact iht (by have := szS_pos t; omega) g.2 d hd
  exact ⟨fun t g => (key (szS t)).1 t (Nat.le_refl _) g, fun b g => (key (szL b)).2 b (Nat.le_refl _) g⟩
theorem dep_en : ∀ b : List Tr, gdL b → depL (enL b) ≤ 2 * dpL b + 1 := by
  have key : ∀ n : Nat, (∀ t : Tr, szS t ≤ n → gdS t → dep (enS t) ≤ 2 * dpS t + 1) ∧ ∀ b : List Tr, szL b ≤ n → gdL b → depL (enL b) ≤ 2 * dpL b + 1 := by
    intro n
    induction n with
    | zero =>
      refine ⟨fun t h => by have := szS_pos t; omega, fun b h _ => ?_⟩
      cases b with
      | nil => simp [enL, depL]
      | cons t ts => rw [szL] at h; have := szS_pos t; omega
    | succ n ih =>
      have hS : ∀ t : Tr, szS t ≤ n + 1 → gdS t → dep (enS t) ≤ 2 * dpS t + 1 := by
        intro t h g
        cases t with
        | one e => rw [gdS] at g; rw [enS]; have := dep_one g; omega
        | rep k b =>
          rw [szS] at h
          rw [gdS] at g
          have := ih.2 b (by omega) g.2.2
          rw [enS, dpS]
          simp only [dep, depL]
          omega
      refine ⟨hS, fun b => ?_⟩
      induction b with
      | nil => intro _ _; simp [enL, depL]
      | cons t ts iht =>
        intro h g
        rw [szL] at h
        rw [gdL] at g
        rw [enL, depL, dpL]
        have := hS t (by omega) g.1
        have := iht (by have := szS_pos t; omega) g.2
        omega
  exact fun b g => (key (szL b)).2 b (Nat.le_refl _) g
theorem while_nx {c : TT} {tb : TS} {D : Ends} {σ : L2.St} {H : Hp} (Pv : L2.St → Hp → Prop) (key : ∀ NX : L2.St → Hp → Prop, (∀ σ H, Pv σ H → NX σ H) → tWhile c tb { D with nx := NX } σ H) (ex : ∀ σ H, Pv σ H → D.nx σ H) : tWhile c tb D σ H := key D.nx ex
def sp_law (K : PySem.W.Frag) : Sp := fun vs H Q _ => ∃ (a : Addr) (ns : List Int), vs = [.ref a] ∧ SqL K H a (ns.map V.int) ∧ ns.length ≤ 63 ∧ ∀ H', Q (.bl true) H'
def Iv_lw (K : PySem.W.Frag) (a l : Addr) (σ : L2.St) (H2 : Hp) : Prop := ∃ (v : V) (b : List Tr) (ms : List Int), σ = [some (.ref a), some (.ref l), some v, none, none] ∧ H2 l = some (.lst (ms.map V.int)) ∧ dk ms ∧ Rp K H2 (.tup (enL b)) v ∧ gdL b ∧ dpL b ≤ 4 ∧ (exL b).length ≤ 60 ∧ b.length ≤ 1000
def mu_lw (l : Addr) (σ : L2.St) (H2 : Hp) : Nat := match H2 l with | some (.lst xs) => xs.length | _ => 0
theorem ok_law (T : Txt K mg t) : FnOk P w K mg base CX0 14 t.a_law t.d_law ["_law_script"] (sp_law K) := by
  refine T.law.F.ok sc_law (fun vs H Q E h => ?_) (fun cdv A outer s H vs Q E hr h => ?_)
  · obtain ⟨a, ns, rfl, _⟩ := h; rfl
  · obtain ⟨a, ns, rfl, hS, hl, q⟩ := h
    have hu := hr.units
    refine ⟨_, (@pss_consH _ _ _ _ _ (@ps_set _ _ (1) _ _ _ _ sc_law.nd rfl (Or.inl rfl) (@pe_call _ _ _ _ _ _ _ _ _ _ _ _ _ _ _ _ (ok_Ldeck T) (hr.mono (by decide)) (by rfl) T.Ldeck.m T.Ldeck.F.kp T.Ldeck.b .nil pass0 (@pa_cons _ _ _ _ _ (@pvD _ 0 _ _ (by rfl) (by first | exact Or.inl rfl | exact Or.inr (Or.inl rfl)) (by decide) (by decide)) (@pa_cons _ _ _ _ _ (@pe_int _ _ _ _) (@pa_nil _) (by rfl)) (by rfl)) (by decide) (by rfl) (by rfl)) (by rfl) (by first | exact .inl rfl | exact .inr rfl | assumption)) (@pss_consH _ _ _ _ _ (@ps_set _ _ (2) _ _ _ _ sc_law.nd rfl (Or.inl rfl) (@pl_tup _ _ _ _ _ (@pls_nil _) (by decide)) (by rfl) (by first | exact .inl rfl | exact .inr rfl | assumption)) (@pss_consH _ _ _ _ _ (@ps_while _ _ _ _ _ _ PassesOwn.never (@PW.pt _ _ _ (@pw_and _ _ _ _ _ _ _ (@pt_cmpRD _ _ _ _ _ _ _ _ op_gtD (@pe_callB _ _ _ _ _ _ _ _ _ call_len_seqD (by rfl) T.z_len PySem.boot_len (@pa_cons _ _ _ _ _ (@pvD _ 1 _ _ (by rfl) (by first | exact Or.inl rfl | exact Or.inr (Or.inl rfl)) (by decide) (by decide)) (@pa_nil _) (by rfl)) (by decide) (by decide) (by rfl) (by rfl)) (@pe_int _ _ _ _) (nomark _)) (@pw_and _ _ _ _ _ _ _ (@pt_cmpRD _ _ _ _ _ _ _ _ op_ltD (@pe_callB _ _ _ _ _ _ _ _ _ call_len_seqD (by rfl) T.z_len PySem.boot_len (@pa_cons _ _ _ _ _ (@pe_call _ _ _ _ _ _ _ _ _ _ _ _ _ _ _ _ (ok_Lput T) (hr.mono (by decide)) (by rfl) T.Lput.m T.Lput.F.kp T.Lput.b .nil pass0 (@pa_cons _ _ _ _ _ (@pvD _ 2 _ _ (by rfl) (by first | exact Or.inl rfl | exact Or.inr (Or.inl rfl)) (by decide) (by decide)) (@pa_cons _ _ _ _ _ (@pe_int _ _ _ _) (@pa_nil _) (by rfl)) (by rfl)) (by decide) (by rfl) (by rfl)) (@pa_nil _) (by rfl)) (by decide) (by decide) (by rfl) (by rfl)) (@pe_int _ _ _ _) (nomark _)) (@pw_and1 _ _ _ _ (@pt_cmpRD _ _ _ _ _ _ _ _ op_ltD (@pe_callB _ _ _ _ _ _ _ _ _ call_len_seqD (by rfl) T.z_len PySem.boot_len (@pa_cons _ _ _ _ _ (@pvD _ 2 _ _ (by rfl) (by first | exact Or.inl rfl | exact Or.inr (Or.inl rfl)) (by decide) (by decide)) (@pa_nil _) (by rfl)) (by decide) (by decide) (by rfl) (by rfl)) (@pe_int _ _ _ _) (nomark _)))))) (@pss_one _ _ _ (@ps_set _ _ (2) _ _ _ _ sc_law.nd rfl (Or.inl rfl) (@pe_op _ _ _ _ _ _ _ _ op_catDD (@pvD _ 2 _ _ (by rfl) (by first | exact Or.inl rfl | exact Or.inr (Or.inl rfl)) (by decide) (by decide)) (@pe_call _ _ _ _ _ _ _ _ _ _ _ _ _ _ _ _ (ok_Lagainbody T) (hr.mono (by decide)) (by rfl) T.Lagainbody.m T.Lagainbody.F.kp T.Lagainbody.b .nil pass0 (@pa_cons _ _ _ _ _ (@pvD _ 1 _ _ (by rfl) (by first | exact Or.inl rfl | exact Or.inr (Or.inl rfl)) (by decide) (by decide)) (@pa_cons _ _ _ _ _ (@pe_op _ _ _ _ _ _ _ _ op_subD (@pe_int _ _ _ _) (@pe_callB _ _ _ _ _ _ _ _ _ call_len_seqD (by rfl) T.z_len PySem.boot_len (@pa_cons _ _ _ _ _ (@pe_call _ _ _ _ _ _ _ _ _ _ _ _ _ _ _ _ (ok_Lput T) (hr.mono (by decide)) (by rfl) T.Lput.m T.Lput.F.kp T.Lput.b .nil pass0 (@pa_cons _ _ _ _ _ (@pvD _ 2 _ _ (by rfl) (by first | exact Or.inl rfl | exact Or.inr (Or.inl rfl)) (by decide) (by decide)) (@pa_cons _ _ _ _ _ (@pe_int _ _ _ _) (@pa_nil _) (by rfl)) (by rfl)) (by decide) (by rfl) (by rfl)) (@pa_nil _) (by rfl)) (by decide) (by decide) (by rfl) (by rfl))) (@pa_cons _ _ _ _ _ (@pe_int _ _ _ _) (@pa_nil _) (by rfl)) (by rfl)) (by rfl)) (by decide) (by rfl) (by rfl))) (by rfl) (by first | exact .inl rfl | exact .inr rfl | assumption)))) (@pss_consH _ _ _ _ _ (@ps_set _ _ (3) _ _ _ _ sc_law.nd rfl (Or.inl rfl) (@pe_call _ _ _ _ _ _ _ _ _ _ _ _ _ _ _ _ (ok_Lput T) (hr.mono (by decide)) (by rfl) T.Lput.m T.Lput.F.kp T.Lput.b .nil pass0 (@pa_cons _ _ _ _ _ (@pvD _ 2 _ _ (by rfl) (by first | exact Or.inl rfl | exact Or.inr (Or.inl rfl)) (by decide) (by decide)) (@pa_cons _ _ _ _ _ (@pe_int _ _ _ _) (@pa_nil _) (by rfl)) (by rfl)) (by decide) (by rfl) (by rfl)) (by rfl) (by first | exact .inl rfl | exact .inr rfl | assumption)) (@pss_consH _ _ _ _ _ (@ps_set _ _ (4) _ _ _ _ sc_law.nd rfl (Or.inl rfl) (@pe_call _ _ _ _ _ _ _ _ _ _ _ _ _ _ _ _ (ok_shorter T) (hr.mono (by decide)) (by rfl) T.shorter.m T.shorter.F.kp T.shorter.b .nil pass0 (@pa_consT _ _ _ _ _ _ _ (@pe_tup _ _ _ _ _ (@pa_consT _ _ _ _ _ _ _ (@pl_tup _ _ _ _ _ (@pls_nil _) (by decide)) (@pa_cons _ _ _ _ _ (@pvD _ 3 _ _ (by rfl) (by first | exact Or.inl rfl | exact Or.inr (Or.inl rfl)) (by decide) (by decide)) (@pa_nil _) (by rfl)))) (@pa_nil _)) (by decide) (by rfl) (by rfl)) (by rfl) (by first | exact .inl rfl | exact .inr rfl | assumption)) (@pss_consH _ _ _ _ _ (@ps_if _ _ _ _ _ _ _ _ (@PW.pt _ _ _ (@pw_or _ _ _ _ _ _ _ (@pt_not _ _ _ _ (@pt_valD _ _ _ (@pe_callB _ _ _ _ _ _ _ _ _ (call_isiXD (c := .type "tuple")) (by rfl) T.z_isinstance boot_isinstance (@pa_cons _ _ _ _ _ (@pvD _ 4 _ _ (by rfl) (by first | exact Or.inl rfl | exact Or.inr (Or.inl rfl)) (by decide) (by decide)) (@pa_cons _ _ _ _ _ (@pe_bltn _ _ (.ty "tuple") _ _ (by rfl) T.z_tuple boot_tuple rfl (by decide) (by decide)) (@pa_nil _) (by rfl)) (by rfl)) (by decide) (by decide) (by rfl) (by rfl)) (by intro _; rfl))) (@pw_or _ _ _ _ _ _ _ (@pt_cmpRD _ _ _ _ _ _ _ _ op_neD (@pe_callB _ _ _ _ _ _ _ _ _ call_len_seqD (by rfl) T.z_len PySem.boot_len (@pa_cons _ _ _ _ _ (@pvD _ 4 _ _ (by rfl) (by first | exact Or.inl rfl | exact Or.inr (Or.inl rfl)) (by decide) (by decide)) (@pa_nil _) (by rfl)) (by decide) (by decide) (by rfl) (by rfl)) (@pe_int _ _ _ _) (nomark _)) (@pw_or _ _ _ _ _ _ _ (@pt_cmpRD _ _ _ _ _ _ _ _ (op_neS hu) (@pe_ix _ _ _ _ _ _ _ ix_tupD (@pvD _ 4 _ _ (by rfl) (by first | exact Or.inl rfl | exact Or.inr (Or.inl rfl)) (by decide) (by decide)) (@pe_int _ _ _ _) (fun _ _ => rfl)) (@pl_tup _ _ _ _ _ (@pls_nil _) (by decide)) (nomark _)) (@pw_or1 _ _ _ _ (@pt_not _ _ _ _ (@pt_valD _ _ _ (@pe_call _ _ _ _ _ _ _ _ _ _ _ _ _ _ _ _ (ok_Lisbody T) (hr.mono (by decide)) (by rfl) T.Lisbody.m T.Lisbody.F.kp T.Lisbody.b .nil pass0 (@pa_cons _ _ _ _ _ (@pe_ix _ _ _ _ _ _ _ ix_tupD (@pvD _ 4 _ _ (by rfl) (by first | exact Or.inl rfl | exact Or.inr (Or.inl rfl)) (by decide) (by decide)) (@pe_int _ _ _ _) (fun _ _ => rfl)) (@pa_cons _ _ _ _ _ (@pe_int _ _ _ _) (@pa_nil _) (by rfl)) (by rfl)) (by decide) (by rfl) (by rfl)) (by intro _; rfl)))))))) (@pss_one _ _ _ (@ps_ret _ _ _ _ (@pe_bl _ _ _ _))) (@pss_nil _)) (@pss_consH _ _ _ _ _ (@ps_if _ _ _ _ _ _ _ _ (@PW.pt _ _ _ (@pw_or _ _ _ _ _ _ _ (@pt_cmpRD _ _ _ _ _ _ _ _ (op_neS hu) (@pe_call _ _ _ _ _ _ _ _ _ _ _ _ _ _ _ _ (ok_Lput T) (hr.mono (by decide)) (by rfl) T.Lput.m T.Lput.F.kp T.Lput.b .nil pass0 (@pa_cons _ _ _ _ _ (@pe_ix _ _ _ _ _ _ _ ix_tupD (@pvD _ 4 _ _ (by rfl) (by first | exact Or.inl rfl | exact Or.inr (Or.inl rfl)) (by decide) (by decide)) (@pe_int _ _ _ _) (fun _ _ => rfl)) (@pa_cons _ _ _ _ _ (@pe_int _ _ _ _) (@pa_nil _) (by rfl)) (by rfl)) (by decide) (by rfl) (by rfl)) (@pvD _ 3 _ _ (by rfl) (by first | exact Or.inl rfl | exact Or.inr (Or.inl rfl)) (by decide) (by decide)) (nomark _)) (@pw_or1 _ _ _ _ (@pt_cmpRD _ _ _ _ _ _ _ _ op_gtD (@pe_call _ _ _ _ _ _ _ _ _ _ _ _ _ _ _ _ (ok_Lsize T) (hr.mono (by decide)) (by rfl) T.Lsize.m T.Lsize.F.kp T.Lsize.b .nil pass0 (@pa_cons _ _ _ _ _ (@pe_ix _ _ _ _ _ _ _ ix_tupD (@pvD _ 4 _ _ (by rfl) (by first | exact Or.inl rfl | exact Or.inr (Or.inl rfl)) (by decide) (by decide)) (@pe_int _ _ _ _) (fun _ _ => rfl)) (@pa_nil _) (by rfl)) (by decide) (by rfl) (by rfl)) (@pe_call _ _ _ _ _ _ _ _ _ _ _ _ _ _ _ _ (ok_Lsize T) (hr.mono (by decide)) (by rfl) T.Lsize.m T.Lsize.F.kp T.Lsize.b .nil pass0 (@pa_cons _ _ _ _ _ (@pvD _ 2 _ _ (by rfl) (by first | exact Or.inl rfl | exact Or.inr (Or.inl rfl)) (by decide) (by decide)) (@pa_nil _) (by rfl)) (by decide) (by rfl) (by rfl)) (nomark _))))) (@pss_one _ _ _ (@ps_ret _ _ _ _ (@pe_bl _ _ _ _))) (@pss_nil _)) (@pss_one _ _ _ (@ps_ret _ _ _ _ (@pe_andD _ _ _ _ _ _ _ (@pe_cmpR _ _ _ _ _ _ _ _ (op_eqS hu) (@pe_call _ _ _ _ _ _ _ _ _ _ _ _ _ _ _ _ (ok_shorter T) (hr.mono (by decide)) (by rfl) T.shorter.m T.shorter.F.kp T.shorter.b .nil pass0 (@pa_consT _ _ _ _ _ _ _ (@pe_tup _ _ _ _ _ (@pa_consT _ _ _ _ _ _ _ (@pl_tup _ _ _ _ _ (@pls_nil _) (by decide)) (@pa_cons _ _ _ _ _ (@pvD _ 3 _ _ (by rfl) (by first | exact Or.inl rfl | exact Or.inr (Or.inl rfl)) (by decide) (by decide)) (@pa_nil _) (by rfl)))) (@pa_nil _)) (by decide) (by rfl) (by rfl)) (@pvD _ 4 _ _ (by rfl) (by first | exact Or.inl rfl | exact Or.inr (Or.inl rfl)) (by decide) (by decide)) (nomark _)) (@pe_one _ _ _ _ _ (@pe_cmpR _ _ _ _ _ _ _ _ (op_eqS hu) (@pe_call _ _ _ _ _ _ _ _ _ _ _ _ _ _ _ _ (ok_shorter T) (hr.mono (by decide)) (by rfl) T.shorter.m T.shorter.F.kp T.shorter.b .nil pass0 (@pa_consT _ _ _ _ _ _ _ (@pl_tup _ _ _ _ _ (@pls_consT _ _ _ _ _ _ _ (@pl_tup _ _ _ _ _ (@pls_nil _) (by decide)) (@pls_consT _ _ _ _ _ _ _ (@pl_tup _ _ _ _ _ (@pls_nil _) (by decide)) (@pls_nil _))) (by decide)) (@pa_nil _)) (by decide) (by rfl) (by rfl)) (@pl_tup _ _ _ _ _ (@pls_consT _ _ _ _ _ _ _ (@pl_tup _ _ _ _ _ (@pls_nil _) (by decide)) (@pls_consT _ _ _ _ _ _ _ (@pl_tup _ _ _ _ _ (@pls_nil _) (by decide)) (@pls_nil _))) (by decide)) (nomark _))))))))))))), ?_⟩
    walk_at "rh"
    refine ⟨a, ns, rfl, hS, hl, fun l ms H1 s1 hl1 h1 d1 => ?_⟩
    walk_at "rh"
    intro v0 H2 s2 r2
    walk_at "rh"
    refine while_nx (Iv_lw K a l) (fun NX hNX => while_m (Iv_lw K a l) (mu_lw l) ⟨v0, [], ms, rfl, s2 _ _ h1, d1, by rw [enL]; exact r2, by simp [gdL], by simp [dpL], by simp [exL], by simp⟩ ?_) ?_
    · rintro σ H3 ⟨v, b, m3, rfl, h3, d3, r3, gb, db, xb, bl⟩
      walk_at "rd"
      refine ⟨_, .inl (SqL.of h3), ?_⟩
      rw [List.length_map]
      by_cases c1 : (0 : Int) < m3.length
      · rw [if_pos c1]
        refine ⟨_, b, rfl, by omega, gb, xb, r3, fun v4 H4 s4 r4 => ?_⟩
        obtain ⟨p4, y4, rfl, h4, l4⟩ := Rp_tup.mp r4
        walk_at "rd"
        refine ⟨_, .inr h4, ?_⟩
        have r34 := r3.same s4
        have h34 := s4 _ _ h3
        have yl : y4.length = (exL b).length := by rw [l4.length, List.length_map]
        obtain ⟨pv, xs, rfl, hpv, hlv⟩ := Rp_tup.mp r34
        have xl : xs.length = b.length := by rw [hlv.length, enL_length]
        by_cases c2 : (y4.length : Int) < 48
        · rw [if_pos c2]
          walk_at "rd"
          refine ⟨_, .inr hpv, ?_⟩
          by_cases c3 : (xs.length : Int) < 12
          · rw [if_pos c3]
            refine ⟨fun σ' H' => mu_lw l σ' H' < mu_lw l [some (.ref a), some (.ref l), some (.ref pv), none, none] H3 ∧ Iv_lw K a l σ' H', fun σ' H' z => ⟨_, z.1, rfl, z.2⟩, ?_⟩
            refine ⟨_, b, rfl, by omega, gb, xb, r34, fun v5 H5 s5 r5 => ?_⟩
            obtain ⟨p5, y5, rfl, h5, l5⟩ := Rp_tup.mp r5
            have yl5 : y5.length = (exL b).length := by rw [l5.length, List.length_map]
            walk_at "rd"
            refine ⟨_, .inr h5, ?_⟩
            rw [yl5]
            have h35 := s5 _ _ h34
            refine ⟨l, m3, _, _, rfl, h35, d3, by omega, by decide, by decide, by decide, fun vb bb m6 H6 rb gbb dbb xbb b9 hlt f6 => ?_⟩
            refine ⟨_, Rp.t f6.st (r34.same s5), _, rb, ?_, fun v7 H7 s7 r7 => ?_⟩
            · rw [enL_length, enL_length]; exact Nat.le_of_lt (small1000 (by omega))
            · have h37 := s7 _ _ f6.h
              have hlt' := hlt (by rintro rfl; simp at c1)
              refine ⟨?_, v7, b ++ bb, m6, rfl, h37, f6.d, by rw [enL_app]; exact r7, gdL_app _ _ gb gbb, ?_, ?_, ?_⟩
              · unfold mu_lw; rw [h37, h3]; simpa using hlt'
              · rw [dpL_app]; simp at dbb; omega
              · rw [exL_app, List.length_append]; omega
              · rw [List.length_append]; omega
          · rw [if_neg c3]
            exact hNX _ _ ⟨_, b, m3, rfl, h34, d3, r34, gb, db, xb, bl⟩
        · rw [if_neg c2]
          exact hNX _ _ ⟨_, b, m3, rfl, h34, d3, r34, gb, db, xb, bl⟩
      · rw [if_neg c1]
        exact hNX _ _ ⟨_, b, m3, rfl, h3, d3, r3, gb, db, xb, bl⟩
    · rintro σ H3 ⟨v, b, m3, rfl, h3, d3, r3, gb, db, xb, bl⟩
      walk_at "rh"
      refine ⟨_, b, rfl, by omega, gb, xb, r3, fun v4 H4 s4 r4 => ?_⟩
      have r34 := r3.same s4
      have ones := ok_ones.2 b gb
      generalize hS' : exL b = S at r4 xb ones
      walk_at "rh"
      walk_at "rh"
      intro v5 H5 s5 r5
      walk_at "rh"
      refine ⟨by decide, fun p6 hp6 => ?_⟩
      have u6 := Same.upd (o := .tup [v5, v4]) hp6
      have r6 : Rp K (upd H5 p6 (.tup [v5, v4])) (.tup [.tup [], .tup (S.map D.tup)]) (.ref p6) := pair_iff.mpr ⟨p6, _, _, rfl, SqT.of upd_same, r5.same u6, (r4.same s5).same u6⟩
      refine ⟨_, S, rfl, r6, ones, xb, fun vf z bf H7 s7 Bf gf rf => ?_⟩
      have s47 := (s5.trans u6).trans s7
      have r37 := r34.same s47
      have r47 := r4.same s47
      clear s5 u6 s7 r5 r6 hp6 r34 r4
      obtain ⟨pf, x1, y1, rfl, hf, rx1, ry1⟩ := pair_iff.mp rf
      have df : dpL bf ≤ 5 := by
        by_cases hb0 : bf = []
        · subst hb0; simp [dpL]
        · have h1 := dp_le.2 bf Bf.fu hb0
          rw [Bf.ex, sl_len (Nat.le_refl _)] at h1
          apply Classical.byContradiction
          intro hc
          have h2 : 2 ^ 6 ≤ 2 ^ dpL bf := Nat.pow_le_pow_right (by decide) (by omega)
          omega
      have exf : exL bf = S := by rw [Bf.ex]; unfold sl; simp
      walk_at "rh"
      refine ⟨rfl, ⟨_, rfl⟩, _, .inr ⟨⟨_, hf⟩, rfl⟩, _, kit_tuple_tuple, ?_⟩
      rw [if_neg (by decide)]
      refine ⟨_, .inr hf, ?_⟩
      rw [if_neg (by simp)]
      refine ⟨_, hf, _, rfl, fun v8 H8 s8 r8 => ?_⟩
      refine ⟨_, _, rx1.same s8, r8, by simp [depL], ?_⟩
      rw [if_pos rfl, deqL_self]
      dsimp only
      rw [if_neg (by decide)]
      refine ⟨_, s8.tup hf, _, rfl, _, bf, _, rfl, by omega, by decide, by omega, Bf.gd, ry1.same s8, fun H9 s9 => ?_⟩
      dsimp only
      rw [if_neg (by decide)]
      have s89 := s8.trans s9
      have hf9 := s89.tup hf
      have ry9 := ry1.same s89
      have r39 := r37.same s89
      have r49 := r47.same s89
      have rf9 := rf.same s89
      clear s8 s9 hf ry1 r37 r47 rf r8 rx1
      walk_at "rh"
      refine ⟨_, hf9, _, rfl, _, bf, rfl, by omega, Bf.gd, by rw [exf]; exact xb, ry9, fun va Ha sa ra => ?_⟩
      rw [exf] at ra
      refine ⟨_, _, ra, r49.same sa, ?_, ?_⟩
      · have := depL_ones ones; omega
      rw [if_pos rfl, deqL_self]
      dsimp only
      rw [if_neg (by decide)]
      refine ⟨_, sa.tup hf9, _, rfl, _, bf, rfl, by omega, Bf.gd, ry9.same sa, ?_⟩
      walk_at "rd"
      refine ⟨_, b, rfl, by omega, gb, r39.same sa, ?_⟩
      have lea := Bf.least b (by rw [hS']; unfold sl; simp)
      walk_at "rd"
      rw [if_neg (by rw [Bf.sz]; omega)]
      have rfa := rf9.same sa
      have r4a := r49.same sa
      clear sa ra hf9 ry9 r39 r49 rf9 s89
      walk_at "rh"
      intro vc Hc sc rc
      walk_at "rd"
      refine ⟨by decide, fun pd hpd => ?_⟩
      have ud := Same.upd (o := .tup [vc, v4]) hpd
      refine ⟨_, S, rfl, pair_iff.mpr ⟨pd, _, _, rfl, SqT.of upd_same, rc.same ud, (r4a.same sc).same ud⟩, ones, xb, fun vg zg bg Hg sg' Bg gg rg => ?_⟩
      rw [gf] at gg
      obtain ⟨rfl, rfl⟩ := Prod.mk.inj gg
      have scg := (sc.trans ud).trans sg'
      refine ⟨_, _, rg, rfa.same scg, ?_, ?_⟩
      · have := dep_en bf Bf.gd
        simp only [depL, dep]
        omega
      rw [if_neg (by decide), deqL_self]
      walk_at "rd"
      intro ve He se re
      refine ⟨_, [], rfl, re, (fun d hd => nomatch hd), by decide, fun vh zh bh Hh sh Bh gh rh vi Hi si ri => ?_⟩
      have e0 : (zh, bh) = ((0, []) : Nat × List Tr) := by rw [← gh]; exact FF_nil
      obtain ⟨rfl, rfl⟩ := Prod.mk.inj e0
      rw [enL] at rh
      refine ⟨_, _, rh.same si, ri, by simp [depL, dep], ?_⟩
      rw [if_neg (by decide), deqL_self]
      exact q _
end
theorem all_mk {l : PySem.W.OpenLaw} {w : World} {K : PySem.W.Frag} {h : Heap} {mg : Str → Option Value} {fa : Addr} (X : K.In h) (G : h.Ns mainGlobals mg) (hfa : mg "law" = some (.ref fa))
    {f0 : Addr} {od0 an0 : Option Addr} {sl0 : Array (Option Value)} {oc0 kV0 dc0 pm0 cd0 ct0 : Value}
    {f1 : Addr} {od1 an1 : Option Addr} {sl1 : Array (Option Value)} {oc1 kV1 dc1 pm1 cd1 ct1 : Value}
    {f2 : Addr} {od2 an2 : Option Addr} {sl2 : Array (Option Value)} {oc2 kV2 dc2 pm2 cd2 ct2 : Value}
    {f3 : Addr} {od3 an3 : Option Addr} {sl3 : Array (Option Value)} {oc3 kV3 dc3 pm3 cd3 ct3 : Value}
    {f4 : Addr} {od4 an4 : Option Addr} {sl4 : Array (Option Value)} {oc4 kV4 dc4 pm4 cd4 ct4 : Value}
    {f5 : Addr} {od5 an5 : Option Addr} {sl5 : Array (Option Value)} {oc5 kV5 dc5 pm5 cd5 ct5 : Value}
    {f6 : Addr} {od6 an6 : Option Addr} {sl6 : Array (Option Value)} {oc6 kV6 dc6 pm6 cd6 ct6 : Value}
    {f7 : Addr} {od7 an7 : Option Addr} {sl7 : Array (Option Value)} {oc7 kV7 dc7 pm7 cd7 ct7 : Value}
    {f8 : Addr} {od8 an8 : Option Addr} {sl8 : Array (Option Value)} {oc8 kV8 dc8 pm8 cd8 ct8 : Value}
    {f9 : Addr} {od9 an9 : Option Addr} {sl9 : Array (Option Value)} {oc9 kV9 dc9 pm9 cd9 ct9 : Value}
    {f10 : Addr} {od10 an10 : Option Addr} {sl10 : Array (Option Value)} {oc10 kV10 dc10 pm10 cd10 ct10 : Value}
    {f11 : Addr} {od11 an11 : Option Addr} {sl11 : Array (Option Value)} {oc11 kV11 dc11 pm11 cd11 ct11 : Value}
    {f12 : Addr} {od12 an12 : Option Addr} {sl12 : Array (Option Value)} {oc12 kV12 dc12 pm12 cd12 ct12 : Value}
    {f13 : Addr} {od13 an13 : Option Addr} {sl13 : Array (Option Value)} {oc13 kV13 dc13 pm13 cd13 ct13 : Value}
    {f14 : Addr} {od14 an14 : Option Addr} {sl14 : Array (Option Value)} {oc14 kV14 dc14 pm14 cd14 ct14 : Value}
    {f15 : Addr} {od15 an15 : Option Addr} {sl15 : Array (Option Value)} {oc15 kV15 dc15 pm15 cd15 ct15 : Value}
    {f16 : Addr} {od16 an16 : Option Addr} {sl16 : Array (Option Value)} {oc16 kV16 dc16 pm16 cd16 ct16 : Value}
    (a0 : PySem.W.nsIn K mainGlobals "parted" = some (some (.ref f0))) (l0 : K.lookup f0 = some ⟨oc0, od0, .func (PySem.W.fnOf "parted" "parted" (defArgs s_parted) (defBody s_parted) (defScope s_parted) .none kV0 dc0 pm0 an0 cd0 ct0), sl0⟩) (c0 : PySem.W.codeIn K cd0 "parted" = true) (k0 : PySem.W.keepIn K (.ref f0) = true)
    (a1 : PySem.W.nsIn K mainGlobals "is_again" = some (some (.ref f1))) (l1 : K.lookup f1 = some ⟨oc1, od1, .func (PySem.W.fnOf "is_again" "is_again" (defArgs s_isagain) (defBody s_isagain) (defScope s_isagain) .none kV1 dc1 pm1 an1 cd1 ct1), sl1⟩) (c1 : PySem.W.codeIn K cd1 "is_again" = true) (k1 : PySem.W.keepIn K (.ref f1) = true)
    (a2 : PySem.W.nsIn K mainGlobals "shortest" = some (some (.ref f2))) (l2 : K.lookup f2 = some ⟨oc2, od2, .func (PySem.W.fnOf "shortest" "shortest" (defArgs s_shortest) (defBody s_shortest) (defScope s_shortest) .none kV2 dc2 pm2 an2 cd2 ct2), sl2⟩) (c2 : PySem.W.codeIn K cd2 "shortest" = true) (k2 : PySem.W.keepIn K (.ref f2) = true)
    (a3 : PySem.W.nsIn K mainGlobals "shorter" = some (some (.ref f3))) (l3 : K.lookup f3 = some ⟨oc3, od3, .func (PySem.W.fnOf "shorter" "shorter" (defArgs s_shorter) (defBody s_shorter) (defScope s_shorter) .none kV3 dc3 pm3 an3 cd3 ct3), sl3⟩) (c3 : PySem.W.codeIn K cd3 "shorter" = true) (k3 : PySem.W.keepIn K (.ref f3) = true)
    (a4 : PySem.W.nsIn K mainGlobals "_law_int" = some (some (.ref f4))) (l4 : K.lookup f4 = some ⟨oc4, od4, .func (PySem.W.fnOf "_law_int" "_law_int" (defArgs s_Lint) (defBody s_Lint) (defScope s_Lint) .none kV4 dc4 pm4 an4 cd4 ct4), sl4⟩) (c4 : PySem.W.codeIn K cd4 "_law_int" = true) (k4 : PySem.W.keepIn K (.ref f4) = true)
    (a5 : PySem.W.nsIn K mainGlobals "_law_is_single" = some (some (.ref f5))) (l5 : K.lookup f5 = some ⟨oc5, od5, .func (PySem.W.fnOf "_law_is_single" "_law_is_single" (defArgs s_Lissingle) (defBody s_Lissingle) (defScope s_Lissingle) .none kV5 dc5 pm5 an5 cd5 ct5), sl5⟩) (c5 : PySem.W.codeIn K cd5 "_law_is_single" = true) (k5 : PySem.W.keepIn K (.ref f5) = true)
    (a6 : PySem.W.nsIn K mainGlobals "_law_mixed" = some (some (.ref f6))) (l6 : K.lookup f6 = some ⟨oc6, od6, .func (PySem.W.fnOf "_law_mixed" "_law_mixed" (defArgs s_Lmixed) (defBody s_Lmixed) (defScope s_Lmixed) .none kV6 dc6 pm6 an6 cd6 ct6), sl6⟩) (c6 : PySem.W.codeIn K cd6 "_law_mixed" = true) (k6 : PySem.W.keepIn K (.ref f6) = true)
    (a7 : PySem.W.nsIn K mainGlobals "_law_row" = some (some (.ref f7))) (l7 : K.lookup f7 = some ⟨oc7, od7, .func (PySem.W.fnOf "_law_row" "_law_row" (defArgs s_Lrow) (defBody s_Lrow) (defScope s_Lrow) .none kV7 dc7 pm7 an7 cd7 ct7), sl7⟩) (c7 : PySem.W.codeIn K cd7 "_law_row" = true) (k7 : PySem.W.keepIn K (.ref f7) = true)
    (a8 : PySem.W.nsIn K mainGlobals "_law_cell" = some (some (.ref f8))) (l8 : K.lookup f8 = some ⟨oc8, od8, .func (PySem.W.fnOf "_law_cell" "_law_cell" (defArgs s_Lcell) (defBody s_Lcell) (defScope s_Lcell) .none kV8 dc8 pm8 an8 cd8 ct8), sl8⟩) (c8 : PySem.W.codeIn K cd8 "_law_cell" = true) (k8 : PySem.W.keepIn K (.ref f8) = true)
    (a9 : PySem.W.nsIn K mainGlobals "_law_deck" = some (some (.ref f9))) (l9 : K.lookup f9 = some ⟨oc9, od9, .func (PySem.W.fnOf "_law_deck" "_law_deck" (defArgs s_Ldeck) (defBody s_Ldeck) (defScope s_Ldeck) .none kV9 dc9 pm9 an9 cd9 ct9), sl9⟩) (c9 : PySem.W.codeIn K cd9 "_law_deck" = true) (k9 : PySem.W.keepIn K (.ref f9) = true)
    (a10 : PySem.W.nsIn K mainGlobals "_law_next" = some (some (.ref f10))) (l10 : K.lookup f10 = some ⟨oc10, od10, .func (PySem.W.fnOf "_law_next" "_law_next" (defArgs s_Lnext) (defBody s_Lnext) (defScope s_Lnext) .none kV10 dc10 pm10 an10 cd10 ct10), sl10⟩) (c10 : PySem.W.codeIn K cd10 "_law_next" = true) (k10 : PySem.W.keepIn K (.ref f10) = true)
    (a11 : PySem.W.nsIn K mainGlobals "_law_size" = some (some (.ref f11))) (l11 : K.lookup f11 = some ⟨oc11, od11, .func (PySem.W.fnOf "_law_size" "_law_size" (defArgs s_Lsize) (defBody s_Lsize) (defScope s_Lsize) .none kV11 dc11 pm11 an11 cd11 ct11), sl11⟩) (c11 : PySem.W.codeIn K cd11 "_law_size" = true) (k11 : PySem.W.keepIn K (.ref f11) = true)
    (a12 : PySem.W.nsIn K mainGlobals "_law_put" = some (some (.ref f12))) (l12 : K.lookup f12 = some ⟨oc12, od12, .func (PySem.W.fnOf "_law_put" "_law_put" (defArgs s_Lput) (defBody s_Lput) (defScope s_Lput) .none kV12 dc12 pm12 an12 cd12 ct12), sl12⟩) (c12 : PySem.W.codeIn K cd12 "_law_put" = true) (k12 : PySem.W.keepIn K (.ref f12) = true)
    (a13 : PySem.W.nsIn K mainGlobals "_law_single" = some (some (.ref f13))) (l13 : K.lookup f13 = some ⟨oc13, od13, .func (PySem.W.fnOf "_law_single" "_law_single" (defArgs s_Lsingle) (defBody s_Lsingle) (defScope s_Lsingle) .none kV13 dc13 pm13 an13 cd13 ct13), sl13⟩) (c13 : PySem.W.codeIn K cd13 "_law_single" = true) (k13 : PySem.W.keepIn K (.ref f13) = true)
    (a14 : PySem.W.nsIn K mainGlobals "_law_again_body" = some (some (.ref f14))) (l14 : K.lookup f14 = some ⟨oc14, od14, .func (PySem.W.fnOf "_law_again_body" "_law_again_body" (defArgs s_Lagainbody) (defBody s_Lagainbody) (defScope s_Lagainbody) .none kV14 dc14 pm14 an14 cd14 ct14), sl14⟩) (c14 : PySem.W.codeIn K cd14 "_law_again_body" = true) (k14 : PySem.W.keepIn K (.ref f14) = true)
    (a15 : PySem.W.nsIn K mainGlobals "_law_is_body" = some (some (.ref f15))) (l15 : K.lookup f15 = some ⟨oc15, od15, .func (PySem.W.fnOf "_law_is_body" "_law_is_body" (defArgs s_Lisbody) (defBody s_Lisbody) (defScope s_Lisbody) .none kV15 dc15 pm15 an15 cd15 ct15), sl15⟩) (c15 : PySem.W.codeIn K cd15 "_law_is_body" = true) (k15 : PySem.W.keepIn K (.ref f15) = true)
    (a16 : PySem.W.nsIn K mainGlobals "law" = some (some (.ref f16))) (l16 : K.lookup f16 = some ⟨oc16, od16, .func (PySem.W.fnOf "law" "law" (defArgs s_law) (defBody s_law) (defScope s_law) .none kV16 dc16 pm16 an16 cd16 ct16), sl16⟩) (c16 : PySem.W.codeIn K cd16 "law" = true) (k16 : PySem.W.keepIn K (.ref f16) = true)
    (z_bool : PySem.W.nsIn K mainGlobals "bool" = some none)
    (z_int : PySem.W.nsIn K mainGlobals "int" = some none)
    (z_isinstance : PySem.W.nsIn K mainGlobals "isinstance" = some none)
    (z_len : PySem.W.nsIn K mainGlobals "len" = some none)
    (z_list : PySem.W.nsIn K mainGlobals "list" = some none)
    (z_max : PySem.W.nsIn K mainGlobals "max" = some none)
    (z_min : PySem.W.nsIn K mainGlobals "min" = some none)
    (z_range : PySem.W.nsIn K mainGlobals "range" = some none)
    (z_reversed : PySem.W.nsIn K mainGlobals "reversed" = some none)
    (z_str : PySem.W.nsIn K mainGlobals "str" = some none)
    (z_tuple : PySem.W.nsIn K mainGlobals "tuple" = some none)
    {u_MOST_STATEMENTS : Value} (g_MOST_STATEMENTS : PySem.W.nsIn K mainGlobals "MOST_STATEMENTS" = some (some u_MOST_STATEMENTS)) (k_MOST_STATEMENTS : kdIn K D_MOST_STATEMENTS u_MOST_STATEMENTS = true)
    : ∃ fd : FuncData, (∀ (s : Shared) (v : Value), BindsTo s fd ⟨[v], []⟩ [("_law_script", v)]) ∧ ∀ base : Heap, K.In base → base.Ns mainGlobals mg → FnOk l.prog w K mg base CX0 14 fa fd ["_law_script"] (sp_law K) := by
  have e := hfa.symm.trans (PySem.W.mg_of X G a16)
  cases e
  have F0 := fun_mk (st := s_parted) l0 c0 k0
  have b0 := F0.binds (ps := ["start", "end", "found"]) fun _ _ _ _ _ _ us hl => match us, hl with | [_, _, _], _ => rfl
  have F1 := fun_mk (st := s_isagain) l1 c1 k1
  have b1 := F1.binds (ps := ["statements", "start", "end", "step"]) fun _ _ _ _ _ _ us hl => match us, hl with | [_, _, _, _], _ => rfl
  have F2 := fun_mk (st := s_shortest) l2 c2 k2
  have b2 := F2.binds (ps := ["statements", "start", "end", "found"]) fun _ _ _ _ _ _ us hl => match us, hl with | [_, _, _, _], _ => rfl
  have F3 := fun_mk (st := s_shorter) l3 c3 k3
  have b3 := F3.binds (ps := ["program"]) fun _ _ _ _ _ _ us hl => match us, hl with | [_], _ => rfl
  have F4 := fun_mk (st := s_Lint) l4 c4 k4
  have b4 := F4.binds (ps := ["_law_found"]) fun _ _ _ _ _ _ us hl => match us, hl with | [_], _ => rfl
  have F5 := fun_mk (st := s_Lissingle) l5 c5 k5
  have b5 := F5.binds (ps := ["_law_statement"]) fun _ _ _ _ _ _ us hl => match us, hl with | [_], _ => rfl
  have F6 := fun_mk (st := s_Lmixed) l6 c6 k6
  have b6 := F6.binds (ps := ["_law_cell_here", "_law_k"]) fun _ _ _ _ _ _ us hl => match us, hl with | [_, _], _ => rfl
  have F7 := fun_mk (st := s_Lrow) l7 c7 k7
  have b7 := F7.binds (ps := ["_law_cell_here", "_law_most", "_law_many"]) fun _ _ _ _ _ _ us hl => match us, hl with | [_, _, _], _ => rfl
  have F8 := fun_mk (st := s_Lcell) l8 c8 k8
  have b8 := F8.binds (ps := ["_law_script", "_law_k"]) fun _ _ _ _ _ _ us hl => match us, hl with | [_, _], _ => rfl
  have F9 := fun_mk (st := s_Ldeck) l9 c9 k9
  have b9 := F9.binds (ps := ["_law_script", "_law_start"]) fun _ _ _ _ _ _ us hl => match us, hl with | [_, _], _ => rfl
  have F10 := fun_mk (st := s_Lnext) l10 c10 k10
  have b10 := F10.binds (ps := ["_law_deck_here"]) fun _ _ _ _ _ _ us hl => match us, hl with | [_], _ => rfl
  have F11 := fun_mk (st := s_Lsize) l11 c11 k11
  have b11 := F11.binds (ps := ["_law_body"]) fun _ _ _ _ _ _ us hl => match us, hl with | [_], _ => rfl
  have F12 := fun_mk (st := s_Lput) l12 c12 k12
  have b12 := F12.binds (ps := ["_law_body", "_law_most"]) fun _ _ _ _ _ _ us hl => match us, hl with | [_, _], _ => rfl
  have F13 := fun_mk (st := s_Lsingle) l13 c13 k13
  have b13 := F13.binds (ps := ["_law_deck_here"]) fun _ _ _ _ _ _ us hl => match us, hl with | [_], _ => rfl
  have F14 := fun_mk (st := s_Lagainbody) l14 c14 k14
  have b14 := F14.binds (ps := ["_law_deck_here", "_law_room", "_law_deep"]) fun _ _ _ _ _ _ us hl => match us, hl with | [_, _, _], _ => rfl
  have F15 := fun_mk (st := s_Lisbody) l15 c15 k15
  have b15 := F15.binds (ps := ["_law_body", "_law_deep"]) fun _ _ _ _ _ _ us hl => match us, hl with | [_, _], _ => rfl
  have F16 := fun_mk (st := s_law) l16 c16 k16
  have b16 := F16.binds (ps := ["_law_script"]) fun _ _ _ _ _ _ us hl => match us, hl with | [_], _ => rfl
  obtain ⟨v_MOST_STATEMENTS, r_MOST_STATEMENTS, p_MOST_STATEMENTS⟩ := kd_rp k_MOST_STATEMENTS
  have T : Txt K mg ⟨_, _, _, _, _, _, _, _, _, _, _, _, _, _, _, _, _, _, _, _, _, _, _, _, _, _, _, _, _, _, _, _, _, _, _, _⟩ := ⟨⟨F0, b0, PySem.W.mg_of X G a0⟩, ⟨F1, b1, PySem.W.mg_of X G a1⟩, ⟨F2, b2, PySem.W.mg_of X G a2⟩, ⟨F3, b3, PySem.W.mg_of X G a3⟩, ⟨F4, b4, PySem.W.mg_of X G a4⟩, ⟨F5, b5, PySem.W.mg_of X G a5⟩, ⟨F6, b6, PySem.W.mg_of X G a6⟩, ⟨F7, b7, PySem.W.mg_of X G a7⟩, ⟨F8, b8, PySem.W.mg_of X G a8⟩, ⟨F9, b9, PySem.W.mg_of X G a9⟩, ⟨F10, b10, PySem.W.mg_of X G a10⟩, ⟨F11, b11, PySem.W.mg_of X G a11⟩, ⟨F12, b12, PySem.W.mg_of X G a12⟩, ⟨F13, b13, PySem.W.mg_of X G a13⟩, ⟨F14, b14, PySem.W.mg_of X G a14⟩, ⟨F15, b15, PySem.W.mg_of X G a15⟩, ⟨F16, b16, PySem.W.mg_of X G a16⟩, PySem.W.mg_none_of X G z_bool, PySem.W.mg_none_of X G z_int, PySem.W.mg_none_of X G z_isinstance, PySem.W.mg_none_of X G z_len, PySem.W.mg_none_of X G z_list, PySem.W.mg_none_of X G z_max, PySem.W.mg_none_of X G z_min, PySem.W.mg_none_of X G z_range, PySem.W.mg_none_of X G z_reversed, PySem.W.mg_none_of X G z_str, PySem.W.mg_none_of X G z_tuple, PySem.W.mg_of X G g_MOST_STATEMENTS, r_MOST_STATEMENTS, p_MOST_STATEMENTS⟩
  exact ⟨_, fun s v => .of_eq rfl, fun base _ _ => ok_law T⟩
theorem walk {l : PySem.W.OpenLaw} {q : Program} {loose : List Str} {XP : (Str → Option Value) → Heap → Prop} {YP : World → Heap → Prop} {d : DefRec} {K : Params → PySem.W.Frag} (hn : l.most = some 63) (hdf : d.params.defaults = [])
    (hY : ∀ (w : World) (h : Heap), YP w h → (K w.params).In h)
    (F : ∀ (w : World) (mg : Str → Option Value) (fa : Addr) (h : Heap), (K w.params).In h → h.Ns mainGlobals mg → mg d.name = some (.ref fa) →
      ∃ fd : FuncData, (∀ (s : Shared) (u : Value), BindsTo s fd ⟨[u], []⟩ [("_law_script", u)]) ∧ ∀ base : Heap, (K w.params).In base → base.Ns mainGlobals mg → FnOk l.prog w (K w.params) mg base CX0 14 fa fd ["_law_script"] (sp_law (K w.params))) :
    PySem.W.WalkO q loose XP YP l.row.toRowW d [] (fun f vs => PySem.call f vs) :=
  L2.walk_of (n := 63) (k := 14) (x := "_law_script") (CX := fun _ => CX0) (sp := fun w => sp_law (K w.params)) hn (by decide) hdf ⟨rfl, by decide, by decide⟩ hY F (fun _ _ a ns hl _ hS => ⟨a, ns, rfl, hS, hl, fun _ => rfl⟩) fun _ _ _ _ _ z => z
end My
open PySem PySem.W PyProof.Rows
set_option maxRecDepth 100000 in
set_option maxHeartbeats 0 in
theorem PySem.Challenge.cw_turtlehouse_k55_whole_shorter_holds : PySem.Challenge.rw_turtlehouse_k55_whole_shorter.Holds := by
  w_on; o_law; k_head; (case hw => w_witness2)
  k_fill
  refine My.walk (l := PySem.Challenge.rw_turtlehouse_k55_whole_shorter) rfl rfl (fun w h Y => PySem.W.kIn_of Y) ?F
  case F =>
    intro w mg fa h KX G hmg
    refine' My.all_mk KX G hmg ?a0 ?l0 ?c0 ?k0 ?a1 ?l1 ?c1 ?k1 ?a2 ?l2 ?c2 ?k2 ?a3 ?l3 ?c3 ?k3 ?a4 ?l4 ?c4 ?k4 ?a5 ?l5 ?c5 ?k5 ?a6 ?l6 ?c6 ?k6 ?a7 ?l7 ?c7 ?k7 ?a8 ?l8 ?c8 ?k8 ?a9 ?l9 ?c9 ?k9 ?a10 ?l10 ?c10 ?k10 ?a11 ?l11 ?c11 ?k11 ?a12 ?l12 ?c12 ?k12 ?a13 ?l13 ?c13 ?k13 ?a14 ?l14 ?c14 ?k14 ?a15 ?l15 ?c15 ?k15 ?a16 ?l16 ?c16 ?k16 ?z_bool ?z_int ?z_isinstance ?z_len ?z_list ?z_max ?z_min ?z_range ?z_reversed ?z_str ?z_tuple ?g_MOST_STATEMENTS ?k_MOST_STATEMENTS
    (case a0 => k_is)
    (case l0 => k_is)
    (case c0 => k_is)
    (case k0 => k_is)
    (case a1 => k_is)
    (case l1 => k_is)
    (case c1 => k_is)
    (case k1 => k_is)
    (case a2 => k_is)
    (case l2 => k_is)
    (case c2 => k_is)
    (case k2 => k_is)
    (case a3 => k_is)
    (case l3 => k_is)
    (case c3 => k_is)
    (case k3 => k_is)
    (case a4 => k_is)
    (case l4 => k_is)
    (case c4 => k_is)
    (case k4 => k_is)
    (case a5 => k_is)
    (case l5 => k_is)
    (case c5 => k_is)
    (case k5 => k_is)
    (case a6 => k_is)
    (case l6 => k_is)
    (case c6 => k_is)
    (case k6 => k_is)
    (case a7 => k_is)
    (case l7 => k_is)
    (case c7 => k_is)
    (case k7 => k_is)
    (case a8 => k_is)
    (case l8 => k_is)
    (case c8 => k_is)
    (case k8 => k_is)
    (case a9 => k_is)
    (case l9 => k_is)
    (case c9 => k_is)
    (case k9 => k_is)
    (case a10 => k_is)
    (case l10 => k_is)
    (case c10 => k_is)
    (case k10 => k_is)
    (case a11 => k_is)
    (case l11 => k_is)
    (case c11 => k_is)
    (case k11 => k_is)
    (case a12 => k_is)
    (case l12 => k_is)
    (case c12 => k_is)
    (case k12 => k_is)
    (case a13 => k_is)
    (case l13 => k_is)
    (case c13 => k_is)
    (case k13 => k_is)
    (case a14 => k_is)
    (case l14 => k_is)
    (case c14 => k_is)
    (case k14 => k_is)
    (case a15 => k_is)
    (case l15 => k_is)
    (case c15 => k_is)
    (case k15 => k_is)
    (case a16 => k_is)
    (case l16 => k_is)
    (case c16 => k_is)
    (case k16 => k_is)
    (case z_bool => k_is)
    (case z_int => k_is)
    (case z_isinstance => k_is)
    (case z_len => k_is)
    (case z_list => k_is)
    (case z_max => k_is)
    (case z_min => k_is)
    (case z_range => k_is)
    (case z_reversed => k_is)
    (case z_str => k_is)
    (case z_tuple => k_is)
    (case g_MOST_STATEMENTS => k_is)
    (case k_MOST_STATEMENTS => with_unfolding_all rfl)

